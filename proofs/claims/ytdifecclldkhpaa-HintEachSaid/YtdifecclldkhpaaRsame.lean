/- What the document's small tests on lists of records return: Light and Same. -/
import Derived.Test.YtdifecclldkhpaaRlist
namespace Go.Proofs.Ytdifecclldkhpaa
open Go.RowKit

theorem run_min2 (w : World) (ts : Array TypeId) (t : TypeId) (x y n : Nat) (h1 : n ≤ x) (h2 : n ≤ y) (h : n = x ∨ n = y) :
    (Builtin.min_ ts t #[.int .i64 (x : Int), .int .i64 (y : Int)]).run Try.prog w = .ok (.int .i64 (n : Int)) w := by
  simp only [Builtin.min_, Builtin.min2, List.foldlM, Sem.run_bind, Sem.run_pure, Result.andThen]
  congr 2
  split <;> omega

/-- What Light leaves. -/
def LightPost (w : World) (l : List Rc) (e : Ending) (w' : World) : Prop := ∃ b : Bool, e = .returned (.bool b) ∧ (b = true → l.length ≤ 40) ∧ Below w.heap.size w w'

theorem cells_of {w : World} {a : Option Addr} {l : List Rc} (h : Recs w a l) (k : Nat) (hk : k < l.length) : ∃ b off, a = some ⟨b, off, none⟩ ∧ b < w.heap.size ∧
    w.cell? ⟨b, off + k * 4, none⟩ = some (.int .u64 ((l[k].q : Nat) : Int)) ∧ w.cell? ⟨b, off + k * 4 + 1, none⟩ = some (.string (bs l[k].k)) ∧
    w.cell? ⟨b, off + k * 4 + 2, none⟩ = some (.string (bs l[k].v)) ∧ w.cell? ⟨b, off + k * 4 + 3, none⟩ = some (.bool l[k].g) := by
  obtain ⟨b, off, ha, hb, hc⟩ := h (by omega)
  obtain ⟨c0, c1, c2, c3⟩ := hc k hk
  exact ⟨b, off, ha, hb, c0, c1, c2, c3⟩

set_option maxRecDepth 100000 in
set_option maxHeartbeats 400000 in
theorem light_any (l : List Rc) (a : Option Addr) (cap : Nat) (w : World) (hl : l.length ≤ 9223372036854775807) (hr : Recs w a l) (hf : Fits l) :
    Calls Try.prog 48 #[.slice a l.length cap] w (LightPost w l) := by
  have HR := Lib.hid hr
  have HF := Lib.hid hf
  clear hr hf
  obtain ⟨n, hn⟩ : ∃ n, n = l.length := ⟨_, rfl⟩
  have HN := Lib.hid hn
  rw [← hn] at hl ⊢
  clear hn
  go_enter Try.func48, Try.ntmps48
  go_wp2_with fail
  go_loopw [3, 4] (fun s i wr => ∃ k x d : Nat, k ≤ n ∧ k ≤ 100 ∧ x ≤ 20000 * k ∧ i = .int .i64 k ∧ s = .int .i64 x ∧ wr = w.drewN d) (fun _ i _ => 100 - (intOf i).toNat)
  case atStart => exact ⟨0, 0, 0, by omega, by omega, by omega, rfl, rfl, rfl⟩
  case round =>
    obtain ⟨k, x, d, hk, hk1, hx, rfl, rfl, rfl⟩ := hrel
    by_cases hlt : k < n
    · by_cases h100 : k < 100
      · obtain ⟨b, off, rfl, hbl, c0, c1, c2, c3⟩ := cells_of HR.out k (by rw [← HN.out]; exact hlt)
        obtain ⟨f0, f1, f2⟩ := HF.out (l[k]'(by rw [← HN.out]; exact hlt)) (List.getElem_mem _)
        generalize l[k]'(by rw [← HN.out]; exact hlt) = r at *
        have z1 : (bs r.k).size ≤ 9223372036854775807 := by rw [bs_size]; exact f1
        have z2 : (bs r.v).size ≤ 9223372036854775807 := by rw [bs_size]; exact f2
        generalize bs r.k = K at *
        generalize bs r.v = V at *
        obtain ⟨p, p1, p2, p3⟩ : ∃ p : Nat, p ≤ K.size ∧ p ≤ 10000 ∧ (p = K.size ∨ p = 10000) := ⟨min K.size 10000, by omega, by omega, by omega⟩
        obtain ⟨q, q1, q2, q3⟩ : ∃ p : Nat, p ≤ V.size ∧ p ≤ 10000 ∧ (p = V.size ∨ p = 10000) := ⟨min V.size 10000, by omega, by omega, by omega⟩
        have m1 := fun (w : World) ts t => run_min2 w ts t K.size 10000 p p1 p2 p3
        have m2 := fun (w : World) ts t => run_min2 w ts t V.size 10000 q q1 q2 q3
        have w1 := IntWalk.i64_in ((x : Int) + (p : Int)) ⟨by omega, by omega⟩
        have w2 := IntWalk.i64_in ((x : Int) + (p : Int) + (q : Int)) ⟨by omega, by omega⟩
        have hlti : (k : Int) < (n : Int) := by omega
        have P3 := Lib.hid (And.intro p3 q3)
        clear p3 q3 f0 f1 f2 c0 c3
        go_wp2_with fail
        go_quiet (fail)
        go_wp2_with fail
        have p3 := P3.out
        refine ⟨⟨k + 1, x + p + q, d + nq, by omega, by omega, by omega, by go_num, ?_, rfl⟩, by simp [intOf]; omega⟩
        congr 1
        omega
      · have e100 : k = 100 := by omega
        subst e100
        go_wp2_with fail
        go_ret
        exact ⟨false, rfl, fun h => by simp at h, below_drewN (Below.refl _ _) d⟩
    · have e : k = n := by omega
      subst e
      by_cases c40 : k ≤ 40
      all_goals
        go_wp2_with fail
        go_ret
        exact ⟨_, rfl, fun _ => by first | (rw [← HN.out]; exact c40) | simp_all, below_drewN (Below.refl _ _) d⟩

set_option maxRecDepth 100000 in
set_option maxHeartbeats 400000 in
theorem same_no (a b : Option Addr) (n m cap cap' : Nat) (w : World) (h : n ≠ m) :
    Calls Try.prog 21 #[.slice a n cap, .slice b m cap'] w fun e w' => e = .returned (.bool false) ∧ Below w.heap.size w w' := by
  have hne : ((n : Int) != (m : Int)) = true := by rw [bne_iff_ne]; omega
  clear h
  go_enter Try.func21, Try.ntmps21
  go_wp2_with fail
  go_ret
  exact ⟨rfl, Below.refl _ _⟩

set_option maxRecDepth 100000 in
set_option maxHeartbeats 400000 in
theorem same_yes (l : List Rc) (a b : Option Addr) (cap cap' : Nat) (w : World) (hl : l.length ≤ 9223372036854775807) (ha : Recs w a l) (hb : Recs w b l) :
    Calls Try.prog 21 #[.slice a l.length cap, .slice b l.length cap'] w fun e w' => e = .returned (.bool true) ∧ Below w.heap.size w w' := by
  have HA := Lib.hid ha
  have HB := Lib.hid hb
  clear ha hb
  obtain ⟨n, hn⟩ : ∃ n, n = l.length := ⟨_, rfl⟩
  have HN := Lib.hid hn
  rw [← hn] at hl ⊢
  clear hn
  go_enter Try.func21, Try.ntmps21
  go_wp2_with fail
  go_loopw [5] (fun i wr => ∃ k d : Nat, k ≤ n ∧ i = .int .i64 k ∧ wr = w.drewN d) (fun i _ => n - (intOf i).toNat)
  case atStart => exact ⟨0, 0, by omega, rfl, rfl⟩
  case round =>
    obtain ⟨k, d, hk, rfl, rfl⟩ := hrel
    by_cases hlt : k < n
    · obtain ⟨b1, off1, rfl, hbl1, c0, c1, c2, c3⟩ := cells_of HA.out k (by rw [← HN.out]; exact hlt)
      obtain ⟨b2, off2, rfl, hbl2, d0, d1, d2, d3⟩ := cells_of HB.out k (by rw [← HN.out]; exact hlt)
      generalize l[k]'(by rw [← HN.out]; exact hlt) = r at *
      generalize bs r.k = K at *
      generalize bs r.v = V at *
      generalize ((r.q : Nat) : Int) = Q at *
      generalize r.g = G at *
      have hlti : (k : Int) < (n : Int) := by omega
      go_wp2_with fail
      go_quiet (fail)
      go_wp2_with fail
      exact ⟨⟨k + 1, d + nq, by omega, by go_num, rfl⟩, by simp [intOf]; omega⟩
    · have e : k = n := by omega
      subst e
      go_wp2_with fail
      go_ret
      exact ⟨rfl, below_drewN (Below.refl _ _) d⟩

end Go.Proofs.Ytdifecclldkhpaa
