/- What the document's small test on lists of batches returns: Light. -/
import Derived.Test.YtdifecclldkhpaaFrefs
namespace Go.Proofs.Ytdifecclldkhpaa
open Go.RowKit

theorem bat_of {w : World} {a : Option Addr} {ll : List (List Rc)} (h : Bats w a ll) (k : Nat) (hk : k < ll.length) : ∃ b off a' cap', a = some ⟨b, off, none⟩ ∧ b < w.heap.size ∧ w.cell? ⟨b, off + k, none⟩ = some (.slice a' ll[k].length cap') ∧ Recs w a' ll[k] := by
  obtain ⟨b, off, ha, hb, hc⟩ := h (by omega)
  obtain ⟨a', cap', c, hr⟩ := hc k hk
  exact ⟨b, off, a', cap', ha, hb, c, hr⟩

/-- No record of any batch is greater than a machine's, and no batch. -/
def Fits2 (ll : List (List Rc)) : Prop := ∀ l ∈ ll, Fits l ∧ l.length ≤ 9223372036854775807

/-- What Light leaves. -/
def Light2Post (w : World) (ll : List (List Rc)) (e : Ending) (w' : World) : Prop := ∃ b : Bool, e = .returned (.bool b) ∧ (b = true → ll.length ≤ 20 ∧ ∀ l ∈ ll, l.length ≤ 40) ∧ Below w.heap.size w w'

theorem all_next {ll : List (List Rc)} {k : Nat} (h : ∀ i (hi : i < ll.length), i < k → ll[i].length ≤ 40) (hk : k < ll.length) (h2 : ll[k].length ≤ 40) : ∀ i (hi : i < ll.length), i < k + 1 → ll[i].length ≤ 40 := fun i hi hik => by
  by_cases e : i = k
  · subst e; exact h2
  · exact h i hi (by omega)

set_option maxRecDepth 100000 in
set_option maxHeartbeats 400000 in
theorem light2_any (ll : List (List Rc)) (a : Option Addr) (cap : Nat) (w : World) (hl : ll.length ≤ 9223372036854775807) (hr : Bats w a ll) (hf : Fits2 ll) :
    Calls Try.prog 19 #[.slice a ll.length cap] w (Light2Post w ll) := by
  have HR := Lib.hid hr
  have HF := Lib.hid hf
  clear hr hf
  obtain ⟨n, hn⟩ : ∃ n, n = ll.length := ⟨_, rfl⟩
  have HN := Lib.hid hn
  rw [← hn] at hl ⊢
  clear hn
  go_enter Try.func19, Try.ntmps19
  go_wp2_with fail
  go_loopw [3, 4] (fun s i wr => ∃ k x : Nat, k ≤ n ∧ k ≤ 30 ∧ x ≤ 40 * k ∧ i = .int .i64 k ∧ s = .int .i64 x ∧ (∀ i (hi : i < ll.length), i < k → ll[i].length ≤ 40) ∧ Below w.heap.size w wr) (fun _ i _ => 30 - (intOf i).toNat)
  case atStart => exact ⟨0, 0, by omega, by omega, by omega, rfl, rfl, fun i _ h => by omega, Below.refl _ _⟩
  case round =>
    obtain ⟨k, x, hk, hk1, hx, rfl, rfl, hall, hbw⟩ := hrel
    have HL := Lib.hid hall
    clear hall
    by_cases hlt : k < n
    · by_cases h30 : k < 30
      · obtain ⟨g1, off1, a1, cap1, rfl, hbl1, c1, r1⟩ := bat_of HR.out k (by rw [← HN.out]; exact hlt)
        obtain ⟨hf1, hll⟩ := HF.out _ (List.getElem_mem (by rw [← HN.out]; exact hlt : k < ll.length))
        rw [← hbw.cell (p := ⟨g1, _, none⟩) hbl1] at c1
        have h1 := fun W (hW : Below w.heap.size w W) => light_any _ a1 cap1 W hll (r1.later hW (Nat.le_refl _)) hf1
        have H1 := Lib.hid h1
        have HW := Lib.hid hbw
        have hbz := hbw.size
        have HA := Lib.hid (all_next HL.out (by rw [← HN.out]; exact hlt))
        clear h1 r1 hf1
        generalize ll[k]'(by rw [← HN.out]; exact hlt) = r at *
        have hlti : (k : Int) < (n : Int) := by omega
        go_wp2_with fail
        (with_reducible refine (H1.out _ HW.out).mono ?_)
        rintro e w1 ⟨ok, rfl, h40, b1⟩
        have c2 := (b1.cell (p := ⟨g1, off1 + k, none⟩) (by show g1 < wr.heap.size; omega)).trans c1
        have B1 := Lib.hid (HW.out.trans (b1.mono hbz))
        clear c1 b1 hbw HW
        cases ok with
        | false =>
          clear h40
          go_wp2_with fail
          go_ret
          exact ⟨false, rfl, fun h => by simp at h, B1.out⟩
        | true =>
          have hq : r.length ≤ 40 := h40 rfl
          clear h40
          have hwr := IntWalk.i64_in ((x : Int) + (r.length : Int)) ⟨by omega, by omega⟩
          go_wp2_with fail
          exact ⟨⟨k + 1, x + r.length, by omega, by omega, by omega, by go_num, by go_num, HA.out hq, B1.out⟩, by simp [intOf]; omega⟩
      · have e30 : k = 30 := by omega
        subst e30
        go_wp2_with fail
        go_ret
        exact ⟨_, rfl, fun h => by first | (simp at h; done) | (simp at h; omega), hbw⟩
    · have e : k = n := by omega
      subst e
      have HQ : Hid (k ≤ 20 → ll.length ≤ 20 ∧ ∀ l ∈ ll, l.length ≤ 40) := Lib.hid fun h => ⟨by rw [← HN.out]; exact h, fun l hl => by
        obtain ⟨i, hi, rfl⟩ := List.mem_iff_getElem.1 hl
        exact HL.out i hi (by rw [HN.out]; exact hi)⟩
      by_cases c20 : k ≤ 20
      · by_cases c60 : x ≤ 60
        all_goals
          go_wp2_with fail
          go_ret
          exact ⟨_, rfl, fun _ => HQ.out c20, hbw⟩
      · go_wp2_with fail
        go_ret
        exact ⟨_, rfl, fun h => by first | (simp at h; done) | (simp at h; omega), hbw⟩

end Go.Proofs.Ytdifecclldkhpaa
