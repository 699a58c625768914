/- A file's bytes whole; the first, small test of every law of layer 6. -/
import Derived.Test.YtmpipfhlicfagaaDcrash
namespace Go.Proofs.Ytmpipfhlicfagaa
open Go.RowKit Go.Maps

/-- A file's bytes; none, if there is no such file. -/
def allB (S : St) (n : List UInt8) : List UInt8 := match find S.fs n with | none => [] | some f => f.bt

theorem rdB_all (S : St) (n : List UInt8) : rdB S n 0 (szN S n) = allB S n := by
  unfold rdB szN allB
  cases find S.fs n with
  | none => rfl
  | some f => simp

theorem szN_range {S : St} (hg : Good S) (n : List UInt8) : 0 ≤ szN S n ∧ szN S n ≤ 1048576 := by
  unfold szN
  cases hf : find S.fs n with
  | none => simp
  | some f => have := len_le hg (find_mem hf).1; simp; omega

def allPost (S : St) (n : List UInt8) (w : World) (e : Ending) (w' : World) : Prop := e = .returned (.string (bs (allB S n))) ∧ Below w.heap.size w w'

theorem all_any {B pb : Nat} {S : St} {w : World} {F : Nat → Prop} {n : List UInt8} (h : DkS B w pb F S) (hn : n.length ≤ maxLen) :
    Calls Try.prog 32 #[.pointer (some ⟨pb, 0, none⟩), .string (bs n)] w (allPost S n w) := by
  obtain ⟨s1, s2⟩ := szN_range h.good n
  have HA := Lib.hid (rdB_all S n)
  go_enter Try.func32, Try.ntmps32
  go_wp2_with fail
  refine (size_any h hn).mono ?_
  rintro e w1 ⟨rfl, hb1⟩
  go_wp2_with fail
  have h1 : DkS B w1 pb F S := h.kept (Turn.of_below (fun _ => False) hb1 (Nat.le_refl _)) (fun _ _ _ f => f)
  refine (read_any (off := 0) (m := szN S n) h1 hn (by omega) (by omega) (by omega) (by omega)).mono ?_
  rintro e w2 ⟨rfl, hb2⟩
  go_wp2_with fail
  go_ret
  exact ⟨by rw [← HA.out]; rfl, hb1.trans (hb2.mono hb1.size)⟩

def sA0 : St := ⟨100, [], -1, false⟩
def sA1 : St := ⟨100, [⟨[97], [120, 121], 0⟩], -1, false⟩
def sA2 : St := ⟨100, [⟨[97], [120, 121], 2⟩], -1, false⟩
def sA3 : St := ⟨100, [⟨[97], [120, 121, 122], 2⟩], -1, false⟩
theorem aw1 : apS sA0 [97] [120, 121] = sA1 ∧ apE sA0 [97] [120, 121] = 0 := ⟨rfl, rfl⟩
theorem aw2 : syS sA1 [97] = sA2 ∧ syE sA1 [97] = 0 := ⟨rfl, rfl⟩
theorem aw3 : apS sA2 [97] [122] = sA3 ∧ apE sA2 [97] [122] = 0 := ⟨rfl, rfl⟩
theorem aw4 : crS sA3 [] = sA2 := rfl
theorem aw5 : rdB sA2 [97] 0 2 = [120, 121] ∧ rdE sA2 [97] 0 2 = 0 := ⟨rfl, rfl⟩
theorem aw6 : szN sA2 [97] = 2 ∧ szE sA2 [97] = 0 ∧ left sA2 = 98 := ⟨rfl, rfl, rfl⟩

set_option maxHeartbeats 2000000 in
set_option maxRecDepth 100000 in
theorem awake_any (w : World) : Calls Try.prog 6 #[] w fun e w' => e = .returned (.bool true) ∧ Below w.heap.size w w' := by
  have hL : ∀ n : Nat, n ≤ 2 → n ≤ maxLen := fun n hn => by unfold maxLen; omega
  go_enter Try.func6, Try.ntmps6
  go_wp2_with fail
  refine (new_yes 100 w (by omega) (by omega)).mono ?_
  rintro e w1 ⟨pb, F, rfl, h1, hF, hb1⟩
  go_wp2_with fail
  have c1 := append_any (n := [97]) (b := [120, 121]) h1 (hL 1 (by omega)) (hL 2 (by omega)) (by simp)
  rw [show (⟨100, [], -1, false⟩ : St) = sA0 from rfl, aw1.1, aw1.2] at c1
  refine c1.mono ?_
  rintro e w2 ⟨rfl, F2, h2, hF2, t2⟩
  clear c1
  go_wp2_with fail
  have c2 := sync_any (n := [97]) h2 (hL 1 (by omega)) (by simp [sA1])
  rw [aw2.1, aw2.2] at c2
  refine c2.mono ?_
  rintro e w3 ⟨rfl, F3, h3, hF3, t3⟩
  clear c2
  go_wp2_with fail
  have c3 := append_any (n := [97]) (b := [122]) h3 (hL 1 (by omega)) (hL 1 (by omega)) (by simp [sA2])
  rw [aw3.1, aw3.2] at c3
  refine c3.mono ?_
  rintro e w4 ⟨rfl, F4, h4, hF4, t4⟩
  clear c3
  go_wp2_with fail
  have c4 := crash_any (ka := none) (kc := 0) (kept := []) h4 (fun i hi => by simp at hi) (hL 0 (by omega)) (by simp [sA3])
  rw [aw4] at c4
  refine c4.mono ?_
  rintro e w5 ⟨rfl, F5, h5, hF5, t5⟩
  clear c4
  go_wp2_with fail
  have c5 := read_any (n := [97]) (off := 0) (m := 2) h5 (hL 1 (by omega)) (by omega) (by omega) (by omega) (by omega)
  unfold rdPost at c5
  rw [aw5.1, aw5.2, show bs [120, 121] = ⟨#[120, 121]⟩ from rfl] at c5
  refine c5.mono ?_
  rintro e w6 ⟨rfl, b6⟩
  clear c5
  go_wp2_with fail
  have h6 : DkS w.heap.size w6 pb F5 sA2 := h5.kept (Turn.of_below (fun _ => False) b6 (Nat.le_refl _)) (fun _ _ _ f => f)
  have c6 := size_any (n := [97]) h6 (hL 1 (by omega))
  unfold szPost at c6
  rw [aw6.1, aw6.2.1] at c6
  refine c6.mono ?_
  rintro e w7 ⟨rfl, b7⟩
  clear c6
  go_wp2_with fail
  have h7 : DkS w.heap.size w7 pb F5 sA2 := h6.kept (Turn.of_below (fun _ => False) b7 (Nat.le_refl _)) (fun _ _ _ f => f)
  have c7 := left_any h7
  rw [aw6.2.2] at c7
  refine c7.mono ?_
  rintro e w8 ⟨rfl, rfl⟩
  clear c7
  go_wp2_with fail
  go_ret
  have lo : ∀ (G : Nat → Prop) (W : World) (S : St), DkS w.heap.size W pb G S → ∀ k, G k → w.heap.size ≤ k := fun G W S h k hk => (h.lt hk).1
  have s1 := hb1.size
  have e2 : Below w.heap.size w1 w2 := t2.below (lo _ _ _ h1) s1
  have s2 : w.heap.size ≤ w2.heap.size := Nat.le_trans s1 t2.size
  have e3 : Below w.heap.size w2 w3 := t3.below (lo _ _ _ h2) s2
  have s3 : w.heap.size ≤ w3.heap.size := Nat.le_trans s2 t3.size
  have e4 : Below w.heap.size w3 w4 := t4.below (lo _ _ _ h3) s3
  have s4 : w.heap.size ≤ w4.heap.size := Nat.le_trans s3 t4.size
  have e5 : Below w.heap.size w4 w5 := t5.below (lo _ _ _ h4) s4
  have s5 : w.heap.size ≤ w5.heap.size := Nat.le_trans s4 t5.size
  exact ⟨rfl, ((((((hb1.trans e2).trans e3).trans e4).trans e5).trans (b6.mono s5)).trans (b7.mono (Nat.le_trans s5 b6.size)))⟩
end Go.Proofs.Ytmpipfhlicfagaa
