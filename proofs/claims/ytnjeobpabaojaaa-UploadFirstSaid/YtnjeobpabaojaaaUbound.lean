/- UploadBound over what is asked: one that fails so often is published within a bound. -/
import Derived.Test.YtnjeobpabaojaaaUwant
namespace Go.Proofs.Ytnjeobpabaojaaa.U
open Go.RowKit
set_option linter.unusedVariables false
set_option linter.unusedSimpArgs false

/-- The block of one on its way. -/
def VAt (W : World) (g : Nat) (v : Upl) : Prop := W.heap[g]? = some (.cells #[.int .i64 v.st, .int .i64 v.tr, .int .i64 v.nx] 28 (0, 0))
theorem VAt.cells {W : World} {g : Nat} {v : Upl} (h : VAt W g v) :
    W.cell? ⟨g, 0, none⟩ = some (.int .i64 v.st) ∧ W.cell? ⟨g, 1, none⟩ = some (.int .i64 v.tr) ∧ W.cell? ⟨g, 2, none⟩ = some (.int .i64 v.nx) ∧ ∀ t, W.frozen? ⟨g, t, none⟩ = false :=
  ⟨by simpa using cell_of_row W g 0 _ _ (0, 0) h, by simpa using cell_of_row W g 1 _ _ (0, 0) h, by simpa using cell_of_row W g 2 _ _ (0, 0) h, fun t => by unfold VAt at h; simp only [World.frozen?, h]; simp⟩
theorem VAt.call {W W' : World} {g : Nat} {v : Upl} (h : VAt W g v) (b : Below W.heap.size W W') : VAt W' g v := by
  unfold VAt
  rw [b.block _ (Array.getElem?_eq_some_iff.1 h).1]
  exact h
/-- One is laid over it. -/
theorem VAt.sets {W : World} {g : Nat} {v : Upl} (h : VAt W g v) (x : Upl) :
    (W.setCell ⟨g, 0, none⟩ (.int .i64 x.st)).cell? ⟨g, 1, none⟩ = some (.int .i64 v.tr) ∧ ((W.setCell ⟨g, 0, none⟩ (.int .i64 x.st)).setCell ⟨g, 1, none⟩ (.int .i64 x.tr)).cell? ⟨g, 2, none⟩ = some (.int .i64 v.nx) ∧
    VAt (((W.setCell ⟨g, 0, none⟩ (.int .i64 x.st)).setCell ⟨g, 1, none⟩ (.int .i64 x.tr)).setCell ⟨g, 2, none⟩ (.int .i64 x.nx)) g x := by
  have h1 := heap_setCell_same W g 0 _ _ (.int .i64 x.st) h
  have h2 := heap_setCell_same _ g 1 _ _ (.int .i64 x.tr) h1
  have h3 := heap_setCell_same _ g 2 _ _ (.int .i64 x.nx) h2
  exact ⟨by simpa using cell_of_row _ g 1 _ _ (0, 0) h1, by simpa using cell_of_row _ g 2 _ _ (0, 0) h2, h3⟩
theorem VAt.other {W : World} {g k j : Nat} {v : Upl} (h : VAt W g v) (hk : g ≠ k) (x : Value) : VAt (W.setCell ⟨k, j, none⟩ x) g v := by
  unfold VAt
  rw [Below.heap_setCell _ _ _ _ (by show g ≠ k; exact hk)]
  exact h
theorem Old.set {w W : World} (h : Old w W) {k j : Nat} (hk : w.heap.size ≤ k) (x : Value) : Old w (W.setCell ⟨k, j, none⟩ x) := Below.setCell (p := ⟨k, j, none⟩) h hk x
/-- Bounds while the ticks go by. -/
def Mil (v : Upl) (i : Nat) (left : Int) : Prop := (0 ≤ v.st ∧ v.st ≤ 2) ∧ (0 ≤ v.tr ∧ v.tr ≤ 1000 + i) ∧ (0 ≤ v.nx ∧ v.nx ≤ 1000064 + i) ∧ -(i : Int) ≤ left ∧ left ≤ 20
theorem Mil.step {v : Upl} {i : Nat} {now left : Int} (h : Mil v i left) (hi : i ≤ 2000) (hn : 0 ≤ now ∧ now ≤ 1000000) (hs : v.st ≠ 2) :
    Mil (stp v (now + i) (decide (left ≤ 0))) (i + 1) (if due v (now + i) = true then left - 1 else left) ∧
    tks (stp v (now + i) (decide (left ≤ 0))) (now + (i + 1 : Nat)) (if due v (now + i) = true then left - 1 else left) = tks v (now + i) left - 1 := by
  obtain ⟨h1, h2, h3, h4, h5⟩ := h
  refine ⟨?_, by rw [← tks_step (u := v) (now := now + i) (left := left) ⟨h1, by omega, by omega, by omega, by omega, by omega⟩ hs]; congr 1; omega⟩
  unfold Mil
  by_cases hd : due v (now + i) = true
  · have hdu := due_iff.1 hd
    rw [if_pos hd]
    by_cases hl : left ≤ 0
    · rw [decide_eq_true hl, stp_well hd]
      simp only
      omega
    · rw [decide_eq_false hl, stp_ill hd]
      have r := rst_bound (v.tr + 1)
      rw [wrap_small (n := v.tr + 1) (by unfold i64; omega), wrap_small (n := now + i + rst (v.tr + 1)) (by unfold i64; omega)]
      simp only
      omega
  · rw [if_neg hd, stp_no (by simpa using hd)]
    omega
theorem Mil.fit {v : Upl} {i : Nat} {left : Int} (h : Mil v i left) (hi : i ≤ 2000) : v.fit := by
  obtain ⟨h1, h2, h3, h4, h5⟩ := h
  exact ⟨by unfold i64; omega, by unfold i64; omega, by unfold i64; omega⟩
theorem tks_end {v : Upl} {now left : Int} (h : 0 ≤ v.st ∧ v.st ≤ 2) : tks v now left = 0 ↔ v.st = 2 := by
  constructor
  · intro h0
    by_cases h2 : v.st = 2
    · exact h2
    · have := (tks_bound (u := v) (now := now) (fails := left) (by omega)).1
      omega
  · intro h2; unfold tks; rw [if_pos h2]

set_option maxRecDepth 100000 in
set_option maxHeartbeats 2000000 in
theorem bound_walk (C : UpC) (u : Upl) (now fails : Int) (w : World) (hu : u.fit) (hn : i64 now) (hf : i64 fails) :
    Calls Try.prog 4 #[upV u, .int .i64 now, .int .i64 fails] w fun e w' => e = .returned (.bool true) ∧ Below w.heap.size w w' := by
  have HAW := Lib.hid (fun W => awake_any C W)
  have HC := Lib.hid C
  obtain ⟨st, tr, nx⟩ := u
  obtain ⟨⟨hs1, hs2⟩, ⟨ht1, ht2⟩, hx1, hx2⟩ := hu
  obtain ⟨hn1, hn2⟩ := hn
  obtain ⟨hf1, hf2⟩ := hf
  simp only at hs1 hs2 ht1 ht2 hx1 hx2
  unfold upV
  have B0 := Lib.hid (Old.refl w)
  go_enter Try.func4, Try.ntmps4
  go_wp2_with fail
  refine (HAW.out _).mono ?_
  rintro e w1 ⟨rfl, b1⟩
  have n0 := heap_alloc_new w (.cells #[.int .i64 st, .int .i64 tr, .int .i64 nx] 28)
  have l0 : w.heap.size < (w.alloc (.cells #[.int .i64 st, .int .i64 tr, .int .i64 nx] 28)).heap.size := (Array.getElem?_eq_some_iff.1 n0).1
  have m0 : w1.heap[w.heap.size]? = some (.cells #[.int .i64 st, .int .i64 tr, .int .i64 nx] 28 (0, 0)) := by rw [b1.block _ l0]; exact n0
  have B1 := Lib.hid ((B0.out.alloc (.cells #[.int .i64 st, .int .i64 tr, .int .i64 nx] 28)).below b1)
  have M0 := Lib.hid m0
  have p0 := cell_of_row w1 w.heap.size 0 _ _ (0, 0) m0
  have p1 := cell_of_row w1 w.heap.size 1 _ _ (0, 0) m0
  have p2 := cell_of_row w1 w.heap.size 2 _ _ (0, 0) m0
  simp only [List.getElem?_toArray, List.getElem?_cons_succ, List.getElem?_cons_zero] at p0 p1 p2
  clear B0 b1 n0 l0 m0
  by_cases a0 : st < 0
  · go_wp2_with fail
    go_ret
    exact ⟨rfl, B1.out⟩
  by_cases a1 : 1 < st
  · go_wp2_with fail
    go_ret
    exact ⟨rfl, B1.out⟩
  by_cases a2 : now < 0
  · go_wp2_with fail
    go_ret
    exact ⟨rfl, B1.out⟩
  by_cases a3 : 1000000 < now
  · go_wp2_with fail
    go_ret
    exact ⟨rfl, B1.out⟩
  by_cases a4 : nx < 0
  · go_wp2_with fail
    go_ret
    exact ⟨rfl, B1.out⟩
  by_cases a5 : 1000000 < nx
  · go_wp2_with fail
    go_ret
    exact ⟨rfl, B1.out⟩
  by_cases a6 : tr < 0
  · go_wp2_with fail
    go_ret
    exact ⟨rfl, B1.out⟩
  by_cases a7 : 1000 < tr
  · go_wp2_with fail
    go_ret
    exact ⟨rfl, B1.out⟩
  by_cases a8 : fails < 0
  · go_wp2_with fail
    go_ret
    exact ⟨rfl, B1.out⟩
  by_cases a9 : 20 < fails
  · go_wp2_with fail
    go_ret
    exact ⟨rfl, B1.out⟩
  by_cases a10 : 500 < nx - now
  · go_wp2_with fail
    go_ret
    exact ⟨rfl, B1.out⟩
  clear hs1 hs2 ht1 ht2 hx1 hx2 hn1 hn2 hf1 hf2
  have HTK := Lib.hid (fun W => HC.out.ticks (u := ⟨st, tr, nx⟩) (now := now) (fails := fails) (w := W) (by show st = 0 ∨ st = 1; omega) ⟨by omega, by omega⟩ (by show 0 ≤ nx ∧ nx ≤ 1000000; omega) (by show 0 ≤ tr ∧ tr ≤ 1000; omega) ⟨by omega, by omega⟩)
  unfold upV at HTK
  have htb := tks_bound (u := ⟨st, tr, nx⟩) (now := now) (fails := fails) (by show 0 ≤ st ∧ st ≤ 1; omega)
  obtain ⟨n, hn⟩ : ∃ n : Nat, tks ⟨st, tr, nx⟩ now fails = n := ⟨(tks ⟨st, tr, nx⟩ now fails).toNat, by omega⟩
  rw [hn] at HTK htb
  have hn2 : n ≤ 1782 := by
    have := htb.2
    have e : fails.toNat ≤ 20 := by omega
    simp only at this
    split at this <;> omega
  have HNB := Lib.hid htb
  have HNE := Lib.hid hn
  clear htb hn
  go_wp2_with fail
  refine (HTK.out _).mono ?_
  rintro e w2 ⟨rfl, b2⟩
  have m2 : w2.heap[w.heap.size]? = some (.cells #[.int .i64 st, .int .i64 tr, .int .i64 nx] 28 (0, 0)) := by rw [b2.block _ (Array.getElem?_eq_some_iff.1 M0.out).1]; exact M0.out
  have B2 := Lib.hid (B1.out.below b2)
  have hgv : w.heap.size < w2.heap.size := (Array.getElem?_eq_some_iff.1 m2).1
  have n2 := heap_alloc_new w2 (.cells #[.int .i64 st, .int .i64 tr, .int .i64 nx] 28)
  have m3 := (((Below.refl w2.heap.size w2).alloc (Nat.le_refl _) (.cells #[.int .i64 st, .int .i64 tr, .int .i64 nx] 28)).block w.heap.size (Array.getElem?_eq_some_iff.1 m2).1).trans m2
  have B3 := Lib.hid (B2.out.alloc (.cells #[.int .i64 st, .int .i64 tr, .int .i64 nx] 28))
  have p0 := cell_of_row w2 w.heap.size 0 _ _ (0, 0) m2
  have p1 := cell_of_row w2 w.heap.size 1 _ _ (0, 0) m2
  have p2 := cell_of_row w2 w.heap.size 2 _ _ (0, 0) m2
  simp only [List.getElem?_toArray, List.getElem?_cons_succ, List.getElem?_cons_zero] at p0 p1 p2
  have HN2 := Lib.hid n2
  have HM3 := Lib.hid m3
  clear B1 B2 b2 m2 n2 m3 M0 HTK
  go_wp2_with fail
  have hne : w.heap.size ≠ w2.heap.size := by omega
  have HV : Hid (VAt (w2.alloc (.cells #[.int .i64 st, .int .i64 tr, .int .i64 nx] 28)) w2.heap.size ⟨st, tr, nx⟩) := Lib.hid HN2.out
  have HU : Hid (VAt (w2.alloc (.cells #[.int .i64 st, .int .i64 tr, .int .i64 nx] 28)) w.heap.size ⟨st, tr, nx⟩) := Lib.hid HM3.out
  generalize w2.heap.size = gv at *
  generalize w2.alloc _ = w3 at *
  clear HN2 HM3 p0 p1 p2
  have HNow : Hid ((0 ≤ now ∧ now ≤ 1000000)) := Lib.hid ⟨by omega, by omega⟩
  go_loopg [9, 11] n (fun g lf it wr => ∃ (i : Nat) (v : Upl) (left : Int), i + g = n ∧ it = .int .i64 i ∧ lf = .int .i64 left ∧ VAt wr gv v ∧ VAt wr w.heap.size ⟨st, tr, nx⟩ ∧ Old w wr ∧ Mil v i left ∧ tks v (now + i) left = g)
  case atStart => exact ⟨0, ⟨st, tr, nx⟩, fails, by omega, rfl, rfl, HV.out, HU.out, B3.out, ⟨⟨by show 0 ≤ st; omega, by show st ≤ 2; omega⟩, ⟨by show 0 ≤ tr; omega, by show tr ≤ _; omega⟩, ⟨by show 0 ≤ nx; omega, by show nx ≤ _; omega⟩, by omega, by omega⟩, by rw [Int.natCast_zero, Int.add_zero]; exact HNE.out⟩
  case round =>
    obtain ⟨i, v, left, hi, rfl, rfl, hv, hu, hold, hmil, htk⟩ := hrel
    have hmi := hmil
    obtain ⟨⟨y1, y2⟩, _, _, y3, y4⟩ := hmi
    obtain ⟨c0, c1, c2, fz⟩ := hv.cells
    have HV := Lib.hid hv; have HU := Lib.hid hu; have HO := Lib.hid hold; have HI := Lib.hid hmil; have HK := Lib.hid htk
    clear hv hu hold hmil htk
    by_cases hlt : i < n
    · have hs2 : ¬ v.st = 2 := fun h => by have := (tks_end (v := v) (now := now + i) (left := left) ⟨y1, y2⟩).2 h; have := HK.out; omega
      have HDU := Lib.hid (HC.out.due (u := v) (now := now + i) (w := wr) (HI.out.fit (by omega)) (by have := HNow.out; unfold i64; omega))
      unfold upV at HDU
      go_wp2_with fail
      refine HDU.out.mono ?_
      rintro e w4 ⟨rfl, b4⟩
      have hv4 := HV.out.call b4
      have HU4 := Lib.hid (HU.out.call b4); have HO4 := Lib.hid (HO.out.below b4)
      obtain ⟨c0, c1, c2, fz⟩ := hv4.cells
      have HV4 := Lib.hid hv4
      have HST := Lib.hid (HC.out.step (u := v) (now := now + i) (well := decide (left ≤ 0)) (w := w4) (HI.out.fit (by omega)) (by have := HNow.out; unfold i64; omega))
      have HMS := Lib.hid (HI.out.step (now := now) (by omega) HNow.out hs2)
      rw [HK.out] at HMS
      generalize hx : stp v (now + i) (decide (left ≤ 0)) = x at *
      unfold upV at HST
      clear hv4 b4 HV HU HO HDU hx
      go_wp2_with fail
      refine HST.out.mono ?_
      rintro e w5 ⟨rfl, b5⟩
      have hv5 := HV4.out.call b5
      have HU5 := Lib.hid (HU4.out.call b5); have HO5 := Lib.hid (HO4.out.below b5)
      obtain ⟨c0, c1, c2, fz⟩ := hv5.cells
      obtain ⟨q1, q2, hv6⟩ := hv5.sets x
      have HV6 := Lib.hid hv6
      have HU6 := Lib.hid (((HU5.out.other (k := gv) (j := 0) hne (.int .i64 x.st)).other (k := gv) (j := 1) hne (.int .i64 x.tr)).other (k := gv) (j := 2) hne (.int .i64 x.nx))
      have HO6 := Lib.hid (((HO5.out.set (k := gv) (j := 0) (Nat.le_of_lt hgv) (.int .i64 x.st)).set (k := gv) (j := 1) (Nat.le_of_lt hgv) (.int .i64 x.tr)).set (k := gv) (j := 2) (Nat.le_of_lt hgv) (.int .i64 x.nx))
      clear hv5 hv6 b5 HV4 HU4 HO4 HU5 HO5 HST
      generalize hdd : due v (now + i) = dd at *
      clear hdd
      cases dd
      · go_wp2_with fail
        generalize (((w5.setCell _ _).setCell _ _).setCell _ _) = w6 at *
        have hms := HMS.out
        simp only [Bool.false_eq_true, if_false] at hms
        go_roundg (gk - 1)
        case measure => omega
        case rel => exact ⟨i + 1, x, left, by omega, by go_num, rfl, HV6.out, HU6.out, HO6.out, hms.1, by rw [hms.2]; omega⟩
      · go_wp2_with fail
        generalize (((w5.setCell _ _).setCell _ _).setCell _ _) = w6 at *
        have hms := HMS.out
        simp only [if_true] at hms
        go_roundg (gk - 1)
        case measure => omega
        case rel => exact ⟨i + 1, x, left - 1, by omega, by go_num, by go_num, HV6.out, HU6.out, HO6.out, hms.1, by rw [hms.2]; omega⟩
    · obtain ⟨d0, d1, d2, _⟩ := HU.out.cells
      simp only at d0 d1 d2
      have h2 : v.st = 2 := (tks_end (v := v) (now := now + i) (left := left) ⟨y1, y2⟩).1 (by have := HK.out; omega)
      rw [h2] at c0
      have hbd := HNB.out
      clear HNB
      go_wp2_with fail
      go_ret
      refine ⟨?_, HO.out⟩
      rw [decide_eq_true (by
        have e : (fails.toNat : Int) = fails := Int.toNat_of_nonneg (by omega)
        have h := hbd.2
        rw [e] at h
        split at h <;> omega)]
      rfl
end Go.Proofs.Ytnjeobpabaojaaa.U
