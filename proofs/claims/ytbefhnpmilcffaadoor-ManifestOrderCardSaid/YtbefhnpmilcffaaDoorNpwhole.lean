/- Read of the landed code. -/
import Derived.Test.YtbefhnpmilcffaaDoorNpdec
namespace Go.Proofs.YtbefhnpmilcffaaDoor.J
open Go.RowKit
set_option linter.unusedVariables false
set_option linter.unusedSimpArgs false

/-- Two stores into a block of two cells. -/
theorem two_set {w : World} {q : Nat} {c0 c1 : Value} {T : TypeId} (h : w.heap[q]? = some (.cells #[c0, c1] T (0, 0))) (v0 v1 : Value) :
    w.cell? ⟨q, 0, none⟩ = some c0 ∧ (w.setCell ⟨q, 0, none⟩ v0).cell? ⟨q, 1, none⟩ = some c1 ∧ (∀ t, w.frozen? ⟨q, t, none⟩ = false) ∧
    ((w.setCell ⟨q, 0, none⟩ v0).setCell ⟨q, 1, none⟩ v1).heap[q]? = some (.cells #[v0, v1] T (0, 0)) := by
  have h1 := heap_setCell_same w q 0 _ _ v0 h
  have h2 := heap_setCell_same _ q 1 _ _ v1 h1
  exact ⟨by simpa using cell_of_row w q 0 _ _ (0, 0) h, by simpa using cell_of_row _ q 1 _ _ (0, 0) h1, fun t => by simp only [World.frozen?, h]; simp, h2⟩
theorem two_cells {w : World} {q : Nat} {c0 c1 : Value} {T : TypeId} (h : w.heap[q]? = some (.cells #[c0, c1] T (0, 0))) : w.cell? ⟨q, 0, none⟩ = some c0 ∧ w.cell? ⟨q, 1, none⟩ = some c1 :=
  ⟨by simpa using cell_of_row w q 0 _ _ (0, 0) h, by simpa using cell_of_row w q 1 _ _ (0, 0) h⟩
theorem Below.two {B : Nat} {w w' : World} (h : Below B w w') {q : Nat} (hq : B ≤ q) (v0 v1 : Value) : Below B w ((w'.setCell ⟨q, 0, none⟩ v0).setCell ⟨q, 1, none⟩ v1) :=
  (h.setCell (p := ⟨q, 0, none⟩) hq _).setCell (p := ⟨q, 1, none⟩) hq _

set_option maxRecDepth 100000 in
set_option maxHeartbeats 1000000 in
theorem pread_any (b : List UInt8) (w : World) (hb : b.length ≤ 5000) : Calls Tryd.prog 11 #[.string (bs b)] w (RdPost w b) := by
  have HO := Lib.hid (fun W => open_any (bs b) W (by rw [bs_size]; omega))
  rw [bs_list] at HO
  have hl : (opn b).1.length ≤ 5000 := by
    by_cases h : (opn b).2 = true
    · have := congrArg List.length (seal_of h)
      simp only [seal4, List.length_append] at this
      omega
    · by_cases h4 : b.length < 4
      · rw [opn_short h4]; simp
      · by_cases e : four (sum (b.drop 4)) = b.take 4
        · rw [opn_yes h4 e] at h; simp at h
        · rw [opn_no h4 e]; simp
  have HN := Lib.hid (heap_alloc_new w (.cells #[.int .i64 0, .slice none 0 0] 24))
  have HB := Lib.hid ((Below.refl w.heap.size w).alloc (Nat.le_refl _) (.cells #[.int .i64 0, .slice none 0 0] 24))
  have hlt : w.heap.size < (w.alloc (.cells #[.int .i64 0, .slice none 0 0] 24)).heap.size := by simp
  by_cases h : (opn b).2 = true
  · have HSL := Lib.hid (seal_of h)
    have HOB := Lib.hid (show opn b = ((opn b).1, true) from Prod.ext rfl h)
    have HP := Lib.hid (@mrd_no b h)
    have HD := Lib.hid (fun W => decode_any (opn b).1 W hl)
    rw [opnV, h] at HO
    clear hl h
    generalize (opn b).1 = s at *
    go_enter Tryd.func11, Tryd.ntmps11
    go_wp2_with fail
    generalize w.alloc _ = w1 at *
    refine (HO.out _).mono ?_
    rintro e w2 ⟨rfl, b2⟩
    go_wp2_with fail
    refine (HD.out _).mono ?_
    have hn2 : w2.heap[w.heap.size]? = _ := (b2.block _ hlt).trans HN.out
    have hl2 : w.heap.size < w2.heap.size := Nat.lt_of_lt_of_le hlt b2.size
    have hB2 := HB.out.trans (b2.mono HB.out.size)
    rintro e w3 ⟨⟨rfl, hno⟩ | ⟨m, a, cap, rfl, hin, hfar, hr, hw, henc⟩, b3⟩
    · have hM := HP.out (fun m hm => hno m hm.1 hm.2.1 (by have := opn_of hm; rw [HOB.out] at this; simpa using this.symm))
      have hn3 : w3.heap[w.heap.size]? = _ := (b3.block _ hl2).trans hn2
      have hB3 := hB2.trans (b3.mono hB2.size)
      obtain ⟨k0, k1, kf, k2⟩ := two_set hn3 (.int .i64 0) (.slice none 0 0)
      obtain ⟨j0, j1⟩ := two_cells k2
      have HF := Lib.hid (Below.two hB3 (Nat.le_refl _) (.int .i64 0) (.slice none 0 0))
      have HM := Lib.hid hM
      clear hno hn2 hn3 k2 hB2 hB3 b2 b3 hM
      unfold mfV
      go_wp2_with fail
      generalize (w3.setCell _ _).setCell _ _ = w4 at *
      refine bodyPost_ret (v := .tuple #[mfV 0 none 0 0, .int .i64 2]) (by simp [results, Tryd.results11, go_sem, j0, j1, mfV]) rfl ⟨none, 0, by rw [HM.out]; rfl, by rw [HM.out]; exact SgsIn.nil _ _, HF.out⟩
    · have hM := mrd_yes (b := b) (m := m) ⟨hr, hw, by rw [henc]; exact HSL.out⟩
      have hn3 : w3.heap[w.heap.size]? = _ := (b3.block _ hl2).trans hn2
      have hB3 := hB2.trans (b3.mono hB2.size)
      obtain ⟨k0, k1, kf, k2⟩ := two_set hn3 (.int .i64 m.ver) (.slice a m.segs.length cap)
      obtain ⟨j0, j1⟩ := two_cells k2
      have HF := Lib.hid (Below.two hB3 (Nat.le_refl _) (.int .i64 m.ver) (.slice a m.segs.length cap))
      have HI := Lib.hid ((hin.far ⟨w.heap.size, 0, none⟩ (fun x hx => by have := hfar x hx; show x.block ≠ w.heap.size; omega) (.int .i64 m.ver)).far ⟨w.heap.size, 1, none⟩ (fun x hx => by have := hfar x hx; show x.block ≠ w.heap.size; omega) (.slice a m.segs.length cap))
      have HM := Lib.hid hM
      clear hn2 hn3 k2 hB2 hB3 b2 b3 hM hin hfar hr hw henc
      unfold mfV
      go_wp2_with fail
      generalize (w3.setCell _ _).setCell _ _ = w4 at *
      refine bodyPost_ret (v := .tuple #[mfV m.ver a m.segs.length cap, .int .i64 0]) (by simp [results, Tryd.results11, go_sem, j0, j1, mfV]) rfl ⟨a, cap, by rw [HM.out]; rfl, by rw [HM.out]; exact HI.out, HF.out⟩
  · have h : (opn b).2 = false := by simpa using h
    have HM := Lib.hid (mrd_sum h)
    rw [opnV, h] at HO
    clear hl h
    generalize (opn b).1 = s at *
    go_enter Tryd.func11, Tryd.ntmps11
    go_wp2_with fail
    generalize w.alloc _ = w1 at *
    refine (HO.out _).mono ?_
    rintro e w2 ⟨rfl, b2⟩
    have hn2 : w2.heap[w.heap.size]? = _ := (b2.block _ hlt).trans HN.out
    have hB2 := HB.out.trans (b2.mono HB.out.size)
    obtain ⟨k0, k1, kf, k2⟩ := two_set hn2 (.int .i64 0) (.slice none 0 0)
    obtain ⟨j0, j1⟩ := two_cells k2
    have HF := Lib.hid (Below.two hB2 (Nat.le_refl _) (.int .i64 0) (.slice none 0 0))
    clear hn2 k2 hB2 b2
    go_wp2_with fail
    generalize (w2.setCell _ _).setCell _ _ = w4 at *
    refine bodyPost_ret (v := .tuple #[mfV 0 none 0 0, .int .i64 4]) (by simp [results, Tryd.results11, go_sem, j0, j1, mfV]) rfl ⟨none, 0, by rw [HM.out]; rfl, by rw [HM.out]; exact SgsIn.nil _ _, HF.out⟩
end Go.Proofs.YtbefhnpmilcffaaDoor.J
