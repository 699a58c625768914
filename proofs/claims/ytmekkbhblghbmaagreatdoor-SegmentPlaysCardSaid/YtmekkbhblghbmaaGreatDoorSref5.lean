/- The document's segments, on the document's disk: Get. -/
import Derived.Test.YtmekkbhblghbmaaGreatDoorSref2
import Derived.Test.YtmekkbhblghbmaaGreatDoorHb
import Derived.Deep.RegionHeld3
namespace Go.Proofs.YtmekkbhblghbmaaGreatDoor
open Go.RowKit
set_option linter.unusedVariables false

/-- The entry that came in lies in the first new block, the record that goes out in the second. -/
def AtG (T : TypeId) (w : World) (c0 c1 c2 c3 c4 : Value) (W : World) : Prop :=
  Below w.heap.size w W ∧ W.heap[w.heap.size]? = some (.cells #[c0, c1, c2, c3, c4] T (0, 0)) ∧ ∃ q k v g, W.heap[w.heap.size + 1]? = some (.cells #[q, k, v, g] 47 (0, 0))
section
variable {T : TypeId} {w W W' : World} {c0 c1 c2 c3 c4 : Value}
theorem AtG.made (T : TypeId) (w : World) (c0 c1 c2 c3 c4 : Value) : AtG T w c0 c1 c2 c3 c4 ((w.alloc (.cells #[c0, c1, c2, c3, c4] T)).alloc (.cells #[.int .u64 0, .string ⟨#[]⟩, .string ⟨#[]⟩, .bool false] 47)) := by
  obtain ⟨h1, h2, h3⟩ := At0.made T w c0 c1 c2 c3 c4
  exact ⟨h1, h2, _, _, _, _, h3⟩
theorem AtG.lt (h : AtG T w c0 c1 c2 c3 c4 W) : w.heap.size + 1 < W.heap.size := by obtain ⟨_, _, q, k, v, g, h3⟩ := h; exact lt_of_block h3
theorem AtG.call (h : AtG T w c0 c1 c2 c3 c4 W) (b : Below W.heap.size W W') : AtG T w c0 c1 c2 c3 c4 W' := by
  have hl := h.lt
  obtain ⟨h1, h2, q, k, v, g, h3⟩ := h
  exact ⟨h1.trans (b.mono h1.size), by rw [b.block _ (by omega)]; exact h2, q, k, v, g, by rw [b.block _ hl]; exact h3⟩
theorem AtG.drew (h : AtG T w c0 c1 c2 c3 c4 W) : AtG T w c0 c1 c2 c3 c4 W.drew := ⟨h.1.drew, h.2⟩
theorem AtG.below (h : AtG T w c0 c1 c2 c3 c4 W) : Below w.heap.size w W := h.1
theorem AtG.cell (h : AtG T w c0 c1 c2 c3 c4 W) (j : Nat) : W.cell? ⟨w.heap.size, j, none⟩ = (#[c0, c1, c2, c3, c4])[j]? := cell_of_row W _ j _ _ (0, 0) h.2.1
theorem AtG.some (h : AtG T w c0 c1 c2 c3 c4 W) : ∃ q k v g, W.cell? ⟨w.heap.size + 1, 0, none⟩ = .some q ∧ W.cell? ⟨w.heap.size + 1, 1, none⟩ = .some k ∧ W.cell? ⟨w.heap.size + 1, 2, none⟩ = .some v ∧ W.cell? ⟨w.heap.size + 1, 3, none⟩ = .some g ∧
    W.frozen? ⟨w.heap.size + 1, 0, none⟩ = false ∧ W.frozen? ⟨w.heap.size + 1, 1, none⟩ = false ∧ W.frozen? ⟨w.heap.size + 1, 2, none⟩ = false ∧ W.frozen? ⟨w.heap.size + 1, 3, none⟩ = false := by
  obtain ⟨_, _, q, k, v, g, h3⟩ := h
  exact ⟨q, k, v, g, by rw [Lib.cell_of_heap h3]; rfl, by rw [Lib.cell_of_heap h3]; rfl, by rw [Lib.cell_of_heap h3]; rfl, by rw [Lib.cell_of_heap h3]; rfl, Lib.frozen_of_heap h3 0, Lib.frozen_of_heap h3 1, Lib.frozen_of_heap h3 2, Lib.frozen_of_heap h3 3⟩
theorem AtG.set (h : AtG T w c0 c1 c2 c3 c4 W) (v0 v1 v2 v3 : Value) : AtG T w c0 c1 c2 c3 c4 ((((W.setCell ⟨w.heap.size + 1, 0, none⟩ v0).setCell ⟨w.heap.size + 1, 1, none⟩ v1).setCell ⟨w.heap.size + 1, 2, none⟩ v2).setCell ⟨w.heap.size + 1, 3, none⟩ v3) := by
  have hb := below_set4' h.1 v0 v1 v2 v3
  obtain ⟨h1, h2, q, k, v, g, h3⟩ := h
  refine ⟨hb, ?_, v0, v1, v2, v3, ?_⟩
  · rw [Below.heap_setCell _ _ _ _ (by simp), Below.heap_setCell _ _ _ _ (by simp), Below.heap_setCell _ _ _ _ (by simp), Below.heap_setCell _ _ _ _ (by simp)]; exact h2
  · exact heap_setCell_same _ _ 3 _ _ v3 (heap_setCell_same _ _ 2 _ _ v2 (heap_setCell_same _ _ 1 _ _ v1 (heap_setCell_same W _ 0 _ _ v0 h3)))
end

/-- What Get tells. -/
def gtV (x : Rc × Int) : Value := .tuple #[rv x.1, .int .i64 x.2]
theorem gtV_z (y : Int) : gtV (Rc.z, y) = .tuple #[.agg #[.int .u64 0, .string ⟨#[]⟩, .string ⟨#[]⟩, .bool false], .int .i64 y] := rfl

set_option maxRecDepth 100000 in
set_option maxHeartbeats 4000000 in
theorem refGet_any {B qb : Nat} {lv : Value} {S : D.St} {w : World} (h : D.Rf B w qb lv S) (n : Int) (e : Et) (he : EFit e) (hcs : S.fs.length < 1000000000) :
    Calls Tryz.prog 16 #[.pointer (some ⟨qb, 0, none⟩), .int .i64 n, ev e] w fun x w' => x = .returned (gtV (gtR S n e)) ∧ Below w.heap.size w w' := by
  have A0 := Lib.hid (AtG.made 53 w (.string (bs e.k)) (.int .i64 e.o) (.int .i64 e.l) (.int .u64 ((e.q : Nat) : Int)) (.bool e.g))
  by_cases hn : segOk n
  · have HNM := Lib.hid (refName_any n)
    have HR := Lib.hid (right_yes hn)
    have HSZ := Lib.hid (fun (W : World) (hW : Below w.heap.size w W) => D.refsize_any (n := sN n) (h.below hW) hcs)
    have HBY := Lib.hid (fun (W : World) (hW : Below w.heap.size w W) => refbytes8_any (n := sN n) (h.below hW) hcs)
    cases hf : D.find S.fs (sN n) with
    | none =>
      have hg : gtR S n e = (Rc.z, 5) := by unfold gtR; rw [if_pos hn, hf]
      rw [hg, gtV_z]
      rw [szE_none hf] at HSZ
      generalize D.szN S (sN n) = z at *
      clear hf hg hn h
      simp only [ev]
      go_enter Tryz.func16, Tryz.ntmps16
      go_wp2_with fail
      refine (HR.out _).mono ?_
      rintro e w1 ⟨rfl, rfl⟩
      go_wp2_with fail
      refine (HNM.out _).mono ?_
      rintro e w1 ⟨rfl, hb1⟩
      have A1 := Lib.hid (A0.out.call hb1)
      clear hb1
      go_wp2_with fail
      refine (HSZ.out _ A1.out.1).mono ?_
      rintro e w2 ⟨rfl, rfl⟩
      obtain ⟨q, k, v, g, d0, d1, d2, d3, f0, f1, f2, f3⟩ := A1.out.some
      go_wp2_with fail
      have hb := (A1.out.set (.int .u64 0) (.string ⟨#[]⟩) (.string ⟨#[]⟩) (.bool false)).1
      exact bodyPost_ret (v := .tuple #[.agg #[.int .u64 0, .string ⟨#[]⟩, .string ⟨#[]⟩, .bool false], .int .i64 5]) (by simp [results, Tryz.results16, go_sem, d0, d1, d2, d3]) rfl ⟨rfl, hb⟩
    | some f =>
      have hg : gtR S n e = ((hat f.bt e).1, ((hat f.bt e).2 : Int)) := by unfold gtR; rw [if_pos hn, hf]
      rw [hg]
      rw [szE_some hf] at HSZ
      rw [fileB_some hf] at HBY
      have HAT := Lib.hid (fun W => refhat_any f.bt e W he)
      unfold hatV at HAT
      generalize hat f.bt e = x at *
      obtain ⟨r, xe⟩ := x
      dsimp only at HAT ⊢
      unfold rv at HAT
      generalize D.szN S (sN n) = z at *
      have hgt : gtV (r, (xe : Int)) = .tuple #[.agg #[.int .u64 ((r.q : Nat) : Int), .string (bs r.k), .string (bs r.v), .bool r.g], .int .i64 (xe : Int)] := rfl
      rw [hgt]
      simp only [ev] at HAT ⊢
      clear hf hg hn h he hgt
      go_enter Tryz.func16, Tryz.ntmps16
      go_wp2_with fail
      refine (HR.out _).mono ?_
      rintro e w1 ⟨rfl, rfl⟩
      go_wp2_with fail
      refine (HNM.out _).mono ?_
      rintro e1 w1 ⟨rfl, hb1⟩
      have hA1 := A0.out.call hb1
      clear hb1
      go_wp2_with fail
      refine (HSZ.out _ hA1.1).mono ?_
      rintro e1 w2 ⟨rfl, rfl⟩
      have l0 : ∀ W, AtG 53 w (.string (bs e.k)) (.int .i64 e.o) (.int .i64 e.l) (.int .u64 ((e.q : Nat) : Int)) (.bool e.g) W → W.cell? ⟨w.heap.size, 0, none⟩ = some (.string (bs e.k)) := fun W hW => hW.cell 0
      have l1 : ∀ W, AtG 53 w (.string (bs e.k)) (.int .i64 e.o) (.int .i64 e.l) (.int .u64 ((e.q : Nat) : Int)) (.bool e.g) W → W.cell? ⟨w.heap.size, 1, none⟩ = some (.int .i64 e.o) := fun W hW => hW.cell 1
      have l2 : ∀ W, AtG 53 w (.string (bs e.k)) (.int .i64 e.o) (.int .i64 e.l) (.int .u64 ((e.q : Nat) : Int)) (.bool e.g) W → W.cell? ⟨w.heap.size, 2, none⟩ = some (.int .i64 e.l) := fun W hW => hW.cell 2
      have l3 : ∀ W, AtG 53 w (.string (bs e.k)) (.int .i64 e.o) (.int .i64 e.l) (.int .u64 ((e.q : Nat) : Int)) (.bool e.g) W → W.cell? ⟨w.heap.size, 3, none⟩ = some (.int .u64 ((e.q : Nat) : Int)) := fun W hW => hW.cell 3
      have l4 : ∀ W, AtG 53 w (.string (bs e.k)) (.int .i64 e.o) (.int .i64 e.l) (.int .u64 ((e.q : Nat) : Int)) (.bool e.g) W → W.cell? ⟨w.heap.size, 4, none⟩ = some (.bool e.g) := fun W hW => hW.cell 4
      go_wp2_with fail
      go_region_held3 (fun W => AtG 53 w (.string (bs e.k)) (.int .i64 e.o) (.int .i64 e.l) (.int .u64 ((e.q : Nat) : Int)) (.bool e.g) W)
        (first | assumption | exact hA1.drew | exact AtG.set (by assumption) _ _ _ _)
        (first
          | (go_at_call 30
             refine (HNM.out _).mono ?_
             rintro e3 w3 ⟨rfl, hb3⟩
             have hS3 := AtG.call (W' := w3) (by assumption) hb3)
          | (go_at_call 57
             refine (HBY.out _ (AtG.below (by assumption))).mono ?_
             rintro e4 w4 ⟨rfl, rfl⟩)
          | (go_at_call 62
             refine (HAT.out _).mono ?_
             rintro e5 w5 ⟨rfl, hb5⟩
             have hS5 := AtG.call (W' := w5) (by assumption) hb5
             obtain ⟨q, k, v, g, d0, d1, d2, d3, f0, f1, f2, f3⟩ := hS5.some))
      all_goals
        go_wp2_with fail
        have hb := (hS5.set (.int .u64 ((r.q : Nat) : Int)) (.string (bs r.k)) (.string (bs r.v)) (.bool r.g)).1
        exact bodyPost_ret (v := .tuple #[.agg #[.int .u64 ((r.q : Nat) : Int), .string (bs r.k), .string (bs r.v), .bool r.g], .int .i64 (xe : Int)]) (by simp [results, Tryz.results16, go_sem, d0, d1, d2, d3]) rfl ⟨rfl, hb⟩
  · have hg : gtR S n e = (Rc.z, 1) := by unfold gtR; rw [if_neg hn]
    rw [hg, gtV_z]
    have HR := Lib.hid (right_no hn)
    clear hg hn
    simp only [ev]
    go_enter Tryz.func16, Tryz.ntmps16
    go_wp2_with fail
    refine (HR.out _).mono ?_
    rintro e w1 ⟨rfl, rfl⟩
    have hA := A0.out
    generalize (w.alloc _).alloc _ = W0 at hA ⊢
    clear A0
    obtain ⟨q, k, v, g, d0, d1, d2, d3, f0, f1, f2, f3⟩ := hA.some
    go_wp2_with fail
    have hb := (hA.set (.int .u64 0) (.string ⟨#[]⟩) (.string ⟨#[]⟩) (.bool false)).1
    exact bodyPost_ret (v := .tuple #[.agg #[.int .u64 0, .string ⟨#[]⟩, .string ⟨#[]⟩, .bool false], .int .i64 1]) (by simp [results, Tryz.results16, go_sem, d0, d1, d2, d3]) rfl ⟨rfl, hb⟩
end Go.Proofs.YtmekkbhblghbmaaGreatDoor
