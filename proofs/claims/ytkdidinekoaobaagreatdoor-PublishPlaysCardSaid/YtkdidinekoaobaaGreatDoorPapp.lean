/- append([]Seg{}, segs...) of the document's segments. -/
import Derived.Test.YtkdidinekoaobaaGreatDoorPa
namespace Go.Proofs.YtkdidinekoaobaaGreatDoor.P
open Go.RowKit M J
set_option linter.unusedVariables false
set_option linter.unusedSimpArgs false

theorem infoRSeg : (Tryz.prog.info? 54).map (fun i => (i.zero, i.size, i.bytes)) = some (some (.agg #[.int .i64 0, .int .i64 0, .int .u32 0]), 3, 24) := by kernel_rfl
theorem sflat_one : ∀ l : List Sg, ∀ v ∈ sflat l, v.oneCell' = true
  | [], v, h => by simp [sflat] at h
  | s :: r, v, h => by
    simp only [sflat, List.mem_cons] at h
    rcases h with rfl | rfl | rfl | h
    · rfl
    · rfl
    · rfl
    · exact sflat_one r v h
theorem src_sgs {w : World} {a : Option Addr} {l : List Sg} {c : Nat} (h : SgsIn w a l) : Src Tryz.prog 3 39 (.slice a l.length c) l.length (sflat l) w := by
  cases a with
  | none =>
    have : l = [] := by
      cases l with
      | nil => rfl
      | cons y r => obtain ⟨b, off, e, _⟩ := h 0 (by simp); cases e
    subst this
    exact Src.ofNil w Tryz.underlying39 c
  | some A =>
    refine Src.ofSlice w Tryz.underlying39 A l.length c (sflat l) (by rw [sflat_len]) (fun j u hu => ?_) (sflat_one l)
    obtain ⟨hj, e⟩ := List.getElem?_eq_some_iff.1 hu
    rw [sflat_len] at hj
    have hi : j / 3 < l.length := by omega
    obtain ⟨b, off, e1, h2, h3⟩ := h (j / 3) hi
    cases e1
    obtain ⟨q0, q1, q2⟩ := sflat_at l (j / 3) l[j / 3] (List.getElem?_eq_getElem hi)
    obtain ⟨p0, p1, p2⟩ := h3
    rw [Addr.add_lit]
    have hr : j % 3 = 0 ∨ j % 3 = 1 ∨ j % 3 = 2 := by omega
    rcases hr with hr | hr | hr
    · rw [show off + j = off + j / 3 * 3 by omega, p0]
      rw [show j / 3 * 3 = j by omega, hu] at q0
      exact q0.symm
    · rw [show off + j = off + j / 3 * 3 + 1 by omega, p1]
      rw [show j / 3 * 3 + 1 = j by omega, hu] at q1
      exact q1.symm
    · rw [show off + j = off + j / 3 * 3 + 2 by omega, p2]
      rw [show j / 3 * 3 + 2 = j by omega, hu] at q2
      exact q2.symm

theorem run_append_segs {W : World} {g B : Nat} {a : Option Addr} {l : List Sg} {c : Nat} (h : SgsIn W a l) (hg : W.heap[g]? = some (.cells #[] 54 (0, 0))) (hB : B ≤ g) (hBW : B ≤ W.heap.size) (hb : l.length ≤ 1000000) :
    ∃ va vc w', (∀ ty, (Builtin.append_ #[39, 39] ty #[.slice (some ⟨g, 0, none⟩) 0 0, .slice a l.length c]).run Tryz.prog W = .ok (.slice va l.length vc) w') ∧
      w'.ownsRow B 54 3 (.slice va l.length vc) l.length (sflat l) ∧ Below W.heap.size W w' := by
  obtain ⟨i0, hi, hz0, hz1, hz2⟩ := info_parts infoRSeg
  have hsrc : Src Tryz.prog i0.size 39 (.slice a l.length c) l.length (sflat l) W := by rw [hz1]; exact src_sgs h
  by_cases h0 : l = []
  · subst h0
    have hr := fun ty => run_append_nothing W 39 39 ty 54 i0 Tryz.underlying39 hi (some ⟨g, 0, none⟩) 0 0 (Nat.le_refl _) _ hsrc
    exact ⟨_, _, _, hr, ⟨rfl, Or.inr ⟨g, 0, #[], rfl, hB, hg, Nat.le_refl _, by unfold maxLen; omega, rfl, rfl⟩⟩, Below.refl _ _⟩
  · have hp : 0 < l.length := List.length_pos_iff.2 h0
    have hr := fun ty => run_append_grow_src (P := Tryz.prog) W 39 39 ty 54 i0 _ Tryz.underlying39 hi hz0 (some ⟨g, 0, none⟩) 0 0 []
      (by rw [hz1]; exact run_firstCells_some _ 3 0 ⟨g, 0, none⟩ 0 0 [] rfl (fun j u hu => by simp at hu)) _ l.length (sflat l) hsrc (by omega) (by omega) (growslice_fits (by omega) (by rw [hz2]; omega))
    simp only [Nat.zero_add] at hr
    have hge := grownCap_ge W l.length 0 54
    have hgm := grownCap_le_maxLen W l.length 0 54 (by unfold maxLen; omega)
    have hz : ∀ k, (Builtin.zeroCells (Value.agg #[.int .i64 0, .int .i64 0, .int .u32 0]).cells k).size = k * 3 := fun k => by rw [size_zeroCells]; simp [Value.cells]
    refine ⟨_, _, _, hr, ⟨by rw [sflat_len], Or.inr ⟨_, _, _, rfl, ?_, heap_alloc_new _ _, hge, hgm, ?_, ?_⟩⟩, ?_⟩
    · first | exact hBW | (simp; omega) | (show B ≤ _; omega)
    · simp only [Array.size_append, List.size_toArray, List.length_append, sflat_len, List.length_nil, hz]
      omega
    · rw [← sflat_len]
      simp only [Array.toList_append, List.nil_append]
      exact List.take_left
    · exact (Below.grown (row := none) (Below.refl _ _) (grown_drewN 1 _ none) (by simp) (fun k hk => by cases hk)).alloc (by simp) _
end Go.Proofs.YtkdidinekoaobaaGreatDoor.P
