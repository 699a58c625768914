/- slices.Sort, then slices.Compact, of names. -/
import Derived.Test.YtkdidinekoaobaaGreatDoorPplays
import Derived.Test.YtkdidinekoaobaaGreatDoorMb
import Derived.Test.YtkdidinekoaobaaGreatDoorPa
import Derived.Test.YtkdidinekoaobaaGreatDoorBb
import Derived.Sort.OwnSorted
import Derived.Sort.Grow
import Derived.Lib.OwnBridge
import Derived.Lib.RowBridge
namespace Go.Proofs.YtkdidinekoaobaaGreatDoor.P
open Go.RowKit Go.Shelf Go.Sort M J
set_option linter.unusedVariables false

theorem compact_up (d : Array (List UInt8)) (hs : ∀ i j, i < j → j < d.size → d[i]! ≤ d[j]!) : ∀ m, m ≤ d.size → Up id (Lib.compactUpTo d m) ∧ (∀ x, x ∈ Lib.compactUpTo d m ↔ ∃ j, j < m ∧ d[j]! = x)
  | 0, _ => ⟨List.Pairwise.nil, fun x => by simp [Lib.compactUpTo]⟩
  | m + 1, hm => by
    obtain ⟨h1, h2⟩ := compact_up d hs m (by omega)
    rw [Lib.compactUpTo_succ]
    cases hk : Lib.keeps d m with
    | true =>
      rw [if_pos rfl]
      have hlt : ∀ x ∈ Lib.compactUpTo d m, lt x d[m]! = true := fun x hx => by
        obtain ⟨j, hj, rfl⟩ := (h2 x).1 hx
        have hm0 : m ≠ 0 := by omega
        have hne : d[m]! ≠ d[m - 1]! := by
          unfold Lib.keeps at hk
          simp only [decide_eq_true_eq] at hk
          exact hk.resolve_left hm0
        have h3 : d[m - 1]! ≤ d[m]! := hs (m - 1) m (by omega) (by omega)
        have h4 : d[j]! ≤ d[m - 1]! := by
          by_cases e : j = m - 1
          · rw [e]; exact List.le_refl _
          · exact hs j (m - 1) (by omega) (by omega)
        rw [lt_iff]
        rcases List.le_iff_lt_or_eq.1 h3 with g | g
        · exact List.lt_of_le_of_lt h4 g
        · exact absurd g.symm hne
      refine ⟨List.pairwise_append.2 ⟨h1, List.pairwise_singleton _ _, fun a ha b hb => by
        rw [List.mem_singleton.1 hb]; exact hlt a ha⟩, fun x => ?_⟩
      rw [List.mem_append, h2, List.mem_singleton]
      constructor
      · rintro (⟨j, hj, e⟩ | e)
        · exact ⟨j, by omega, e⟩
        · exact ⟨m, by omega, e.symm⟩
      · rintro ⟨j, hj, e⟩
        by_cases hjm : j = m
        · rw [hjm] at e; exact Or.inr e.symm
        · exact Or.inl ⟨j, by omega, e⟩
    | false =>
      rw [if_neg (by simp), List.append_nil]
      refine ⟨h1, fun x => ?_⟩
      rw [h2]
      have hm0 : 0 < m := by
        rcases Nat.eq_zero_or_pos m with e | e
        · rw [e, Lib.keeps_lt_one d 0 (by omega)] at hk; cases hk
        · exact e
      have he : d[m]! = d[m - 1]! := by
        unfold Lib.keeps at hk
        simp only [decide_eq_false_iff_not, not_or] at hk
        exact Classical.not_not.1 hk.2
      constructor
      · rintro ⟨j, hj, e⟩
        exact ⟨j, by omega, e⟩
      · rintro ⟨j, hj, e⟩
        by_cases hjm : j = m
        · exact ⟨m - 1, by omega, by rw [← he, ← hjm]; exact e⟩
        · exact ⟨j, by omega, e⟩
theorem sorted_at {zs : List (List UInt8)} (h : zs.Pairwise (fun a b => a ≤ b)) : ∀ i j, i < j → j < zs.toArray.size → zs.toArray[i]! ≤ zs.toArray[j]! := fun i j hij hj => by
  have hj' : j < zs.length := by simpa using hj
  rw [getElem!_pos zs.toArray i (by simp; omega), getElem!_pos zs.toArray j hj]
  simp only [List.getElem_toArray]
  exact List.pairwise_iff_getElem.1 h i j (by omega) hj' hij
theorem sort_le (ss : List (List UInt8)) : (ss.mergeSort fun x y => decide (x ≤ y)).Pairwise (fun a b => a ≤ b) := by
  have h := List.pairwise_mergeSort (le := fun x y : List UInt8 => decide (x ≤ y)) (fun a b c h1 h2 => by
    simp only [decide_eq_true_eq] at h1 h2 ⊢
    exact List.le_trans h1 h2) (fun a b => by
    simp only [Bool.or_eq_true, decide_eq_true_eq]
    exact List.le_total a b) ss
  exact h.imp (fun h => by simpa using h)
/-- What is left is in order, each once. -/
theorem compact_is {ss out : List (List UInt8)} (hu : Up id out) (hm : ∀ x, x ∈ out ↔ x ∈ ss) : Lib.compact (ss.mergeSort fun x y => decide (x ≤ y)) = out := by
  obtain ⟨h1, h2⟩ := compact_up (ss.mergeSort fun x y => decide (x ≤ y)).toArray (sorted_at (sort_le ss)) _ (Nat.le_refl _)
  have e : Lib.compact (ss.mergeSort fun x y => decide (x ≤ y)) = Lib.compactUpTo (ss.mergeSort fun x y => decide (x ≤ y)).toArray (ss.mergeSort fun x y => decide (x ≤ y)).toArray.size := by
    unfold Lib.compact; simp
  rw [e]
  refine up_same h1 hu (fun x => ?_)
  rw [h2, hm, ← List.mem_mergeSort (le := fun x y : List UInt8 => decide (x ≤ y)) (l := ss)]
  constructor
  · rintro ⟨j, hj, e⟩
    rw [getElem!_pos _ j hj] at e
    simp only [List.getElem_toArray] at e
    rw [← e]
    exact List.getElem_mem _
  · intro hx
    obtain ⟨j, hj, e⟩ := List.mem_iff_getElem.1 hx
    refine ⟨j, by simpa using hj, ?_⟩
    rw [getElem!_pos _ j (by simpa using hj)]
    simpa using e

/-- The row that is told is in order, each name once. -/
def Told (w0 : World) (B : Nat) (out : List (List UInt8)) (e : Ending) (w' : World) : Prop := ∃ oa oc, e = .returned (.slice oa out.length oc) ∧ Vals w' oa (strs out) ∧ Below B w0 w'
theorem enc_strs (l : List (List UInt8)) : l.map encStr = strs l := rfl
end Go.Proofs.YtkdidinekoaobaaGreatDoor.P
