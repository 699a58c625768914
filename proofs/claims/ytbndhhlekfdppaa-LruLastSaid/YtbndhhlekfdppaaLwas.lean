/- What a law notes of the blocks that were used: in order, the last one at the end. -/
import Derived.Test.YtbndhhlekfdppaaLkey
namespace Go.Proofs.Ytbndhhlekfdppaa.L
open Go.RowKit Go.Maps
set_option linter.unusedVariables false

def wob (l : List Bk) (b : Bk) : List Bk := l.filter (fun x => !decide (x = b))
theorem wob_snoc (l : List Bk) (x b : Bk) : wob (l ++ [x]) b = if x = b then wob l b else wob l b ++ [x] := by
  unfold wob; rw [List.filter_append]
  by_cases h : x = b <;> simp [h]
theorem wob_len (l : List Bk) (b : Bk) : (wob l b).length ≤ l.length := List.length_filter_le _ _
/-- The cache's items, the blocks as they were used, their texts. -/
structure Was (S : List It) (u : List Bk) (f : Bk → List UInt8) : Prop where
  keys : S.map Prod.fst = u.reverse
  text : ∀ x ∈ S, x.2 = f x.1
theorem was_nil : Was [] [] (fun _ => []) := ⟨rfl, fun x hx => by cases hx⟩
section
variable {S : List It} {u : List Bk} {f : Bk → List UInt8} {most : Nat} {b : Bk}
theorem Was.len (h : Was S u f) : S.length = u.length := by
  have := congrArg List.length h.keys
  simpa using this
theorem Was.keysWo (h : Was S u f) (b : Bk) : (wo S b).map Prod.fst = (wob u b).reverse := by
  have h1 : (wo S b).map Prod.fst = (S.map Prod.fst).filter (fun x => !decide (x = b)) := by
    unfold L.wo; rw [List.filter_map]; rfl
  rw [h1, h.keys, wob, List.filter_reverse]
theorem Was.wolen (h : Was S u f) (b : Bk) : (L.wo S b).length = (wob u b).length := by
  have := congrArg List.length (h.keysWo b)
  simpa using this
theorem Was.yes (h : Was S u f) (ho : Ok most S) (hb : hasB S b = true) : (wob u b).length < u.length := by
  unfold hasB at hb
  cases hl : look S b with
  | none => rw [hl] at hb; cases hb
  | some x =>
    obtain ⟨h1, h2⟩ := look_some hl
    have := wo_len_at ho.one h1 h2
    rw [h.wolen, h.len] at this
    omega
theorem Was.no (h : Was S u f) (hb : hasB S b = false) : (wob u b).length = u.length ∧ getS S b = S := by
  unfold hasB at hb
  cases hl : look S b with
  | none =>
    refine ⟨?_, by unfold getS; rw [hl]⟩
    rw [← h.wolen, wo_id (look_none hl), h.len]
  | some x => rw [hl] at hb; cases hb
theorem Was.textOf (h : Was S u f) (hb : hasB S b = true) : L.textOf S b = f b := by
  unfold hasB at hb
  cases hl : look S b with
  | none => rw [hl] at hb; cases hb
  | some x =>
    obtain ⟨h1, h2⟩ := look_some hl
    unfold L.textOf
    rw [hl]
    show x.2 = _
    rw [h.text x h1, h2]
/-- One more at the end; the first goes where there is no room. -/
def nxt (most : Nat) (u : List Bk) (b : Bk) : List Bk := (wob u b ++ [b]).drop (((wob u b).length + 1) - most)
theorem nxt_len (most : Nat) (u : List Bk) (b : Bk) : (nxt most u b).length ≤ most := by
  unfold nxt; rw [List.length_drop, List.length_append, List.length_singleton]; omega
theorem Was.get (h : Was S u f) (ho : Ok most S) (hb : hasB S b = true) : Was (getS S b) (nxt most u b) f := by
  have hy := h.yes ho hb
  have hl1 := h.len
  have hf := ho.few
  have hd : ((wob u b).length + 1) - most = 0 := by omega
  unfold nxt
  rw [hd, List.drop_zero]
  unfold hasB at hb
  cases hl : look S b with
  | none => rw [hl] at hb; cases hb
  | some x =>
    obtain ⟨h1, h2⟩ := look_some hl
    have hg : getS S b = x :: L.wo S b := by unfold getS; rw [hl]
    rw [hg]
    refine ⟨?_, fun y hy => ?_⟩
    · rw [List.map_cons, h.keysWo, h2]; simp
    · rcases List.mem_cons.1 hy with rfl | hy
      · exact h.text _ h1
      · exact h.text _ (mem_wo.1 hy).1
theorem Was.put (h : Was S u f) (most : Nat) (b : Bk) (s : List UInt8) : Was (putS most S b s) (nxt most u b) (fun c => if c = b then s else f c) := by
  refine ⟨?_, fun x hx => ?_⟩
  · unfold putS nxt
    rw [List.map_take, List.map_cons, h.keysWo]
    have h1 : b :: (wob u b).reverse = (wob u b ++ [b]).reverse := by simp
    show List.take most (b :: _) = _
    rw [h1, List.take_reverse, List.length_append, List.length_singleton]
  · have hx := List.mem_of_mem_take hx
    rcases List.mem_cons.1 hx with rfl | hx
    · simp
    · obtain ⟨h1, h2⟩ := mem_wo.1 hx
      rw [if_neg h2]
      exact h.text _ h1
end
end Go.Proofs.Ytbndhhlekfdppaa.L
