/- The calls that turn nothing, off both disks. -/
import Derived.Test.YtmekkbhblghbmaaGreatDoorSpstep
namespace Go.Proofs.YtmekkbhblghbmaaGreatDoor
open Go.RowKit
set_option linter.unusedVariables false

section
variable {B pb qb : Nat} {X : Nat → Prop} {Sd Sr : D.St} {w : World} (h : D.Bo B w pb qb X Sd Sr)
include h
theorem bo8_list (hcs : Sd.fs.length < 1000000000) : Calls Tryz.prog 39 #[.pointer (some ⟨pb, 0, none⟩)] w fun e w' => ∃ v, e = .returned v ∧ w'.ownsRow w.heap.size 9 1 v (Sd.fs.map D.Fl.nm).length (strs (Sd.fs.map D.Fl.nm)) ∧ Below w.heap.size w w' := by
  obtain ⟨F, lv, hd, hr, _, _⟩ := h
  exact D.list_any hd hcs
theorem bo8_reflist (hcs : Sr.fs.length < 1000000000) : Calls Tryz.prog 40 #[.pointer (some ⟨qb, 0, none⟩)] w fun e w' => ∃ v, e = .returned v ∧ w'.ownsRow w.heap.size 9 1 v (Sr.fs.map D.Fl.nm).length (strs (Sr.fs.map D.Fl.nm)) ∧ Below w.heap.size w w' := by
  obtain ⟨F, lv, hd, hr, _, _⟩ := h
  exact D.reflist_any hr hcs
theorem bo8_left : Calls Tryz.prog 44 #[.pointer (some ⟨pb, 0, none⟩)] w fun e w' => e = .returned (.int .i64 (D.left Sd)) ∧ w = w' := by
  obtain ⟨F, lv, hd, hr, _, _⟩ := h
  exact D.left_any hd
theorem bo8_refleft (hcs : Sr.fs.length < 1000000000) : Calls Tryz.prog 45 #[.pointer (some ⟨qb, 0, none⟩)] w fun e w' => e = .returned (.int .i64 (D.left Sr)) ∧ w = w' := by
  obtain ⟨F, lv, hd, hr, _, _⟩ := h
  exact D.refleft_any hr hcs
theorem bo8_all (hcs : Sd.fs.length < 1000000000) : Calls Tryz.prog 42 #[.pointer (some ⟨pb, 0, none⟩)] w (NumsR w (alL Sd)) := by
  obtain ⟨F, lv, hd, hr, _, _⟩ := h
  exact segC.all hd hcs
theorem bo8_refall (hcs : Sr.fs.length < 1000000000) : Calls Tryz.prog 43 #[.pointer (some ⟨qb, 0, none⟩)] w (NumsR w (alL Sr)) := by
  obtain ⟨F, lv, hd, hr, _, _⟩ := h
  exact refAll8_any hr hcs
end
theorem alL_len (S : D.St) : (alL S).length ≤ S.fs.length := by
  unfold alL
  rw [List.length_map]
  exact Nat.le_trans (List.length_filter_le _ _) (by simp)

/-- Both disks tell the same, with at most so many files. -/
def PSame (B pb qb i : Nat) (w : World) : Prop := ∃ S, D.Bo B w pb qb (fun _ => False) S S ∧ S.fs.length ≤ 4 * i
end Go.Proofs.YtmekkbhblghbmaaGreatDoor
