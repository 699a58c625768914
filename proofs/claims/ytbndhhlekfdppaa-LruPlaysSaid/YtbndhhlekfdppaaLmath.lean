/- Plain facts on blocks that are kept, the one that was used last first. Nothing of the program is used here. -/
import Derived.ProofKit
namespace Go.Proofs.Ytbndhhlekfdppaa.L
set_option linter.unusedVariables false

structure Bk where
  seg : Int
  n : Int
deriving DecidableEq
/-- A block, its text. -/
abbrev It := Bk × List UInt8
def wo (l : List It) (b : Bk) : List It := l.filter (fun x => !decide (x.1 = b))
def look (l : List It) (b : Bk) : Option It := l.find? (fun x => decide (x.1 = b))
def hasB (l : List It) (b : Bk) : Bool := (look l b).isSome
def textOf (l : List It) (b : Bk) : List UInt8 := ((look l b).map Prod.snd).getD []
def getS (l : List It) (b : Bk) : List It := match look l b with
  | some x => x :: wo l b
  | none => l
def putS (most : Nat) (l : List It) (b : Bk) (s : List UInt8) : List It := ((b, s) :: wo l b).take most
def dropS (l : List It) (seg : Int) : List It := l.filter (fun x => !decide (x.1.seg = seg))
/-- No block stands twice; there is room for all. -/
structure Ok (most : Nat) (l : List It) : Prop where
  one : l.Pairwise (fun x y => x.1 ≠ y.1)
  few : l.length ≤ most

theorem wo_cons_same (x : It) (l : List It) (b : Bk) (h : x.1 = b) : wo (x :: l) b = wo l b := by simp [wo, h]
theorem wo_cons_other (x : It) (l : List It) (b : Bk) (h : x.1 ≠ b) : wo (x :: l) b = x :: wo l b := by simp [wo, h]
theorem wo_snoc (l : List It) (x : It) (b : Bk) : wo (l ++ [x]) b = if x.1 = b then wo l b else wo l b ++ [x] := by
  unfold wo; rw [List.filter_append]
  by_cases h : x.1 = b <;> simp [h]
theorem drop_snoc (l : List It) (x : It) (s : Int) : dropS (l ++ [x]) s = if x.1.seg = s then dropS l s else dropS l s ++ [x] := by
  unfold dropS; rw [List.filter_append]
  by_cases h : x.1.seg = s <;> simp [h]
theorem wo_len (l : List It) (b : Bk) : (wo l b).length ≤ l.length := List.length_filter_le _ _
theorem drop_len (l : List It) (s : Int) : (dropS l s).length ≤ l.length := List.length_filter_le _ _
theorem mem_wo {l : List It} {b : Bk} {x : It} : x ∈ wo l b ↔ x ∈ l ∧ x.1 ≠ b := by simp [wo]
theorem wo_id {l : List It} {b : Bk} (h : ∀ x ∈ l, x.1 ≠ b) : wo l b = l := List.filter_eq_self.2 (fun x hx => by simp [h x hx])
theorem look_some {l : List It} {b : Bk} {x : It} (h : look l b = some x) : x ∈ l ∧ x.1 = b := by
  have h1 := List.mem_of_find?_eq_some h
  have h2 := List.find?_some h
  exact ⟨h1, by simpa using h2⟩
theorem look_none {l : List It} {b : Bk} (h : look l b = none) : ∀ x ∈ l, x.1 ≠ b := fun x hx e => by
  have := List.find?_eq_none.1 h x hx
  simp at this; exact this e
/-- The first that stands for a block. -/
theorem look_at {l : List It} {b : Bk} {i : Nat} {x : It} (hx : l[i]? = some x) (hb : x.1 = b) (hno : ∀ y ∈ l.take i, y.1 ≠ b) : look l b = some x := by
  have hi := (List.getElem?_eq_some_iff.1 hx).1
  have hsp : l = l.take i ++ x :: l.drop (i + 1) := by
    rw [← (List.getElem?_eq_some_iff.1 hx).2]
    simp
  unfold look
  rw [hsp, List.find?_append]
  have h1 : (l.take i).find? (fun x => decide (x.1 = b)) = none := List.find?_eq_none.2 (fun y hy => by simpa using hno y hy)
  rw [h1]
  simp [hb]
theorem look_all {l : List It} {b : Bk} (h : ∀ x ∈ l, x.1 ≠ b) : look l b = none := List.find?_eq_none.2 (fun y hy => by simpa using h y hy)
theorem ok_sub {most : Nat} {l l' : List It} (h : Ok most l) (hs : l'.Sublist l) : Ok most l' := ⟨h.one.sublist hs, Nat.le_trans hs.length_le h.few⟩
theorem wo_sub (l : List It) (b : Bk) : (wo l b).Sublist l := List.filter_sublist
theorem ok_wo {most : Nat} {l : List It} (h : Ok most l) (b : Bk) : Ok most (wo l b) := ok_sub h (wo_sub l b)
theorem ok_drop {most : Nat} {l : List It} (h : Ok most l) (s : Int) : Ok most (dropS l s) := ok_sub h List.filter_sublist
/-- One goes, if it is there. -/
theorem wo_len_at {l : List It} {b : Bk} (ho : l.Pairwise (fun x y => x.1 ≠ y.1)) : ∀ {x : It}, x ∈ l → x.1 = b → (wo l b).length + 1 = l.length := by
  induction l with
  | nil => intro x hx; cases hx
  | cons y r ih =>
    intro x hx hb
    obtain ⟨h1, h2⟩ := List.pairwise_cons.1 ho
    rcases List.mem_cons.1 hx with rfl | hx
    · rw [wo_cons_same _ _ _ hb, wo_id (fun z hz e => h1 z hz (hb.trans e.symm))]; rfl
    · rw [wo_cons_other _ _ _ (fun e => h1 x hx (e.trans hb.symm)), List.length_cons, ih h2 hx hb]; rfl
theorem get_len {most : Nat} {l : List It} (h : Ok most l) (b : Bk) : (getS l b).length = l.length := by
  unfold getS
  cases hl : look l b with
  | none => rfl
  | some x => obtain ⟨h1, h2⟩ := look_some hl; rw [List.length_cons, wo_len_at h.one h1 h2]
theorem ok_get {most : Nat} {l : List It} (h : Ok most l) (b : Bk) : Ok most (getS l b) := by
  refine ⟨?_, by rw [get_len h]; exact h.few⟩
  unfold getS
  cases hl : look l b with
  | none => exact h.one
  | some x =>
    obtain ⟨h1, h2⟩ := look_some hl
    exact List.pairwise_cons.2 ⟨fun y hy e => (mem_wo.1 hy).2 (e.symm.trans h2), (ok_wo h b).one⟩
theorem ok_put {most : Nat} {l : List It} (h : Ok most l) (b : Bk) (s : List UInt8) : Ok most (putS most l b s) := by
  refine ⟨?_, by unfold putS; exact List.length_take_le _ _⟩
  unfold putS
  refine List.Pairwise.sublist (List.take_sublist _ _) (List.pairwise_cons.2 ⟨fun y hy e => (mem_wo.1 hy).2 e.symm, (ok_wo h b).one⟩)
theorem ok_nil (most : Nat) : Ok most [] := ⟨List.Pairwise.nil, Nat.zero_le _⟩
end Go.Proofs.Ytbndhhlekfdppaa.L
