/- Plain facts on segments of a disk: what each call comes to. Nothing of the program is used here. -/
import Derived.Test.YtmekkbhblghbmaaGreatDoorDb
import Derived.Test.YtmekkbhblghbmaaGreatDoorHb
import Derived.Test.YtmekkbhblghbmaaGreatDoorSname
namespace Go.Proofs.YtmekkbhblghbmaaGreatDoor
set_option linter.unusedVariables false

/-- The names of a segment's file and of its hints. -/
def sN (n : Int) : List UInt8 := nameOf 115 n
def hN (n : Int) : List UInt8 := nameOf 104 n
theorem sN_len (n : Int) : (sN n).length ≤ 7 := nameOf_len _ _
theorem hN_len (n : Int) : (hN n).length ≤ 7 := nameOf_len _ _
theorem sN_right {n : Int} (h : segOk n) : D.rightName (sN n) = true := by
  unfold sN D.rightName
  rw [nameOf_ok h, List.length_cons, dg_len]
  rfl
theorem hN_right {n : Int} (h : segOk n) : D.rightName (hN n) = true := by
  unfold hN D.rightName
  rw [nameOf_ok h, List.length_cons, dg_len]
  rfl
theorem sN_hN {n m : Int} (h : segOk n) : sN n ≠ hN m := by
  unfold sN hN
  rw [nameOf_ok h]
  unfold nameOf
  split
  · intro e
    injection e with e1
    revert e1
    decide
  · intro e; cases e

/-- A file's bytes; none, if there is no such file. -/
def fileB (S : D.St) (n : List UInt8) : List UInt8 := match D.find S.fs n with
  | none => []
  | some f => f.bt
theorem fileB_none {S : D.St} {n : List UInt8} (h : D.find S.fs n = none) : fileB S n = [] := by unfold fileB; rw [h]
theorem fileB_some {S : D.St} {n : List UInt8} {f : D.Fl} (h : D.find S.fs n = some f) : fileB S n = f.bt := by unfold fileB; rw [h]
theorem rd_all (S : D.St) (n : List UInt8) : D.rdB S n 0 (D.szN S n) = fileB S n := by
  unfold D.rdB D.szN fileB
  cases h : D.find S.fs n with
  | none => rfl
  | some f =>
    show (if 0 ≤ (0 : Int) ∧ 0 ≤ (f.bt.length : Int) ∧ (f.bt.length : Int) ≤ f.bt.length - 0 then (f.bt.drop (0 : Int).toNat).take (f.bt.length : Int).toNat else []) = f.bt
    rw [if_pos (by omega)]
    simp

/-! ### Load -/
def ldE (S : D.St) (n : Int) : Int := if segOk n then (match D.find S.fs (sN n) with
  | none => 5
  | some f => if (fs f.bt).2 < f.bt.length then D.ctE S (sN n) (fs f.bt).2 else 0) else 1
def ldS (S : D.St) (n : Int) : D.St := if segOk n then (match D.find S.fs (sN n) with
  | none => S
  | some f => if (fs f.bt).2 < f.bt.length then D.ctS S (sN n) (fs f.bt).2 else S) else S
def ldL (S : D.St) (n : Int) : List Et := if ldE S n = 0 then hof 0 (fs (fileB S (sN n))).1 else []
section
variable {S : D.St} {n : Int} {f : D.Fl}
theorem ld_arg (h : ¬ segOk n) : ldE S n = 1 ∧ ldS S n = S ∧ ldL S n = [] := by
  have h1 : ldE S n = 1 := by unfold ldE; rw [if_neg h]
  exact ⟨h1, by unfold ldS; rw [if_neg h], by unfold ldL; rw [h1, if_neg (by omega)]⟩
theorem ld_none (h : segOk n) (hf : D.find S.fs (sN n) = none) : ldE S n = 5 ∧ ldS S n = S ∧ ldL S n = [] := by
  have h1 : ldE S n = 5 := by unfold ldE; rw [if_pos h, hf]
  exact ⟨h1, by unfold ldS; rw [if_pos h, hf], by unfold ldL; rw [h1, if_neg (by omega)]⟩
theorem ld_whole (h : segOk n) (hf : D.find S.fs (sN n) = some f) (hw : ¬ (fs f.bt).2 < f.bt.length) : ldE S n = 0 ∧ ldS S n = S ∧ ldL S n = hof 0 (fs f.bt).1 := by
  have h1 : ldE S n = 0 := by unfold ldE; rw [if_pos h, hf]; exact if_neg hw
  exact ⟨h1, by unfold ldS; rw [if_pos h, hf]; exact if_neg hw, by unfold ldL; rw [h1, if_pos rfl, fileB_some hf]⟩
theorem ld_torn (h : segOk n) (hf : D.find S.fs (sN n) = some f) (hw : (fs f.bt).2 < f.bt.length) : ldE S n = D.ctE S (sN n) (fs f.bt).2 ∧ ldS S n = D.ctS S (sN n) (fs f.bt).2 ∧ ldL S n = if D.ctE S (sN n) (fs f.bt).2 = 0 then hof 0 (fs f.bt).1 else [] := by
  have h1 : ldE S n = D.ctE S (sN n) (fs f.bt).2 := by unfold ldE; rw [if_pos h, hf]; exact if_pos hw
  exact ⟨h1, by unfold ldS; rw [if_pos h, hf]; exact if_pos hw, by unfold ldL; rw [h1, fileB_some hf]⟩
end

/-! ### Told -/
def tdE (S : D.St) (n : Int) : Int := if segOk n then (match D.find S.fs (hN n) with
  | none => 5
  | some f => ((hrd f.bt).2 : Int)) else 1
def tdL (S : D.St) (n : Int) : List Et := if segOk n then (match D.find S.fs (hN n) with
  | none => []
  | some f => (hrd f.bt).1) else []
section
variable {S : D.St} {n : Int} {f : D.Fl}
theorem td_arg (h : ¬ segOk n) : tdE S n = 1 ∧ tdL S n = [] := ⟨by unfold tdE; rw [if_neg h], by unfold tdL; rw [if_neg h]⟩
theorem td_none (h : segOk n) (hf : D.find S.fs (hN n) = none) : tdE S n = 5 ∧ tdL S n = [] := ⟨by unfold tdE; rw [if_pos h, hf], by unfold tdL; rw [if_pos h, hf]⟩
theorem td_some (h : segOk n) (hf : D.find S.fs (hN n) = some f) : tdE S n = ((hrd f.bt).2 : Int) ∧ tdL S n = (hrd f.bt).1 := ⟨by unfold tdE; rw [if_pos h, hf], by unfold tdL; rw [if_pos h, hf]⟩
end

/-! ### Index -/
def ixE (S : D.St) (n : Int) : Int := if segOk n then (if tdE S n = 0 then 0 else ldE S n) else 1
def ixS (S : D.St) (n : Int) : D.St := if segOk n then (if tdE S n = 0 then S else ldS S n) else S
def ixL (S : D.St) (n : Int) : List Et := if segOk n then (if tdE S n = 0 then tdL S n else ldL S n) else []

/-! ### Hint -/
def hrS (S : D.St) (n : Int) : D.St := match D.find S.fs (hN n) with
  | none => S
  | some _ => D.rmS S (hN n)
def hrE (S : D.St) (n : Int) : Int := match D.find S.fs (hN n) with
  | none => 0
  | some _ => D.rmE S (hN n)
def hiE (S : D.St) (n : Int) (l : List Et) : Int :=
  if segOk n then (if (hbs l).2 = 0 then (if hrE S n = 0 then (if D.apE (hrS S n) (hN n) (hbs l).1 = 0 then D.syE (D.apS (hrS S n) (hN n) (hbs l).1) (hN n) else D.apE (hrS S n) (hN n) (hbs l).1) else hrE S n) else ((hbs l).2 : Int)) else 1
def hiS (S : D.St) (n : Int) (l : List Et) : D.St :=
  if segOk n then (if (hbs l).2 = 0 then (if hrE S n = 0 then (if D.apE (hrS S n) (hN n) (hbs l).1 = 0 then D.syS (D.apS (hrS S n) (hN n) (hbs l).1) (hN n) else D.apS (hrS S n) (hN n) (hbs l).1) else hrS S n) else S) else S

/-! ### Seal -/
def seE (S : D.St) (n : Int) : Int := if ldE S n = 0 then hiE (ldS S n) n (ldL S n) else ldE S n
def seS (S : D.St) (n : Int) : D.St := if ldE S n = 0 then hiS (ldS S n) n (ldL S n) else ldS S n

/-! ### Write -/
def moved (k : Nat) (l : List Et) : List Et := l.map fun e => { e with o := e.o + k }
def wrE (S : D.St) (n : Int) (l : List Rc) : Int := if segOk n ∧ good l = true then D.apE S (sN n) (fbs l) else 1
def wrS (S : D.St) (n : Int) (l : List Rc) : D.St := if segOk n ∧ good l = true then D.apS S (sN n) (fbs l) else S
def wrL (S : D.St) (n : Int) (l : List Rc) : List Et := if wrE S n l = 0 then moved (fileB S (sN n)).length (hof 0 [l]) else []
theorem moved_len (k : Nat) (l : List Et) : (moved k l).length = l.length := by simp [moved]

/-! ### Get -/
def gtR (S : D.St) (n : Int) (e : Et) : Rc × Int := if segOk n then (match D.find S.fs (sN n) with
  | none => (Rc.z, 5)
  | some f => ((hat f.bt e).1, ((hat f.bt e).2 : Int))) else (Rc.z, 1)

/-! ### All -/
def alL (S : D.St) : List Int := ((S.fs.map D.Fl.nm).filter isNum).map numOf
end Go.Proofs.YtmekkbhblghbmaaGreatDoor
