/- The first, small test of every law of layer 8: the plain facts of it. -/
import Derived.Test.YtmekkbhblghbmaaGreatDoorSmath
import Derived.Test.YtmekkbhblghbmaaGreatDoorHb
namespace Go.Proofs.YtmekkbhblghbmaaGreatDoor
open Go.RowKit
set_option linter.unusedVariables false

def wA0 : D.St := ⟨1000, [], -1, false⟩
def bA : List UInt8 := fbs [rA]
def xA : List UInt8 := (hbs [eA]).1
theorem bA_len : bA.length = 10 := by unfold bA; decide +kernel
theorem sN7 : sN 7 = [115, 48, 48, 48, 48, 48, 55] := by decide +kernel
theorem hN7 : hN 7 = [104, 48, 48, 48, 48, 48, 55] := by decide +kernel
theorem seg7 : segOk 7 := by unfold segOk; omega
theorem hbs_eA : hbs [eA] = (xA, 0) := by
  unfold xA
  rw [hbs_yes (by decide) (by simp [erights, eright_eA])]
theorem xA_len : xA.length ≤ 200 := by
  have h := eencs_len [eA] (by simp [erights, eright_eA])
  unfold xA
  rw [hbs_yes (by decide) (by simp [erights, eright_eA])]
  have h2 := put_ten (n := [eA].length) (by unfold M64; decide)
  show (seal4 (put [eA].length ++ eencs [eA])).length ≤ _
  rw [seal_len, List.length_append]
  simp only [List.length_cons, List.length_nil] at *
  omega
theorem hrd_xA : hrd xA = ([eA], 0) := hrd_hbs hbs_eA

/-- An append to a disk with room, with power and without a file of that name. -/
theorem ap_new {S : D.St} {n b : List UInt8} (hr : D.rightName n = true) (hb : D.burns S = true) (hl : (b.length : Int) ≤ D.left S) (hf : D.find S.fs n = none) : D.apE S n b = 0 ∧ D.apS S n b = D.puts (D.burnt S) ⟨n, b, 0⟩ := by
  constructor
  · unfold D.apE; rw [if_pos hr, if_pos hb, if_pos hl]
  · unfold D.apS D.apF
    rw [if_pos hr, if_pos ⟨hb, hl⟩, hf]

def wA1 : D.St := ⟨1000, [⟨[115, 48, 48, 48, 48, 48, 55], bA, 0⟩], -1, false⟩
def wA2 : D.St := ⟨1000, [⟨[104, 48, 48, 48, 48, 48, 55], xA, 0⟩, ⟨[115, 48, 48, 48, 48, 48, 55], bA, 0⟩], -1, false⟩
def wA3 : D.St := ⟨1000, [⟨[104, 48, 48, 48, 48, 48, 55], xA, xA.length⟩, ⟨[115, 48, 48, 48, 48, 48, 55], bA, 0⟩], -1, false⟩

theorem aA1 : D.apE wA0 (sN 7) bA = 0 ∧ D.apS wA0 (sN 7) bA = wA1 := by
  have hl := bA_len
  rw [sN7]
  have h := ap_new (S := wA0) (n := [115, 48, 48, 48, 48, 48, 55]) (b := bA) rfl rfl (by show (bA.length : Int) ≤ 1000 - 0; omega) rfl
  refine ⟨h.1, h.2.trans ?_⟩
  unfold wA1
  generalize bA = b
  rfl
theorem good1 : good [rA] = true := rfl
theorem wA_write : wrE wA0 7 [rA] = 0 ∧ wrS wA0 7 [rA] = wA1 ∧ wrL wA0 7 [rA] = [eA] := by
  have h1 : wrE wA0 7 [rA] = 0 := by unfold wrE; rw [if_pos ⟨seg7, good1⟩]; exact aA1.1
  refine ⟨h1, by unfold wrS; rw [if_pos ⟨seg7, good1⟩]; exact aA1.2, ?_⟩
  unfold wrL
  rw [h1, if_pos rfl, hof_rA]
  rfl
theorem find1 : D.find wA1.fs (sN 7) = some ⟨[115, 48, 48, 48, 48, 48, 55], bA, 0⟩ := by rw [sN7]; unfold wA1; generalize bA = b; rfl
theorem find1h : D.find wA1.fs (hN 7) = none := by rw [hN7]; unfold wA1; generalize bA = b; rfl
theorem wA_get : gtR wA1 7 eA = (rA, 0) := by
  unfold gtR
  rw [if_pos seg7, find1]
  show ((hat bA eA).1, ((hat bA eA).2 : Int)) = (rA, 0)
  unfold bA
  rw [hat_eA]
  rfl
theorem fs_bA : fs bA = ([[rA]], bA.length) := fs_rA
theorem wA_load : ldE wA1 7 = 0 ∧ ldS wA1 7 = wA1 ∧ ldL wA1 7 = [eA] := by
  have h := ld_whole (S := wA1) (n := 7) seg7 find1 (by show ¬ (fs bA).2 < bA.length; rw [fs_bA]; exact Nat.lt_irrefl _)
  refine ⟨h.1, h.2.1, h.2.2.trans ?_⟩
  show hof 0 (fs bA).1 = [eA]
  rw [fs_bA]
  exact hof_rA
theorem aA2 : D.apE wA1 (hN 7) xA = 0 ∧ D.apS wA1 (hN 7) xA = wA2 := by
  have hl := bA_len
  have hx := xA_len
  rw [hN7]
  have h := ap_new (S := wA1) (n := [104, 48, 48, 48, 48, 48, 55]) (b := xA) rfl rfl (by
    show (xA.length : Int) ≤ 1000 - ((bA.length + 0 : Nat) : Int)
    omega) (by have := find1h; rwa [hN7] at this)
  refine ⟨h.1, h.2.trans ?_⟩
  unfold wA1 wA2
  generalize bA = b
  generalize xA = x
  rfl
theorem sA3 : D.syE wA2 (hN 7) = 0 ∧ D.syS wA2 (hN 7) = wA3 := by
  rw [hN7]
  unfold wA2 wA3
  generalize bA = b
  generalize xA = x
  exact ⟨rfl, rfl⟩
theorem wA_seal : seE wA1 7 = 0 ∧ seS wA1 7 = wA3 := by
  obtain ⟨l1, l2, l3⟩ := wA_load
  have hs : hrS wA1 7 = wA1 := by unfold hrS; rw [find1h]
  have he : hrE wA1 7 = 0 := by unfold hrE; rw [find1h]
  unfold seE seS
  rw [l1, l2, l3, if_pos rfl, if_pos rfl]
  unfold hiE hiS
  rw [if_pos seg7, if_pos seg7, hbs_eA, hs, he]
  dsimp only
  rw [if_pos rfl, if_pos rfl, if_pos rfl, if_pos rfl, aA2.1, aA2.2, if_pos rfl, if_pos rfl]
  exact sA3
theorem find3h : D.find wA3.fs (hN 7) = some ⟨[104, 48, 48, 48, 48, 48, 55], xA, xA.length⟩ := by rw [hN7]; unfold wA3; generalize bA = b; generalize xA = x; rfl
theorem wA_index : ixE wA3 7 = 0 ∧ ixS wA3 7 = wA3 ∧ ixL wA3 7 = [eA] := by
  obtain ⟨h1, h2⟩ := td_some (S := wA3) seg7 find3h
  have e1 : tdE wA3 7 = 0 := by rw [h1]; show ((hrd xA).2 : Int) = 0; rw [hrd_xA]; rfl
  have e2 : tdL wA3 7 = [eA] := by rw [h2]; show (hrd xA).1 = [eA]; rw [hrd_xA]
  unfold ixE ixS ixL
  rw [if_pos seg7, if_pos seg7, if_pos seg7, e1, if_pos rfl, if_pos rfl, if_pos rfl, e2]
  exact ⟨rfl, rfl, rfl⟩
theorem wA_all : alL wA3 = [7] := by
  unfold alL wA3
  show List.map numOf (List.filter isNum [[104, 48, 48, 48, 48, 48, 55], [115, 48, 48, 48, 48, 48, 55]]) = [7]
  decide +kernel
theorem num7 : numVal [115, 48, 48, 48, 48, 48, 55] = 7 ∧ isNum [115, 48, 48, 48, 48, 48, 55] = true := by decide +kernel
end Go.Proofs.YtmekkbhblghbmaaGreatDoor
