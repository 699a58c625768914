/- The document's remote: its calls, one by one. -/
import Derived.Test.YtadfajeiihonfaaMlay
namespace Go.Proofs.Ytadfajeiihonfaa
open Go.RowKit
set_option linter.unusedVariables false

/-- What is behind a call of the document's remote. -/
def RfPost (B qb : Nat) (lv sv : Value) (S' : Rs) (r : Value) (w : World) (e : Ending) (w' : World) : Prop := e = .returned r ∧ RfStep B qb lv sv w S' w'

/-- A step behind a step. -/
theorem RfStep.on {B qb : Nat} {lv sv lv1 sv1 : Value} {w w1 w2 : World} {S' : Rs} (f1 : ∀ k, rfoot qb lv1 sv1 k → rfoot qb lv sv k ∨ w.heap.size ≤ k) (t1 : Turn (fun k => k = qb) w w1) (h : RfStep B qb lv1 sv1 w1 S' w2) : RfStep B qb lv sv w S' w2 := by
  obtain ⟨lv2, sv2, k1, k2, k3⟩ := h
  refine ⟨lv2, sv2, k1, fun k hk => ?_, t1.trans k3⟩
  rcases k2 k hk with hk | hk
  · exact f1 k hk
  · exact Or.inr (Nat.le_trans t1.size hk)

set_option maxHeartbeats 1000000 in
theorem refput_any {B qb : Nat} {lv sv : Value} {S : Rs} {w : World} {n b : List UInt8} (h : Rf B w qb lv sv S) (hc : S.n < 1000000000000) (hf : S.obs.length < 1000000000) (hn : n.length ≤ 9223372036854775807) :
    Calls Try.prog 9 #[.pointer (some ⟨qb, 0, none⟩), .string (bs n), .string (bs b)] w (RfPost B qb lv sv (takes S (lays S.obs n b)) (.int .i64 (errOf S 0)) w) := by
  have HF := Lib.hid (reffate_any h hc)
  rcases fate_three S with hk | hk | hk
  · rw [takes_lost _ hk, err_far _ (Or.inl hk)]
    have HK := Lib.hid hk
    clear h hk
    go_enter Try.func9, Try.ntmps9
    go_wp2_with fail
    refine HF.out.mono ?_
    rintro e w1 ⟨rfl, hs⟩
    rw [HK.out]
    go_wp2_with fail
    go_ret
    exact ⟨rfl, hs⟩
  · rw [takes_other _ (by omega), err_far _ (Or.inr hk)]
    have HK := Lib.hid hk
    clear h hk
    go_enter Try.func9, Try.ntmps9
    go_wp2_with fail
    refine HF.out.mono ?_
    rintro e w1 ⟨rfl, lv1, sv1, h1, f1, t1⟩
    rw [HK.out]
    have HL := Lib.hid (lay_any h1 n b hn hf)
    have HT := Lib.hid (And.intro f1 t1)
    clear h1 f1 t1
    go_wp2_with fail
    refine HL.out.mono ?_
    rintro e w2 ⟨rfl, hs2⟩
    have HS2 := Lib.hid hs2; clear hs2
    go_wp2_with fail
    go_ret
    exact ⟨rfl, RfStep.on HT.out.1 HT.out.2 HS2.out⟩
  · rw [takes_other _ hk.1, err_fine _ (by unfold far; omega)]
    obtain ⟨k1, k2⟩ := hk
    clear h
    go_enter Try.func9, Try.ntmps9
    go_wp2_with fail
    refine HF.out.mono ?_
    rintro e w1 ⟨rfl, lv1, sv1, h1, f1, t1⟩
    have HL := Lib.hid (lay_any h1 n b hn hf)
    have HT := Lib.hid (And.intro f1 t1)
    have j1 : (fateOf S == 1) = false := by simpa using k1
    have j2 : (fateOf S == 2) = false := by simpa using k2
    clear h1 f1 t1 k1 k2
    go_wp2_with fail
    refine HL.out.mono ?_
    rintro e w2 ⟨rfl, hs2⟩
    have HS2 := Lib.hid hs2; clear hs2
    go_wp2_with fail
    go_ret
    exact ⟨rfl, RfStep.on HT.out.1 HT.out.2 HS2.out⟩

set_option maxHeartbeats 1000000 in
theorem refdelete_any {B qb : Nat} {lv sv : Value} {S : Rs} {w : World} {n : List UInt8} (h : Rf B w qb lv sv S) (hc : S.n < 1000000000000) (hf : S.obs.length < 1000000000) :
    Calls Try.prog 15 #[.pointer (some ⟨qb, 0, none⟩), .string (bs n)] w (RfPost B qb lv sv (takes S (wo Ob.nm S.obs n)) (.int .i64 (errOf S 0)) w) := by
  have HF := Lib.hid (reffate_any h hc)
  rcases fate_three S with hk | hk | hk
  · rw [takes_lost _ hk, err_far _ (Or.inl hk)]
    have HK := Lib.hid hk
    clear h hk
    go_enter Try.func15, Try.ntmps15
    go_wp2_with fail
    refine HF.out.mono ?_
    rintro e w1 ⟨rfl, hs⟩
    rw [HK.out]
    go_wp2_with fail
    go_ret
    exact ⟨rfl, hs⟩
  · rw [takes_other _ (by omega), err_far _ (Or.inr hk)]
    have HK := Lib.hid hk
    clear h hk
    go_enter Try.func15, Try.ntmps15
    go_wp2_with fail
    refine HF.out.mono ?_
    rintro e w1 ⟨rfl, lv1, sv1, h1, f1, t1⟩
    rw [HK.out]
    have HL := Lib.hid (without_any h1 n hf)
    have HT := Lib.hid (And.intro f1 t1)
    clear h1 f1 t1
    go_wp2_with fail
    refine HL.out.mono ?_
    rintro e w2 ⟨rfl, hs2⟩
    have HS2 := Lib.hid hs2; clear hs2
    go_wp2_with fail
    go_ret
    exact ⟨rfl, RfStep.on HT.out.1 HT.out.2 HS2.out⟩
  · rw [takes_other _ hk.1, err_fine _ (by unfold far; omega)]
    obtain ⟨k1, k2⟩ := hk
    clear h
    go_enter Try.func15, Try.ntmps15
    go_wp2_with fail
    refine HF.out.mono ?_
    rintro e w1 ⟨rfl, lv1, sv1, h1, f1, t1⟩
    have HL := Lib.hid (without_any h1 n hf)
    have HT := Lib.hid (And.intro f1 t1)
    have j1 : (fateOf S == 1) = false := by simpa using k1
    have j2 : (fateOf S == 2) = false := by simpa using k2
    clear h1 f1 t1 k1 k2
    go_wp2_with fail
    refine HL.out.mono ?_
    rintro e w2 ⟨rfl, hs2⟩
    have HS2 := Lib.hid hs2; clear hs2
    go_wp2_with fail
    go_ret
    exact ⟨rfl, RfStep.on HT.out.1 HT.out.2 HS2.out⟩

/-- Where the object of a name stands. -/
theorem look_at {l : List Ob} {n : List UInt8} {f : Ob} (h : look l n = some f) : ∃ i : Nat, l[i]? = some f ∧ f.nm = n := by
  obtain ⟨h1, h2⟩ := look_mem h
  obtain ⟨i, hi, e⟩ := List.mem_iff_getElem.1 h1
  exact ⟨i, by rw [← e]; exact List.getElem?_eq_getElem hi, h2⟩
/-- What at tells. -/
def atOf (l : List Ob) (n : List UInt8) (x : Int) : Prop := (look l n = none ∧ x = -1) ∨ ∃ (i : Nat) (f : Ob), look l n = some f ∧ l[i]? = some f ∧ f.nm = n ∧ x = i
theorem refat_any {B qb : Nat} {lv sv : Value} {S : Rs} {w : World} {n : List UInt8} (h : Rf B w qb lv sv S) (hcs : S.obs.length < 1000000000) :
    ∃ x, atOf S.obs n x ∧ Calls Try.prog 26 #[.pointer (some ⟨qb, 0, none⟩), .string (bs n)] w fun e w' => e = .returned (.int .i64 x) ∧ w = w' := by
  cases hf : look S.obs n with
  | none => exact ⟨-1, Or.inl ⟨hf, rfl⟩, refat_no h hf hcs⟩
  | some f =>
    obtain ⟨i, hi, hfn⟩ := look_at hf
    exact ⟨i, Or.inr ⟨i, f, hf, hi, hfn, rfl⟩, refat_yes h hi hfn hcs⟩

end Go.Proofs.Ytadfajeiihonfaa
