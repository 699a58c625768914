/- The document's remote: PutNew, Get. -/
import Derived.Test.YtadfajeiihonfaaMrefcalls
namespace Go.Proofs.Ytadfajeiihonfaa
open Go.RowKit
set_option linter.unusedVariables false

theorem newL_none {l : List Ob} {n b : List UInt8} (h : look l n = none) : newL l n b = lays l n b := by unfold newL; rw [h]
theorem newL_some {l : List Ob} {n b : List UInt8} {f : Ob} (h : look l n = some f) : newL l n b = l := by unfold newL; rw [h]
theorem newE_none {l : List Ob} {n : List UInt8} (h : look l n = none) : newE l n = 0 := by unfold newE; rw [h]
theorem newE_some {l : List Ob} {n : List UInt8} {f : Ob} (h : look l n = some f) : newE l n = 7 := by unfold newE; rw [h]
theorem getB_none {l : List Ob} {n : List UInt8} (h : look l n = none) : getB l n = [] := by unfold getB; rw [h]
theorem getB_some {l : List Ob} {n : List UInt8} {f : Ob} (h : look l n = some f) : getB l n = f.bt := by unfold getB; rw [h]
theorem getE_none {l : List Ob} {n : List UInt8} (h : look l n = none) : getE l n = 5 := by unfold getE; rw [h]
theorem getE_some {l : List Ob} {n : List UInt8} {f : Ob} (h : look l n = some f) : getE l n = 0 := by unfold getE; rw [h]

set_option maxHeartbeats 2000000 in
theorem refputNew_any {B qb : Nat} {lv sv : Value} {S : Rs} {w : World} {n b : List UInt8} (h : Rf B w qb lv sv S) (hc : S.n < 1000000000000) (hf : S.obs.length < 1000000000) (hn : n.length ≤ 9223372036854775807) :
    Calls Try.prog 11 #[.pointer (some ⟨qb, 0, none⟩), .string (bs n), .string (bs b)] w (RfPost B qb lv sv (takes S (newL S.obs n b)) (.int .i64 (errOf S (newE S.obs n))) w) := by
  have HF := Lib.hid (reffate_any h hc)
  rcases hl : look S.obs n with _ | o <;> rcases fate_three S with hk | hk | hk
  · rw [newL_none hl, newE_none hl, takes_lost _ hk, err_far _ (Or.inl hk)]
    have HK := Lib.hid hk; have HL0 := Lib.hid hl
    clear h hk hl
    go_enter Try.func11, Try.ntmps11
    go_wp2_with fail
    refine HF.out.mono ?_
    rintro e w1 ⟨rfl, lv1, sv1, h1, f1, t1⟩
    rw [HK.out]
    have HA := Lib.hid (refat_no h1 HL0.out hf)
    have H1 := Lib.hid h1; have HT := Lib.hid (And.intro f1 t1)
    clear h1 f1 t1
    go_wp2_with fail
    refine HA.out.mono ?_
    rintro e w1' ⟨rfl, rfl⟩
    clear HA
    go_wp2_with fail
    go_ret
    exact ⟨rfl, ⟨lv1, sv1, H1.out, HT.out.1, HT.out.2⟩⟩
  · rw [newL_none hl, newE_none hl, takes_other _ (by omega), err_far _ (Or.inr hk)]
    have HK := Lib.hid hk; have HL0 := Lib.hid hl
    clear h hk hl
    go_enter Try.func11, Try.ntmps11
    go_wp2_with fail
    refine HF.out.mono ?_
    rintro e w1 ⟨rfl, lv1, sv1, h1, f1, t1⟩
    rw [HK.out]
    have HA := Lib.hid (refat_no h1 HL0.out hf)
    have H1 := Lib.hid h1; have HT := Lib.hid (And.intro f1 t1)
    clear h1 f1 t1
    go_wp2_with fail
    refine HA.out.mono ?_
    rintro e w1' ⟨rfl, rfl⟩
    clear HA
    have HL := Lib.hid (lay_any H1.out n b hn hf)
    go_wp2_with fail
    refine HL.out.mono ?_
    rintro e w2 ⟨rfl, hs2⟩
    have HS2 := Lib.hid hs2; clear hs2
    go_wp2_with fail
    go_ret
    exact ⟨rfl, RfStep.on HT.out.1 HT.out.2 HS2.out⟩
  · rw [newL_none hl, newE_none hl, takes_other _ hk.1, err_fine _ (by unfold far; omega)]
    have j1 : (fateOf S == 1) = false := by simpa using hk.1
    have j2 : (fateOf S == 2) = false := by simpa using hk.2
    have j3 : (fateOf S != 1) = true := by simp [bne, j1]
    obtain ⟨k1, k2⟩ := hk
    have HL0 := Lib.hid hl
    clear h hl
    go_enter Try.func11, Try.ntmps11
    go_wp2_with fail
    refine HF.out.mono ?_
    rintro e w1 ⟨rfl, lv1, sv1, h1, f1, t1⟩
    have HA := Lib.hid (refat_no h1 HL0.out hf)
    have H1 := Lib.hid h1; have HT := Lib.hid (And.intro f1 t1)
    clear h1 f1 t1
    go_wp2_with fail
    refine HA.out.mono ?_
    rintro e w1' ⟨rfl, rfl⟩
    clear HA
    have HL := Lib.hid (lay_any H1.out n b hn hf)
    go_wp2_with fail
    refine HL.out.mono ?_
    rintro e w2 ⟨rfl, hs2⟩
    have HS2 := Lib.hid hs2; clear hs2
    go_wp2_with fail
    go_ret
    exact ⟨rfl, RfStep.on HT.out.1 HT.out.2 HS2.out⟩
  · rw [newL_some hl, newE_some hl, takes_same, err_far _ (Or.inl hk)]
    have HK := Lib.hid hk; have HL0 := Lib.hid hl
    clear h hk hl
    go_enter Try.func11, Try.ntmps11
    go_wp2_with fail
    refine HF.out.mono ?_
    rintro e w1 ⟨rfl, lv1, sv1, h1, f1, t1⟩
    rw [HK.out]
    obtain ⟨i, hi, hfn⟩ := look_at HL0.out
    have HA := Lib.hid (refat_yes h1 hi hfn hf)
    clear hi hfn
    have H1 := Lib.hid h1; have HT := Lib.hid (And.intro f1 t1)
    clear h1 f1 t1
    go_wp2_with fail
    refine HA.out.mono ?_
    rintro e w1' ⟨rfl, rfl⟩
    clear HA
    go_wp2_with fail
    go_ret
    exact ⟨rfl, ⟨lv1, sv1, H1.out, HT.out.1, HT.out.2⟩⟩
  · rw [newL_some hl, newE_some hl, takes_same, err_far _ (Or.inr hk)]
    have HK := Lib.hid hk; have HL0 := Lib.hid hl
    clear h hk hl
    go_enter Try.func11, Try.ntmps11
    go_wp2_with fail
    refine HF.out.mono ?_
    rintro e w1 ⟨rfl, lv1, sv1, h1, f1, t1⟩
    rw [HK.out]
    obtain ⟨i, hi, hfn⟩ := look_at HL0.out
    have HA := Lib.hid (refat_yes h1 hi hfn hf)
    clear hi hfn
    have H1 := Lib.hid h1; have HT := Lib.hid (And.intro f1 t1)
    clear h1 f1 t1
    go_wp2_with fail
    refine HA.out.mono ?_
    rintro e w1' ⟨rfl, rfl⟩
    clear HA
    go_wp2_with fail
    go_ret
    exact ⟨rfl, ⟨lv1, sv1, H1.out, HT.out.1, HT.out.2⟩⟩
  · rw [newL_some hl, newE_some hl, takes_same, err_fine _ (by unfold far; omega)]
    have j1 : (fateOf S == 1) = false := by simpa using hk.1
    have j2 : (fateOf S == 2) = false := by simpa using hk.2
    have j3 : (fateOf S != 1) = true := by simp [bne, j1]
    obtain ⟨k1, k2⟩ := hk
    have HL0 := Lib.hid hl
    clear h hl
    go_enter Try.func11, Try.ntmps11
    go_wp2_with fail
    refine HF.out.mono ?_
    rintro e w1 ⟨rfl, lv1, sv1, h1, f1, t1⟩
    obtain ⟨i, hi, hfn⟩ := look_at HL0.out
    have HA := Lib.hid (refat_yes h1 hi hfn hf)
    clear hi hfn
    have H1 := Lib.hid h1; have HT := Lib.hid (And.intro f1 t1)
    clear h1 f1 t1
    go_wp2_with fail
    refine HA.out.mono ?_
    rintro e w1' ⟨rfl, rfl⟩
    clear HA
    go_wp2_with fail
    go_ret
    exact ⟨rfl, ⟨lv1, sv1, H1.out, HT.out.1, HT.out.2⟩⟩

set_option maxHeartbeats 2000000 in
theorem refget_any {B qb : Nat} {lv sv : Value} {S : Rs} {w : World} {n : List UInt8} (h : Rf B w qb lv sv S) (hc : S.n < 1000000000000) (hf : S.obs.length < 1000000000) :
    Calls Try.prog 13 #[.pointer (some ⟨qb, 0, none⟩), .string (bs n)] w (RfPost B qb lv sv (used S) (.tuple #[.string (bs (bytesIf S (getB S.obs n))), .int .i64 (errOf S (getE S.obs n))]) w) := by
  have HF := Lib.hid (reffate_any h hc)
  rcases fate_three S with hk | hk | hk
  · rw [err_far _ (Or.inl hk), bytes_far _ (Or.inl hk)]
    have HK := Lib.hid hk
    clear h hk
    go_enter Try.func13, Try.ntmps13
    go_wp2_with fail
    refine HF.out.mono ?_
    rintro e w1 ⟨rfl, hs⟩
    rw [HK.out]
    go_wp2_with fail
    go_ret2
    exact ⟨rfl, hs⟩
  · rw [err_far _ (Or.inr hk), bytes_far _ (Or.inr hk)]
    have HK := Lib.hid hk
    clear h hk
    go_enter Try.func13, Try.ntmps13
    go_wp2_with fail
    refine HF.out.mono ?_
    rintro e w1 ⟨rfl, hs⟩
    rw [HK.out]
    go_wp2_with fail
    go_ret2
    exact ⟨rfl, hs⟩
  · rw [err_fine _ (by unfold far; omega), bytes_fine _ (by unfold far; omega)]
    have j1 : (fateOf S == 1) = false := by simpa using hk.1
    have j2 : (fateOf S == 2) = false := by simpa using hk.2
    clear h hk
    rcases hl : look S.obs n with _ | o
    · rw [getB_none hl, getE_none hl]
      have HL0 := Lib.hid hl; clear hl
      go_enter Try.func13, Try.ntmps13
      go_wp2_with fail
      refine HF.out.mono ?_
      rintro e w1 ⟨rfl, lv1, sv1, h1, f1, t1⟩
      have HA := Lib.hid (refat_no h1 HL0.out hf)
      have H1 := Lib.hid h1; have HT := Lib.hid (And.intro f1 t1)
      clear h1 f1 t1
      go_wp2_with fail
      refine HA.out.mono ?_
      rintro e w1' ⟨rfl, rfl⟩
      clear HA
      go_wp2_with fail
      go_ret2
      exact ⟨rfl, ⟨lv1, sv1, H1.out, HT.out.1, HT.out.2⟩⟩
    · rw [getB_some hl, getE_some hl]
      have HL0 := Lib.hid hl; clear hl
      go_enter Try.func13, Try.ntmps13
      go_wp2_with fail
      refine HF.out.mono ?_
      rintro e w1 ⟨rfl, lv1, sv1, h1, f1, t1⟩
      obtain ⟨i, hi, hfn⟩ := look_at HL0.out
      have HA := Lib.hid (refat_yes h1 hi hfn hf)
      obtain ⟨c0, _, _, _⟩ := h1.cells
      obtain ⟨a, cap, hv⟩ := objs_form h1.row
      have hrow := h1.row
      subst hv
      obtain ⟨g, hg, _, hgl, d0, d1⟩ := objs_at hrow hi
      subst hg
      obtain ⟨L, hL⟩ : ∃ L, L = (used S).obs.length := ⟨_, rfl⟩
      have hil : i < L := by rw [hL]; exact (List.getElem?_eq_some_iff.1 hi).1
      have H1 := Lib.hid h1; have HT := Lib.hid (And.intro f1 t1)
      rw [← hL] at c0
      have hLf : L < 1000000000 := by rw [hL]; exact hf
      clear h1 f1 t1 hi hfn hrow hL
      go_wp2_with fail
      refine HA.out.mono ?_
      rintro e w1' ⟨rfl, rfl⟩
      clear HA
      go_wp2_with fail
      go_ret2
      exact ⟨rfl, ⟨_, sv1, H1.out, HT.out.1, HT.out.2⟩⟩
end Go.Proofs.Ytadfajeiihonfaa
