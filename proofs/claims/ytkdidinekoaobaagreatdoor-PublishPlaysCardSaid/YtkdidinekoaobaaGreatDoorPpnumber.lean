/- The program's number of an object's name. -/
import Derived.Test.YtkdidinekoaobaaGreatDoorPb
import Derived.Test.YtkdidinekoaobaaGreatDoorPrefw
namespace Go.Proofs.YtkdidinekoaobaaGreatDoor.P
open Go.RowKit Go.Shelf M J
set_option linter.unusedVariables false
set_option linter.unusedSimpArgs false

open Classical in
/-- The number of an object's name, if it is one. -/
noncomputable def pn (s : List UInt8) : Int × Bool := if onum s = -1 then (0, false) else (onum s, true)
theorem pn_yes {s : List UInt8} {k : Int} (h1 : 0 ≤ k ∧ k ≤ 999999) (h2 : ob k = s) : pn s = (k, true) := by
  unfold pn
  rw [on_yes h1 h2, if_neg (by omega)]
theorem pn_no {s : List UInt8} (h : ∀ k : Int, (0 ≤ k ∧ k ≤ 999999) → ob k ≠ s) : pn s = (0, false) := by
  unfold pn
  rw [on_no h, if_pos rfl]
theorem trimo_any (s : List UInt8) (w : World) : Calls Tryz.prog 65 #[.string (bs s), .string ⟨#[111]⟩] w fun e w' => e = .returned (.string (bs (Lib.trimPrefix s [111]))) ∧ w = w' :=
  (Any.strings_TrimPrefix laysTrim (bs s) ⟨#[111]⟩ w).mono fun e w' ⟨h1, h2⟩ => ⟨h1, h2.symm⟩
theorem trim_ob {s : List UInt8} {v : Int} (h1 : 0 ≤ v ∧ v ≤ 999999) (h2 : ob v = s) : Lib.atoiAll (Lib.trimPrefix s [111]) = .ok v := by
  rw [ob_yes h1] at h2
  rw [← h2, show Lib.trimPrefix (111 :: dig v.toNat) [111] = dig v.toNat by simp [Lib.trimPrefix, Lib.hasPrefix], atoi_dig (by omega)]
  congr 1
  omega

set_option maxRecDepth 100000 in
set_option maxHeartbeats 1000000 in
theorem pnumber_any (s : List UInt8) (w : World) (hV : Vt w) (hs : s.length ≤ 1000) : Calls Tryz.prog 57 #[.string (bs s)] w fun e w' => e = .returned (.tuple #[.int .i64 (pn s).1, .bool (pn s).2]) ∧ Below w.heap.size w w' := by
  have HT := Lib.hid (trimo_any s w)
  have htl : (Lib.trimPrefix s [111]).length ≤ 1000 := by
    unfold Lib.trimPrefix
    split
    · rw [List.length_drop]; omega
    · exact hs
  by_cases hx : ∃ v, Lib.atoiAll (Lib.trimPrefix s [111]) = .ok v
  · obtain ⟨v, hx⟩ := hx
    have hb := Lib.atoiAll_bounds hx
    have HA := Lib.hid (atoi_ok _ v w htl hx)
    have HN := Lib.hid (fun W (hW : Below w.heap.size w W) => manC.object (v := v) (w := W) (hV.later hW) (by unfold i64; omega))
    have hcmp : ((bs (ob v)).toList == (bs s).toList) = decide (ob v = s) := by
      rw [bs_toList, bs_toList]
      by_cases h : ob v = s
      · rw [decide_eq_true h]; simpa using h
      · rw [decide_eq_false h]; simpa using h
    by_cases h : ob v = s
    · have hr : 0 ≤ v ∧ v ≤ 999999 := by
        refine Decidable.byContradiction fun hn => ?_
        rw [ob_no hn] at h
        subst h
        rw [show Lib.trimPrefix [] [111] = [] by simp [Lib.trimPrefix, Lib.hasPrefix]] at hx
        simp [Lib.atoiAll] at hx
      have HV := Lib.hid (pn_yes hr h)
      rw [decide_eq_true h] at hcmp
      rw [HV.out]
      clear h hr hx hs htl hV
      generalize bs s = X at *
      generalize bs (Lib.trimPrefix s [111]) = Y at *
      generalize bs (ob v) = Z at *
      go_enter Tryz.func57, Tryz.ntmps57
      go_wp2_with fail
      refine HT.out.mono ?_
      rintro e w1 ⟨rfl, rfl⟩
      go_wp2_with fail
      refine HA.out.mono ?_
      rintro e w2 ⟨rfl, b2⟩
      go_wp2_with fail
      refine (HN.out _ b2).mono ?_
      rintro e w3 ⟨rfl, b3⟩
      have HF := Lib.hid (b2.trans (b3.mono b2.size))
      go_wp2_with fail
      go_ret2
      exact ⟨rfl, HF.out⟩
    · have HV := Lib.hid (pn_no (s := s) (fun v' hv1 hv2 => h (by
        have := trim_ob hv1 hv2
        rw [hx] at this
        injection this with this
        rw [this]; exact hv2)))
      rw [decide_eq_false h] at hcmp
      rw [HV.out]
      clear h hx hs htl hV
      generalize bs s = X at *
      generalize bs (Lib.trimPrefix s [111]) = Y at *
      generalize bs (ob v) = Z at *
      go_enter Tryz.func57, Tryz.ntmps57
      go_wp2_with fail
      refine HT.out.mono ?_
      rintro e w1 ⟨rfl, rfl⟩
      go_wp2_with fail
      refine HA.out.mono ?_
      rintro e w2 ⟨rfl, b2⟩
      go_wp2_with fail
      refine (HN.out _ b2).mono ?_
      rintro e w3 ⟨rfl, b3⟩
      have HF := Lib.hid (b2.trans (b3.mono b2.size))
      go_wp2_with fail
      go_ret2
      exact ⟨rfl, HF.out⟩
  · have HA := Lib.hid (atoi_err _ w hV htl (fun v h => hx ⟨v, h⟩))
    have HV := Lib.hid (pn_no (s := s) (fun v' hv1 hv2 => hx ⟨v', trim_ob hv1 hv2⟩))
    rw [HV.out]
    clear hx hs htl hV
    generalize bs s = X at *
    generalize bs (Lib.trimPrefix s [111]) = Y at *
    go_enter Tryz.func57, Tryz.ntmps57
    go_wp2_with fail
    refine HT.out.mono ?_
    rintro e w1 ⟨rfl, rfl⟩
    go_wp2_with fail
    refine HA.out.mono ?_
    rintro e w2 ⟨⟨v, te, N, rfl⟩, b2⟩
    go_wp2_with fail
    go_ret2
    exact ⟨rfl, b2⟩
end Go.Proofs.YtkdidinekoaobaaGreatDoor.P
