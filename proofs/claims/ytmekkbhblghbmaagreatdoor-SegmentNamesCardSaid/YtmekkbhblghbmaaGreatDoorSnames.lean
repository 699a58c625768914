/- SegmentNames, walked. -/
import Derived.Test.YtmekkbhblghbmaaGreatDoorSsegC
import Derived.Test.YtmekkbhblghbmaaGreatDoorSawake
namespace Go.Proofs.YtmekkbhblghbmaaGreatDoor
open Go.RowKit
set_option linter.unusedVariables false

theorem bs_same (a : List UInt8) : ((bs a).toList == (bs a).toList) = true := by simp

set_option maxRecDepth 100000 in
set_option maxHeartbeats 4000000 in
theorem names_walk (n : Int) (l : List UInt8) (w : World) (hT : Tb w.heap.size w) (hn1 : -9223372036854775808 ≤ n) (hn2 : n ≤ 9223372036854775807) (hl : l.length ≤ 9223372036854775807) :
    Calls Tryz.prog 4 #[.int .i64 n, .string (bs l)] w fun e w' => e = .returned (.bool true) ∧ Below w.heap.size w w' := by
  have HA := Lib.hid (awake8_any segC w hT)
  have hz : (bs l).size = l.length := bs_size l
  have HT := Lib.hid hT
  clear hT
  by_cases h100 : 100 < l.length
  · generalize bs l = X at *
    have h100' : (100 : Int) < (X.size : Int) := by omega
    go_enter Tryz.func4, Tryz.ntmps4
    go_wp2_with fail
    refine HA.out.mono ?_
    rintro e w1 ⟨rfl, hb1⟩
    go_wp2_with fail
    go_ret
    exact ⟨rfl, hb1⟩
  · have h100' : ¬ (100 : Int) < ((bs l).size : Int) := by omega
    have HN1 := Lib.hid (fun (W : World) => snumber_any l W (by omega))
    have HN2 := Lib.hid (fun (W : World) => refNumber_any l W hl)
    have HNM := Lib.hid (fun (W : World) (hW : Below w.heap.size w W) => nmC.name n W (HT.out.below hW) hn1 hn2)
    have HHN := Lib.hid (fun (W : World) (hW : Below w.heap.size w W) => nmC.hints n W (HT.out.below hW) hn1 hn2)
    have HRM := Lib.hid (refName_any n)
    have HRH := Lib.hid (refHints_any n)
    have HN3 := Lib.hid (fun (W : World) => snumber_any (nameOf 115 n) W (by have := nameOf_len 115 n; omega))
    have e1 := bs_same (nameOf 115 n)
    have e2 := bs_same (nameOf 104 n)
    have hpart : (0 ≤ n ∧ n ≤ 999999 ∧ isNum (nameOf 115 n) = true ∧ numVal (nameOf 115 n) = n) ∨ (¬ (0 ≤ n ∧ n ≤ 999999) ∧ isNum (nameOf 115 n) = false) := by
      by_cases h : segOk n
      · refine Or.inl ⟨h.1, h.2, isNum_name h, ?_⟩
        unfold numVal
        rw [if_pos (isNum_name h), numOf_name h]
      · refine Or.inr ⟨h, ?_⟩
        rw [nameOf_no h]
        rfl
    generalize bs l = X at *
    generalize bs (nameOf 115 n) = N1 at *
    generalize bs (nameOf 104 n) = N2 at *
    generalize numVal (nameOf 115 n) = v3 at *
    generalize isNum (nameOf 115 n) = b3 at *
    generalize numVal l = v1 at *
    generalize isNum l = b1 at *
    rcases hpart with ⟨h0, h1, rfl, rfl⟩ | ⟨hno, rfl⟩
    · cases b1
      all_goals
        go_enter Tryz.func4, Tryz.ntmps4
        go_wp2_with fail
        refine HA.out.mono ?_
        rintro e w1 ⟨rfl, hb1⟩
        have B1 := Lib.hid hb1; clear hb1
        go_wp2_with fail
        refine (HN1.out _).mono ?_
        rintro e w2 ⟨rfl, hb2⟩
        have B2 := Lib.hid (B1.out.trans (hb2.mono B1.out.size)); clear hb2
        go_wp2_with fail
        refine (HN2.out _).mono ?_
        rintro e w3 ⟨rfl, hb3⟩
        have B3 := Lib.hid (B2.out.trans (hb3.mono B2.out.size)); clear hb3
        go_wp2_with fail
        refine (HNM.out _ B3.out).mono ?_
        rintro e w4 ⟨rfl, hb4⟩
        have B4 := Lib.hid (B3.out.trans (hb4.mono B3.out.size)); clear hb4
        go_wp2_with fail
        refine (HN3.out _).mono ?_
        rintro e w5 ⟨rfl, hb5⟩
        have B5 := Lib.hid (B4.out.trans (hb5.mono B4.out.size)); clear hb5
        go_wp2_with fail
        refine (HNM.out _ B5.out).mono ?_
        rintro e w6 ⟨rfl, hb6⟩
        have B6 := Lib.hid (B5.out.trans (hb6.mono B5.out.size)); clear hb6
        go_wp2_with fail
        refine (HRM.out _).mono ?_
        rintro e w7 ⟨rfl, hb7⟩
        have B7 := Lib.hid (B6.out.trans (hb7.mono B6.out.size)); clear hb7
        go_wp2_with fail
        refine (HHN.out _ B7.out).mono ?_
        rintro e w8 ⟨rfl, hb8⟩
        have B8 := Lib.hid (B7.out.trans (hb8.mono B7.out.size)); clear hb8
        go_wp2_with fail
        refine (HRH.out _).mono ?_
        rintro e w9 ⟨rfl, hb9⟩
        have B9 := Lib.hid (B8.out.trans (hb9.mono B8.out.size)); clear hb9
        go_wp2_with fail
        go_ret
        exact ⟨rfl, B9.out⟩
    · by_cases h0 : 0 ≤ n
      · have h1 : ¬ n ≤ 999999 := fun h => hno ⟨h0, h⟩
        clear hno
        cases b1
        all_goals
          go_enter Tryz.func4, Tryz.ntmps4
          go_wp2_with fail
          refine HA.out.mono ?_
          rintro e w1 ⟨rfl, hb1⟩
          have B1 := Lib.hid hb1; clear hb1
          go_wp2_with fail
          refine (HN1.out _).mono ?_
          rintro e w2 ⟨rfl, hb2⟩
          have B2 := Lib.hid (B1.out.trans (hb2.mono B1.out.size)); clear hb2
          go_wp2_with fail
          refine (HN2.out _).mono ?_
          rintro e w3 ⟨rfl, hb3⟩
          have B3 := Lib.hid (B2.out.trans (hb3.mono B2.out.size)); clear hb3
          go_wp2_with fail
          refine (HNM.out _ B3.out).mono ?_
          rintro e w4 ⟨rfl, hb4⟩
          have B4 := Lib.hid (B3.out.trans (hb4.mono B3.out.size)); clear hb4
          go_wp2_with fail
          refine (HN3.out _).mono ?_
          rintro e w5 ⟨rfl, hb5⟩
          have B5 := Lib.hid (B4.out.trans (hb5.mono B4.out.size)); clear hb5
          go_wp2_with fail
          refine (HNM.out _ B5.out).mono ?_
          rintro e w6 ⟨rfl, hb6⟩
          have B6 := Lib.hid (B5.out.trans (hb6.mono B5.out.size)); clear hb6
          go_wp2_with fail
          refine (HRM.out _).mono ?_
          rintro e w7 ⟨rfl, hb7⟩
          have B7 := Lib.hid (B6.out.trans (hb7.mono B6.out.size)); clear hb7
          go_wp2_with fail
          refine (HHN.out _ B7.out).mono ?_
          rintro e w8 ⟨rfl, hb8⟩
          have B8 := Lib.hid (B7.out.trans (hb8.mono B7.out.size)); clear hb8
          go_wp2_with fail
          refine (HRH.out _).mono ?_
          rintro e w9 ⟨rfl, hb9⟩
          have B9 := Lib.hid (B8.out.trans (hb9.mono B8.out.size)); clear hb9
          go_wp2_with fail
          go_ret
          exact ⟨rfl, B9.out⟩
      · clear hno
        cases b1
        all_goals
          go_enter Tryz.func4, Tryz.ntmps4
          go_wp2_with fail
          refine HA.out.mono ?_
          rintro e w1 ⟨rfl, hb1⟩
          have B1 := Lib.hid hb1; clear hb1
          go_wp2_with fail
          refine (HN1.out _).mono ?_
          rintro e w2 ⟨rfl, hb2⟩
          have B2 := Lib.hid (B1.out.trans (hb2.mono B1.out.size)); clear hb2
          go_wp2_with fail
          refine (HN2.out _).mono ?_
          rintro e w3 ⟨rfl, hb3⟩
          have B3 := Lib.hid (B2.out.trans (hb3.mono B2.out.size)); clear hb3
          go_wp2_with fail
          refine (HNM.out _ B3.out).mono ?_
          rintro e w4 ⟨rfl, hb4⟩
          have B4 := Lib.hid (B3.out.trans (hb4.mono B3.out.size)); clear hb4
          go_wp2_with fail
          refine (HN3.out _).mono ?_
          rintro e w5 ⟨rfl, hb5⟩
          have B5 := Lib.hid (B4.out.trans (hb5.mono B4.out.size)); clear hb5
          go_wp2_with fail
          refine (HNM.out _ B5.out).mono ?_
          rintro e w6 ⟨rfl, hb6⟩
          have B6 := Lib.hid (B5.out.trans (hb6.mono B5.out.size)); clear hb6
          go_wp2_with fail
          refine (HRM.out _).mono ?_
          rintro e w7 ⟨rfl, hb7⟩
          have B7 := Lib.hid (B6.out.trans (hb7.mono B6.out.size)); clear hb7
          go_wp2_with fail
          refine (HHN.out _ B7.out).mono ?_
          rintro e w8 ⟨rfl, hb8⟩
          have B8 := Lib.hid (B7.out.trans (hb8.mono B7.out.size)); clear hb8
          go_wp2_with fail
          refine (HRH.out _).mono ?_
          rintro e w9 ⟨rfl, hb9⟩
          have B9 := Lib.hid (B8.out.trans (hb9.mono B8.out.size)); clear hb9
          go_wp2_with fail
          go_ret
          exact ⟨rfl, B9.out⟩
theorem names_of (n : Int) (l : List UInt8) (w : World) (hT : Tb w.heap.size w) (h0 : (Lit.int .i64 n).wf = true) (hl : l.length ≤ 9223372036854775807) :
    Calls Tryz.prog 4 #[.int .i64 n, .string (bs l)] w fun e w' => e = .returned (.bool true) ∧ Below w.heap.size w w' := by
  have h := wf_i64 h0
  exact names_walk n l w hT h.1 h.2 hl
end Go.Proofs.YtmekkbhblghbmaaGreatDoor
