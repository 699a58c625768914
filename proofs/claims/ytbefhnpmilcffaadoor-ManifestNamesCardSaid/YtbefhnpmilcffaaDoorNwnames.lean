/- ManifestNames and ManifestOrder, over what is asked of the program's manifests. -/
import Derived.Test.YtbefhnpmilcffaaDoorNwant
namespace Go.Proofs.YtbefhnpmilcffaaDoor.J
open Go.RowKit
set_option linter.unusedVariables false
set_option linter.unusedSimpArgs false

set_option maxRecDepth 100000 in
set_option maxHeartbeats 2000000 in
theorem names_walk (C : ManC) (n : Int) (s b : List UInt8) (w : World) (hV : Vt w) (hn : i64 n) (hs : s.length ≤ 9223372036854775807) (hb : b.length ≤ 9223372036854775807) :
    Calls Tryd.prog 4 #[.int .i64 n, .string (bs s), .string (bs b)] w fun e w' => e = .returned (.bool true) ∧ Below w.heap.size w w' := by
  have HAW := Lib.hid (awake_any C w hV); have HVT := Lib.hid hV; clear hV
  have HC := Lib.hid C; have HNI := Lib.hid hn
  have z1 : ((bs s).size : Int) = (s.length : Int) := by rw [bs_size]
  have z2 : ((bs b).size : Int) = (b.length : Int) := by rw [bs_size]
  by_cases h1 : 100 < s.length
  · have g1 : (100 : Int) < ((bs s).size : Int) := by omega
    have g2 : 100 < (bs s).size := by omega
    clear h1 z1 z2 hs hb hn C
    generalize bs s = X at *
    generalize bs b = Y at *
    go_enter Tryd.func4, Tryd.ntmps4
    go_wp2_with (go_at_call 7; refine HAW.out.mono ?_; rintro e w1 ⟨rfl, b1⟩)
    go_ret
    exact ⟨rfl, b1⟩
  · by_cases h2 : 1000 < b.length
    · have g1 : ¬ (100 : Int) < ((bs s).size : Int) := by omega
      have g2 : (1000 : Int) < ((bs b).size : Int) := by omega
      clear h1 h2 z1 z2 hs hb hn C
      generalize bs s = X at *
      generalize bs b = Y at *
      go_enter Tryd.func4, Tryd.ntmps4
      go_wp2_with (go_at_call 7; refine HAW.out.mono ?_; rintro e w1 ⟨rfl, b1⟩)
      go_ret
      exact ⟨rfl, b1⟩
    · have g1 : ¬ (100 : Int) < ((bs s).size : Int) := by omega
      have g2 : ¬ (1000 : Int) < ((bs b).size : Int) := by omega
      have HV := Lib.hid (fun W (hW : Below w.heap.size w W) => C.ver (s := s) (w := W) (HVT.out.later hW) (by omega))
      have HRV := Lib.hid (fun W => refversion_any (bs s) W (by rw [bs_size]; omega))
      have HF := Lib.hid (fun W => C.of (n := n) (b := b) (w := W) hn (by omega))
      have HRF := Lib.hid (fun W => refof_any n (bs b) W (by rw [bs_size]; omega))
      have HNM := Lib.hid (fun W (hW : Below w.heap.size w W) => C.name (v := n) (w := W) (HVT.out.later hW) hn)
      have HRN := Lib.hid (fun W => refname_any n W hn.1 hn.2)
      have HOB := Lib.hid (fun W (hW : Below w.heap.size w W) => C.object (v := n) (w := W) (HVT.out.later hW) hn)
      have HRO := Lib.hid (fun W => refobject_any n W hn.1 hn.2)
      rw [bs_list] at HRV HRF
      rw [z2] at HRF
      have y1 : ((bs (nm n)).toList == (bs (nm n)).toList) = true := by simp
      have y2 : ((bs (ob n)).toList == (bs (ob n)).toList) = true := by simp
      have y3 : ((vr s).1 == (vr s).1) = true := by simp
      have y4 : ((vr s).2 == (vr s).2) = true := by simp
      have y5 : (n == n) = true := by simp
      have y6 : ((b.length : Int) == (b.length : Int)) = true := by simp
      have y7 : ((sum b : Int) == (sum b : Int)) = true := by simp
      clear h1 h2 z1 z2 hs hb hn C
      generalize (vr s).1 = v1 at *
      generalize (vr s).2 = v2 at *
      generalize (sum b : Int) = sb at *
      generalize (b.length : Int) = lb at *
      generalize bs (nm n) = N1 at *
      generalize bs (ob n) = O1 at *
      generalize bs s = X at *
      generalize bs b = Y at *
      go_enter Tryd.func4, Tryd.ntmps4
      go_wp2_with fail
      refine HAW.out.mono ?_
      rintro e w1 ⟨rfl, b1⟩
      go_wp2_with fail
      refine (HV.out _ b1).mono ?_
      rintro e w2 ⟨rfl, b2⟩
      go_wp2_with fail
      refine (HRV.out _).mono ?_
      rintro e w3 ⟨rfl, b3⟩
      go_wp2_with fail
      refine (HF.out _).mono ?_
      rintro e w4 ⟨rfl, b4⟩
      go_wp2_with fail
      refine (HRF.out _).mono ?_
      rintro e w5 ⟨rfl, b5⟩
      have hn4 := heap_alloc_new w4 (.cells #[.int .i64 n, .int .i64 lb, .int .u32 sb] 46)
      have hl4 : w4.heap.size < (w4.alloc (.cells #[.int .i64 n, .int .i64 lb, .int .u32 sb] 46)).heap.size := by simp
      have hn5 := heap_alloc_new w5 (.cells #[.int .i64 n, .int .i64 lb, .int .u32 sb] 48)
      have hb5a : Below w5.heap.size w5 (w5.alloc (.cells #[.int .i64 n, .int .i64 lb, .int .u32 sb] 48)) := (Below.refl _ _).alloc (Nat.le_refl _) _
      have hn45 : w5.heap[w4.heap.size]? = some (.cells #[.int .i64 n, .int .i64 lb, .int .u32 sb] 46 (0, 0)) := (b5.block _ hl4).trans hn4
      have hn46 := (hb5a.block _ (Array.getElem?_eq_some_iff.1 hn45).1).trans hn45
      have hbw : Below w.heap.size w (w5.alloc (.cells #[.int .i64 n, .int .i64 lb, .int .u32 sb] 48)) := by
        have h2 := b1.trans (b2.mono b1.size)
        have h3 := h2.trans (b3.mono h2.size)
        have h4 := h3.trans (b4.mono h3.size)
        have h4a := h4.alloc h4.size (.cells #[.int .i64 n, .int .i64 lb, .int .u32 sb] 46)
        have h5 := h4a.trans (b5.mono h4a.size)
        exact h5.alloc h5.size _
      have HBW := Lib.hid hbw; have H4 := Lib.hid hn46; have H5 := Lib.hid hn5
      clear hn4 hl4 hn5 hb5a hn45 hn46 hbw b1 b2 b3 b4 b5
      go_wp2_with fail
      generalize w4.heap.size = q4 at *
      generalize w5.heap.size = q5 at *
      generalize w5.alloc _ = w6 at *
      refine (HNM.out _ HBW.out).mono ?_
      rintro e w7 ⟨rfl, b7⟩
      go_wp2_with fail
      refine (HRN.out _).mono ?_
      rintro e w8 ⟨rfl, b8⟩
      go_wp2_with fail
      refine (HOB.out _ (HBW.out.trans ((b7.trans (b8.mono b7.size)).mono HBW.out.size))).mono ?_
      rintro e w9 ⟨rfl, b9⟩
      go_wp2_with fail
      refine (HRO.out _).mono ?_
      rintro e w10 ⟨rfl, b10⟩
      have O10 : Below w6.heap.size w6 w10 := by
        have h8 := b7.trans (b8.mono b7.size)
        have h9 := h8.trans (b9.mono h8.size)
        exact h9.trans (b10.mono h9.size)
      have hc4 := fun t => cell_of_row w10 q4 t _ _ (0, 0) ((O10.block q4 (Array.getElem?_eq_some_iff.1 H4.out).1).trans H4.out)
      have hc5 := fun t => cell_of_row w10 q5 t _ _ (0, 0) ((O10.block q5 (Array.getElem?_eq_some_iff.1 H5.out).1).trans H5.out)
      have c0 := hc4 0; have c1 := hc4 1; have c2 := hc4 2; have d0 := hc5 0; have d1 := hc5 1; have d2 := hc5 2
      simp only [List.getElem?_toArray, List.getElem?_cons_succ, List.getElem?_cons_zero] at c0 c1 c2 d0 d1 d2
      have HF10 := Lib.hid (HBW.out.trans (O10.mono HBW.out.size))
      clear hc4 hc5 O10 b7 b8 b9 b10
      go_wp2_with fail
      go_ret
      exact ⟨rfl, HF10.out⟩

set_option maxRecDepth 100000 in
set_option maxHeartbeats 2000000 in
theorem order_walk (C : ManC) (a b : Int) (w : World) (hV : Vt w) (ha : i64 a) (hb : i64 b) :
    Calls Tryd.prog 6 #[.int .i64 a, .int .i64 b] w fun e w' => e = .returned (.bool true) ∧ Below w.heap.size w w' := by
  have HAW := Lib.hid (awake_any C w hV); have HVT := Lib.hid hV; clear hV
  have HNA := Lib.hid (fun W (hW : Below w.heap.size w W) => C.name (v := a) (w := W) (HVT.out.later hW) ha)
  have HNB := Lib.hid (fun W (hW : Below w.heap.size w W) => C.name (v := b) (w := W) (HVT.out.later hW) hb)
  have hnl : (nm a).length ≤ 1000 := by unfold nm; split <;> simp [dig_len]
  have hol : (ob b).length ≤ 1000 := by unfold ob; split <;> simp [dig_len]
  have HVA := Lib.hid (fun W (hW : Below w.heap.size w W) => C.ver (s := nm a) (w := W) (HVT.out.later hW) hnl)
  have HVB := Lib.hid (fun W (hW : Below w.heap.size w W) => C.ver (s := ob b) (w := W) (HVT.out.later hW) hol)
  have HOB := Lib.hid (fun W (hW : Below w.heap.size w W) => C.object (v := b) (w := W) (HVT.out.later hW) hb)
  rw [vr_ob] at HVB
  unfold i64 at ha hb
  by_cases hin : (1 ≤ a ∧ a ≤ 999999) ∧ (1 ≤ b ∧ b ≤ 999999)
  · obtain ⟨h1, h2⟩ := hin
    rw [vr_nm h1] at HVA
    have hlt : Op.bytesLess (bs (nm a)).toList (bs (nm b)).toList = decide (a < b) := by rw [bs_toList, bs_toList]; exact nm_lt h1 h2
    have hsz : (bs (nm a)).size = 7 := by rw [bs_size, nm_yes h1]; rfl
    obtain ⟨a1, a2⟩ := h1
    obtain ⟨b1', b2'⟩ := h2
    have y1 : (a == a) = true := by simp
    have y2 : (decide (a < b) == decide (a < b)) = true := by simp
    clear C hnl hol ha hb
    have x1 : ¬ a < 1 := by omega
    have x2 : ¬ b < 1 := by omega
    have x3 : ¬ (999999 : Int) < a := by omega
    have x4 : ¬ (999999 : Int) < b := by omega
    generalize bs (nm a) = X at *
    generalize bs (nm b) = Y at *
    generalize bs (ob b) = Z at *
    have HLT := Lib.hid hlt
    go_enter Tryd.func6, Tryd.ntmps6
    go_wp2_with fail
    refine HAW.out.mono ?_
    rintro e w1 ⟨rfl, b1⟩
    go_wp2_with fail
    refine (HNA.out _ b1).mono ?_
    rintro e w2 ⟨rfl, b2⟩
    go_wp2_with fail
    have c2 := b1.trans (b2.mono b1.size)
    refine (HNB.out _ c2).mono ?_
    rintro e w3 ⟨rfl, b3⟩
    go_wp2_with fail
    have c3 := c2.trans (b3.mono c2.size)
    refine (HVA.out _ c3).mono ?_
    rintro e w4 ⟨rfl, b4⟩
    go_wp2_with fail
    have c4 := c3.trans (b4.mono c3.size)
    refine (HOB.out _ c4).mono ?_
    rintro e w5 ⟨rfl, b5⟩
    go_wp2_with fail
    have c5 := c4.trans (b5.mono c4.size)
    refine (HVB.out _ c5).mono ?_
    rintro e w6 ⟨rfl, b6⟩
    have HF : Hid (Below w.heap.size w w6) := Lib.hid (by
      have h2 := b1.trans (b2.mono b1.size)
      have h3 := h2.trans (b3.mono h2.size)
      have h4 := h3.trans (b4.mono h3.size)
      have h5 := h4.trans (b5.mono h4.size)
      exact h5.trans (b6.mono h5.size))
    clear b1 b2 b3 b4 b5 b6 c2 c3 c4 c5
    go_wp2_with fail
    go_ret
    exact ⟨rfl, HF.out⟩
  · have hcs : a < 1 ∨ (¬ a < 1 ∧ b < 1) ∨ (¬ a < 1 ∧ ¬ b < 1 ∧ 999999 < a) ∨ (¬ a < 1 ∧ ¬ b < 1 ∧ ¬ 999999 < a ∧ 999999 < b) := by omega
    clear hin C hnl hol ha hb
    generalize (vr (nm a)).1 = v1 at *
    generalize (vr (nm a)).2 = v2 at *
    generalize bs (nm a) = X at *
    generalize bs (nm b) = Y at *
    generalize bs (ob b) = Z at *
    rcases hcs with x1 | ⟨x1, x2⟩ | ⟨x1, x2, x3⟩ | ⟨x1, x2, x3, x4⟩
    all_goals
      go_enter Tryd.func6, Tryd.ntmps6
      go_wp2_with fail
      refine HAW.out.mono ?_
      rintro e w1 ⟨rfl, b1⟩
      go_wp2_with fail
      refine (HNA.out _ b1).mono ?_
      rintro e w2 ⟨rfl, b2⟩
      go_wp2_with fail
      have c2 := b1.trans (b2.mono b1.size)
      refine (HNB.out _ c2).mono ?_
      rintro e w3 ⟨rfl, b3⟩
      go_wp2_with fail
      have c3 := c2.trans (b3.mono c2.size)
      refine (HVA.out _ c3).mono ?_
      rintro e w4 ⟨rfl, b4⟩
      go_wp2_with fail
      have c4 := c3.trans (b4.mono c3.size)
      refine (HOB.out _ c4).mono ?_
      rintro e w5 ⟨rfl, b5⟩
      go_wp2_with fail
      have c5 := c4.trans (b5.mono c4.size)
      refine (HVB.out _ c5).mono ?_
      rintro e w6 ⟨rfl, b6⟩
      have HF : Hid (Below w.heap.size w w6) := Lib.hid (by
        have h2 := b1.trans (b2.mono b1.size)
        have h3 := h2.trans (b3.mono h2.size)
        have h4 := h3.trans (b4.mono h3.size)
        have h5 := h4.trans (b5.mono h4.size)
        exact h5.trans (b6.mono h5.size))
      clear b1 b2 b3 b4 b5 b6 c2 c3 c4 c5
      go_wp2_with fail
      go_ret
      exact ⟨rfl, HF.out⟩
end Go.Proofs.YtbefhnpmilcffaaDoor.J
