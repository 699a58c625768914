/- The small first test of the laws of this layer, and the walks of the three laws. -/
import Derived.Test.YteoggekhjokebaaDoorAplaces
import Derived.OpenShut
namespace Go.Proofs.YteoggekhjokebaaDoor
open Go.RowKit
set_option linter.unusedVariables false

theorem sumA : ((sumN [97] : Nat) : Int) = 12638187200555641996 := by kernel_rfl
theorem sumE : ((sumN [] : Nat) : Int) = 14695981039346656037 := by kernel_rfl
theorem mix0 : ((mixN 0 : Nat) : Int) = 0 := by kernel_rfl
theorem mix1 : (((mixN 1 : Nat) : Int) != 1) = true := by kernel_rfl

set_option maxRecDepth 100000 in
set_option maxHeartbeats 400000 in
theorem awake9_any {B : Nat} (w : World) (hM : Ml B w) : Calls Tryd.prog 6 #[] w fun e w' => e = .returned (.bool true) ∧ w = w' := by
  have h1 := sum_any ⟨#[97]⟩ w (by decide)
  rw [show (⟨#[97]⟩ : ByteArray).data.toList = [97] from rfl, sumA] at h1
  have h2 := sum_any ⟨#[]⟩ w (by decide)
  rw [show (⟨#[]⟩ : ByteArray).data.toList = [] from rfl, sumE] at h2
  have h3 := mix_any 0 w (by unfold W64; omega) hM
  rw [mix0] at h3
  have h4 := mix_any 1 w (by unfold W64; omega) hM
  have hm := mix1
  generalize ((mixN 1 : Nat) : Int) = x at *
  have H1 := Lib.hid h1; have H2 := Lib.hid h2; have H3 := Lib.hid h3; have H4 := Lib.hid h4
  have HM := Lib.hid hm
  clear h1 h2 h3 h4 hM hm
  go_enter Tryd.func6, Tryd.ntmps6
  go_wp2_with fail
  refine H1.out.mono ?_
  rintro e w1 ⟨rfl, rfl⟩
  go_wp2_with fail
  refine H2.out.mono ?_
  rintro e w1 ⟨rfl, rfl⟩
  go_wp2_with fail
  refine H3.out.mono ?_
  rintro e w1 ⟨rfl, rfl⟩
  go_wp2_with fail
  refine H4.out.mono ?_
  rintro e w1 ⟨rfl, rfl⟩
  go_wp2_with fail
  go_ret
  exact ⟨congrArg (fun v => Ending.returned (.bool v)) HM.out, rfl⟩

set_option maxRecDepth 100000 in
set_option maxHeartbeats 400000 in
theorem sums_walk (l : List UInt8) (n m : Int) (w : World) (hT : Ml w.heap.size w) (hl : l.length ≤ 9223372036854775807) (wn : (Lit.int .u64 n).wf = true) (wm : (Lit.int .i64 m).wf = true) :
    Calls Tryd.prog 3 #[.string (bs l), .int .u64 n, .int .i64 m] w fun e w' => e = .returned (.bool true) ∧ Below w.heap.size w w' := by
  obtain ⟨n0, n1⟩ := bounds_u64 wn
  obtain ⟨m0, m1⟩ := bounds_i64 wm
  obtain ⟨N, rfl⟩ := Int.eq_ofNat_of_zero_le n0
  have hN : N < W64 := by unfold W64; omega
  have hbl : (bs l).size = l.length := bs_size l
  have hb : (bs l).size ≤ 9223372036854775807 := by omega
  have HW := Lib.hid (awake9_any w hT)
  have H1 := Lib.hid (sum_any (bs l) w hb); have H2 := Lib.hid (refsum_any (bs l) w hb)
  have H3 := Lib.hid (mix_any N w hN hT); have H4 := Lib.hid (refmix_any N w hN)
  have H5 := Lib.hid (place_any (bs l) m w hb (by omega) (by omega) hT); have H6 := Lib.hid (refplace_any (bs l) m w hb (by omega) (by omega))
  clear wn wm n0 n1 hN hT
  generalize sumN (bs l).data.toList = x at *
  generalize mixN N = y at *
  generalize place (bs l).data.toList m = z at *
  generalize bs l = b at *
  by_cases hlong : 2000 < b.size
  · go_enter Tryd.func3, Tryd.ntmps3
    go_wp2_with fail
    refine HW.out.mono ?_
    rintro e w1 ⟨rfl, rfl⟩
    go_wp2_with fail
    go_ret
    exact ⟨rfl, Below.refl _ _⟩
  · go_enter Tryd.func3, Tryd.ntmps3
    go_wp2_with fail
    refine HW.out.mono ?_
    rintro e w1 ⟨rfl, rfl⟩
    go_wp2_with fail
    refine H1.out.mono ?_
    rintro e w1 ⟨rfl, rfl⟩
    go_wp2_with fail
    refine H2.out.mono ?_
    rintro e w1 ⟨rfl, rfl⟩
    go_wp2_with fail
    refine H3.out.mono ?_
    rintro e w1 ⟨rfl, rfl⟩
    go_wp2_with fail
    refine H4.out.mono ?_
    rintro e w1 ⟨rfl, rfl⟩
    go_wp2_with fail
    refine H5.out.mono ?_
    rintro e w1 ⟨rfl, rfl⟩
    go_wp2_with fail
    refine H6.out.mono ?_
    rintro e w1 ⟨rfl, rfl⟩
    go_wp2_with fail
    go_ret
    exact ⟨rfl, Below.refl _ _⟩

set_option maxRecDepth 100000 in
set_option maxHeartbeats 400000 in
theorem mixes_walk (a b : Int) (w : World) (hT : Ml w.heap.size w) (wa : (Lit.int .u64 a).wf = true) (wb : (Lit.int .u64 b).wf = true) :
    Calls Tryd.prog 4 #[.int .u64 a, .int .u64 b] w fun e w' => e = .returned (.bool true) ∧ Below w.heap.size w w' := by
  obtain ⟨a0, a1⟩ := bounds_u64 wa
  obtain ⟨b0, b1⟩ := bounds_u64 wb
  obtain ⟨N, rfl⟩ := Int.eq_ofNat_of_zero_le a0
  obtain ⟨M, rfl⟩ := Int.eq_ofNat_of_zero_le b0
  have hN : N < W64 := by unfold W64; omega
  have hM : M < W64 := by unfold W64; omega
  have he : (((mixN N : Nat) : Int) == ((mixN M : Nat) : Int)) = ((N : Int) == (M : Int)) := by
    rw [Bool.eq_iff_iff, beq_iff_eq, beq_iff_eq]
    constructor
    · intro h
      have := mixN_inj hN hM (by omega)
      omega
    · intro h
      obtain rfl : N = M := by omega
      rfl
  have HW := Lib.hid (awake9_any w hT)
  have H3 := Lib.hid (mix_any N w hN hT); have H4 := Lib.hid (mix_any M w hM hT)
  clear wa wb a0 b0 hN hM hT
  generalize ((mixN N : Nat) : Int) = x at *
  generalize ((mixN M : Nat) : Int) = y at *
  have HE : Hid ((((x == y)) == ((N : Int) == (M : Int))) = true) := Lib.hid (by rw [he]; simp)
  clear he
  go_enter Tryd.func4, Tryd.ntmps4
  go_wp2_with fail
  refine HW.out.mono ?_
  rintro e w1 ⟨rfl, rfl⟩
  go_wp2_with fail
  refine H3.out.mono ?_
  rintro e w1 ⟨rfl, rfl⟩
  go_wp2_with fail
  refine H4.out.mono ?_
  rintro e w1 ⟨rfl, rfl⟩
  go_wp2_with fail
  go_ret
  exact ⟨congrArg (fun v => Ending.returned (.bool v)) HE.out, Below.refl _ _⟩

set_option maxRecDepth 100000 in
set_option maxHeartbeats 400000 in
theorem places_walk (l : List UInt8) (m : Int) (w : World) (hT : Ml w.heap.size w) (hl : l.length ≤ 9223372036854775807) (wm : (Lit.int .i64 m).wf = true) :
    Calls Tryd.prog 5 #[.string (bs l), .int .i64 m] w fun e w' => e = .returned (.bool true) ∧ Below w.heap.size w w' := by
  obtain ⟨m0, m1⟩ := bounds_i64 wm
  have hbl : (bs l).size = l.length := bs_size l
  have hb : (bs l).size ≤ 9223372036854775807 := by omega
  have HW := Lib.hid (awake9_any w hT)
  by_cases hlong : 2000 < (bs l).size
  · generalize bs l = b at *
    go_enter Tryd.func5, Tryd.ntmps5
    go_wp2_with fail
    refine HW.out.mono ?_
    rintro e w1 ⟨rfl, rfl⟩
    go_wp2_with fail
    go_ret
    exact ⟨rfl, Below.refl _ _⟩
  by_cases hneg : m < 0
  · generalize bs l = b at *
    go_enter Tryd.func5, Tryd.ntmps5
    go_wp2_with fail
    refine HW.out.mono ?_
    rintro e w1 ⟨rfl, rfl⟩
    go_wp2_with fail
    go_ret
    exact ⟨rfl, Below.refl _ _⟩
  by_cases hbig : 29 < m
  · generalize bs l = b at *
    go_enter Tryd.func5, Tryd.ntmps5
    go_wp2_with fail
    refine HW.out.mono ?_
    rintro e w1 ⟨rfl, rfl⟩
    go_wp2_with fail
    go_ret
    exact ⟨rfl, Below.refl _ _⟩
  obtain ⟨p, rfl⟩ := Int.eq_ofNat_of_zero_le (show 0 ≤ m by omega)
  have hp29 : p ≤ 29 := by omega
  have hq := pow_le (show p + 1 ≤ 30 by omega)
  have hq2 : (2 : Int) ^ (p + 1) = 2 * (2 : Int) ^ p := by rw [Int.pow_succ, Int.mul_comm]
  have hpt := place_twice (bs l).data.toList hp29
  rw [hq2] at hq hpt
  obtain ⟨q, hqe⟩ : ∃ q, q = (2 : Int) ^ p := ⟨_, rfl⟩
  rw [← hqe] at hq hpt
  have hwr : wrap64 ((2 : Int) ^ p) = q := by unfold wrap64; omega
  have H5 := Lib.hid (place_any (bs l) q w hb (by omega) (by omega) hT)
  have H6 := Lib.hid (place_any (bs l) (2 * q) w hb (by omega) (by omega) hT)
  have HWR := Lib.hid hwr
  clear hq2 hqe hwr hT wm hbl
  generalize place (bs l).data.toList q = x at *
  generalize place (bs l).data.toList (2 * q) = y at *
  obtain ⟨p0, p1, p2⟩ := hpt
  rcases p2 with rfl | rfl
  all_goals
    go_enter Tryd.func5, Tryd.ntmps5
    go_wp2_with fail
    refine HW.out.mono ?_
    rintro e w1 ⟨rfl, rfl⟩
    go_wp2_with fail
    rw [HWR.out]
    refine H5.out.mono ?_
    rintro e w1 ⟨rfl, rfl⟩
    go_wp2_with fail
    refine H6.out.mono ?_
    rintro e w1 ⟨rfl, rfl⟩
    go_wp2_with fail
    go_ret
    exact ⟨rfl, Below.refl _ _⟩
end Go.Proofs.YteoggekhjokebaaDoor
