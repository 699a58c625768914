/- What the calls of Place return, and the small first test of the laws of this layer. -/
import Derived.Test.YtbjginlhgedjdaaDoorAsums
namespace Go.Proofs.YtbjginlhgedjdaaDoor
open Go.RowKit
set_option linter.unusedVariables false

theorem i64_and_nat (a b : Nat) (ha : a < 9223372036854775808) (hb : b < 9223372036854775808) : bits .and .i64 (a : Int) (b : Int) = ((a &&& b : Nat) : Int) := by
  have hx : a &&& b < 2 ^ 63 := Nat.and_lt_two_pow _ (by omega)
  show IntKind.i64.wrap ((BitVec.ofInt 64 (a : Int) &&& BitVec.ofInt 64 (b : Int)).toNat : Int) = _
  rw [BitVec.toNat_and, ofInt_u64 a (by omega), ofInt_u64 b (by omega), IntKind.wrap_i64]
  omega

/-- Whether a number is a power of two. -/
def pow2 (m : Nat) : Bool := (m &&& (m - 1)) == 0
theorem pow2_iff {m : Nat} (h : 0 < m) : pow2 m = true ↔ ∃ p, m = 2 ^ p := by
  unfold pow2
  rw [beq_iff_eq, Nat.and_sub_one_eq_zero_iff_isPowerOfTwo (by omega)]
  rfl
theorem pow_small {p : Nat} (h : (2 : Int) ^ p ≤ 1073741824) : p ≤ 30 := by
  rcases Nat.lt_or_ge 30 p with hp | hp
  · exfalso
    have : 2 ^ 31 ≤ 2 ^ p := Nat.pow_le_pow_right (by omega) hp
    have hc : ((2 : Int) ^ p) = ((2 ^ p : Nat) : Int) := by push_cast; rfl
    omega
  · exact hp
theorem cast_pow (p : Nat) : ((2 : Int) ^ p) = ((2 ^ p : Nat) : Int) := by push_cast; rfl
theorem pow_le {p : Nat} (h : p ≤ 30) : 0 < (2 : Int) ^ p ∧ (2 : Int) ^ p ≤ 1073741824 := by
  have h1 : 2 ^ p ≤ 2 ^ 30 := Nat.pow_le_pow_right (by omega) h
  have h2 : 0 < 2 ^ p := Nat.two_pow_pos p
  rw [cast_pow]
  omega
theorem place_none {l : List UInt8} {m : Int} (h : ¬ ∃ p, p ≤ 30 ∧ m = (2 : Int) ^ p) : place l m = 0 := by
  unfold place
  rw [if_neg h]

theorem wrap_rem (x : Nat) {q : Int} (h0 : 0 < q) (h1 : q ≤ 1073741824) : wrap64 ((x : Int) % q) = (x : Int) % q := by
  have a := Int.emod_nonneg (x : Int) (show q ≠ 0 by omega)
  have b := Int.emod_lt_of_pos (x : Int) h0
  unfold wrap64
  omega
set_option maxRecDepth 100000 in
set_option maxHeartbeats 400000 in
theorem power_any (m : Int) (w : World) (h0 : -9223372036854775808 ≤ m) (h1 : m ≤ 9223372036854775807) :
    Calls Tryd.prog 38 #[.int .i64 m] w fun e w' => e = .returned (.bool (decide (0 < m) && pow2 m.toNat)) ∧ w = w' := by
  by_cases hm : 0 < m
  · obtain ⟨n, rfl⟩ := Int.eq_ofNat_of_zero_le (show 0 ≤ m by omega)
    have ha := i64_and_nat n (n - 1) (by omega) (by omega)
    rw [show (((n - 1 : Nat)) : Int) = (n : Int) - 1 by omega] at ha
    have hp : (decide (0 < (n : Int)) && pow2 (n : Int).toNat) = (((n &&& (n - 1) : Nat) : Int) == 0) := by
      rw [decide_eq_true hm, Bool.true_and, Int.toNat_natCast]
      unfold pow2
      rw [Bool.eq_iff_iff, beq_iff_eq, beq_iff_eq]
      omega
    rw [hp]
    generalize n &&& (n - 1) = x at *
    go_enter Tryd.func38, Tryd.ntmps38
    go_wp2
    go_ret
    exact ⟨rfl, rfl⟩
  · have hp : (decide (0 < m) && pow2 m.toNat) = false := by rw [decide_eq_false hm]; rfl
    rw [hp]
    go_enter Tryd.func38, Tryd.ntmps38
    go_wp2
    go_ret
    exact ⟨rfl, rfl⟩

set_option maxRecDepth 100000 in
set_option maxHeartbeats 400000 in
theorem place_any {B : Nat} (b : ByteArray) (m : Int) (w : World) (hb : b.size ≤ 9223372036854775807) (h0 : -9223372036854775808 ≤ m) (h1 : m ≤ 9223372036854775807) (hM : Ml B w) :
    Calls Tryd.prog 33 #[.string b, .int .i64 m] w fun e w' => e = .returned (.int .i64 (place b.data.toList m)) ∧ w = w' := by
  have hp := power_any m w h0 h1
  by_cases hpw : ∃ p, p ≤ 30 ∧ m = (2 : Int) ^ p
  · obtain ⟨p, hp30, rfl⟩ := hpw
    have hb30 := pow_le hp30
    have ht : (decide (0 < (2 : Int) ^ p) && pow2 ((2 : Int) ^ p).toNat) = true := by
      rw [decide_eq_true hb30.1, Bool.true_and, pow2_iff (by omega)]
      exact ⟨p, by rw [cast_pow, Int.toNat_natCast]⟩
    rw [ht] at hp
    rw [place_pow _ hp30]
    have hx : ((mixN (sumN b.data.toList) % 2 ^ p : Nat) : Int) = (mixN (sumN b.data.toList) : Int) % ((2 : Int) ^ p) := by rw [cast_pow]; exact Int.natCast_emod _ _
    rw [hx]
    have hmx := mixN_lt (sumN b.data.toList)
    have h2 := sum_any b w hb
    have h3 := mix_any (sumN b.data.toList) w (sumN_lt _) hM
    generalize (2 : Int) ^ p = q at *
    unfold W64 at hmx
    generalize mixN (sumN b.data.toList) = x at *
    generalize sumN b.data.toList = y at *
    have hwq := wrap_rem x (show 0 < q from hb30.1) hb30.2
    have H1 := Lib.hid hp; have H2 := Lib.hid h2; have H3 := Lib.hid h3
    clear hp h2 h3 hx ht hM
    go_enter Tryd.func33, Tryd.ntmps33
    go_wp2_with fail
    refine H1.out.mono ?_
    rintro e w1 ⟨rfl, rfl⟩
    go_wp2_with fail
    refine H2.out.mono ?_
    rintro e w1 ⟨rfl, rfl⟩
    go_wp2_with fail
    refine H3.out.mono ?_
    rintro e w1 ⟨rfl, rfl⟩
    go_wp2_with fail
    go_ret
    exact ⟨ret_int hwq, rfl⟩
  · rw [place_none hpw]
    by_cases hy : (decide (0 < m) && pow2 m.toNat) = true
    · rw [hy] at hp
      rw [Bool.and_eq_true, decide_eq_true_eq] at hy
      have hbig : 1073741824 < m := by
        rcases Int.lt_or_le 1073741824 m with h | h
        · exact h
        · exfalso
          obtain ⟨p, hp2⟩ := (pow2_iff (by omega)).1 hy.2
          have hmp : m = (2 : Int) ^ p := by rw [cast_pow]; omega
          exact hpw ⟨p, pow_small (by omega), hmp⟩
      have H1 := Lib.hid hp
      clear hp hM hpw hy
      go_enter Tryd.func33, Tryd.ntmps33
      go_wp2_with fail
      refine H1.out.mono ?_
      rintro e w1 ⟨rfl, rfl⟩
      go_wp2_with fail
      go_ret
      exact ⟨rfl, rfl⟩
    · rw [Bool.not_eq_true] at hy
      rw [hy] at hp
      have H1 := Lib.hid hp
      clear hp hM hpw hy
      go_enter Tryd.func33, Tryd.ntmps33
      go_wp2_with fail
      refine H1.out.mono ?_
      rintro e w1 ⟨rfl, rfl⟩
      go_wp2_with fail
      go_ret
      exact ⟨rfl, rfl⟩

set_option maxRecDepth 100000 in
set_option maxHeartbeats 400000 in
theorem refplace_any (b : ByteArray) (m : Int) (w : World) (hb : b.size ≤ 9223372036854775807) (h0 : -9223372036854775808 ≤ m) (h1 : m ≤ 9223372036854775807) :
    Calls Tryd.prog 31 #[.string b, .int .i64 m] w fun e w' => e = .returned (.int .i64 (place b.data.toList m)) ∧ w = w' := by
  have H2 := Lib.hid (refsum_any b w hb)
  have H3 := Lib.hid (refmix_any (sumN b.data.toList) w (sumN_lt _))
  go_enter Tryd.func31, Tryd.ntmps31
  go_wp2_with fail
  go_loop [5] (fun i => ∃ k : Nat, k ≤ 31 ∧ i = .int .i64 ((2 : Int) ^ k) ∧ ∀ j, j < k → m ≠ (2 : Int) ^ j) (fun i => 2147483649 - (intOf i).toNat)
  case atStart => exact ⟨0, by omega, rfl, fun j hj => by omega⟩
  case round =>
    obtain ⟨k, hk, rfl, hno⟩ := hrel
    by_cases hk31 : k = 31
    · subst hk31
      have hpl : place b.data.toList m = 0 := place_none (fun ⟨p, hp, e⟩ => hno p (by omega) e)
      clear hno
      go_wp2_with fail
      go_ret
      exact ⟨rfl, rfl⟩
    · have hb30 := pow_le (show k ≤ 30 by omega)
      by_cases he : m = (2 : Int) ^ k
      · subst he
        have hpl := place_pow b.data.toList (show k ≤ 30 by omega)
        have hx : ((mixN (sumN b.data.toList) % 2 ^ k : Nat) : Int) = (mixN (sumN b.data.toList) : Int) % ((2 : Int) ^ k) := by rw [cast_pow]; exact Int.natCast_emod _ _
        rw [hx] at hpl
        have hmx := mixN_lt (sumN b.data.toList)
        unfold W64 at hmx
        have HP := Lib.hid hpl
        clear hno hx hpl
        generalize hq : (2 : Int) ^ k = q at *
        have HQ := Lib.hid hq
        clear hq
        generalize mixN (sumN b.data.toList) = x at *
        generalize sumN b.data.toList = y at *
        have hwq := wrap_rem x (show 0 < q from hb30.1) hb30.2
        go_wp2_with fail
        refine H2.out.mono ?_
        rintro e w1 ⟨rfl, rfl⟩
        go_wp2_with fail
        refine H3.out.mono ?_
        rintro e w1 ⟨rfl, rfl⟩
        go_wp2_with fail
        go_ret
        exact ⟨ret_int (by rw [hwq, HQ.out]; exact HP.out.symm), rfl⟩
      · have HK := Lib.hid (show ∀ j, j < k + 1 → m ≠ (2 : Int) ^ j from fun j hj e => by
          rcases Nat.lt_or_ge j k with h | h
          · exact hno j h e
          · obtain rfl : j = k := by omega
            exact he e)
        have hs : (2 : Int) ^ (k + 1) = 2 * (2 : Int) ^ k := by rw [Int.pow_succ, Int.mul_comm]
        have HS := Lib.hid hs
        clear hno hs
        generalize (2 : Int) ^ k = q at *
        go_wp2_with fail
        go_round
        case rel => exact ⟨k + 1, by omega, by rw [HS.out], HK.out⟩
        case measure => simp [intOf]; omega
end Go.Proofs.YtbjginlhgedjdaaDoor
