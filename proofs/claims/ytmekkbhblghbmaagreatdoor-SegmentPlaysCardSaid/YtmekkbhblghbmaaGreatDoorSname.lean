/- The names of segments: plain facts; the document's names and numbers. -/
import Derived.Test.YtmekkbhblghbmaaGreatDoorVc
import Derived.Deep.LoopGhost
import Derived.Sort.EncStr
namespace Go.Proofs.YtmekkbhblghbmaaGreatDoor
open Go.RowKit
set_option linter.unusedVariables false

theorem bs_toList2 (l : List UInt8) : (bs l).toList = l := by rw [Lib.toList_data]; rfl
/-- The last k digits of n, the greatest first. -/
def dg (n : Nat) : Nat → List UInt8
  | 0 => []
  | k + 1 => UInt8.ofNat (48 + n / 10 ^ k % 10) :: dg n k
theorem dg_len (n : Nat) : ∀ k, (dg n k).length = k
  | 0 => rfl
  | k + 1 => by rw [dg, List.length_cons, dg_len n k]
/-- A number that may be a segment's. -/
def segOk (n : Int) : Prop := 0 ≤ n ∧ n ≤ 999999
instance (n : Int) : Decidable (segOk n) := by unfold segOk; infer_instance
/-- The name of the first byte c and the number n. -/
def nameOf (c : UInt8) (n : Int) : List UInt8 := if segOk n then c :: dg n.toNat 6 else []
theorem nameOf_ok {c : UInt8} {n : Int} (h : segOk n) : nameOf c n = c :: dg n.toNat 6 := by unfold nameOf; rw [if_pos h]
theorem nameOf_no {c : UInt8} {n : Int} (h : ¬ segOk n) : nameOf c n = [] := by unfold nameOf; rw [if_neg h]
theorem nameOf_len (c : UInt8) (n : Int) : (nameOf c n).length ≤ 7 := by
  unfold nameOf
  split
  · rw [List.length_cons, dg_len]; omega
  · simp
/-- The value of six digits. -/
def dval (l : List UInt8) : Int := l.foldl (fun n c => 10 * n + ((c.toNat : Int) - 48)) 0
theorem dval_snoc (l : List UInt8) (c : UInt8) : dval (l ++ [c]) = 10 * dval l + ((c.toNat : Int) - 48) := by unfold dval; rw [List.foldl_append]; rfl
/-- The number that a name's bytes behind the first come to. -/
def numOf (l : List UInt8) : Int := dval ((l.drop 1).take 6)
/-- Is it a segment's name? Then of this number. -/
def isNum (l : List UInt8) : Bool := decide (nameOf 115 (numOf l) = l) && !l.isEmpty

theorem foldl_shift (l : List UInt8) : ∀ a : Int, l.foldl (fun n c => 10 * n + ((c.toNat : Int) - 48)) a = a * 10 ^ l.length + dval l := by
  induction l with
  | nil => intro a; simp [dval]
  | cons c r ih =>
    intro a
    have h1 := ih (10 * a + ((c.toNat : Int) - 48))
    have h2 := ih (10 * 0 + ((c.toNat : Int) - 48))
    rw [List.foldl_cons, h1]
    have h3 : dval (c :: r) = (10 * 0 + ((c.toNat : Int) - 48)) * 10 ^ r.length + dval r := by rw [← h2]; rfl
    rw [h3, List.length_cons, Int.pow_succ]
    generalize (10 : Int) ^ r.length = p
    generalize dval r = v
    generalize ((c.toNat : Int) - 48) = d
    rw [Int.add_mul, Int.add_mul, Int.mul_assoc, Int.mul_comm a (p * 10), Int.mul_assoc p, Int.mul_comm p (10 * a), Int.mul_assoc 10 a p]
    omega
theorem dval_cons (c : UInt8) (r : List UInt8) : dval (c :: r) = ((c.toNat : Int) - 48) * 10 ^ r.length + dval r := by
  have := foldl_shift r (10 * 0 + ((c.toNat : Int) - 48))
  rw [Int.mul_zero, Int.zero_add] at this
  rw [← this]
  unfold dval
  rw [List.foldl_cons, Int.mul_zero, Int.zero_add]
theorem digit_toNat (d : Nat) : (UInt8.ofNat (48 + d % 10)).toNat = 48 + d % 10 := by
  rw [UInt8.toNat_ofNat']
  omega
theorem dval_dg (n : Nat) : ∀ k, dval (dg n k) = ((n % 10 ^ k : Nat) : Int)
  | 0 => by simp [dg, dval, Nat.mod_one]
  | k + 1 => by
    rw [dg, dval_cons, dval_dg n k, dg_len, digit_toNat, Nat.pow_succ, Nat.mod_mul]
    have : ((48 + n / 10 ^ k % 10 : Nat) : Int) - 48 = ((n / 10 ^ k % 10 : Nat) : Int) := by omega
    rw [this]
    push_cast
    rw [Int.mul_comm (10 ^ k)]
    omega

/-- A segment's number comes back out of its name. -/
theorem numOf_name {c : UInt8} {n : Int} (h : segOk n) : numOf (nameOf c n) = n := by
  rw [nameOf_ok h, numOf, List.drop_one, List.tail_cons, List.take_of_length_le (by rw [dg_len]; omega), dval_dg]
  unfold segOk at h
  omega
theorem isNum_name {n : Int} (h : segOk n) : isNum (nameOf 115 n) = true := by
  unfold isNum
  rw [numOf_name h]
  simp [nameOf_ok h]
theorem isNum_ok {l : List UInt8} (h : isNum l = true) : segOk (numOf l) ∧ nameOf 115 (numOf l) = l := by
  unfold isNum at h
  simp only [Bool.and_eq_true, decide_eq_true_eq, Bool.not_eq_true'] at h
  obtain ⟨h1, h2⟩ := h
  refine ⟨Decidable.byContradiction fun hn => ?_, h1⟩
  rw [nameOf_no hn] at h1
  rw [← h1] at h2
  simp at h2
/-- A list that is some segment's name tells its number. -/
theorem isNum_iff (l : List UInt8) : isNum l = true ↔ ∃ n, segOk n ∧ nameOf 115 n = l :=
  ⟨fun h => ⟨_, isNum_ok h⟩, fun ⟨n, h1, h2⟩ => by rw [← h2]; exact isNum_name h1⟩
theorem nameOf_inj {c : UInt8} {n m : Int} (hn : segOk n) (hm : segOk m) (h : nameOf c n = nameOf c m) : n = m := by
  rw [← numOf_name (c := c) hn, h, numOf_name hm]

/-! ### the document's -/
theorem dg_div (n i : Nat) : dg n (i + 1) = UInt8.ofNat (48 + n / 10 ^ i % 10) :: dg n i := rfl

theorem refright8_any (n : Int) (w : World) : Calls Tryz.prog 55 #[.int .i64 n] w fun e w' => e = .returned (.bool (decide (segOk n))) ∧ w = w' := by
  by_cases h1 : 0 ≤ n
  · by_cases h2 : n ≤ 999999
    · rw [decide_eq_true (show segOk n from ⟨h1, h2⟩)]
      go_enter Tryz.func55, Tryz.ntmps55
      go_wp2
      go_ret
      exact ⟨rfl, rfl⟩
    · rw [decide_eq_false (show ¬ segOk n from fun h => h2 h.2)]
      go_enter Tryz.func55, Tryz.ntmps55
      go_wp2
      go_ret
      exact ⟨rfl, rfl⟩
  · rw [decide_eq_false (show ¬ segOk n from fun h => h1 h.1)]
    go_enter Tryz.func55, Tryz.ntmps55
    go_wp2
    go_ret
    exact ⟨rfl, rfl⟩

set_option maxRecDepth 100000 in
set_option maxHeartbeats 1000000 in
theorem digits_any (n : Nat) (w : World) (hn : n ≤ 999999) : Calls Tryz.prog 78 #[.int .i64 (n : Int)] w fun e w' => e = .returned (.string (bs (dg n 6))) ∧ Below w.heap.size w w' := by
  go_enter Tryz.func78, Tryz.ntmps78
  go_wp2
  go_loopg [0, 3, 4] 6 (fun g nv sv it wr => ∃ i : Nat, i + g = 6 ∧ nv = .int .i64 ((n / 10 ^ i : Nat) : Int) ∧ sv = .string (bs (dg n i)) ∧ it = .int .i64 i ∧ Below w.heap.size w wr)
  case atStart => exact ⟨0, by omega, by simp, rfl, rfl, Below.refl _ _⟩
  case round =>
    obtain ⟨i, hi, rfl, rfl, rfl, hb⟩ := hrel
    by_cases hlt : i < 6
    · obtain ⟨q, hq⟩ : ∃ q, q = n / 10 ^ i := ⟨_, rfl⟩
      have hqn : q ≤ 999999 := by rw [hq]; exact Nat.le_trans (Nat.div_le_self _ _) hn
      have hnext : n / 10 ^ (i + 1) = q / 10 := by rw [hq, Nat.pow_succ, Nat.div_div_eq_div_mul]
      have hdg : dg n (i + 1) = [UInt8.ofNat (48 + q % 10)] ++ dg n i := by rw [hq]; rfl
      have hadd := bs_join [UInt8.ofNat (48 + q % 10)] (dg n i)
      rw [← hdg] at hadd
      have hz : (bs (dg n i)).size = i := by rw [bs_size, dg_len]
      have hz1 : (bs [UInt8.ofNat (48 + q % 10)]).size = 1 := bs_size _
      have hc : ∀ (W : World) (b : Nat), W.cell? ⟨b, 0, none⟩ = some (.int .u8 (48 + (q : Int) % 10)) → (convert 105 9 (.slice (some ⟨b, 0, none⟩) 1 1)).run Tryz.prog W = .ok (.string (bs [UInt8.ofNat (48 + q % 10)])) W :=
        fun W b hW => conv_one W b 1 _ _ (by rw [digit_toNat]; omega) hW
      have q1 : (q : Int).tmod 10 = (q : Int) % 10 := IntWalk.rem_in _ _ (by omega)
      have q2 : IntKind.i64.wrap (48 + (q : Int) % 10) = 48 + (q : Int) % 10 := IntWalk.i64_in _ ⟨by omega, by omega⟩
      have q3 : IntKind.u8.wrap (48 + (q : Int) % 10) = 48 + (q : Int) % 10 := IntWalk.u8_in _ ⟨by omega, by omega⟩
      have q4 : (q : Int).tdiv 10 = (q : Int) / 10 := Int.tdiv_eq_ediv_of_nonneg (by omega)
      have q5 : IntKind.i64.wrap ((q : Int) / 10) = (q : Int) / 10 := IntWalk.i64_in _ ⟨by omega, by omega⟩
      have hsum : ¬ 9223372036854775807 < (bs [UInt8.ofNat (48 + q % 10)]).size + (bs (dg n i)).size := by omega
      have HN := Lib.hid hnext; have HA := Lib.hid hadd; have HB := Lib.hid hb
      rw [← hq]
      clear hnext hadd hdg hq hb hz hz1
      generalize hX : bs [UInt8.ofNat (48 + q % 10)] = X at *
      generalize hY : bs (dg n i) = Y at *
      have HX := Lib.hid hX; have HY := Lib.hid hY
      clear hX hY
      go_wp2
      go_roundg (gk - 1)
      case measure => omega
      case rel => exact ⟨i + 1, by omega, by rw [HN.out]; push_cast; rfl, by rw [HA.out], by go_num, HB.out.alloc HB.out.size _⟩
    · obtain rfl : i = 6 := by omega
      go_wp2
      go_ret
      exact ⟨rfl, hb⟩

theorem dg_size (n : Nat) : (bs (dg n 6)).size = 6 := by rw [bs_size, dg_len]

theorem refName_any (n : Int) (w : World) : Calls Tryz.prog 30 #[.int .i64 n] w fun e w' => e = .returned (.string (bs (nameOf 115 n))) ∧ Below w.heap.size w w' := by
  by_cases h : segOk n
  · rw [nameOf_ok h]
    obtain ⟨h0, h1⟩ := h
    have hr := refright8_any n w
    rw [decide_eq_true (show segOk n from ⟨h0, h1⟩)] at hr
    obtain ⟨m, rfl⟩ : ∃ m : Nat, n = m := ⟨n.toNat, by omega⟩
    have hd := Lib.hid (digits_any m w (by omega))
    have hz := dg_size m
    have HJ := Lib.hid (bs_join [115] (dg m 6))
    have h115 : bs [115] = ⟨#[115]⟩ := rfl
    rw [Int.toNat_natCast]
    generalize hY : bs (dg m 6) = Y at *
    have HY := Lib.hid hY; clear hY
    have h7 : (ByteArray.mk #[115]).size = 1 := rfl
    go_enter Tryz.func30, Tryz.ntmps30
    go_wp2_with fail
    refine hr.mono ?_
    rintro e w1 ⟨rfl, rfl⟩
    go_wp2_with fail
    refine hd.out.mono ?_
    rintro e w1 ⟨rfl, hb⟩
    go_wp2_with fail
    go_ret
    refine ⟨?_, hb⟩
    show Ending.returned (.string (ByteArray.mk #[115] ++ Y)) = .returned (.string (bs (115 :: dg m 6)))
    rw [show (115 : UInt8) :: dg m 6 = [115] ++ dg m 6 from rfl, HJ.out]
    rfl
  · rw [nameOf_no h]
    have hr := refright8_any n w
    rw [decide_eq_false h] at hr
    go_enter Tryz.func30, Tryz.ntmps30
    go_wp2_with fail
    refine hr.mono ?_
    rintro e w1 ⟨rfl, rfl⟩
    go_wp2_with fail
    go_ret
    exact ⟨rfl, Below.refl _ _⟩

theorem refHints_any (n : Int) (w : World) : Calls Tryz.prog 33 #[.int .i64 n] w fun e w' => e = .returned (.string (bs (nameOf 104 n))) ∧ Below w.heap.size w w' := by
  by_cases h : segOk n
  · rw [nameOf_ok h]
    obtain ⟨h0, h1⟩ := h
    have hr := refright8_any n w
    rw [decide_eq_true (show segOk n from ⟨h0, h1⟩)] at hr
    obtain ⟨m, rfl⟩ : ∃ m : Nat, n = m := ⟨n.toNat, by omega⟩
    have hd := Lib.hid (digits_any m w (by omega))
    have hz := dg_size m
    have HJ := Lib.hid (bs_join [104] (dg m 6))
    rw [Int.toNat_natCast]
    generalize hY : bs (dg m 6) = Y at *
    have HY := Lib.hid hY; clear hY
    have h7 : (ByteArray.mk #[104]).size = 1 := rfl
    go_enter Tryz.func33, Tryz.ntmps33
    go_wp2_with fail
    refine hr.mono ?_
    rintro e w1 ⟨rfl, rfl⟩
    go_wp2_with fail
    refine hd.out.mono ?_
    rintro e w1 ⟨rfl, hb⟩
    go_wp2_with fail
    go_ret
    refine ⟨?_, hb⟩
    show Ending.returned (.string (ByteArray.mk #[104] ++ Y)) = .returned (.string (bs (104 :: dg m 6)))
    rw [show (104 : UInt8) :: dg m 6 = [104] ++ dg m 6 from rfl, HJ.out]
    rfl
  · rw [nameOf_no h]
    have hr := refright8_any n w
    rw [decide_eq_false h] at hr
    go_enter Tryz.func33, Tryz.ntmps33
    go_wp2_with fail
    refine hr.mono ?_
    rintro e w1 ⟨rfl, rfl⟩
    go_wp2_with fail
    go_ret
    exact ⟨rfl, Below.refl _ _⟩

/-- The value grows by at most so much. -/
theorem dval_bound (l : List UInt8) : -(48 * ((10 : Int) ^ l.length)) ≤ dval l ∧ dval l ≤ 208 * (10 : Int) ^ l.length := by
  induction l with
  | nil => simp [dval]
  | cons c r ih =>
    rw [dval_cons, List.length_cons, Int.pow_succ]
    have hc := UInt8.toNat_lt c
    have hp : (1 : Int) ≤ 10 ^ r.length := by
      have : (0 : Int) < 10 ^ r.length := Int.pow_pos (by omega)
      omega
    generalize hP : (10 : Int) ^ r.length = P at *
    generalize dval r = v at *
    obtain ⟨d, hd⟩ : ∃ d : Nat, d = c.toNat := ⟨_, rfl⟩
    rw [← hd] at hc ⊢
    have h1 : ((d : Int) - 48) * P = (d : Int) * P - 48 * P := by rw [Int.sub_mul]
    have h2 : (d : Int) * P ≤ 255 * P := Int.mul_le_mul_of_nonneg_right (by omega) (by omega)
    have h3 : 0 ≤ (d : Int) * P := Int.mul_nonneg (by omega) (by omega)
    rw [h1]
    omega

def numVal (l : List UInt8) : Int := if isNum l then numOf l else 0

/-- What the loop has come to behind the first k bytes. -/
def numTo (l : List UInt8) (k : Nat) : Int := dval ((l.take k).drop 1)
theorem numTo_next (b : ByteArray) (k : Nat) (h1 : 1 ≤ k) (h : k < b.size) : numTo b.data.toList (k + 1) = 10 * numTo b.data.toList k + ((b[k].toNat : Int) - 48) := by
  unfold numTo
  have hl : (b.data.toList.take k).length = k := by rw [List.length_take, len_size]; omega
  rw [take_snoc b k h, List.drop_append_of_le_length (by omega), dval_snoc]
theorem numTo_bound (l : List UInt8) (k : Nat) (hk : k ≤ 7) : -48000000 ≤ numTo l k ∧ numTo l k ≤ 208000000 := by
  have h := dval_bound ((l.take k).drop 1)
  have hl : ((l.take k).drop 1).length ≤ 6 := by rw [List.length_drop, List.length_take]; omega
  have hp : (10 : Int) ^ ((l.take k).drop 1).length ≤ 10 ^ 6 := by
    obtain ⟨c, hc⟩ : ∃ c, c = ((l.take k).drop 1).length := ⟨_, rfl⟩
    rw [← hc] at hl ⊢
    have : (10 ^ c : Nat) ≤ 10 ^ 6 := Nat.pow_le_pow_right (by omega) hl
    exact_mod_cast this
  unfold numTo
  omega

theorem nil_list : (ByteArray.mk #[]).toList = [] := bs_toList2 []
set_option maxRecDepth 100000 in
set_option maxHeartbeats 2000000 in
theorem refNumber_any (l : List UInt8) (w : World) (hl : l.length ≤ 9223372036854775807) :
    Calls Tryz.prog 47 #[.string (bs l)] w fun e w' => e = .returned (.tuple #[.int .i64 (numVal l), .bool (isNum l)]) ∧ Below w.heap.size w w' := by
  obtain ⟨m, hm⟩ : ∃ m, m = min (max l.length 1) 7 := ⟨_, rfl⟩
  have hz : (bs l).size = l.length := bs_size l
  have HNM := Lib.hid (refName_any (numOf l))
  have HL := Lib.hid (show numTo l m = numOf l from by
    unfold numTo numOf
    have e : l.take m = l.take 7 := by
      by_cases h : 7 ≤ l.length
      · rw [show m = 7 by omega]
      · rw [List.take_of_length_le (by omega), List.take_of_length_le (by omega)]
    rw [e, List.drop_take])
  have HX := Lib.hid (show (bs l).data.toList = l from rfl)
  have hE : (bs l).toList.isEmpty = l.isEmpty := by rw [bs_toList2]
  have hW : ((bs (nameOf 115 (numOf l))).toList == (bs l).toList) = decide (nameOf 115 (numOf l) = l) := by
    rw [bs_toList2, bs_toList2]
    by_cases h : nameOf 115 (numOf l) = l
    · rw [decide_eq_true h]; simpa using h
    · rw [decide_eq_false h]; simpa using h
  have hR : (l.isEmpty = true ∧ isNum l = false) ∨ (l.isEmpty = false ∧ isNum l = decide (nameOf 115 (numOf l) = l)) := by
    unfold isNum
    cases l with
    | nil => exact Or.inl ⟨rfl, by simp⟩
    | cons c r => exact Or.inr ⟨rfl, by simp⟩
  have hnv : numVal l = if isNum l then numOf l else 0 := rfl
  obtain ⟨V, hV⟩ : ∃ V, V = numOf l := ⟨_, rfl⟩
  rw [← hV] at HNM HL hW hR hnv
  obtain ⟨bn, hbn⟩ : ∃ bn, bn = isNum l := ⟨_, rfl⟩
  obtain ⟨be, hbe⟩ : ∃ be, be = l.isEmpty := ⟨_, rfl⟩
  obtain ⟨bd, hbd⟩ : ∃ bd, bd = decide (nameOf 115 V = l) := ⟨_, rfl⟩
  rw [← hbn] at hR hnv ⊢
  rw [← hbe] at hE hR
  rw [← hbd] at hW hR
  rw [hnv]
  obtain ⟨L, hLL⟩ : ∃ L, L = l.length := ⟨_, rfl⟩
  rw [← hLL] at hz hl hm
  clear hLL hV hbn hbe hbd hnv
  generalize bs l = X at *
  generalize bs (nameOf 115 V) = Y at *
  have HW := Lib.hid hW; have HE := Lib.hid hE; have HR := Lib.hid hR
  clear hW hE hR
  go_enter Tryz.func47, Tryz.ntmps47
  go_wp2_with fail
  go_loopg [4, 5] (m - 1) (fun g nv it wr => ∃ k : Nat, k + g = m ∧ 1 ≤ k ∧ nv = .int .i64 (numTo X.data.toList k) ∧ it = .int .i64 (k : Int) ∧ w = wr)
  case atStart => exact ⟨1, by omega, Nat.le_refl _, by cases X.data.toList <;> simp [numTo, dval], rfl, rfl⟩
  case round =>
    obtain ⟨k, hk, hk1, rfl, rfl, rfl⟩ := hrel
    by_cases hlt : k < m
    · have hkX : k < X.size := by omega
      have hn := numTo_next X k hk1 hkX
      have hb1 := numTo_bound X.data.toList k (by omega)
      have hcb := UInt8.toNat_lt X[k]
      have h7 : k < 7 := by omega
      obtain ⟨v, hv⟩ : ∃ v, v = numTo X.data.toList k := ⟨_, rfl⟩
      rw [← hv] at hn hb1 ⊢
      have HV := Lib.hid hv; have HN := Lib.hid hn
      clear hv hn
      have q1 : IntKind.i64.wrap (10 * v) = 10 * v := IntWalk.i64_in _ ⟨by omega, by omega⟩
      have q2 : IntKind.i64.wrap (10 * v + (X[k].toNat : Int)) = 10 * v + (X[k].toNat : Int) := IntWalk.i64_in _ ⟨by omega, by omega⟩
      have q3 : IntKind.i64.wrap (10 * v + (X[k].toNat : Int) - 48) = 10 * v + (X[k].toNat : Int) - 48 := IntWalk.i64_in _ ⟨by omega, by omega⟩
      go_wp2_with fail
      go_roundg (gk - 1)
      case measure => omega
      case rel => exact ⟨k + 1, by omega, by omega, by rw [HN.out]; congr 1; omega, by go_num, rfl⟩
    · obtain rfl : k = m := by omega
      have hnt : numTo X.data.toList k = V := by rw [HX.out]; exact HL.out
      rw [hnt]
      clear hnt
      have hk7 : k ≤ 7 := by omega
      have hks : ¬ k < 7 ∨ ¬ k < X.size := by omega
      clear hm
      have hE := HE.out
      rcases HR.out with ⟨rfl, rfl⟩ | ⟨rfl, rfl⟩
      · by_cases hkX : k < X.size
        · have h7 : ¬ k < 7 := by omega
          clear hks hlt
          go_wp2_with fail
          go_ret2
          exact ⟨rfl, Below.refl _ _⟩
        · clear hks hlt
          go_wp2_with fail
          go_ret2
          exact ⟨rfl, Below.refl _ _⟩
      · have hW := HW.out
        cases bn
        all_goals
          by_cases hkX : k < X.size
          · have h7 : ¬ k < 7 := by omega
            clear hks hlt
            go_wp2_with fail
            refine (HNM.out _).mono ?_
            rintro e w1 ⟨rfl, hb⟩
            go_wp2_with fail
            go_ret2
            exact ⟨rfl, hb⟩
          · clear hks hlt
            go_wp2_with fail
            refine (HNM.out _).mono ?_
            rintro e w1 ⟨rfl, hb⟩
            go_wp2_with fail
            go_ret2
            exact ⟨rfl, hb⟩
end Go.Proofs.YtmekkbhblghbmaaGreatDoor
