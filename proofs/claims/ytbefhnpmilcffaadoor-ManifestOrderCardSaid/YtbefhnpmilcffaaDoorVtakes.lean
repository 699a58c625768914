/- What the calls of package varint that read bytes return: Take and OfText. -/
import Derived.Test.YtbefhnpmilcffaaDoorVputs
namespace Go.Proofs.YtbefhnpmilcffaaDoor
open Go.RowKit

theorem len_size (b : ByteArray) : b.data.toList.length = b.size := by rw [Lib.size_eq]
theorem byte_of (b : ByteArray) (k : Nat) (h : k < b.size) : b.data.toList[k]'(by rw [len_size]; exact h) = b[k] := rfl

/-- No byte ahead of place k is less than 128. -/
def NoEnd (b : ByteArray) (k : Nat) : Prop := ∀ j (h : j < b.data.toList.length), j < k → ¬ (b.data.toList[j]).toNat < 128

theorem noEnd_succ {b : ByteArray} {k : Nat} (h : NoEnd b k) (hk : k < b.size) (hc : ¬ b[k].toNat < 128) : NoEnd b (k + 1) := by
  intro j hj hjk
  by_cases e : j = k
  · subst e; rw [byte_of b j hk]; exact hc
  · exact h j hj (by omega)

theorem sz_at {b : ByteArray} {k : Nat} (h : NoEnd b k) (h10 : k < 10) (hk : k < b.size) (hc : b[k].toNat < 128) : sz b.data.toList = k + 1 :=
  sz_some h10 (by rw [len_size]; exact hk) (by rw [byte_of b k hk]; exact hc) (fun j hj => h j _ hj)

theorem sz_never {b : ByteArray} {k : Nat} (h : NoEnd b k) (hk : 10 ≤ k ∨ b.size ≤ k) : sz b.data.toList = 0 :=
  sz_none fun j hj h10 => h j hj (by rw [len_size] at hj; omega)


set_option maxRecDepth 100000 in
set_option maxHeartbeats 400000 in
theorem size_any (b : ByteArray) (w : World) (hb : b.size ≤ 9223372036854775807) :
    Calls Tryd.prog 72 #[.string b] w fun e w' => e = .returned (.int .i64 (sz b.data.toList)) ∧ w = w' := by
  by_cases hm : 10 < b.size
  · have hmi : (10 : Int) < (b.size : Int) := by omega
    go_enter Tryd.func72, Tryd.ntmps72
    go_wp2
    go_loop [7] (fun i => ∃ k : Nat, k ≤ 10 ∧ i = .int .i64 k ∧ NoEnd b k) (fun i => 10 - (intOf i).toNat)
    case atStart => exact ⟨0, by omega, rfl, fun j _ h => by omega⟩
    case round =>
      obtain ⟨k, hk, rfl, hn⟩ := hrel
      by_cases hlt : k < 10
      · have hks : k < b.size := by omega
        by_cases hc : b[k].toNat < 128
        · have H := Lib.hid (sz_at hn hlt hks hc)
          go_wp2
          go_ret
          exact ⟨ret_int (by rw [H.out]; omega), rfl⟩
        · have H := Lib.hid (noEnd_succ hn hks hc)
          go_wp2
          go_round
          case rel => exact ⟨k + 1, by omega, by go_num, H.out⟩
          case measure => simp [intOf]; omega
      · have H := Lib.hid (sz_never hn (by omega))
        go_wp2
        go_ret
        exact ⟨ret_int (by rw [H.out]; rfl), rfl⟩
  · have hmi : (b.size : Int) ≤ 10 := by omega
    go_enter Tryd.func72, Tryd.ntmps72
    go_wp2
    go_loop [7] (fun i => ∃ k : Nat, k ≤ b.size ∧ i = .int .i64 k ∧ NoEnd b k) (fun i => 10 - (intOf i).toNat)
    case atStart => exact ⟨0, by omega, rfl, fun j _ h => by omega⟩
    case round =>
      obtain ⟨k, hk, rfl, hn⟩ := hrel
      by_cases hks : k < b.size
      · by_cases hc : b[k].toNat < 128
        · have H := Lib.hid (sz_at hn (by omega) hks hc)
          go_wp2
          go_ret
          exact ⟨ret_int (by rw [H.out]; omega), rfl⟩
        · have H := Lib.hid (noEnd_succ hn hks hc)
          go_wp2
          go_round
          case rel => exact ⟨k + 1, by omega, by go_num, H.out⟩
          case measure => simp [intOf]; omega
      · have H := Lib.hid (sz_never hn (by omega))
        go_wp2
        go_ret
        exact ⟨ret_int (by rw [H.out]; rfl), rfl⟩

theorem val_snoc : ∀ (l : List UInt8) (c : UInt8), val (l ++ [c]) = val l + 128 ^ l.length * (c.toNat % 128)
  | [], c => by simp [val]
  | d :: l, c => by
    simp only [List.cons_append, val, List.length_cons, val_snoc l c, Nat.pow_succ]
    rw [Nat.mul_add, Nat.mul_comm (128 ^ l.length) 128, Nat.mul_assoc]
    omega
theorem val_lt : ∀ l : List UInt8, val l < 128 ^ l.length
  | [] => by simp [val]
  | d :: l => by
    have := val_lt l
    simp only [val, List.length_cons, Nat.pow_succ]
    omega
theorem pow_seven (k : Nat) : 2 ^ (7 * k) = 128 ^ k := by rw [Nat.pow_mul]

theorem or_next (x c k : Nat) (hk : k ≤ 9) (hx : x < 128 ^ k) :
    bits .or .u64 (x : Int) (IntKind.u64.wrap ((c : Int) % 128 * 2 ^ (7 * k))) = ((x + 128 ^ k * (c % 128)) % M64 : Nat) := by
  have e1 : ((c : Int) % 128 * 2 ^ (7 * k)) = ((128 ^ k * (c % 128) : Nat) : Int) := by
    rw [← pow_seven]; push_cast; rw [Int.mul_comm]
  have hM : M64 = 2 ^ (7 * k) * 2 ^ (64 - 7 * k) := by
    rw [← Nat.pow_add, show 7 * k + (64 - 7 * k) = 64 from by omega]; rfl
  have e2 : IntKind.u64.wrap ((128 ^ k * (c % 128) : Nat) : Int) = ((128 ^ k * (c % 128) % M64 : Nat) : Int) := by
    rw [IntKind.wrap_u64]; rfl
  have e3 : 128 ^ k * (c % 128) % M64 = 2 ^ (7 * k) * ((c % 128) % 2 ^ (64 - 7 * k)) := by
    rw [hM, ← pow_seven, Nat.mul_mod_mul_left]
  have hq : (c % 128) % 2 ^ (64 - 7 * k) < 2 ^ (64 - 7 * k) := Nat.mod_lt _ (Nat.pow_pos (by omega))
  have hx' : x < 2 ^ (7 * k) := by rw [pow_seven]; exact hx
  have hsum : 2 ^ (7 * k) * ((c % 128) % 2 ^ (64 - 7 * k)) + x < M64 := by
    have : 2 ^ (7 * k) * ((c % 128) % 2 ^ (64 - 7 * k)) + 2 ^ (7 * k) ≤ M64 := by
      rw [hM, ← Nat.mul_succ]
      exact Nat.mul_le_mul_left _ hq
    omega
  rw [e1, e2, u64_or_nat _ _ (by unfold M64 at hsum; omega) (by rw [e3]; unfold M64 at hsum; omega), e3, Nat.or_comm, ← Nat.two_pow_add_eq_or_of_lt hx']
  congr 1
  rw [Nat.add_comm, ← e3]
  rw [← e3] at hsum
  unfold M64 at hsum ⊢
  omega

theorem take_snoc (b : ByteArray) (k : Nat) (h : k < b.size) : b.data.toList.take (k + 1) = b.data.toList.take k ++ [b[k]] := by
  rw [List.take_succ_eq_append_getElem (by rw [len_size]; exact h)]; rfl

theorem small_mod {l : List UInt8} (h : l.length ≤ 9) : val l % M64 = val l :=
  Nat.mod_eq_of_lt (Nat.lt_of_lt_of_le (val_lt l) (Nat.le_trans (Nat.pow_le_pow_right (by omega) h) (by unfold M64; decide)))

theorem value_next (b : ByteArray) (k x : Nat) (hk : k ≤ 9) (h : k < b.size) (hx : x = valM (b.data.toList.take k)) :
    bits .or .u64 (x : Int) (IntKind.u64.wrap ((b[k].toNat : Int) % 128 * 2 ^ (7 * k))) = ((valM (b.data.toList.take (k + 1)) : Nat) : Int) := by
  have hl : (b.data.toList.take k).length = k := by rw [List.length_take, len_size]; omega
  have hv := val_lt (b.data.toList.take k)
  rw [hl] at hv
  rw [valM, small_mod (by omega)] at hx
  rw [valM, take_snoc b k h, val_snoc, hl, hx, or_next _ _ k hk hv]

set_option maxRecDepth 100000 in
set_option maxHeartbeats 400000 in
theorem value_any (b : ByteArray) (w : World) (hb : b.size ≤ 10) :
    Calls Tryd.prog 73 #[.string b] w fun e w' => e = .returned (.int .u64 ((valM b.data.toList : Nat) : Int)) ∧ w = w' := by
  go_enter Tryd.func73, Tryd.ntmps73
  go_wp2
  go_loop [3, 7] (fun n i => ∃ k x : Nat, k ≤ b.size ∧ i = .int .i64 k ∧ n = .int .u64 x ∧ x = valM (b.data.toList.take k)) (fun _ i => 10 - (intOf i).toNat)
  case atStart => exact ⟨0, 0, by omega, rfl, rfl, rfl⟩
  case round =>
    obtain ⟨k, x, hk, rfl, rfl, hx⟩ := hrel
    have HX := Lib.hid hx
    clear hx
    by_cases hks : k < b.size
    · have H := Lib.hid (value_next b k x (by omega) hks HX.out)
      go_wp2
      go_round
      case rel => exact ⟨k + 1, _, by omega, by go_num, by rw [H.out], rfl⟩
      case measure => simp [intOf]; omega
    · go_wp2
      go_ret
      exact ⟨ret_int (by rw [HX.out, List.take_of_length_le (by rw [len_size]; omega)]), rfl⟩

theorem ext_to (b : ByteArray) (k : Nat) : b.extract 0 k = bs (b.data.toList.take k) := by
  rw [Lib.extract_eq]; simp [bs]
theorem ext_from (b : ByteArray) (k : Nat) : b.extract k b.size = bs (b.data.toList.drop k) := by
  rw [Lib.extract_eq, List.take_of_length_le (by rw [List.length_drop, len_size]; omega)]; rfl
theorem bs_toList (l : List UInt8) : (bs l).toList = l := by rw [Lib.toList_data, bs_list]

/-- What Take returns. -/
def tkV (l : List UInt8) : Value := .tuple #[.int .u64 ((tk l).1 : Nat), .string (bs (tk l).2.1), .int .i64 ((tk l).2.2 : Nat)]

theorem takeShape (l : List UInt8) (h : ¬ sz l = 0) : tkV l = if put (valM (l.take (sz l))) = l.take (sz l) then .tuple #[.int .u64 (valM (l.take (sz l)) : Nat), .string (bs (l.drop (sz l))), .int .i64 0] else .tuple #[.int .u64 0, .string (bs []), .int .i64 2] := by
  by_cases hp : put (valM (l.take (sz l))) = l.take (sz l)
  · rw [if_pos hp, tkV, tk_yes h hp]; rfl
  · rw [if_neg hp, tkV, tk_no h hp]; rfl

set_option maxRecDepth 100000 in
set_option maxHeartbeats 400000 in
theorem take_any (b : ByteArray) (w : World) (hb : b.size ≤ 9223372036854775807) :
    Calls Tryd.prog 58 #[.string b] w fun e w' => e = .returned (tkV b.data.toList) ∧ Below w.heap.size w w' := by
  by_cases h : sz b.data.toList = 0
  · have hs := size_any b w hb
    rw [h] at hs
    by_cases hl : b.data.toList.length < 10
    · have e : tkV b.data.toList = .tuple #[.int .u64 0, .string (bs []), .int .i64 3] := by rw [tkV, tk_short h hl]; rfl
      rw [e]
      have H := Lib.hid hs
      rw [len_size] at hl
      clear e hs h
      go_enter Tryd.func58, Tryd.ntmps58
      go_wp2_with fail
      refine H.out.mono ?_
      rintro e w' ⟨rfl, rfl⟩
      go_wp2
      go_ret3
      exact ⟨rfl, Below.refl _ _⟩
    · have e : tkV b.data.toList = .tuple #[.int .u64 0, .string (bs []), .int .i64 2] := by rw [tkV, tk_long h hl]; rfl
      rw [e]
      have H := Lib.hid hs
      rw [len_size] at hl
      clear e hs h
      go_enter Tryd.func58, Tryd.ntmps58
      go_wp2_with fail
      refine H.out.mono ?_
      rintro e w' ⟨rfl, rfl⟩
      go_wp2
      go_ret3
      exact ⟨rfl, Below.refl _ _⟩
  · have hs := size_any b w hb
    have hk := sz_le b.data.toList
    rw [len_size] at hk
    have e := takeShape b.data.toList h
    generalize hk' : sz b.data.toList = k at *
    clear hk'
    have hv := value_any (bs (b.data.toList.take k)) w (by rw [bs_size, List.length_take]; omega)
    rw [bs_list] at hv
    have hvl := valM_lt (b.data.toList.take k)
    generalize valM (b.data.toList.take k) = x at *
    have hk0 : 0 < k := by omega
    have hkb : ((k : Int) == 0) = false := beq_eq_false_iff_ne.2 (by omega)
    have hxm : x ≤ 18446744073709551615 := by unfold M64 at hvl; omega
    rw [← ext_to] at hv
    have H := Lib.hid hs
    have HV := Lib.hid hv
    have hput : ∀ w, Calls Tryd.prog 25 #[.int .u64 (x : Int)] w fun e w' => e = .returned (.string (bs (put x))) ∧ Below w.heap.size w w' := fun w => by
      have := put_any (x : Int) w (by omega) (by omega)
      rwa [Int.toNat_natCast] at this
    have HP := Lib.hid hput
    have HF := Lib.hid (ext_from b k)
    clear hs hv hput hvl h
    by_cases hp : put x = b.data.toList.take k
    · have hcmp : ((bs (put x)).toList == (b.extract 0 k).toList) = true := by rw [ext_to, bs_toList, bs_toList, hp]; simp
      rw [if_pos hp] at e
      rw [e]
      clear e hp
      go_enter Tryd.func58, Tryd.ntmps58
      go_wp2_with fail
      refine H.out.mono ?_
      rintro e w' ⟨rfl, rfl⟩
      go_wp2_with fail
      refine HV.out.mono ?_
      rintro e w' ⟨rfl, rfl⟩
      go_wp2_with fail
      go_region_with (go_at_call 25; refine (HP.out _).mono ?_; rintro e w' ⟨rfl, hb1⟩)
      go_wp2_with fail
      go_quiet (fail)
      go_wp2
      go_ret3
      exact ⟨by rw [← HF.out]; rfl, below_drewN ((Below.refl _ _).drew.trans hb1) nq⟩
    · have hcmp : ((bs (put x)).toList == (b.extract 0 k).toList) = false := by rw [ext_to, bs_toList, bs_toList]; simpa using hp
      rw [if_neg hp] at e
      rw [e]
      clear e hp
      go_enter Tryd.func58, Tryd.ntmps58
      go_wp2_with fail
      refine H.out.mono ?_
      rintro e w' ⟨rfl, rfl⟩
      go_wp2_with fail
      refine HV.out.mono ?_
      rintro e w' ⟨rfl, rfl⟩
      go_wp2_with fail
      go_region_with (go_at_call 25; refine (HP.out _).mono ?_; rintro e w' ⟨rfl, hb1⟩)
      go_wp2
      go_ret3
      exact ⟨rfl, (Below.refl _ _).drew.trans hb1⟩

/-- What OfText returns. -/
def otV (l : List UInt8) : Value := .tuple #[.string (bs (ot l).1), .string (bs (ot l).2.1), .int .i64 ((ot l).2.2 : Nat)]

theorem tk_rest_le (l : List UInt8) {n : Nat} {r : List UInt8} (h : tk l = (n, r, 0)) : n < M64 ∧ r.length ≤ l.length := by
  rcases tk_cases l with ⟨e, _⟩ | e | ⟨n', r', e, hn, hl⟩
  · rw [h] at e; simp at e
  · rw [h] at e; simp at e
  · rw [h] at e
    simp at e
    obtain ⟨rfl, rfl⟩ := e
    exact ⟨hn, by rw [hl]; simp⟩



end Go.Proofs.YtbefhnpmilcffaaDoor

