/- Merged out of 3 texts, in build order: Vtakes, Vrefs, Vreftake. -/
import Derived.Test.YtkdidinekoaobaaGreatDoorVb

/- What the calls of package varint that read bytes return: Take and OfText. -/
namespace Go.Proofs.YtkdidinekoaobaaGreatDoor
open Go.RowKit

theorem len_size (b : ByteArray) : b.data.toList.length = b.size := by rw [Lib.size_eq]
theorem byte_of (b : ByteArray) (k : Nat) (h : k < b.size) : b.data.toList[k]'(by rw [len_size]; exact h) = b[k] := rfl

/-- No byte ahead of place k is less than 128. -/
def NoEnd (b : ByteArray) (k : Nat) : Prop := ∀ j (h : j < b.data.toList.length), j < k → ¬ (b.data.toList[j]).toNat < 128

theorem noEnd_succ {b : ByteArray} {k : Nat} (h : NoEnd b k) (hk : k < b.size) (hc : ¬ b[k].toNat < 128) : NoEnd b (k + 1) := by
  intro j hj hjk
  by_cases e : j = k
  · subst e; rw [byte_of b j hk]; exact hc
  · exact h j hj (by omega)

theorem sz_at {b : ByteArray} {k : Nat} (h : NoEnd b k) (h10 : k < 10) (hk : k < b.size) (hc : b[k].toNat < 128) : sz b.data.toList = k + 1 :=
  sz_some h10 (by rw [len_size]; exact hk) (by rw [byte_of b k hk]; exact hc) (fun j hj => h j _ hj)

theorem sz_never {b : ByteArray} {k : Nat} (h : NoEnd b k) (hk : 10 ≤ k ∨ b.size ≤ k) : sz b.data.toList = 0 :=
  sz_none fun j hj h10 => h j hj (by rw [len_size] at hj; omega)


set_option maxRecDepth 100000 in
set_option maxHeartbeats 400000 in
theorem size_any (b : ByteArray) (w : World) (hb : b.size ≤ 9223372036854775807) :
    Calls Tryz.prog 155 #[.string b] w fun e w' => e = .returned (.int .i64 (sz b.data.toList)) ∧ w = w' := by
  by_cases hm : 10 < b.size
  · have hmi : (10 : Int) < (b.size : Int) := by omega
    go_enter Tryz.func155, Tryz.ntmps155
    go_wp2
    go_loop [7] (fun i => ∃ k : Nat, k ≤ 10 ∧ i = .int .i64 k ∧ NoEnd b k) (fun i => 10 - (intOf i).toNat)
    case atStart => exact ⟨0, by omega, rfl, fun j _ h => by omega⟩
    case round =>
      obtain ⟨k, hk, rfl, hn⟩ := hrel
      by_cases hlt : k < 10
      · have hks : k < b.size := by omega
        by_cases hc : b[k].toNat < 128
        · have H := Lib.hid (sz_at hn hlt hks hc)
          go_wp2
          go_ret
          exact ⟨ret_int (by rw [H.out]; omega), rfl⟩
        · have H := Lib.hid (noEnd_succ hn hks hc)
          go_wp2
          go_round
          case rel => exact ⟨k + 1, by omega, by go_num, H.out⟩
          case measure => simp [intOf]; omega
      · have H := Lib.hid (sz_never hn (by omega))
        go_wp2
        go_ret
        exact ⟨ret_int (by rw [H.out]; rfl), rfl⟩
  · have hmi : (b.size : Int) ≤ 10 := by omega
    go_enter Tryz.func155, Tryz.ntmps155
    go_wp2
    go_loop [7] (fun i => ∃ k : Nat, k ≤ b.size ∧ i = .int .i64 k ∧ NoEnd b k) (fun i => 10 - (intOf i).toNat)
    case atStart => exact ⟨0, by omega, rfl, fun j _ h => by omega⟩
    case round =>
      obtain ⟨k, hk, rfl, hn⟩ := hrel
      by_cases hks : k < b.size
      · by_cases hc : b[k].toNat < 128
        · have H := Lib.hid (sz_at hn (by omega) hks hc)
          go_wp2
          go_ret
          exact ⟨ret_int (by rw [H.out]; omega), rfl⟩
        · have H := Lib.hid (noEnd_succ hn hks hc)
          go_wp2
          go_round
          case rel => exact ⟨k + 1, by omega, by go_num, H.out⟩
          case measure => simp [intOf]; omega
      · have H := Lib.hid (sz_never hn (by omega))
        go_wp2
        go_ret
        exact ⟨ret_int (by rw [H.out]; rfl), rfl⟩

theorem val_snoc : ∀ (l : List UInt8) (c : UInt8), val (l ++ [c]) = val l + 128 ^ l.length * (c.toNat % 128)
  | [], c => by simp [val]
  | d :: l, c => by
    simp only [List.cons_append, val, List.length_cons, val_snoc l c, Nat.pow_succ]
    rw [Nat.mul_add, Nat.mul_comm (128 ^ l.length) 128, Nat.mul_assoc]
    omega
theorem val_lt : ∀ l : List UInt8, val l < 128 ^ l.length
  | [] => by simp [val]
  | d :: l => by
    have := val_lt l
    simp only [val, List.length_cons, Nat.pow_succ]
    omega
theorem pow_seven (k : Nat) : 2 ^ (7 * k) = 128 ^ k := by rw [Nat.pow_mul]

theorem or_next (x c k : Nat) (hk : k ≤ 9) (hx : x < 128 ^ k) :
    bits .or .u64 (x : Int) (IntKind.u64.wrap ((c : Int) % 128 * 2 ^ (7 * k))) = ((x + 128 ^ k * (c % 128)) % M64 : Nat) := by
  have e1 : ((c : Int) % 128 * 2 ^ (7 * k)) = ((128 ^ k * (c % 128) : Nat) : Int) := by
    rw [← pow_seven]; push_cast; rw [Int.mul_comm]
  have hM : M64 = 2 ^ (7 * k) * 2 ^ (64 - 7 * k) := by
    rw [← Nat.pow_add, show 7 * k + (64 - 7 * k) = 64 from by omega]; rfl
  have e2 : IntKind.u64.wrap ((128 ^ k * (c % 128) : Nat) : Int) = ((128 ^ k * (c % 128) % M64 : Nat) : Int) := by
    rw [IntKind.wrap_u64]; rfl
  have e3 : 128 ^ k * (c % 128) % M64 = 2 ^ (7 * k) * ((c % 128) % 2 ^ (64 - 7 * k)) := by
    rw [hM, ← pow_seven, Nat.mul_mod_mul_left]
  have hq : (c % 128) % 2 ^ (64 - 7 * k) < 2 ^ (64 - 7 * k) := Nat.mod_lt _ (Nat.pow_pos (by omega))
  have hx' : x < 2 ^ (7 * k) := by rw [pow_seven]; exact hx
  have hsum : 2 ^ (7 * k) * ((c % 128) % 2 ^ (64 - 7 * k)) + x < M64 := by
    have : 2 ^ (7 * k) * ((c % 128) % 2 ^ (64 - 7 * k)) + 2 ^ (7 * k) ≤ M64 := by
      rw [hM, ← Nat.mul_succ]
      exact Nat.mul_le_mul_left _ hq
    omega
  rw [e1, e2, u64_or_nat _ _ (by unfold M64 at hsum; omega) (by rw [e3]; unfold M64 at hsum; omega), e3, Nat.or_comm, ← Nat.two_pow_add_eq_or_of_lt hx']
  congr 1
  rw [Nat.add_comm, ← e3]
  rw [← e3] at hsum
  unfold M64 at hsum ⊢
  omega

theorem take_snoc (b : ByteArray) (k : Nat) (h : k < b.size) : b.data.toList.take (k + 1) = b.data.toList.take k ++ [b[k]] := by
  rw [List.take_succ_eq_append_getElem (by rw [len_size]; exact h)]; rfl

theorem small_mod {l : List UInt8} (h : l.length ≤ 9) : val l % M64 = val l :=
  Nat.mod_eq_of_lt (Nat.lt_of_lt_of_le (val_lt l) (Nat.le_trans (Nat.pow_le_pow_right (by omega) h) (by unfold M64; decide)))

theorem value_next (b : ByteArray) (k x : Nat) (hk : k ≤ 9) (h : k < b.size) (hx : x = valM (b.data.toList.take k)) :
    bits .or .u64 (x : Int) (IntKind.u64.wrap ((b[k].toNat : Int) % 128 * 2 ^ (7 * k))) = ((valM (b.data.toList.take (k + 1)) : Nat) : Int) := by
  have hl : (b.data.toList.take k).length = k := by rw [List.length_take, len_size]; omega
  have hv := val_lt (b.data.toList.take k)
  rw [hl] at hv
  rw [valM, small_mod (by omega)] at hx
  rw [valM, take_snoc b k h, val_snoc, hl, hx, or_next _ _ k hk hv]

set_option maxRecDepth 100000 in
set_option maxHeartbeats 400000 in
theorem value_any (b : ByteArray) (w : World) (hb : b.size ≤ 10) :
    Calls Tryz.prog 156 #[.string b] w fun e w' => e = .returned (.int .u64 ((valM b.data.toList : Nat) : Int)) ∧ w = w' := by
  go_enter Tryz.func156, Tryz.ntmps156
  go_wp2
  go_loop [3, 7] (fun n i => ∃ k x : Nat, k ≤ b.size ∧ i = .int .i64 k ∧ n = .int .u64 x ∧ x = valM (b.data.toList.take k)) (fun _ i => 10 - (intOf i).toNat)
  case atStart => exact ⟨0, 0, by omega, rfl, rfl, rfl⟩
  case round =>
    obtain ⟨k, x, hk, rfl, rfl, hx⟩ := hrel
    have HX := Lib.hid hx
    clear hx
    by_cases hks : k < b.size
    · have H := Lib.hid (value_next b k x (by omega) hks HX.out)
      go_wp2
      go_round
      case rel => exact ⟨k + 1, _, by omega, by go_num, by rw [H.out], rfl⟩
      case measure => simp [intOf]; omega
    · go_wp2
      go_ret
      exact ⟨ret_int (by rw [HX.out, List.take_of_length_le (by rw [len_size]; omega)]), rfl⟩

theorem ext_to (b : ByteArray) (k : Nat) : b.extract 0 k = bs (b.data.toList.take k) := by
  rw [Lib.extract_eq]; simp [bs]
theorem ext_from (b : ByteArray) (k : Nat) : b.extract k b.size = bs (b.data.toList.drop k) := by
  rw [Lib.extract_eq, List.take_of_length_le (by rw [List.length_drop, len_size]; omega)]; rfl
theorem bs_toList (l : List UInt8) : (bs l).toList = l := by rw [Lib.toList_data, bs_list]

/-- What Take returns. -/
def tkV (l : List UInt8) : Value := .tuple #[.int .u64 ((tk l).1 : Nat), .string (bs (tk l).2.1), .int .i64 ((tk l).2.2 : Nat)]

theorem takeShape (l : List UInt8) (h : ¬ sz l = 0) : tkV l = if put (valM (l.take (sz l))) = l.take (sz l) then .tuple #[.int .u64 (valM (l.take (sz l)) : Nat), .string (bs (l.drop (sz l))), .int .i64 0] else .tuple #[.int .u64 0, .string (bs []), .int .i64 2] := by
  by_cases hp : put (valM (l.take (sz l))) = l.take (sz l)
  · rw [if_pos hp, tkV, tk_yes h hp]; rfl
  · rw [if_neg hp, tkV, tk_no h hp]; rfl

set_option maxRecDepth 100000 in
set_option maxHeartbeats 400000 in
theorem take_any (b : ByteArray) (w : World) (hb : b.size ≤ 9223372036854775807) :
    Calls Tryz.prog 146 #[.string b] w fun e w' => e = .returned (tkV b.data.toList) ∧ Below w.heap.size w w' := by
  by_cases h : sz b.data.toList = 0
  · have hs := size_any b w hb
    rw [h] at hs
    by_cases hl : b.data.toList.length < 10
    · have e : tkV b.data.toList = .tuple #[.int .u64 0, .string (bs []), .int .i64 3] := by rw [tkV, tk_short h hl]; rfl
      rw [e]
      have H := Lib.hid hs
      rw [len_size] at hl
      clear e hs h
      go_enter Tryz.func146, Tryz.ntmps146
      go_wp2_with fail
      refine H.out.mono ?_
      rintro e w' ⟨rfl, rfl⟩
      go_wp2
      go_ret3
      exact ⟨rfl, Below.refl _ _⟩
    · have e : tkV b.data.toList = .tuple #[.int .u64 0, .string (bs []), .int .i64 2] := by rw [tkV, tk_long h hl]; rfl
      rw [e]
      have H := Lib.hid hs
      rw [len_size] at hl
      clear e hs h
      go_enter Tryz.func146, Tryz.ntmps146
      go_wp2_with fail
      refine H.out.mono ?_
      rintro e w' ⟨rfl, rfl⟩
      go_wp2
      go_ret3
      exact ⟨rfl, Below.refl _ _⟩
  · have hs := size_any b w hb
    have hk := sz_le b.data.toList
    rw [len_size] at hk
    have e := takeShape b.data.toList h
    generalize hk' : sz b.data.toList = k at *
    clear hk'
    have hv := value_any (bs (b.data.toList.take k)) w (by rw [bs_size, List.length_take]; omega)
    rw [bs_list] at hv
    have hvl := valM_lt (b.data.toList.take k)
    generalize valM (b.data.toList.take k) = x at *
    have hk0 : 0 < k := by omega
    have hkb : ((k : Int) == 0) = false := beq_eq_false_iff_ne.2 (by omega)
    have hxm : x ≤ 18446744073709551615 := by unfold M64 at hvl; omega
    rw [← ext_to] at hv
    have H := Lib.hid hs
    have HV := Lib.hid hv
    have hput : ∀ w, Calls Tryz.prog 72 #[.int .u64 (x : Int)] w fun e w' => e = .returned (.string (bs (put x))) ∧ Below w.heap.size w w' := fun w => by
      have := put_any (x : Int) w (by omega) (by omega)
      rwa [Int.toNat_natCast] at this
    have HP := Lib.hid hput
    have HF := Lib.hid (ext_from b k)
    clear hs hv hput hvl h
    by_cases hp : put x = b.data.toList.take k
    · have hcmp : ((bs (put x)).toList == (b.extract 0 k).toList) = true := by rw [ext_to, bs_toList, bs_toList, hp]; simp
      rw [if_pos hp] at e
      rw [e]
      clear e hp
      go_enter Tryz.func146, Tryz.ntmps146
      go_wp2_with fail
      refine H.out.mono ?_
      rintro e w' ⟨rfl, rfl⟩
      go_wp2_with fail
      refine HV.out.mono ?_
      rintro e w' ⟨rfl, rfl⟩
      go_wp2_with fail
      go_region_with (go_at_call 72; refine (HP.out _).mono ?_; rintro e w' ⟨rfl, hb1⟩)
      go_wp2_with fail
      go_quiet (fail)
      go_wp2
      go_ret3
      exact ⟨by rw [← HF.out]; rfl, below_drewN ((Below.refl _ _).drew.trans hb1) nq⟩
    · have hcmp : ((bs (put x)).toList == (b.extract 0 k).toList) = false := by rw [ext_to, bs_toList, bs_toList]; simpa using hp
      rw [if_neg hp] at e
      rw [e]
      clear e hp
      go_enter Tryz.func146, Tryz.ntmps146
      go_wp2_with fail
      refine H.out.mono ?_
      rintro e w' ⟨rfl, rfl⟩
      go_wp2_with fail
      refine HV.out.mono ?_
      rintro e w' ⟨rfl, rfl⟩
      go_wp2_with fail
      go_region_with (go_at_call 72; refine (HP.out _).mono ?_; rintro e w' ⟨rfl, hb1⟩)
      go_wp2
      go_ret3
      exact ⟨rfl, (Below.refl _ _).drew.trans hb1⟩

/-- What OfText returns. -/
def otV (l : List UInt8) : Value := .tuple #[.string (bs (ot l).1), .string (bs (ot l).2.1), .int .i64 ((ot l).2.2 : Nat)]

theorem tk_rest_le (l : List UInt8) {n : Nat} {r : List UInt8} (h : tk l = (n, r, 0)) : n < M64 ∧ r.length ≤ l.length := by
  rcases tk_cases l with ⟨e, _⟩ | e | ⟨n', r', e, hn, hl⟩
  · rw [h] at e; simp at e
  · rw [h] at e; simp at e
  · rw [h] at e
    simp at e
    obtain ⟨rfl, rfl⟩ := e
    exact ⟨hn, by rw [hl]; simp⟩



end Go.Proofs.YtkdidinekoaobaaGreatDoor

/- What the document's own answers of layer 1 return: they are the same plain functions. -/
namespace Go.Proofs.YtkdidinekoaobaaGreatDoor
open Go.RowKit

theorem bs_join (l r : List UInt8) : bs (l ++ r) = bs l ++ bs r := (ByteArray.mk_append_mk l r).symm
theorem bs_plus (l : List UInt8) (r : ByteArray) : bs l ++ r = bs (l ++ r.data.toList) := by rw [bs_join, bs_of]

theorem conv_one (W : World) (b cap : Nat) (c : UInt8) (n : Int) (hn : n = (c.toNat : Int)) (h : W.cell? ⟨b, 0, none⟩ = some (.int .u8 n)) :
    (convert 125 9 (.slice (some ⟨b, 0, none⟩) 1 cap)).run Tryz.prog W = .ok (.string (bs [c])) W := by
  subst hn
  refine run_convert_bytes_back W 125 9 5 ⟨b, 0, none⟩ cap [c] (by kernel_rfl) (by kernel_rfl) (by kernel_rfl) fun j hj => ?_
  have : j = 0 := by simpa using hj
  subst this
  simpa [Addr.add] using h

set_option maxRecDepth 100000 in
set_option maxHeartbeats 400000 in
theorem refput_lo (n : Nat) (w : World) (h : n < 128) :
    Calls Tryz.prog 79 #[.int .u64 (n : Int)] w fun e w' => e = .returned (.string (bs (put n))) ∧ Below w.heap.size w w' := by
  rw [put_lo h]
  have hc := conv_one (w.alloc (.cells #[.int .u8 (n : Int)] 5)) w.heap.size 1 (UInt8.ofNat n) (n : Int) (by rw [toNat_lo h]) (by go_simp)
  have hni : (n : Int) < 128 := by omega
  go_enter Tryz.func79, Tryz.ntmps79
  go_wp2
  go_ret
  exact ⟨rfl, (Below.refl _ _).alloc (Nat.le_refl _) _⟩

set_option maxRecDepth 100000 in
set_option maxHeartbeats 400000 in
theorem refput_hi (n : Nat) (w : World) (h : ¬ n < 128) (hm : n < M64) (ih : ∀ w, Calls Tryz.prog 79 #[.int .u64 ((n : Int) / 128)] w fun e w' => e = .returned (.string (bs (put (n / 128)))) ∧ Below w.heap.size w w') :
    Calls Tryz.prog 79 #[.int .u64 (n : Int)] w fun e w' => e = .returned (.string (bs (put n))) ∧ Below w.heap.size w w' := by
  rw [put_hi h]
  have H := Lib.hid ih
  clear ih
  have hni : ¬ (n : Int) < 128 := by omega
  have hnm : (n : Int) ≤ 18446744073709551615 := by unfold M64 at hm; omega
  have hc : ∀ (W : World) (b : Nat), W.cell? ⟨b, 0, none⟩ = some (.int .u8 (128 + (n : Int) % 128)) → (convert 125 9 (.slice (some ⟨b, 0, none⟩) 1 1)).run Tryz.prog W = .ok (.string (bs [UInt8.ofNat (128 + n % 128)])) W :=
    fun W b hW => conv_one W b 1 _ _ (by rw [toNat_hi]; omega) hW
  have q1 : (n : Int).tmod 128 = (n : Int) % 128 := IntWalk.rem_in _ _ (by omega)
  have q2 : IntKind.u64.wrap (128 + (n : Int) % 128) = 128 + (n : Int) % 128 := IntWalk.u64_in _ ⟨by omega, by omega⟩
  have q3 : IntKind.u8.wrap (128 + (n : Int) % 128) = 128 + (n : Int) % 128 := IntWalk.u8_in _ ⟨by omega, by omega⟩
  have q4 : IntKind.u64.wrap ((n : Int) / 128) = (n : Int) / 128 := IntWalk.u64_in _ ⟨by omega, by omega⟩
  have z1 : (bs [UInt8.ofNat (128 + n % 128)]).size = 1 := bs_size _
  have z2 : (bs (put (n / 128))).size ≤ 10 := by rw [bs_size]; exact put_ten (by unfold M64 at hm ⊢; omega)
  have hsum : ¬ 9223372036854775807 < (bs [UInt8.ofNat (128 + n % 128)]).size + (bs (put (n / 128))).size := by omega
  have hadd := bs_join [UInt8.ofNat (128 + n % 128)] (put (n / 128))
  rw [List.singleton_append] at hadd
  rw [hadd]
  clear h hm z1 z2 hadd
  generalize bs [UInt8.ofNat (128 + n % 128)] = X at *
  generalize bs (put (n / 128)) = Y at *
  go_enter Tryz.func79, Tryz.ntmps79
  go_wp2_with fail
  go_region_with (go_at_call 79; refine (H.out _).mono ?_; rintro e w' ⟨rfl, hb1⟩; have hl := fun b o h => hb1.cell (p := ⟨b, o, none⟩) h)
  all_goals go_wp2
  all_goals go_ret
  · exact ⟨rfl, (((Below.refl _ _).alloc (Nat.le_refl _) _).drew).trans (hb1.mono (by simp))⟩
  · exact ⟨rfl, (((Below.refl _ _).alloc (Nat.le_refl _) _).drew).trans (hb1.mono (by simp))⟩
  · exact ⟨rfl, ((Below.refl _ _).drew.trans hb1).alloc hb1.size _⟩

theorem refput_any (n : Nat) : ∀ (w : World), n < M64 →
    Calls Tryz.prog 79 #[.int .u64 (n : Int)] w fun e w' => e = .returned (.string (bs (put n))) ∧ Below w.heap.size w w' := by
  induction n using Nat.strongRecOn with
  | _ n ih =>
    intro w hm
    by_cases h : n < 128
    · exact refput_lo n w h
    · refine refput_hi n w h hm fun w => ?_
      have := ih (n / 128) (by omega) w (by unfold M64 at hm ⊢; omega)
      rwa [show ((n / 128 : Nat) : Int) = (n : Int) / 128 from by omega] at this

theorem refput_int (n : Int) (w : World) (h0 : 0 ≤ n) (h1 : n ≤ 18446744073709551615) :
    Calls Tryz.prog 79 #[.int .u64 n] w fun e w' => e = .returned (.string (bs (put n.toNat))) ∧ Below w.heap.size w w' := by
  have := refput_any n.toNat w (by unfold M64; omega)
  rwa [Int.toNat_of_nonneg h0] at this



end Go.Proofs.YtkdidinekoaobaaGreatDoor

/- What the document's own Take and OfText return: the same plain functions. -/
namespace Go.Proofs.YtkdidinekoaobaaGreatDoor
open Go.RowKit

theorem wrap_nat (z : Nat) : IntKind.u64.wrap (z : Int) = ((z % M64 : Nat) : Int) := by rw [IntKind.wrap_u64]; rfl
theorem mod_step (x m c : Nat) : (IntKind.u64.wrap ((x : Int) + IntKind.u64.wrap ((m : Int) * ((c : Int) % 128)))) = (((x + m * (c % 128)) % M64 : Nat) : Int) := by
  have e : (m : Int) * ((c : Int) % 128) = ((m * (c % 128) : Nat) : Int) := by push_cast; rfl
  rw [e, wrap_nat, ← Int.natCast_add, wrap_nat, Nat.add_mod_mod]
theorem mod_mul (m : Nat) : IntKind.u64.wrap ((m : Int) * 128) = ((m * 128 % M64 : Nat) : Int) := by
  have e : (m : Int) * 128 = ((m * 128 : Nat) : Int) := by push_cast; rfl
  rw [e, wrap_nat]

theorem valM_next (b : ByteArray) (k : Nat) (h : k < b.size) : valM (b.data.toList.take (k + 1)) = (valM (b.data.toList.take k) + 128 ^ k % M64 * (b[k].toNat % 128)) % M64 := by
  have hl : (b.data.toList.take k).length = k := by rw [List.length_take, len_size]; omega
  rw [valM, valM, take_snoc b k h, val_snoc, hl]
  generalize val (b.data.toList.take k) = v
  generalize 128 ^ k = q
  generalize b[k].toNat % 128 = c
  generalize M64 = M
  simp [Nat.add_mod, Nat.mul_mod]
theorem pow_next (k : Nat) : 128 ^ k % M64 * 128 % M64 = 128 ^ (k + 1) % M64 := by
  rw [Nat.pow_succ, Nat.mul_mod, Nat.mod_mod, ← Nat.mul_mod]

set_option maxRecDepth 100000 in
set_option maxHeartbeats 400000 in
theorem reftake_any (b : ByteArray) (w : World) (hb : b.size ≤ 9223372036854775807) :
    Calls Tryz.prog 69 #[.string b] w fun e w' => e = .returned (tkV b.data.toList) ∧ Below w.heap.size w w' := by
  go_enter Tryz.func69, Tryz.ntmps69
  go_wp2
  go_loop [5, 6, 7] (fun n m i => ∃ (k x y : Nat), k ≤ 10 ∧ k ≤ b.size ∧ i = .int .i64 k ∧ n = .int .u64 x ∧ m = .int .u64 y ∧ x = valM (b.data.toList.take k) ∧ y = 128 ^ k % M64 ∧ NoEnd b k) (fun _ _ i => 10 - (intOf i).toNat)
  case atStart => exact ⟨0, 0, 1, by omega, by omega, rfl, rfl, rfl, rfl, by unfold M64; decide, fun j _ h => by omega⟩
  case round =>
    obtain ⟨k, x, y, hk10, hks, rfl, rfl, rfl, hx, hy, hn⟩ := hrel
    have HX := Lib.hid hx
    have HY := Lib.hid hy
    have HN := Lib.hid hn
    clear hx hy hn
    by_cases h10 : k < 10
    · by_cases hsz : k = b.size
      · have hq : ((k : Int) == (b.size : Int)) = true := by rw [beq_iff_eq]; omega
        have HS := Lib.hid (sz_never HN.out (by omega))
        have hsz' : k ≥ b.size := by omega
        clear hsz
        go_wp2
        go_ret3
        refine ⟨?_, Below.refl _ _⟩
        rw [tkV, tk_short HS.out (by rw [len_size]; omega)]; rfl
      · have hq : ((k : Int) == (b.size : Int)) = false := beq_eq_false_iff_ne.2 (by omega)
        have hlt : k < b.size := by omega
        clear hsz
        have hst := mod_step x y b[k].toNat
        have hmu := mod_mul y
        have e1 := valM_next b k hlt
        have e2 := pow_next k
        rw [← HX.out, ← HY.out] at e1
        rw [← HY.out] at e2
        rw [← e1] at hst
        rw [e2] at hmu
        have hxl := valM_lt (b.data.toList.take (k + 1))
        obtain ⟨x', hx'⟩ : ∃ x', x' = valM (b.data.toList.take (k + 1)) := ⟨_, rfl⟩
        obtain ⟨y', hy'⟩ : ∃ y', y' = 128 ^ (k + 1) % M64 := ⟨_, rfl⟩
        rw [← hx'] at hst hxl
        rw [← hy'] at hmu
        have HX' := Lib.hid hx'
        have HY' := Lib.hid hy'
        clear e1 e2 hx' hy' HX HY
        by_cases hc : b[k].toNat < 128
        · have HZ := Lib.hid (sz_at HN.out h10 hlt hc)
          have hput : ∀ w, Calls Tryz.prog 79 #[.int .u64 (x' : Int)] w fun e w' => e = .returned (.string (bs (put x'))) ∧ Below w.heap.size w w' := fun w => refput_any x' w hxl
          have HP := Lib.hid hput
          have HF := Lib.hid (ext_from b (k + 1))
          have p1 : IntKind.i64.wrap ((k : Int) + 1) = (k : Int) + 1 := IntWalk.i64_in _ ⟨by omega, by omega⟩
          have p2 : ((k : Int) + 1).toNat = k + 1 := by omega
          have p3 : (0 : Int) ≤ (k : Int) + 1 := by omega
          have p4 : (k : Int) + 1 ≤ (b.size : Int) := by omega
          clear hput
          by_cases hp : put x' = b.data.toList.take (k + 1)
          · have hcmp : ((bs (put x')).toList == (b.extract 0 (k + 1)).toList) = true := by rw [ext_to, bs_toList, bs_toList, hp]; simp
            have hfin : tkV b.data.toList = .tuple #[.int .u64 (x' : Nat), .string (b.extract (k + 1) b.size), .int .i64 0] := by
              rw [HF.out, tkV, tk_yes (by rw [HZ.out]; omega) (by rw [HZ.out, ← HX'.out, hp]), HZ.out, ← HX'.out]; rfl
            have HFIN := Lib.hid hfin
            clear hp hfin
            go_wp2_with fail
            go_region_with (go_at_call 79; refine (HP.out _).mono ?_; rintro e w' ⟨rfl, hb1⟩)
            go_wp2_with fail
            go_quiet (fail)
            go_wp2
            go_ret3
            exact ⟨by rw [HFIN.out]; rfl, below_drewN ((Below.refl _ _).drew.trans hb1) nq⟩
          · have hcmp : ((bs (put x')).toList == (b.extract 0 (k + 1)).toList) = false := by rw [ext_to, bs_toList, bs_toList]; simpa using hp
            have hfin : tkV b.data.toList = .tuple #[.int .u64 0, .string (bs []), .int .i64 2] := by
              rw [tkV, tk_no (by rw [HZ.out]; omega) (by rw [HZ.out, ← HX'.out]; exact hp)]; rfl
            have HFIN := Lib.hid hfin
            clear hp hfin
            go_wp2_with fail
            go_region_with (go_at_call 79; refine (HP.out _).mono ?_; rintro e w' ⟨rfl, hb1⟩)
            go_wp2
            go_ret3
            exact ⟨by rw [HFIN.out]; rfl, (Below.refl _ _).drew.trans hb1⟩
        · have HN' := Lib.hid (noEnd_succ HN.out hlt hc)
          go_wp2
          go_round
          case rel => exact ⟨k + 1, x', y', by omega, by omega, by go_num, rfl, rfl, HX'.out, HY'.out, HN'.out⟩
          case measure => simp [intOf]; omega
    · have HS := Lib.hid (sz_never HN.out (by omega))
      go_wp2
      go_ret3
      refine ⟨?_, Below.refl _ _⟩
      rw [tkV, tk_long HS.out (by rw [len_size]; omega)]; rfl



end Go.Proofs.YtkdidinekoaobaaGreatDoor
