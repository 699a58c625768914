/- What the document's own answers of layer 2 return. -/
import Derived.Test.YtbefhnpmilcffaaDoorCseals
namespace Go.Proofs.YtbefhnpmilcffaaDoor
open Go.RowKit

set_option maxHeartbeats 400000 in
theorem refstep_any (n : Nat) (w : World) (h : n < 4294967296) :
    Calls Tryd.prog 66 #[.int .u32 (n : Int)] w fun e w' => e = .returned (.int .u32 ((step n : Nat) : Int)) ∧ w = w' := by
  by_cases ho : n % 2 = 1
  · have hx : bits .xor .u32 ((n : Int) / 2) 2197175160 = ((step n : Nat) : Int) := by
      rw [step_odd ho, ← u32_xor_nat (n / 2) 2197175160 (by omega) (by omega)]; rfl
    generalize step n = s at *
    have hb : ((n : Int) % 2 == 1) = true := by rw [beq_iff_eq]; omega
    clear ho
    go_enter Tryd.func66, Tryd.ntmps66
    go_wp2
    go_ret
    exact ⟨rfl, rfl⟩
  · rw [step_even ho]
    have hb : ((n : Int) % 2 == 1) = false := by rw [beq_eq_false_iff_ne]; omega
    clear ho
    go_enter Tryd.func66, Tryd.ntmps66
    go_wp2
    go_ret
    exact ⟨ret_int (by omega), rfl⟩

set_option maxRecDepth 100000 in
set_option maxHeartbeats 400000 in
theorem refmore_any (n : Nat) (b : ByteArray) (w : World) (hn : n < 4294967296) (hb : b.size ≤ 9223372036854775807) :
    Calls Tryd.prog 54 #[.int .u32 (n : Int), .string b] w fun e w' => e = .returned (.int .u32 ((more n b.data.toList : Nat) : Int)) ∧ w = w' := by
  go_enter Tryd.func54, Tryd.ntmps54
  go_wp2_with fail
  have HN := Lib.hid (not32 n hn)
  go_loop [5, 6] (fun c i => ∃ k x : Nat, k ≤ b.size ∧ i = .int .i64 k ∧ c = .int .u32 x ∧ x = upd (inv n) (b.data.toList.take k)) (fun _ i => b.size - (intOf i).toNat)
  case atStart => exact ⟨0, inv n, by omega, rfl, by rw [HN.out], by rw [List.take_zero, upd_nil]⟩
  case round =>
    obtain ⟨k, x, hk, rfl, rfl, hx⟩ := hrel
    have hxl : x < 4294967296 := by rw [hx]; exact upd_lt _ (inv_lt hn)
    have HX := Lib.hid hx
    clear hx
    by_cases hlt : k < b.size
    · have hc := u8_lt b[k]
      have e1 : bits .xor .u32 (x : Int) (b[k].toNat : Int) = ((x ^^^ b[k].toNat : Nat) : Int) := u32_xor_nat x b[k].toNat (by omega) (by omega)
      have hy : x ^^^ b[k].toNat < 4294967296 := Nat.xor_lt_two_pow (n := 32) (by omega) (by omega)
      have HS := Lib.hid (upd_snoc (inv n) (b.data.toList.take k) b[k])
      have HE : Hid (upd (inv n) (b.data.toList.take (k + 1)) = steps 8 (x ^^^ b[k].toNat)) := Lib.hid (by rw [take_snoc b k hlt, HS.out, HX.out])
      generalize x ^^^ b[k].toNat = y at *
      clear HS
      go_wp2_with fail
      go_loop [5, 7] (fun c i => ∃ j : Nat, j ≤ 8 ∧ i = .int .i64 j ∧ c = .int .u32 ((steps j y : Nat) : Int)) (fun _ i => 8 - (intOf i).toNat)
      case atStart => exact ⟨0, by omega, rfl, by rw [steps]⟩
      case round =>
        obtain ⟨j, hj, rfl, rfl⟩ := hrel
        by_cases hj8 : j < 8
        · have hs := refstep_any (steps j y) w (steps_lt j hy)
          rw [steps_snoc] at hs
          have HS := Lib.hid hs
          clear hs
          go_wp2_with fail
          refine HS.out.mono ?_
          rintro e w' ⟨rfl, rfl⟩
          go_wp2_with fail
          go_round
          case rel => exact ⟨j + 1, by omega, by go_num, rfl⟩
          case measure => simp [intOf]; omega
        · have e8 : j = 8 := by omega
          subst e8
          go_wp2
          go_round
          case rel => exact ⟨k + 1, _, by omega, by go_num, rfl, HE.out.symm⟩
          case measure => simp [intOf]; omega
    · have HM := Lib.hid (not32 x hxl)
      go_wp2
      go_ret
      refine ⟨ret_int ?_, rfl⟩
      rw [HM.out, HX.out, List.take_of_length_le (by rw [len_size]; omega), more]

set_option maxRecDepth 100000 in
set_option maxHeartbeats 400000 in
theorem refsum_any (b : ByteArray) (w : World) (hb : b.size ≤ 9223372036854775807) :
    Calls Tryd.prog 39 #[.string b] w fun e w' => e = .returned (.int .u32 ((sum b.data.toList : Nat) : Int)) ∧ w = w' := by
  go_enter Tryd.func39, Tryd.ntmps39
  go_wp2_with fail
  refine (refmore_any 0 b w (by omega) hb).mono ?_
  rintro e w1 ⟨rfl, rfl⟩
  go_wp2
  go_ret
  exact ⟨rfl, rfl⟩

theorem refconv (W : World) (b n : Nat) (h0 : W.cell? ⟨b, 0, none⟩ = some (.int .u8 ((n : Int) % 256))) (h1 : W.cell? ⟨b, 1, none⟩ = some (.int .u8 ((n : Int) / 256 % 256)))
    (h2 : W.cell? ⟨b, 2, none⟩ = some (.int .u8 ((n : Int) / 65536 % 256))) (hl : n < 4294967296) (h3 : W.cell? ⟨b, 3, none⟩ = some (.int .u8 ((n : Int) / 16777216))) :
    (convert 54 9 (.slice (some ⟨b, 0, none⟩) 4 4)).run Tryd.prog W = .ok (.string (bs (four n))) W := by
  refine run_convert_bytes_back W 54 9 5 ⟨b, 0, none⟩ 4 (four n) (by kernel_rfl) (by kernel_rfl) (by kernel_rfl) fun j hj => ?_
  obtain rfl | rfl | rfl | rfl : j = 0 ∨ j = 1 ∨ j = 2 ∨ j = 3 := by rw [four_length] at hj; omega
  · simp [Addr.add, h0, four]
  · simp [Addr.add, h1, four]
  · simp [Addr.add, h2, four]
  · rw [show (n : Int) / 16777216 = (n : Int) / 16777216 % 256 by omega] at h3
    simp [Addr.add, h3, four]

set_option maxRecDepth 100000 in
set_option maxHeartbeats 400000 in
theorem refseal_any (b : ByteArray) (w : World) (hb : b.size ≤ 281474976710656) :
    Calls Tryd.prog 29 #[.string b] w fun e w' => e = .returned (.string (bs (seal4 b.data.toList))) ∧ Below w.heap.size w w' := by
  have hs := refsum_any b w (by omega)
  have hl := sum_lt b.data.toList
  rw [show bs (seal4 b.data.toList) = bs (four (sum b.data.toList)) ++ b from by rw [bs_add]; rfl]
  have hz : (bs (four (sum b.data.toList))).size = 4 := bs_size _
  generalize sum b.data.toList = n at *
  have hc : ∀ (W : World) (b : Nat), W.cell? ⟨b, 0, none⟩ = some (.int .u8 ((n : Int) % 256)) → W.cell? ⟨b, 1, none⟩ = some (.int .u8 ((n : Int) / 256 % 256)) → W.cell? ⟨b, 2, none⟩ = some (.int .u8 ((n : Int) / 65536 % 256)) → W.cell? ⟨b, 3, none⟩ = some (.int .u8 ((n : Int) / 16777216)) →
    (convert 54 9 (.slice (some ⟨b, 0, none⟩) 4 4)).run Tryd.prog W = .ok (.string (bs (four n))) W := fun W b h0 h1 h2 h3 => refconv W b n h0 h1 h2 hl h3
  generalize bs (four n) = q at *
  have HS := Lib.hid hs
  have hz4 : q.size ≤ 4 := by omega
  clear hs hz
  go_enter Tryd.func29, Tryd.ntmps29
  go_wp2_with fail
  refine HS.out.mono ?_
  rintro e w1 ⟨rfl, rfl⟩
  go_wp2
  go_ret
  exact ⟨rfl, (Below.refl _ _).alloc (Nat.le_refl _) _⟩

theorem seal_eq (b : ByteArray) : (four (sum (b.data.toList.drop 4)) = b.data.toList.take 4) ↔ seal4 (b.data.toList.drop 4) = b.data.toList := by
  generalize b.data.toList = l at *
  have e := List.take_append_drop 4 l
  constructor
  · intro q
    rw [seal4, q, e]
  · intro q
    rw [seal4] at q
    have := congrArg (List.take 4) q
    rwa [List.take_left' (four_length _)] at this

set_option maxRecDepth 100000 in
set_option maxHeartbeats 400000 in
theorem refopen_any (b : ByteArray) (w : World) (hb : b.size ≤ 281474976710656) :
    Calls Tryd.prog 32 #[.string b] w fun e w' => e = .returned (opnV b.data.toList) ∧ Below w.heap.size w w' := by
  by_cases hs : b.data.toList.length < 4
  · have e : opnV b.data.toList = .tuple #[.string (bs []), .bool false] := by rw [opnV, opn_short hs]
    rw [e]
    clear e
    rw [len_size] at hs
    go_enter Tryd.func32, Tryd.ntmps32
    go_wp2
    go_ret2
    exact ⟨rfl, Below.refl _ _⟩
  · have hsz : ¬ b.size < 4 := by rw [len_size] at hs; exact hs
    have hsi : ¬ (b.size : Int) < 4 := by omega
    have hse := seal_eq b
    have ht : ∀ w, Calls Tryd.prog 29 #[.string (b.extract 4 b.size)] w fun e w' => e = .returned (.string (bs (seal4 (b.data.toList.drop 4)))) ∧ Below w.heap.size w w' := fun w => by
      have := refseal_any (b.extract 4 b.size) w (by rw [ByteArray.size_extract]; omega)
      rwa [ext_from, bs_list, ← ext_from] at this
    have HT := Lib.hid ht
    clear ht
    by_cases hq : four (sum (b.data.toList.drop 4)) = b.data.toList.take 4
    · have e : opnV b.data.toList = .tuple #[.string (b.extract 4 b.size), .bool true] := by rw [opnV, opn_yes hs hq, ext_from]
      have hcmp : ((bs (seal4 (b.data.toList.drop 4))).toList == b.toList) = true := by rw [bs_toList, hse.1 hq, Lib.toList_data]; simp
      rw [e]
      clear e hq hs hse
      generalize bs (seal4 (b.data.toList.drop 4)) = q at *
      go_enter Tryd.func32, Tryd.ntmps32
      go_wp2_with fail
      refine (HT.out _).mono ?_
      rintro e w1 ⟨rfl, b1⟩
      go_wp2
      go_ret2
      exact ⟨rfl, b1⟩
    · have e : opnV b.data.toList = .tuple #[.string (bs []), .bool false] := by rw [opnV, opn_no hs hq]
      have hcmp : ((bs (seal4 (b.data.toList.drop 4))).toList == b.toList) = false := by
        rw [bs_toList, Lib.toList_data]
        simpa using fun h => hq (hse.2 h)
      rw [e]
      clear e hq hs hse
      generalize bs (seal4 (b.data.toList.drop 4)) = q at *
      go_enter Tryd.func32, Tryd.ntmps32
      go_wp2_with fail
      refine (HT.out _).mono ?_
      rintro e w1 ⟨rfl, b1⟩
      go_wp2
      go_ret2
      exact ⟨rfl, b1⟩

end Go.Proofs.YtbefhnpmilcffaaDoor
