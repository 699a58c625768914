/- The program's names of segments: fileName, Name, Hints. -/
import Derived.Test.YtmekkbhblghbmaaGreatDoorScode
import Derived.Test.YtmekkbhblghbmaaGreatDoorSlays
import Derived.Lib.AppendIntMem
namespace Go.Proofs.YtmekkbhblghbmaaGreatDoor
open Go.RowKit
set_option linter.unusedVariables false

theorem dg_snoc (n : Nat) : ∀ k, dg n (k + 1) = dg (n / 10) k ++ [UInt8.ofNat (48 + n % 10)]
  | 0 => by simp [dg]
  | k + 1 => by
    rw [dg, dg_snoc n k, dg, List.cons_append, Nat.pow_succ, Nat.mul_comm, ← Nat.div_div_eq_div_mul]
theorem dg_zero : ∀ k, dg 0 k = List.replicate k 48
  | 0 => rfl
  | k + 1 => by
    rw [dg_snoc, Nat.zero_div, dg_zero k, ← List.replicate_append_replicate (n := k) (m := 1)]
    rfl
theorem dec_dg : ∀ k n, n < 10 ^ (k + 1) → (Lib.decDigits n).length ≤ k + 1 ∧ dg n (k + 1) = List.replicate (k + 1 - (Lib.decDigits n).length) 48 ++ Lib.decDigits n
  | 0, n, h => by
    have h1 : n < 10 := by simpa using h
    rw [Lib.decDigits_one h1]
    refine ⟨by simp, ?_⟩
    rw [dg_snoc]
    simp [dg, Nat.mod_eq_of_lt h1]
  | k + 1, n, h => by
    by_cases h1 : n < 10
    · rw [Lib.decDigits_one h1]
      refine ⟨by simp, ?_⟩
      rw [dg_snoc, Nat.div_eq_of_lt h1, dg_zero, Nat.mod_eq_of_lt h1]
      rfl
    · have hlt : n / 10 < 10 ^ (k + 1) := by rw [Nat.div_lt_iff_lt_mul (by omega), ← Nat.pow_succ]; exact h
      obtain ⟨i1, i2⟩ := dec_dg k (n / 10) hlt
      have e : Lib.decDigits n = Lib.decDigits (n / 10) ++ [UInt8.ofNat (48 + n % 10)] := by rw [Lib.decDigits, dif_neg h1]
      rw [dg_snoc, i2, e, List.length_append, List.length_singleton]
      refine ⟨by omega, ?_⟩
      rw [show k + 1 + 1 - ((Lib.decDigits (n / 10)).length + 1) = k + 1 - (Lib.decDigits (n / 10)).length by omega, List.append_assoc]
/-- A name's parts: the letter, so many zeros, the digits. -/
theorem name_parts {c : UInt8} {n : Int} (h : segOk n) : (Lib.itoa n).length ≤ 6 ∧ nameOf c n = [c] ++ Lib.repeatL [48] (6 - (Lib.itoa n).length) ++ Lib.itoa n := by
  obtain ⟨h0, h1⟩ := h
  obtain ⟨m, rfl⟩ : ∃ m : Nat, n = m := ⟨n.toNat, by omega⟩
  obtain ⟨i1, i2⟩ := dec_dg 5 m (by omega)
  rw [nameOf_ok ⟨h0, h1⟩, Lib.itoa_nonneg, Int.toNat_natCast]
  refine ⟨i1, ?_⟩
  have e := Lib.repeatL_replicate 48 1 (6 - (Lib.decDigits m).length)
  rw [show List.replicate 1 (48 : UInt8) = [48] from rfl, Nat.mul_one] at e
  rw [e, List.append_assoc, ← i2]
  rfl

theorem repX : Builder.Extra Tryz.prog laysRepeat_ren := {
  sizeBuilder := by kernel_rfl
  liesBuilder := by kernel_rfl
  t5 := laysRepeat.t5
  a5 := laysRepeat.a5
  z5 := laysRepeat.z5
  v5 := laysRepeat.v5
  infoByte := by kernel_rfl
  cellsByte := by kernel_rfl
  sizeByte := by kernel_rfl
  neB5 := by decide }
theorem rep_any (c : Nat) (w : World) (hc : c ≤ 6) : Calls Tryz.prog 118 #[.string ⟨#[48]⟩, .int .i64 c] w fun e w' => e = .returned (.string (bs (Lib.repeatL [48] c))) ∧ Below w.heap.size w w' :=
  Any.strings_Repeat laysRepeat repX ⟨#[48]⟩ c w (by omega) (by show 1 * c ≤ _; omega)
theorem itoa_any {B : Nat} (n : Int) (w : World) (hT : Tb B w) (hn1 : -9223372036854775808 ≤ n) (hn2 : n ≤ 9223372036854775807) : Calls Tryz.prog 117 #[.int .i64 n] w fun e w' => e = .returned (.string (bs (Lib.itoa n))) ∧ Below w.heap.size w w' :=
  (Any.strconv_Itoa laysItoa n hn1 hn2 w (hT.tab (by kernel_rfl))).mono fun e w' ⟨h, k, os, hw⟩ => ⟨h, hw ▸ Lib.below_grow _ w (Nat.le_refl _) k os⟩

set_option maxRecDepth 100000 in
set_option maxHeartbeats 1000000 in
theorem fname_any {B : Nat} (c : UInt8) (n : Int) (w : World) (hT : Tb B w) (hn1 : -9223372036854775808 ≤ n) (hn2 : n ≤ 9223372036854775807) :
    Calls Tryz.prog 73 #[.string (bs [c]), .int .i64 n] w fun e w' => e = .returned (.string (bs (nameOf c n))) ∧ Below w.heap.size w w' := by
  by_cases h : segOk n
  · obtain ⟨h6, hp⟩ := name_parts (c := c) h
    have HR := Lib.hid (sgv_yes h w)
    have HI := Lib.hid (itoa_any n w hT hn1 hn2)
    have HP := Lib.hid (rep_any (6 - (Lib.itoa n).length))
    have hA := bs_join [c] (Lib.repeatL [48] (6 - (Lib.itoa n).length))
    have hB := bs_join ([c] ++ Lib.repeatL [48] (6 - (Lib.itoa n).length)) (Lib.itoa n)
    have s1 : (bs [c]).size = 1 := bs_size _
    have s2 : (bs (Lib.itoa n)).size = (Lib.itoa n).length := bs_size _
    have s3 : (bs (Lib.repeatL [48] (6 - (Lib.itoa n).length))).size = 6 - (Lib.itoa n).length := by rw [bs_size, Lib.repeatL_length]; simp
    rw [← hp] at hB
    rw [hA] at hB
    have s4 : (bs [c] ++ bs (Lib.repeatL [48] (6 - (Lib.itoa n).length))).size = 1 + (6 - (Lib.itoa n).length) := by rw [ByteArray.size_append, s1, s3]
    have HB := Lib.hid hB
    generalize bs (Lib.itoa n) = I at *
    generalize bs [c] = Cc at *
    generalize bs (nameOf c n) = N at *
    obtain ⟨M, hM⟩ : ∃ M, (Lib.itoa n).length = M := ⟨_, rfl⟩
    rw [hM] at h6 s2 s3 s4 HP HB
    obtain ⟨K, hK⟩ : ∃ K, 6 - M = K := ⟨_, rfl⟩
    rw [hK] at s3 s4 HP HB
    generalize bs (Lib.repeatL [48] K) = R at *
    have q1 : IntKind.i64.wrap (6 - (M : Int)) = (K : Int) := by rw [IntWalk.i64_in _ ⟨by omega, by omega⟩]; omega
    clear hp hA hB h hT hM
    go_enter Tryz.func73, Tryz.ntmps73
    go_wp2_with fail
    refine HR.out.mono ?_
    rintro e w1 ⟨rfl, rfl⟩
    go_wp2_with fail
    refine HI.out.mono ?_
    rintro e w1 ⟨rfl, hb1⟩
    have HB1 := Lib.hid hb1; clear hb1
    go_wp2_with fail
    first | rw [q1] | skip
    refine (HP.out _ (by omega)).mono ?_
    rintro e w2 ⟨rfl, hb2⟩
    have HB2 := Lib.hid (HB1.out.trans (hb2.mono HB1.out.size)); clear hb2
    go_wp2_with fail
    go_ret
    exact ⟨by rw [HB.out]; rfl, HB2.out⟩
  · rw [nameOf_no h]
    have HR := Lib.hid (sgv_no h w)
    clear h
    go_enter Tryz.func73, Tryz.ntmps73
    go_wp2_with fail
    refine HR.out.mono ?_
    rintro e w1 ⟨rfl, rfl⟩
    go_wp2_with fail
    go_ret
    exact ⟨rfl, Below.refl _ _⟩

theorem nmC : NmC := {
  name := fun n w hT h1 h2 => by
    have HF := Lib.hid (fname_any 115 n w hT h1 h2)
    rw [show bs [115] = ⟨#[115]⟩ from rfl] at HF
    clear hT h1 h2
    go_enter Tryz.func28, Tryz.ntmps28
    go_wp2_with fail
    refine HF.out.mono ?_
    rintro e w1 ⟨rfl, hb1⟩
    go_wp2_with fail
    go_ret
    exact ⟨rfl, hb1⟩
  hints := fun n w hT h1 h2 => by
    have HF := Lib.hid (fname_any 104 n w hT h1 h2)
    rw [show bs [104] = ⟨#[104]⟩ from rfl] at HF
    clear hT h1 h2
    go_enter Tryz.func48, Tryz.ntmps48
    go_wp2_with fail
    refine HF.out.mono ?_
    rintro e w1 ⟨rfl, hb1⟩
    go_wp2_with fail
    go_ret
    exact ⟨rfl, hb1⟩ }
end Go.Proofs.YtmekkbhblghbmaaGreatDoor
