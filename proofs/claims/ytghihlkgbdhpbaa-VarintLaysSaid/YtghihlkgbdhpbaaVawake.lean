/- The first, small test of every law of layer 1 returns true. -/
import Derived.Test.YtghihlkgbdhpbaaVtakes
import Derived.OpenShut
namespace Go.Proofs.Ytghihlkgbdhpbaa
open Go.RowKit

theorem put300 : put 300 = [172, 2] := by rw [put_hi (by omega), put_lo (by omega)]; rfl
theorem put2 : put 2 = [2] := by rw [put_lo (by omega)]; rfl
theorem tk300 : tkV [172, 2, 120] = .tuple #[.int .u64 300, .string ⟨#[120]⟩, .int .i64 0] := by
  have := tk_put (n := 300) (by unfold M64; omega) [120]
  rw [put300] at this
  rw [tkV, show ([172, 2, 120] : List UInt8) = [172, 2] ++ [120] from rfl, this]
  rfl

set_option maxRecDepth 100000 in
set_option maxHeartbeats 400000 in
theorem awake_any (w : World) : Calls Try.prog 9 #[] w fun e w' => e = .returned (.bool true) ∧ Below w.heap.size w w' := by
  have h1 : ∀ w, Calls Try.prog 18 #[.string ⟨#[172, 2, 120]⟩] w fun e w' => e = .returned (.tuple #[.int .u64 300, .string ⟨#[120]⟩, .int .i64 0]) ∧ Below w.heap.size w w' := fun w => by
    have := take_any ⟨#[172, 2, 120]⟩ w (by decide)
    rwa [show (⟨#[172, 2, 120]⟩ : ByteArray).data.toList = [172, 2, 120] from rfl, tk300] at this
  have h2 : ∀ w, Calls Try.prog 10 #[.int .u64 300] w fun e w' => e = .returned (.string ⟨#[172, 2]⟩) ∧ Below w.heap.size w w' := fun w => by
    have := put_any 300 w (by omega) (by omega)
    rwa [show (300 : Int).toNat = 300 from rfl, put300] at this
  have h3 : ∀ w, Calls Try.prog 12 #[.int .i64 (-1)] w fun e w' => e = .returned (.int .u64 1) ∧ w = w' := fun w => zig_any (-1) w (by omega) (by omega)
  have h4 : ∀ w, Calls Try.prog 14 #[.int .u64 1] w fun e w' => e = .returned (.int .i64 (-1)) ∧ w = w' := fun w => zag_any 1 w (by omega) (by omega)
  have h5 : ∀ w, Calls Try.prog 16 #[.string ⟨#[97, 98]⟩] w fun e w' => e = .returned (.string ⟨#[2, 97, 98]⟩) ∧ Below w.heap.size w w' := fun w => by
    have := text_any ⟨#[97, 98]⟩ w (by decide)
    rwa [show (⟨#[97, 98]⟩ : ByteArray).size = 2 from rfl, put2] at this
  have H1 := Lib.hid h1
  have H2 := Lib.hid h2
  have H3 := Lib.hid h3
  have H4 := Lib.hid h4
  have H5 := Lib.hid h5
  clear h1 h2 h3 h4 h5
  go_enter Try.func9, Try.ntmps9
  go_wp2_with fail
  refine (H1.out _).mono ?_
  rintro e w1 ⟨rfl, b1⟩
  go_wp2_with fail
  refine (H2.out _).mono ?_
  rintro e w2 ⟨rfl, b2⟩
  go_wp2_with fail
  refine (H3.out _).mono ?_
  rintro e w3 ⟨rfl, rfl⟩
  go_wp2_with fail
  refine (H4.out _).mono ?_
  rintro e w4 ⟨rfl, rfl⟩
  go_wp2_with fail
  refine (H5.out _).mono ?_
  rintro e w5 ⟨rfl, b5⟩
  go_wp2_with fail
  go_ret
  exact ⟨rfl, b1.trans ((b2.mono b1.size).trans (b5.mono (Nat.le_trans b1.size b2.size)))⟩

/-! ### The laws' walks -/

set_option maxRecDepth 100000 in
set_option maxHeartbeats 400000 in
theorem signs_walk (a b n : Int) (w0 : (Lit.int .i64 a).wf = true) (w1 : (Lit.int .i64 b).wf = true) (w2 : (Lit.int .u64 n).wf = true) (w : World) :
    Calls Try.prog 7 #[.int .i64 a, .int .i64 b, .int .u64 n] w fun e w' => e = .returned (.bool true) ∧ Below w.heap.size w w' := by
  obtain ⟨a0, a1⟩ := bounds_i64 w0
  obtain ⟨b0, b1⟩ := bounds_i64 w1
  obtain ⟨n0, n1⟩ := bounds_u64 w2
  clear w0 w1 w2
  have za := zig_bd a a0 a1
  have zn := zag_bd n n0 n1
  have h1 : ∀ w, Calls Try.prog 12 #[.int .i64 a] w fun e w' => e = .returned (.int .u64 (zig a)) ∧ w = w' := fun w => zig_any a w a0 a1
  have h2 : ∀ w, Calls Try.prog 14 #[.int .u64 (zig a)] w fun e w' => e = .returned (.int .i64 a) ∧ w = w' := fun w => by
    have := zag_any (zig a) w za.1 za.2
    rwa [zag_zig] at this
  have h3 : ∀ w, Calls Try.prog 14 #[.int .u64 n] w fun e w' => e = .returned (.int .i64 (zag n)) ∧ w = w' := fun w => zag_any n w n0 n1
  have h4 : ∀ w, Calls Try.prog 12 #[.int .i64 (zag n)] w fun e w' => e = .returned (.int .u64 n) ∧ w = w' := fun w => by
    have := zig_any (zag n) w zn.1 zn.2
    rwa [zig_zag n n0] at this
  have h5 : ∀ w, Calls Try.prog 12 #[.int .i64 b] w fun e w' => e = .returned (.int .u64 (zig b)) ∧ w = w' := fun w => zig_any b w b0 b1
  have H1 := Lib.hid h1
  have H2 := Lib.hid h2
  have H3 := Lib.hid h3
  have H4 := Lib.hid h4
  have H5 := Lib.hid h5
  clear h1 h2 h3 h4 h5
  by_cases ha : a < 0
  · go_enter Try.func7, Try.ntmps7
    go_wp2_with fail
    refine (awake_any _).mono ?_
    rintro e w1 ⟨rfl, b1⟩
    go_wp2_with fail
    refine (H1.out _).mono ?_
    rintro e w2 ⟨rfl, rfl⟩
    go_wp2_with fail
    refine (H2.out _).mono ?_
    rintro e w2 ⟨rfl, rfl⟩
    go_wp2_with fail
    refine (H3.out _).mono ?_
    rintro e w2 ⟨rfl, rfl⟩
    go_wp2_with fail
    refine (H4.out _).mono ?_
    rintro e w2 ⟨rfl, rfl⟩
    go_wp2_with fail
    go_ret
    exact ⟨rfl, b1⟩
  by_cases hb : b < 0
  · go_enter Try.func7, Try.ntmps7
    go_wp2_with fail
    refine (awake_any _).mono ?_
    rintro e w1 ⟨rfl, b1⟩
    go_wp2_with fail
    refine (H1.out _).mono ?_
    rintro e w2 ⟨rfl, rfl⟩
    go_wp2_with fail
    refine (H2.out _).mono ?_
    rintro e w2 ⟨rfl, rfl⟩
    go_wp2_with fail
    refine (H3.out _).mono ?_
    rintro e w2 ⟨rfl, rfl⟩
    go_wp2_with fail
    refine (H4.out _).mono ?_
    rintro e w2 ⟨rfl, rfl⟩
    go_wp2_with fail
    go_ret
    exact ⟨rfl, b1⟩
  have h6 : ∀ w, Calls Try.prog 12 #[.int .i64 (-a - 1)] w fun e w' => e = .returned (.int .u64 (zig a + 1)) ∧ w = w' := fun w => by
    have := zig_any (-a - 1) w (by omega) (by omega)
    rwa [show zig (-a - 1) = zig a + 1 from by unfold zig; rw [if_pos (by omega), if_neg (by omega)]; omega] at this
  have H6 := Lib.hid h6
  clear h6
  have hza : zig a ≤ 18446744073709551614 := by unfold zig; rw [if_neg ha]; omega
  by_cases hab : a < b
  · have hz : zig a < zig b := by unfold zig; rw [if_neg ha, if_neg hb]; omega
    generalize zig a = x at *
    generalize zig b = y at *
    go_enter Try.func7, Try.ntmps7
    go_wp2_with fail
    refine (awake_any _).mono ?_
    rintro e w1 ⟨rfl, b1⟩
    go_wp2_with fail
    refine (H1.out _).mono ?_
    rintro e w2 ⟨rfl, rfl⟩
    go_wp2_with fail
    refine (H2.out _).mono ?_
    rintro e w2 ⟨rfl, rfl⟩
    go_wp2_with fail
    refine (H3.out _).mono ?_
    rintro e w2 ⟨rfl, rfl⟩
    go_wp2_with fail
    refine (H4.out _).mono ?_
    rintro e w2 ⟨rfl, rfl⟩
    go_wp2_with fail
    refine (H1.out _).mono ?_
    rintro e w2 ⟨rfl, rfl⟩
    go_wp2_with fail
    refine (H5.out _).mono ?_
    rintro e w2 ⟨rfl, rfl⟩
    go_wp2_with fail
    refine (H6.out _).mono ?_
    rintro e w2 ⟨rfl, rfl⟩
    go_wp2_with fail
    refine (H1.out _).mono ?_
    rintro e w2 ⟨rfl, rfl⟩
    go_wp2_with fail
    go_ret
    exact ⟨rfl, b1⟩
  · have hz : ¬ zig a < zig b := by unfold zig; rw [if_neg ha, if_neg hb]; omega
    generalize zig a = x at *
    generalize zig b = y at *
    go_enter Try.func7, Try.ntmps7
    go_wp2_with fail
    refine (awake_any _).mono ?_
    rintro e w1 ⟨rfl, b1⟩
    go_wp2_with fail
    refine (H1.out _).mono ?_
    rintro e w2 ⟨rfl, rfl⟩
    go_wp2_with fail
    refine (H2.out _).mono ?_
    rintro e w2 ⟨rfl, rfl⟩
    go_wp2_with fail
    refine (H3.out _).mono ?_
    rintro e w2 ⟨rfl, rfl⟩
    go_wp2_with fail
    refine (H4.out _).mono ?_
    rintro e w2 ⟨rfl, rfl⟩
    go_wp2_with fail
    refine (H1.out _).mono ?_
    rintro e w2 ⟨rfl, rfl⟩
    go_wp2_with fail
    refine (H5.out _).mono ?_
    rintro e w2 ⟨rfl, rfl⟩
    go_wp2_with fail
    refine (H6.out _).mono ?_
    rintro e w2 ⟨rfl, rfl⟩
    go_wp2_with fail
    refine (H1.out _).mono ?_
    rintro e w2 ⟨rfl, rfl⟩
    go_wp2_with fail
    go_ret
    exact ⟨rfl, b1⟩

end Go.Proofs.Ytghihlkgbdhpbaa
