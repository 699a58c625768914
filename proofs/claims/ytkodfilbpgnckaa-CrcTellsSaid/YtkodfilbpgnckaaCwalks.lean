/- The walks of the laws CrcGoes and CrcSums. -/
import Derived.Test.YtkodfilbpgnckaaCawake
import Derived.OpenShut
namespace Go.Proofs.Ytkodfilbpgnckaa
open Go.RowKit

set_option maxRecDepth 100000 in
set_option maxHeartbeats 400000 in
theorem goes_walk (a b : ByteArray) (_w0 : a.size ≤ maxLen) (_w1 : b.size ≤ maxLen) (w : World) :
    Calls Try.prog 4 #[.string a, .string b] w fun e w' => e = .returned (.bool true) ∧ Below w.heap.size w w' := by
  by_cases ha : 1000 < a.size
  · go_enter Try.func4, Try.ntmps4
    go_wp2_with fail
    refine (awake_any _).mono ?_
    rintro e w1 ⟨rfl, b1⟩
    go_wp2_with fail
    go_ret
    exact ⟨rfl, b1⟩
  by_cases hb : 1000 < b.size
  · go_enter Try.func4, Try.ntmps4
    go_wp2_with fail
    refine (awake_any _).mono ?_
    rintro e w1 ⟨rfl, b1⟩
    go_wp2_with fail
    go_ret
    exact ⟨rfl, b1⟩
  have h1 : ∀ w, Calls Try.prog 10 #[.string a] w fun e w' => e = .returned (.int .u32 ((sum a.data.toList : Nat) : Int)) ∧ Below w.heap.size w w' := fun w => sum_any a w (by omega)
  have h2 : ∀ w, Calls Try.prog 12 #[.int .u32 ((sum a.data.toList : Nat) : Int), .string b] w fun e w' => e = .returned (.int .u32 ((sum (a.data.toList ++ b.data.toList) : Nat) : Int)) ∧ Below w.heap.size w w' := fun w => by
    have := more_any (sum a.data.toList) b w (sum_lt _) (by omega)
    rwa [sum, more_goes] at this
  have h3 : ∀ w, Calls Try.prog 10 #[.string (a ++ b)] w fun e w' => e = .returned (.int .u32 ((sum (a.data.toList ++ b.data.toList) : Nat) : Int)) ∧ Below w.heap.size w w' := fun w => by
    have := sum_any (a ++ b) w (by rw [ByteArray.size_append']; omega)
    rwa [show (a ++ b).data.toList = a.data.toList ++ b.data.toList from by rw [← bs_of a, bs_add, bs_list, bs_list]] at this
  have h4 : ∀ w, Calls Try.prog 12 #[.int .u32 ((sum a.data.toList : Nat) : Int), .string ⟨#[]⟩] w fun e w' => e = .returned (.int .u32 ((sum a.data.toList : Nat) : Int)) ∧ Below w.heap.size w w' := fun w => by
    have := more_any (sum a.data.toList) ⟨#[]⟩ w (sum_lt _) (by decide)
    rwa [show (⟨#[]⟩ : ByteArray).data.toList = [] from rfl, more_nil] at this
  have h5 : ∀ w, Calls Try.prog 10 #[.string ⟨#[]⟩] w fun e w' => e = .returned (.int .u32 0) ∧ Below w.heap.size w w' := fun w => by
    have := sum_any ⟨#[]⟩ w (by decide)
    rwa [show (⟨#[]⟩ : ByteArray).data.toList = [] from rfl, sum_nil] at this
  generalize sum (a.data.toList ++ b.data.toList) = y at *
  generalize sum a.data.toList = x at *
  have H1 := Lib.hid h1
  have H2 := Lib.hid h2
  have H3 := Lib.hid h3
  have H4 := Lib.hid h4
  have H5 := Lib.hid h5
  clear h1 h2 h3 h4 h5
  go_enter Try.func4, Try.ntmps4
  go_wp2_with fail
  refine (awake_any _).mono ?_
  rintro e w1 ⟨rfl, b1⟩
  go_wp2_with fail
  refine (H1.out _).mono ?_
  rintro e w2 ⟨rfl, b2⟩
  go_wp2_with fail
  refine (H2.out _).mono ?_
  rintro e w3 ⟨rfl, b3⟩
  go_wp2_with fail
  refine (H3.out _).mono ?_
  rintro e w4 ⟨rfl, b4⟩
  go_wp2_with fail
  refine (H1.out _).mono ?_
  rintro e w5 ⟨rfl, b5⟩
  go_wp2_with fail
  refine (H4.out _).mono ?_
  rintro e w6 ⟨rfl, b6⟩
  go_wp2_with fail
  refine (H1.out _).mono ?_
  rintro e w7 ⟨rfl, b7⟩
  go_wp2_with fail
  refine (H5.out _).mono ?_
  rintro e w8 ⟨rfl, b8⟩
  go_wp2_with fail
  go_ret
  refine ⟨rfl, ?_⟩
  have s1 := b1.size
  have s2 := b2.size
  have s3 := b3.size
  have s4 := b4.size
  have s5 := b5.size
  have s6 := b6.size
  have s7 := b7.size
  exact b1.trans ((b2.mono s1).trans ((b3.mono (by omega)).trans ((b4.mono (by omega)).trans ((b5.mono (by omega)).trans ((b6.mono (by omega)).trans ((b7.mono (by omega)).trans (b8.mono (by omega))))))))

set_option maxRecDepth 100000 in
set_option maxHeartbeats 400000 in
theorem sums_walk (s : Int) (b : ByteArray) (w0 : (Lit.int .u32 s).wf = true) (_w1 : b.size ≤ maxLen) (w : World) :
    Calls Try.prog 3 #[.int .u32 s, .string b] w fun e w' => e = .returned (.bool true) ∧ Below w.heap.size w w' := by
  obtain ⟨s0, s1⟩ := bounds_u32 w0
  clear w0
  by_cases hb : 2000 < b.size
  · go_enter Try.func3, Try.ntmps3
    go_wp2_with fail
    refine (awake_any _).mono ?_
    rintro e w1 ⟨rfl, b1⟩
    go_wp2_with fail
    go_ret
    exact ⟨rfl, b1⟩
  obtain ⟨n, rfl⟩ : ∃ n : Nat, s = (n : Int) := ⟨s.toNat, by omega⟩
  have h1 : ∀ w, _ := fun w => open_any b w (by omega)
  have h2 : ∀ w, _ := fun w => refopen_any b w (by omega)
  have h3 : ∀ w, _ := fun w => sum_any b w (by omega)
  have h4 : ∀ w, _ := fun w => refsum_any b w (by omega)
  have h5 : ∀ w, _ := fun w => more_any n b w (by omega) (by omega)
  have h6 : ∀ w, _ := fun w => refmore_any n b w (by omega) (by omega)
  have h7 : ∀ w, _ := fun w => seal_any b w (by omega)
  have h8 : ∀ w, _ := fun w => refseal_any b w (by omega)
  unfold opnV at h1 h2
  generalize bs (opn b.data.toList).1 = x1 at *
  generalize (opn b.data.toList).2 = x2 at *
  generalize sum b.data.toList = x3 at *
  generalize more n b.data.toList = x4 at *
  generalize bs (seal4 b.data.toList) = x5 at *
  have H1 := Lib.hid h1
  have H2 := Lib.hid h2
  have H3 := Lib.hid h3
  have H4 := Lib.hid h4
  have H5 := Lib.hid h5
  have H6 := Lib.hid h6
  have H7 := Lib.hid h7
  have H8 := Lib.hid h8
  clear h1 h2 h3 h4 h5 h6 h7 h8
  go_enter Try.func3, Try.ntmps3
  go_wp2_with fail
  refine (awake_any _).mono ?_
  rintro e w1 ⟨rfl, b1⟩
  go_wp2_with fail
  refine (H1.out _).mono ?_
  rintro e w2 ⟨rfl, b2⟩
  go_wp2_with fail
  refine (H2.out _).mono ?_
  rintro e w3 ⟨rfl, b3⟩
  go_wp2_with fail
  refine (H3.out _).mono ?_
  rintro e w4 ⟨rfl, b4⟩
  go_wp2_with fail
  refine (H4.out _).mono ?_
  rintro e w5 ⟨rfl, rfl⟩
  go_wp2_with fail
  refine (H5.out _).mono ?_
  rintro e w5 ⟨rfl, b5⟩
  go_wp2_with fail
  refine (H6.out _).mono ?_
  rintro e w6 ⟨rfl, rfl⟩
  go_wp2_with fail
  refine (H7.out _).mono ?_
  rintro e w6 ⟨rfl, b6⟩
  go_wp2_with fail
  refine (H8.out _).mono ?_
  rintro e w7 ⟨rfl, b7⟩
  go_wp2_with fail
  go_ret
  refine ⟨rfl, ?_⟩
  have s1 := b1.size
  have s2 := b2.size
  have s3 := b3.size
  have s4 := b4.size
  have s5 := b5.size
  have s6 := b6.size
  exact b1.trans ((b2.mono s1).trans ((b3.mono (by omega)).trans ((b4.mono (by omega)).trans ((b5.mono (by omega)).trans ((b6.mono (by omega)).trans (b7.mono (by omega)))))))

end Go.Proofs.Ytkodfilbpgnckaa
