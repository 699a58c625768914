/- The laws on what is put and taken: VarintBack, VarintOne, VarintCuts: their walks. -/
import Derived.Test.YtghihlkgbdhpbaaVawake
namespace Go.Proofs.Ytghihlkgbdhpbaa
open Go.RowKit

theorem bs_append (l r : List UInt8) : bs (l ++ r) = bs l ++ bs r := (ByteArray.mk_append_mk l r).symm
theorem bs_add (l : List UInt8) (r : ByteArray) : bs l ++ r = bs (l ++ r.data.toList) := by rw [bs_append, bs_of]

set_option maxRecDepth 100000 in
set_option maxHeartbeats 400000 in
theorem back_walk (n : Int) (s r : ByteArray) (w0 : (Lit.int .u64 n).wf = true) (_w1 : s.size ≤ maxLen) (_w2 : r.size ≤ maxLen) (w : World) :
    Calls Try.prog 5 #[.int .u64 n, .string s, .string r] w fun e w' => e = .returned (.bool true) ∧ Below w.heap.size w w' := by
  obtain ⟨n0, n1⟩ := bounds_u64 w0
  clear w0
  by_cases hs : 500 < s.size
  · go_enter Try.func5, Try.ntmps5
    go_wp2_with fail
    refine (awake_any _).mono ?_
    rintro e w1 ⟨rfl, b1⟩
    go_wp2_with fail
    go_ret
    exact ⟨rfl, b1⟩
  by_cases hr : 500 < r.size
  · go_enter Try.func5, Try.ntmps5
    go_wp2_with fail
    refine (awake_any _).mono ?_
    rintro e w1 ⟨rfl, b1⟩
    go_wp2_with fail
    go_ret
    exact ⟨rfl, b1⟩
  have hnM : n.toNat < M64 := by unfold M64; omega
  have hsM : s.data.toList.length < M64 := by rw [len_size]; unfold M64; omega
  have z1 := bs_size (put n.toNat)
  have z2 := put_ten hnM
  have z3 : (bs (put n.toNat)).size ≤ 10 := by omega
  have z4 := bs_size (put s.size ++ s.data.toList)
  have z5 : (put s.size).length ≤ 10 := put_ten (by unfold M64; omega)
  have z6 : (bs (put s.size ++ s.data.toList)).size ≤ 510 := by rw [z4, List.length_append, len_size]; omega
  clear z1 z2 z4 z5
  have h1 : ∀ w, Calls Try.prog 18 #[.string (bs (put n.toNat) ++ r)] w fun e w' => e = .returned (.tuple #[.int .u64 n, .string r, .int .i64 0]) ∧ Below w.heap.size w w' := fun w => by
    have := take_any (bs (put n.toNat) ++ r) w (by rw [ByteArray.size_append']; omega)
    rw [bs_add, bs_list, tkV, tk_put hnM, bs_of, Int.toNat_of_nonneg n0] at this
    rw [bs_add]
    exact this
  have h2 : ∀ w, Calls Try.prog 20 #[.string (bs (put s.size ++ s.data.toList) ++ r)] w fun e w' => e = .returned (.tuple #[.string s, .string r, .int .i64 0]) ∧ Below w.heap.size w w' := fun w => by
    have := oftext_any (bs (put s.size ++ s.data.toList) ++ r) w (by rw [ByteArray.size_append']; omega)
    have ht := ot_text (s := s.data.toList) (r := r.data.toList) hsM
    rw [len_size] at ht
    rw [bs_add, bs_list, otV, ht, bs_of, bs_of] at this
    rw [bs_add]
    exact this
  have H1 := Lib.hid h1
  have H2 := Lib.hid h2
  clear h1 h2 hnM hsM
  go_enter Try.func5, Try.ntmps5
  go_wp2_with fail
  refine (awake_any _).mono ?_
  rintro e w1 ⟨rfl, b1⟩
  go_wp2_with fail
  refine (put_any n _ n0 n1).mono ?_
  rintro e w2 ⟨rfl, b2⟩
  go_wp2_with fail
  refine (H1.out _).mono ?_
  rintro e w3 ⟨rfl, b3⟩
  go_wp2_with fail
  refine (text_any s _ (by omega)).mono ?_
  rintro e w4 ⟨rfl, b4⟩
  go_wp2_with fail
  refine (H2.out _).mono ?_
  rintro e w5 ⟨rfl, b5⟩
  go_wp2_with fail
  go_ret
  refine ⟨rfl, ?_⟩
  have s1 := b1.size
  have s2 := b2.size
  have s3 := b3.size
  have s4 := b4.size
  exact b1.trans ((b2.mono s1).trans ((b3.mono (by omega)).trans ((b4.mono (by omega)).trans (b5.mono (by omega)))))

set_option maxRecDepth 100000 in
set_option maxHeartbeats 400000 in
theorem one_walk (b : ByteArray) (_w0 : b.size ≤ maxLen) (w : World) :
    Calls Try.prog 6 #[.string b] w fun e w' => e = .returned (.bool true) ∧ Below w.heap.size w w' := by
  by_cases hs : 500 < b.size
  · go_enter Try.func6, Try.ntmps6
    go_wp2_with fail
    refine (awake_any _).mono ?_
    rintro e w1 ⟨rfl, b1⟩
    go_wp2_with fail
    go_ret
    exact ⟨rfl, b1⟩
  have ht : ∀ w, _ := fun w => take_any b w (by omega)
  rw [tkV] at ht
  rcases tk_cases b.data.toList with ⟨e, _, _⟩ | e | ⟨n, r, e, hn, hl⟩
  · rw [e] at ht
    have H := Lib.hid ht
    clear ht e
    have hnil := bs_toList []
    go_enter Try.func6, Try.ntmps6
    go_wp2_with fail
    refine (awake_any _).mono ?_
    rintro e w1 ⟨rfl, b1⟩
    go_wp2_with fail
    refine (H.out _).mono ?_
    rintro e w2 ⟨rfl, b2⟩
    go_wp2_with fail
    go_ret
    exact ⟨rfl, b1.trans (b2.mono b1.size)⟩
  · rw [e] at ht
    have H := Lib.hid ht
    clear ht e
    have hnil := bs_toList []
    go_enter Try.func6, Try.ntmps6
    go_wp2_with fail
    refine (awake_any _).mono ?_
    rintro e w1 ⟨rfl, b1⟩
    go_wp2_with fail
    refine (H.out _).mono ?_
    rintro e w2 ⟨rfl, b2⟩
    go_wp2_with fail
    go_ret
    exact ⟨rfl, b1.trans (b2.mono b1.size)⟩
  · rw [e] at ht
    have H := Lib.hid ht
    have hz := bs_size r
    have hp := bs_size (put n)
    have h10 := put_ten hn
    have hlen : b.size = (put n).length + r.length := by rw [← len_size, hl, List.length_append]
    have hb : b = bs (put n) ++ bs r := by rw [← bs_append, ← hl, bs_of]
    have hput : ∀ w, Calls Try.prog 10 #[.int .u64 (n : Int)] w fun e w' => e = .returned (.string (bs (put n))) ∧ Below w.heap.size w w' := fun w => by
      have := put_any (n : Int) w (by omega) (by unfold M64 at hn; omega)
      rwa [Int.toNat_natCast] at this
    have HP := Lib.hid hput
    have q1 : (bs r).size ≤ b.size := by omega
    have q2 : (bs (put n)).size ≤ 10 := by omega
    have q3 : (b.size : Int) - ((bs r).size : Int) ≤ 10 := by omega
    have hcmp : ((bs (put n) ++ bs r).toList == b.toList) = true := by rw [← hb]; simp
    clear ht e hz hp h10 hlen hb hput hn hl
    generalize bs r = rr at *
    generalize bs (put n) = pp at *
    go_enter Try.func6, Try.ntmps6
    go_wp2_with fail
    refine (awake_any _).mono ?_
    rintro e w1 ⟨rfl, b1⟩
    go_wp2_with fail
    refine (H.out _).mono ?_
    rintro e w2 ⟨rfl, b2⟩
    go_wp2_with fail
    refine (HP.out _).mono ?_
    rintro e w3 ⟨rfl, b3⟩
    go_wp2_with fail
    go_ret
    have s1 := b1.size
    have s2 := b2.size
    exact ⟨rfl, b1.trans ((b2.mono s1).trans (b3.mono (by omega)))⟩

set_option maxRecDepth 100000 in
set_option maxHeartbeats 400000 in
theorem cuts_walk (n : Int) (s : ByteArray) (c : Int) (w0 : (Lit.int .u64 n).wf = true) (_w1 : s.size ≤ maxLen) (w2 : (Lit.int .i64 c).wf = true) (w : World) :
    Calls Try.prog 8 #[.int .u64 n, .string s, .int .i64 c] w fun e w' => e = .returned (.bool true) ∧ Below w.heap.size w w' := by
  obtain ⟨n0, n1⟩ := bounds_u64 w0
  obtain ⟨c0, c1⟩ := bounds_i64 w2
  clear w0 w2
  by_cases hs : 500 < s.size
  · go_enter Try.func8, Try.ntmps8
    go_wp2_with fail
    refine (awake_any _).mono ?_
    rintro e w1 ⟨rfl, b1⟩
    go_wp2_with fail
    go_ret
    exact ⟨rfl, b1⟩
  by_cases hc : c < 0
  · go_enter Try.func8, Try.ntmps8
    go_wp2_with fail
    refine (awake_any _).mono ?_
    rintro e w1 ⟨rfl, b1⟩
    go_wp2_with fail
    go_ret
    exact ⟨rfl, b1⟩
  go_enter Try.func8, Try.ntmps8
  go_wp2_with fail
  refine (awake_any _).mono ?_
  rintro e w1 ⟨rfl, b1⟩
  go_wp2_with fail
  refine (put_any n _ n0 n1).mono ?_
  rintro e w2 ⟨rfl, b2⟩
  go_wp2_with fail
  refine (text_any s _ (by omega)).mono ?_
  rintro e w3 ⟨rfl, b3⟩
  have hnM : n.toNat < M64 := by unfold M64; omega
  have p1 := put_pos n.toNat
  have z1 := bs_size (put n.toNat)
  have z2 := put_ten hnM
  have z3 : (bs (put n.toNat)).size ≤ 10 := by omega
  have z7 : 0 < (bs (put n.toNat)).size := by omega
  have z4 := bs_size (put s.size ++ s.data.toList)
  have z5 : (put s.size).length ≤ 10 := put_ten (by unfold M64; omega)
  have z9 := put_pos s.size
  have z6 : (bs (put s.size ++ s.data.toList)).size ≤ 510 := by rw [z4, List.length_append, len_size]; omega
  have z8 : 0 < (bs (put s.size ++ s.data.toList)).size := by rw [z4, List.length_append]; omega
  have g1 : (((bs (put n.toNat)).size : Int) == 0) = false := beq_eq_false_iff_ne.2 (by omega)
  have g2 : (((bs (put s.size ++ s.data.toList)).size : Int) == 0) = false := beq_eq_false_iff_ne.2 (by omega)
  clear z1 z2 z4 z5 z9 p1
  generalize hA : bs (put n.toNat) = A at *
  generalize hB : bs (put s.size ++ s.data.toList) = B at *
  have HA := Lib.hid hA
  have HB := Lib.hid hB
  clear hA hB
  have m1 := Int.emod_nonneg c (b := (A.size : Int)) (by omega)
  have m2 := Int.emod_lt_of_pos c (b := (A.size : Int)) (by omega)
  have m3 := Int.emod_nonneg c (b := (B.size : Int)) (by omega)
  have m4 := Int.emod_lt_of_pos c (b := (B.size : Int)) (by omega)
  have m5 : c % (A.size : Int) ≤ (A.size : Int) := by omega
  have m6 : c % (B.size : Int) ≤ (B.size : Int) := by omega
  have h1 : ∀ w, Calls Try.prog 18 #[.string (A.extract 0 (c % (A.size : Int)).toNat)] w fun e w' => e = .returned (.tuple #[.int .u64 0, .string (bs []), .int .i64 3]) ∧ Below w.heap.size w w' := fun w => by
    have hk : (c % (A.size : Int)).toNat < (put n.toNat).length := by rw [← bs_size, HA.out]; omega
    generalize (c % (A.size : Int)).toNat = k at *
    have := take_any (A.extract 0 k) w (by rw [ByteArray.size_extract]; omega)
    have e : (A.extract 0 k).data.toList = (put n.toNat).take k := by rw [ext_to, bs_list, ← HA.out, bs_list]
    rw [e, tkV, tk_cut hnM hk] at this
    exact this
  have h2 : ∀ w, Calls Try.prog 20 #[.string (B.extract 0 (c % (B.size : Int)).toNat)] w fun e w' => e = .returned (.tuple #[.string (bs []), .string (bs []), .int .i64 3]) ∧ Below w.heap.size w w' := fun w => by
    have hk : (c % (B.size : Int)).toNat < (put s.size ++ s.data.toList).length := by rw [← bs_size, HB.out]; omega
    generalize (c % (B.size : Int)).toNat = k at *
    have := oftext_any (B.extract 0 k) w (by rw [ByteArray.size_extract]; omega)
    have e : (B.extract 0 k).data.toList = (put s.size ++ s.data.toList).take k := by rw [ext_to, bs_list, ← HB.out, bs_list]
    rw [← len_size] at hk e
    rw [e, otV, ot_cut (by rw [len_size]; unfold M64; omega) hk] at this
    exact this
  have H1 := Lib.hid h1
  have H2 := Lib.hid h2
  clear h1 h2
  go_wp2_with fail
  refine (H1.out _).mono ?_
  rintro e w4 ⟨rfl, b4⟩
  go_wp2_with fail
  refine (H2.out _).mono ?_
  rintro e w5 ⟨rfl, b5⟩
  go_wp2_with fail
  go_ret
  refine ⟨rfl, ?_⟩
  have s1 := b1.size
  have s2 := b2.size
  have s3 := b3.size
  have s4 := b4.size
  exact b1.trans ((b2.mono s1).trans ((b3.mono (by omega)).trans ((b4.mono (by omega)).trans (b5.mono (by omega)))))

end Go.Proofs.Ytghihlkgbdhpbaa
