/- The first, small test of every law of layer 3 returns true; the walk of the law RecordCuts. -/
import Derived.Test.YtdpjbmpjinpbbaaRread2
import Derived.OpenShut
namespace Go.Proofs.Ytdpjbmpjinpbbaa
open Go.RowKit

def rK : Rc := ⟨3, [107], [], true⟩
theorem right_rK : right rK = true := rfl
theorem enc_rK : enc rK = [7, 1, 107] := by
  rw [enc_gone rfl, txt]
  show put 7 ++ (put 1 ++ [107]) = _
  rw [put_lo (by omega), put_lo (by omega)]; rfl
theorem allV_rK : allV [rK] = .tuple #[.string ⟨#[7, 1, 107]⟩, .int .i64 0] := by
  rw [allV_yes (by simp [rights, right_rK]), encs_cons, encs_nil, List.append_nil, enc_rK]; rfl
theorem rdV_rK : rdV [7, 1, 107, 122] = .tuple #[.agg #[.int .u64 3, .string ⟨#[107]⟩, .string ⟨#[]⟩, .bool true], .string ⟨#[122]⟩, .int .i64 0] := by
  have := rd_enc right_rK [122]
  rw [enc_rK] at this
  rw [rdV, show ([7, 1, 107, 122] : List UInt8) = [7, 1, 107] ++ [122] from rfl, this]
  rfl

set_option maxRecDepth 100000 in
set_option maxHeartbeats 400000 in
theorem awake_any (w : World) : Calls Try.prog 7 #[] w fun e w' => e = .returned (.bool true) ∧ Below w.heap.size w w' := by
  have h1 : ∀ w, Calls Try.prog 8 #[.agg #[.int .u64 3, .string ⟨#[107]⟩, .string ⟨#[]⟩, .bool true]] w fun e w' => e = .returned (.tuple #[.string ⟨#[7, 1, 107]⟩, .int .i64 0]) ∧ Below w.heap.size w w' := fun w => by
    have := bytes_any rK w (by decide) (by decide) (by decide)
    rw [allV_rK] at this
    exact this
  have h2 : ∀ w, Calls Try.prog 10 #[.string ⟨#[7, 1, 107, 122]⟩] w fun e w' => e = .returned (.tuple #[.agg #[.int .u64 3, .string ⟨#[107]⟩, .string ⟨#[]⟩, .bool true], .string ⟨#[122]⟩, .int .i64 0]) ∧ Below w.heap.size w w' := fun w => by
    have := read_any ⟨#[7, 1, 107, 122]⟩ w (by decide)
    rw [show (⟨#[7, 1, 107, 122]⟩ : ByteArray).data.toList = [7, 1, 107, 122] from rfl, rdV_rK] at this
    exact this
  have h3 : ∀ w, Calls Try.prog 12 #[.agg #[.int .u64 3, .string ⟨#[107]⟩, .string ⟨#[]⟩, .bool true]] w fun e w' => e = .returned (.bool true) ∧ Below w.heap.size w w' := fun w => by
    have := right_any rK w (by decide) (by decide) (by decide)
    rw [right_rK] at this
    exact this
  have H1 := Lib.hid h1
  have H2 := Lib.hid h2
  have H3 := Lib.hid h3
  have K0 := Lib.hid (Box.made w (.cells #[.int .u64 3, .string ⟨#[107]⟩, .string ⟨#[]⟩, .bool true] 24))
  clear h1 h2 h3
  go_enter Try.func7, Try.ntmps7
  go_wp2_with fail
  (with_reducible refine (H1.out _).mono ?_)
  rintro e w1 ⟨rfl, b1⟩
  have K1 := Lib.hid (K0.out.call b1)
  clear b1
  go_wp2_with fail
  (with_reducible refine (H2.out _).mono ?_)
  rintro e w2 ⟨rfl, b2⟩
  have K2 : Box4 w _ _ _ _ w2 := K1.out.call b2
  have hz : w.heap.size < w2.heap.size := K2.2.1
  obtain ⟨_, d0, d1, d2, d3⟩ := Box4.cells K2
  clear b2
  go_wp2_with fail
  (with_reducible refine (H3.out _).mono ?_)
  rintro e w3 ⟨rfl, b3⟩
  have K3 := (Box.alloc K2 _).call b3
  clear b3
  go_wp2_with fail
  go_ret
  exact ⟨rfl, K3.1⟩

set_option maxRecDepth 100000 in
set_option maxHeartbeats 400000 in
theorem cuts_of (r : Rc) (c : Int) (hq : r.q ≤ 18446744073709551615) (hK : r.k.length ≤ 9223372036854775807) (hV : r.v.length ≤ 9223372036854775807) (c1 : -9223372036854775808 ≤ c) (c2 : c ≤ 9223372036854775807) (w : World) :
    Calls Try.prog 6 #[rv r, .int .i64 c] w fun e w' => e = .returned (.bool true) ∧ Below w.heap.size w w' := by
  have h1 := fun w => bytes_any r w hq hK hV
  have h2 := fun w => right_any r w hq hK hV
  have K0 := Lib.hid (Box.made w (.cells #[.int .u64 ((r.q : Nat) : Int), .string (bs r.k), .string (bs r.v), .bool r.g] 24))
  simp only [rv] at h1 h2 ⊢
  cases hg : right r with
  | false =>
    rw [hg] at h2
    rw [allV_no (l := [r]) (by simp [rights, hg])] at h1
    have H1 := Lib.hid h1
    have H2 := Lib.hid h2
    clear h1 h2 hg
    go_enter Try.func6, Try.ntmps6
    go_wp2_with fail
    refine (awake_any _).mono ?_
    rintro e w1 ⟨rfl, b1⟩
    have K1 : Box4 w _ _ _ _ w1 := K0.out.call b1
    obtain ⟨_, d0, d1, d2, d3⟩ := Box4.cells K1
    clear b1
    go_wp2_with fail
    (with_reducible refine (H1.out _).mono ?_)
    rintro e w2 ⟨rfl, b2⟩
    have K2 : Box4 w _ _ _ _ w2 := K1.call b2
    obtain ⟨_, d0, d1, d2, d3⟩ := Box4.cells K2
    clear b2
    go_wp2_with fail
    (with_reducible refine (H2.out _).mono ?_)
    rintro e w3 ⟨rfl, b3⟩
    have K3 := K2.call b3
    clear b3
    go_wp2_with fail
    go_ret
    exact ⟨rfl, K3.1⟩
  | true =>
    have hen := enc_len hg
    rw [allV_yes (l := [r]) (by simp [rights, hg]), encs_cons, encs_nil, List.append_nil] at h1
    by_cases hc : c < 0
    · have H1 := Lib.hid h1
      clear h1 h2 hg
      go_enter Try.func6, Try.ntmps6
      go_wp2_with fail
      refine (awake_any _).mono ?_
      rintro e w1 ⟨rfl, b1⟩
      have K1 : Box4 w _ _ _ _ w1 := K0.out.call b1
      obtain ⟨_, d0, d1, d2, d3⟩ := Box4.cells K1
      clear b1
      go_wp2_with fail
      (with_reducible refine (H1.out _).mono ?_)
      rintro e w2 ⟨rfl, b2⟩
      have K2 := K1.call b2
      clear b2
      go_wp2_with fail
      go_ret
      exact ⟨rfl, K2.1⟩
    · have z := bs_size (enc r)
      have z1 : (bs (enc r)).size ≤ 370 := by omega
      have z2 : 0 < (bs (enc r)).size := by omega
      have g1 : (((bs (enc r)).size : Int) == 0) = false := beq_eq_false_iff_ne.2 (by omega)
      generalize hA : bs (enc r) = A at *
      have m1 := Int.emod_nonneg c (b := (A.size : Int)) (by omega)
      have m2 := Int.emod_lt_of_pos c (b := (A.size : Int)) (by omega)
      have m5 : c % (A.size : Int) ≤ (A.size : Int) := by omega
      have h3 : ∀ w, Calls Try.prog 10 #[.string (A.extract 0 (c % (A.size : Int)).toNat)] w fun e w' => e = .returned (.tuple #[.agg #[.int .u64 0, .string ⟨#[]⟩, .string ⟨#[]⟩, .bool false], .string ⟨#[]⟩, .int .i64 3]) ∧ Below w.heap.size w w' := fun w => by
        have hk : (c % (A.size : Int)).toNat < (enc r).length := by rw [← bs_size, hA]; omega
        generalize (c % (A.size : Int)).toNat = k at *
        have := read_any (A.extract 0 k) w (by rw [ByteArray.size_extract]; omega)
        have e : (A.extract 0 k).data.toList = (enc r).take k := by rw [ext_to, bs_list, ← hA, bs_list]
        rw [e, rdV, rd_cut hg hk] at this
        exact this
      have H1 := Lib.hid h1
      have H3 := Lib.hid h3
      clear h1 h2 h3 hg hA z hen
      go_enter Try.func6, Try.ntmps6
      go_wp2_with fail
      refine (awake_any _).mono ?_
      rintro e w1 ⟨rfl, b1⟩
      have K1 : Box4 w _ _ _ _ w1 := K0.out.call b1
      obtain ⟨_, d0, d1, d2, d3⟩ := Box4.cells K1
      clear b1
      go_wp2_with fail
      (with_reducible refine (H1.out _).mono ?_)
      rintro e w2 ⟨rfl, b2⟩
      have K2 : Box4 w _ _ _ _ w2 := K1.call b2
      clear b2
      go_wp2_with fail
      (with_reducible refine (H3.out _).mono ?_)
      rintro e w3 ⟨rfl, b3⟩
      have K3 : Box4 w _ _ _ _ w3 := K2.call b3
      clear b3
      go_wp2_with fail
      go_ret
      exact ⟨rfl, (Box.alloc K3 _).1⟩

end Go.Proofs.Ytdpjbmpjinpbbaa
