/- What the document's own answers Right and Bytes of layer 3 return: the same plain functions. -/
import Derived.Test.YtdifecclldkhpaaRread2
import Derived.OpenShut
import Derived.Test.YtdifecclldkhpaaVreftake
namespace Go.Proofs.Ytdifecclldkhpaa
open Go.RowKit

theorem refput_nat (n : Nat) (w : World) (h : n ≤ 18446744073709551615) :
    Calls Try.prog 28 #[.int .u64 (n : Int)] w fun e w' => e = .returned (.string (bs (put n))) ∧ Below w.heap.size w w' :=
  refput_any n w (by unfold M64; omega)

theorem reftext_of (s : List UInt8) (w : World) (h : s.length ≤ 281474976710656) :
    Calls Try.prog 54 #[.string (bs s)] w fun e w' => e = .returned (.string (bs (txt s))) ∧ Below w.heap.size w w' := by
  have := reftext_any (bs s) w (by rw [bs_size]; exact h)
  rwa [bs_size, bs_list] at this

set_option maxRecDepth 100000 in
set_option maxHeartbeats 400000 in
theorem refright_here (q : Nat) (K V : ByteArray) (w : World) (hq : q ≤ 18446744073709551615) (hK : K.size ≤ 9223372036854775807) (hV : V.size ≤ 9223372036854775807) :
    Calls Try.prog 62 #[.agg #[.int .u64 (q : Int), .string K, .string V, .bool false]] w fun e w' => e = .returned (.bool (rgt q K.size V.size)) ∧ Below w.heap.size w w' := by
  go_enter Try.func62, Try.ntmps62
  go_wp2_with fail
  all_goals
    go_ret
    refine ⟨ret_bool ?_, (Below.refl _ _).alloc (Nat.le_refl _) _⟩
    unfold rgt
    first | (rw [decide_eq_decide]; omega) | (symm; rw [decide_eq_false_iff_not]; omega) | (symm; rw [decide_eq_true_iff]; omega)

set_option maxRecDepth 100000 in
set_option maxHeartbeats 400000 in
theorem refright_gone (q : Nat) (K V : ByteArray) (w : World) (hq : q ≤ 18446744073709551615) (hK : K.size ≤ 9223372036854775807) (hV : V.size ≤ 9223372036854775807) :
    Calls Try.prog 62 #[.agg #[.int .u64 (q : Int), .string K, .string V, .bool true]] w fun e w' => e = .returned (.bool (rgt q K.size 0 && decide (V.size = 0))) ∧ Below w.heap.size w w' := by
  by_cases hv : V.size = 0
  · obtain rfl := empty_of hv
    rw [show decide ((⟨#[]⟩ : ByteArray).size = 0) = true from rfl, Bool.and_true]
    clear hv hV
    go_enter Try.func62, Try.ntmps62
    go_wp2_with fail
    all_goals
      go_ret
      refine ⟨ret_bool ?_, (Below.refl _ _).alloc (Nat.le_refl _) _⟩
      unfold rgt
      first | (rw [decide_eq_decide]; omega) | (symm; rw [decide_eq_false_iff_not]; omega) | (symm; rw [decide_eq_true_iff]; omega)
  · rw [show decide (V.size = 0) = false from by simpa using hv, Bool.and_false]
    have hv1 := list_ne hv
    have hv2 : V.toList.isEmpty = false := List.isEmpty_eq_false_iff.2 hv1
    clear hv
    go_enter Try.func62, Try.ntmps62
    go_wp2_with fail
    all_goals
      go_ret
      exact ⟨rfl, (Below.refl _ _).alloc (Nat.le_refl _) _⟩

/-- What the document's Right returns. -/
theorem refright_any (r : Rc) (w : World) (hq : r.q ≤ 18446744073709551615) (hK : r.k.length ≤ 9223372036854775807) (hV : r.v.length ≤ 9223372036854775807) :
    Calls Try.prog 62 #[rv r] w fun e w' => e = .returned (.bool (right r)) ∧ Below w.heap.size w w' := by
  obtain ⟨q, k, v, g⟩ := r
  cases g with
  | false =>
    have := refright_here q (bs k) (bs v) w hq (by rw [bs_size]; exact hK) (by rw [bs_size]; exact hV)
    rw [bs_size, bs_size] at this
    rw [show right ⟨q, k, v, false⟩ = rgt q k.length v.length from by unfold right rgt; simp [Bool.and_assoc]]
    exact this
  | true =>
    have := refright_gone q (bs k) (bs v) w hq (by rw [bs_size]; exact hK) (by rw [bs_size]; exact hV)
    rw [bs_size, bs_size] at this
    rw [show right ⟨q, k, v, true⟩ = (rgt q k.length 0 && decide (v.length = 0)) from by
      unfold right rgt
      cases v with
      | nil => simp [Bool.and_assoc]
      | cons c l => simp]
    exact this

set_option maxRecDepth 100000 in
set_option maxHeartbeats 400000 in
theorem refbytes_gone (q : Nat) (k : List UInt8) (V : ByteArray) (w : World) (hq : q ≤ 1099511627776) (hk : k.length ≤ 40) (hr : ∀ W, Calls Try.prog 62 #[.agg #[.int .u64 (q : Int), .string (bs k), .string V, .bool true]] W fun e w' => e = .returned (.bool true) ∧ Below W.heap.size W w') :
    Calls Try.prog 45 #[.agg #[.int .u64 (q : Int), .string (bs k), .string V, .bool true]] w fun e w' => e = .returned (.tuple #[.string (bs (put (2 * q + 1) ++ txt k)), .int .i64 0]) ∧ Below w.heap.size w w' := by
  have h1 : ∀ W, Box4 w (.int .u64 (q : Int)) (.string (bs k)) (.string V) (.bool true) W → Calls Try.prog 28 #[.int .u64 (2 * (q : Int) + 1)] W fun e w' => e = .returned (.string (bs (put (2 * q + 1)))) ∧ Box4 w (.int .u64 (q : Int)) (.string (bs k)) (.string V) (.bool true) w' := fun W hW => by
    have := refput_nat (2 * q + 1) W (by omega)
    rw [show ((2 * q + 1 : Nat) : Int) = 2 * (q : Int) + 1 from by omega] at this
    exact this.mono fun e w' ⟨he, hb⟩ => ⟨he, hW.call hb⟩
  have h2 : ∀ W, Box4 w (.int .u64 (q : Int)) (.string (bs k)) (.string V) (.bool true) W → Calls Try.prog 54 #[.string (bs k)] W fun e w' => e = .returned (.string (bs (txt k))) ∧ Box4 w (.int .u64 (q : Int)) (.string (bs k)) (.string V) (.bool true) w' := fun W hW =>
    (reftext_of k W (by omega)).mono fun e w' ⟨he, hb⟩ => ⟨he, hW.call hb⟩
  have s1 : (bs (put (2 * q + 1))).size ≤ 10 := by rw [bs_size]; exact put_ten (lt64 (by omega))
  have s2 : (bs (txt k)).size ≤ 50 := by rw [bs_size]; have := txt_len (s := k) (by omega); omega
  rw [bs_app]
  have K0 := Box.made w (.cells #[.int .u64 (q : Int), .string (bs k), .string V, .bool true] 45)
  have wr1 := IntWalk.u64_in (2 * (q : Int)) ⟨by omega, by omega⟩
  have wr2 := IntWalk.u64_in (2 * (q : Int) + 1) ⟨by omega, by omega⟩
  generalize bs (put (2 * q + 1)) = P1 at *
  generalize bs (txt k) = T1 at *
  have c1 : ¬ 9223372036854775807 < P1.size + T1.size := by omega
  generalize bs k = K at *
  have HR := Lib.hid hr
  have K0 := Lib.hid K0
  have H1 := Lib.hid h1
  have H2 := Lib.hid h2
  clear h1 h2 hk hq hr
  go_enter Try.func45, Try.ntmps45
  go_wp2_with fail
  (with_reducible refine (HR.out _).mono ?_)
  rintro e w0 ⟨rfl, b0⟩
  have K1 : Box4 w _ _ _ _ w0 := K0.out.call b0
  clear b0 K0
  obtain ⟨K1, d0, d1, d2, d3⟩ := Box4.cells K1
  go_wp2_with fail
  go_region_held3 (fun W => Box4 w (.int .u64 (q : Int)) (.string K) (.string V) (.bool true) W ∧ W.cell? ⟨w.heap.size, 0, none⟩ = some (.int .u64 (q : Int)) ∧ W.cell? ⟨w.heap.size, 1, none⟩ = some (.string K) ∧ W.cell? ⟨w.heap.size, 2, none⟩ = some (.string V) ∧ W.cell? ⟨w.heap.size, 3, none⟩ = some (.bool true))
    (first | exact Box4.cells ‹_› | exact Box4.cells K1 | exact Box4.cells (Box.drew K1) | exact Box4.cells (Box.drew ‹_›))
    (first | (go_at_call 28; (with_reducible refine (H1.out _ ?_).mono ?_); (first | assumption | exact K1 | exact Box.drew K1 | exact Box.drew ‹_›); rintro e w2 ⟨rfl, k2⟩) | (go_at_call 54; (with_reducible refine (H2.out _ ?_).mono ?_); (first | assumption | exact K1 | exact Box.drew K1 | exact Box.drew ‹_›); rintro e w2 ⟨rfl, k2⟩))
  go_wp2_with fail
  go_ret2
  exact ⟨rfl, Box.below ‹_›⟩

set_option maxRecDepth 100000 in
set_option maxHeartbeats 400000 in
theorem refbytes_here (q : Nat) (k v : List UInt8) (w : World) (hq : q ≤ 1099511627776) (hk : k.length ≤ 40) (hv : v.length ≤ 300) (hr : ∀ W, Calls Try.prog 62 #[.agg #[.int .u64 (q : Int), .string (bs k), .string (bs v), .bool false]] W fun e w' => e = .returned (.bool true) ∧ Below W.heap.size W w') :
    Calls Try.prog 45 #[.agg #[.int .u64 (q : Int), .string (bs k), .string (bs v), .bool false]] w fun e w' => e = .returned (.tuple #[.string (bs (put (2 * q) ++ txt k ++ txt v)), .int .i64 0]) ∧ Below w.heap.size w w' := by
  have h1 : ∀ W, Box4 w (.int .u64 (q : Int)) (.string (bs k)) (.string (bs v)) (.bool false) W → Calls Try.prog 28 #[.int .u64 (2 * (q : Int))] W fun e w' => e = .returned (.string (bs (put (2 * q)))) ∧ Box4 w (.int .u64 (q : Int)) (.string (bs k)) (.string (bs v)) (.bool false) w' := fun W hW => by
    have := refput_nat (2 * q) W (by omega)
    rw [show ((2 * q : Nat) : Int) = 2 * (q : Int) from by omega] at this
    exact this.mono fun e w' ⟨he, hb⟩ => ⟨he, hW.call hb⟩
  have h2 : ∀ W, Box4 w (.int .u64 (q : Int)) (.string (bs k)) (.string (bs v)) (.bool false) W → Calls Try.prog 54 #[.string (bs k)] W fun e w' => e = .returned (.string (bs (txt k))) ∧ Box4 w (.int .u64 (q : Int)) (.string (bs k)) (.string (bs v)) (.bool false) w' := fun W hW =>
    (reftext_of k W (by omega)).mono fun e w' ⟨he, hb⟩ => ⟨he, hW.call hb⟩
  have h3 : ∀ W, Box4 w (.int .u64 (q : Int)) (.string (bs k)) (.string (bs v)) (.bool false) W → Calls Try.prog 54 #[.string (bs v)] W fun e w' => e = .returned (.string (bs (txt v))) ∧ Box4 w (.int .u64 (q : Int)) (.string (bs k)) (.string (bs v)) (.bool false) w' := fun W hW =>
    (reftext_of v W (by omega)).mono fun e w' ⟨he, hb⟩ => ⟨he, hW.call hb⟩
  have s1 : (bs (put (2 * q))).size ≤ 10 := by rw [bs_size]; exact put_ten (lt64 (by omega))
  have s2 : (bs (txt k)).size ≤ 50 := by rw [bs_size]; have := txt_len (s := k) (by omega); omega
  have s3 : (bs (txt v)).size ≤ 310 := by rw [bs_size]; have := txt_len (s := v) (by omega); omega
  rw [bs_app, bs_app]
  have K0 := Box.made w (.cells #[.int .u64 (q : Int), .string (bs k), .string (bs v), .bool false] 45)
  have wr1 := IntWalk.u64_in (2 * (q : Int)) ⟨by omega, by omega⟩
  generalize bs (put (2 * q)) = P1 at *
  generalize bs (txt k) = T1 at *
  generalize bs (txt v) = T2 at *
  have c1 : ¬ 9223372036854775807 < P1.size + T1.size := by omega
  have c2 : ¬ 9223372036854775807 < P1.size + T1.size + T2.size := by omega
  generalize bs k = K at *
  generalize bs v = V at *
  have HR := Lib.hid hr
  have K0 := Lib.hid K0
  have H1 := Lib.hid h1
  have H2 := Lib.hid h2
  have H3 := Lib.hid h3
  clear h1 h2 h3 hk hv hq hr
  go_enter Try.func45, Try.ntmps45
  go_wp2_with fail
  (with_reducible refine (HR.out _).mono ?_)
  rintro e w0 ⟨rfl, b0⟩
  have K1 : Box4 w _ _ _ _ w0 := K0.out.call b0
  clear b0 K0
  obtain ⟨K1, d0, d1, d2, d3⟩ := Box4.cells K1
  go_wp2_with fail
  go_region_held3 (fun W => Box4 w (.int .u64 (q : Int)) (.string K) (.string V) (.bool false) W ∧ W.cell? ⟨w.heap.size, 0, none⟩ = some (.int .u64 (q : Int)) ∧ W.cell? ⟨w.heap.size, 1, none⟩ = some (.string K) ∧ W.cell? ⟨w.heap.size, 2, none⟩ = some (.string V) ∧ W.cell? ⟨w.heap.size, 3, none⟩ = some (.bool false))
    (first | exact Box4.cells ‹_› | exact Box4.cells K1 | exact Box4.cells (Box.drew K1) | exact Box4.cells (Box.drew ‹_›))
    (first | (go_at_call 28; (with_reducible refine (H1.out _ ?_).mono ?_); (first | assumption | exact K1 | exact Box.drew K1 | exact Box.drew ‹_›); rintro e w2 ⟨rfl, k2⟩) | (go_at_call 54; (with_reducible refine (H2.out _ ?_).mono ?_); (first | assumption | exact K1 | exact Box.drew K1 | exact Box.drew ‹_›); rintro e w2 ⟨rfl, k2⟩) | (go_at_call 54; (with_reducible refine (H3.out _ ?_).mono ?_); (first | assumption | exact K1 | exact Box.drew K1 | exact Box.drew ‹_›); rintro e w2 ⟨rfl, k2⟩))
  go_wp2_with fail
  go_ret2
  exact ⟨rfl, Box.below ‹_›⟩

set_option maxRecDepth 100000 in
set_option maxHeartbeats 400000 in
theorem refbytes_no (r : Rc) (w : World) (hr : ∀ W, Calls Try.prog 62 #[rv r] W fun e w' => e = .returned (.bool false) ∧ Below W.heap.size W w') :
    Calls Try.prog 45 #[rv r] w fun e w' => e = .returned (.tuple #[.string ⟨#[]⟩, .int .i64 1]) ∧ Below w.heap.size w w' := by
  simp only [rv] at hr ⊢
  have HR := Lib.hid hr
  have K0 := Lib.hid (Box.made w (.cells #[.int .u64 ((r.q : Nat) : Int), .string (bs r.k), .string (bs r.v), .bool r.g] 45))
  clear hr
  go_enter Try.func45, Try.ntmps45
  go_wp2_with fail
  (with_reducible refine (HR.out _).mono ?_)
  rintro e w0 ⟨rfl, b0⟩
  have K1 := K0.out.call b0
  clear b0 K0
  go_wp2_with fail
  go_ret2
  exact ⟨rfl, K1.1⟩

/-- What the document's Bytes returns. -/
theorem refbytes_any (r : Rc) (w : World) (hq : r.q ≤ 18446744073709551615) (hK : r.k.length ≤ 9223372036854775807) (hV : r.v.length ≤ 9223372036854775807) :
    Calls Try.prog 45 #[rv r] w fun e w' => e = .returned (allV [r]) ∧ Below w.heap.size w w' := by
  have hr := fun W => refright_any r W hq hK hV
  cases hg : right r with
  | false =>
    rw [hg] at hr
    rw [allV_no (l := [r]) (by simp [rights, hg])]
    exact refbytes_no r w hr
  | true =>
    rw [hg] at hr
    rw [allV_yes (l := [r]) (by simp [rights, hg]), encs_cons, encs_nil, List.append_nil]
    obtain ⟨h1, h2, h3, h4, h5, h6⟩ := (right_iff r).1 hg
    obtain ⟨q, k, v, g⟩ := r
    cases g with
    | true => rw [enc_gone rfl]; exact refbytes_gone q k (bs v) w h2 h4 hr
    | false => rw [enc_here rfl]; exact refbytes_here q k v w h2 h4 h5 hr

end Go.Proofs.Ytdifecclldkhpaa
