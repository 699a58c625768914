/- What the call encoding of package record returns. -/
import Derived.Test.YtdifecclldkhpaaRright
namespace Go.Proofs.Ytdifecclldkhpaa
open Go.RowKit

theorem bs_app (a b : List UInt8) : bs (a ++ b) = bs a ++ bs b := (ByteArray.mk_append_mk a b).symm

theorem put_nat (n : Nat) (w : World) (h : n ≤ 18446744073709551615) :
    Calls Try.prog 23 #[.int .u64 (n : Int)] w fun e w' => e = .returned (.string (bs (put n))) ∧ Below w.heap.size w w' := by
  have := put_any (n : Int) w (by omega) (by omega)
  rwa [Int.toNat_natCast] at this

theorem text_of (s : List UInt8) (w : World) (h : s.length ≤ 281474976710656) :
    Calls Try.prog 50 #[.string (bs s)] w fun e w' => e = .returned (.string (bs (txt s))) ∧ Below w.heap.size w w' := by
  have := text_any (bs s) w (by rw [bs_size]; exact h)
  rwa [bs_size, bs_list] at this

set_option maxRecDepth 100000 in
set_option maxHeartbeats 400000 in
theorem enc_gone_of (q : Nat) (k : List UInt8) (V : ByteArray) (w : World) (hq : q ≤ 1099511627776) (hk : k.length ≤ 40) :
    Calls Try.prog 60 #[.agg #[.int .u64 (q : Int), .string (bs k), .string V, .bool true]] w fun e w' => e = .returned (.string (bs (put (2 * q + 1) ++ txt k))) ∧ Below w.heap.size w w' := by
  have h1 : ∀ W, Box4 w (.int .u64 (q : Int)) (.string (bs k)) (.string V) (.bool true) W → Calls Try.prog 23 #[.int .u64 (2 * (q : Int) + 1)] W fun e w' => e = .returned (.string (bs (put (2 * q + 1)))) ∧ Box4 w (.int .u64 (q : Int)) (.string (bs k)) (.string V) (.bool true) w' := fun W hW => by
    have := put_nat (2 * q + 1) W (by omega)
    rw [show ((2 * q + 1 : Nat) : Int) = 2 * (q : Int) + 1 from by omega] at this
    exact this.mono fun e w' ⟨he, hb⟩ => ⟨he, hW.call hb⟩
  have h2 : ∀ W, Box4 w (.int .u64 (q : Int)) (.string (bs k)) (.string V) (.bool true) W → Calls Try.prog 50 #[.string (bs k)] W fun e w' => e = .returned (.string (bs (txt k))) ∧ Box4 w (.int .u64 (q : Int)) (.string (bs k)) (.string V) (.bool true) w' := fun W hW =>
    (text_of k W (by omega)).mono fun e w' ⟨he, hb⟩ => ⟨he, hW.call hb⟩
  have s1 : (bs (put (2 * q + 1))).size ≤ 10 := by rw [bs_size]; exact put_ten (lt64 (by omega))
  have s2 : (bs (txt k)).size ≤ 50 := by rw [bs_size]; have := txt_len (s := k) (by omega); omega
  rw [bs_app]
  have K0 := Box.made w (.cells #[.int .u64 (q : Int), .string (bs k), .string V, .bool true] 45)
  have wr1 := IntWalk.u64_in (2 * (q : Int)) ⟨by omega, by omega⟩
  have wr2 := IntWalk.u64_in (2 * (q : Int) + 1) ⟨by omega, by omega⟩
  generalize bs (put (2 * q + 1)) = P1 at *
  generalize bs (txt k) = T1 at *
  have c1 : ¬ 9223372036854775807 < P1.size + T1.size := by omega
  generalize bs k = K at *
  have H1 := Lib.hid h1
  have H2 := Lib.hid h2
  clear h1 h2 hk hq
  go_enter Try.func60, Try.ntmps60
  go_wp2_with fail
  go_region_held3 (fun W => Box4 w (.int .u64 (q : Int)) (.string K) (.string V) (.bool true) W ∧ W.cell? ⟨w.heap.size, 0, none⟩ = some (.int .u64 (q : Int)) ∧ W.cell? ⟨w.heap.size, 1, none⟩ = some (.string K) ∧ W.cell? ⟨w.heap.size, 2, none⟩ = some (.string V) ∧ W.cell? ⟨w.heap.size, 3, none⟩ = some (.bool true))
    (first | exact Box4.cells ‹_› | exact Box4.cells K0 | exact Box4.cells K0.drew | exact Box4.cells (Box.drew ‹_›))
    (first | (go_at_call 23; (with_reducible refine (H1.out _ ?_).mono ?_); (first | assumption | exact K0 | exact K0.drew | exact Box.drew ‹_›); rintro e w2 ⟨rfl, k2⟩) | (go_at_call 50; (with_reducible refine (H2.out _ ?_).mono ?_); (first | assumption | exact K0 | exact K0.drew | exact Box.drew ‹_›); rintro e w2 ⟨rfl, k2⟩))
  go_wp2_with fail
  go_ret
  exact ⟨rfl, Box.below ‹_›⟩

set_option maxRecDepth 100000 in
set_option maxHeartbeats 400000 in
theorem enc_here_of (q : Nat) (k v : List UInt8) (w : World) (hq : q ≤ 1099511627776) (hk : k.length ≤ 40) (hv : v.length ≤ 300) :
    Calls Try.prog 60 #[.agg #[.int .u64 (q : Int), .string (bs k), .string (bs v), .bool false]] w fun e w' => e = .returned (.string (bs (put (2 * q) ++ txt k ++ txt v))) ∧ Below w.heap.size w w' := by
  have h1 : ∀ W, Box4 w (.int .u64 (q : Int)) (.string (bs k)) (.string (bs v)) (.bool false) W → Calls Try.prog 23 #[.int .u64 (2 * (q : Int))] W fun e w' => e = .returned (.string (bs (put (2 * q)))) ∧ Box4 w (.int .u64 (q : Int)) (.string (bs k)) (.string (bs v)) (.bool false) w' := fun W hW => by
    have := put_nat (2 * q) W (by omega)
    rw [show ((2 * q : Nat) : Int) = 2 * (q : Int) from by omega] at this
    exact this.mono fun e w' ⟨he, hb⟩ => ⟨he, hW.call hb⟩
  have h2 : ∀ W, Box4 w (.int .u64 (q : Int)) (.string (bs k)) (.string (bs v)) (.bool false) W → Calls Try.prog 50 #[.string (bs k)] W fun e w' => e = .returned (.string (bs (txt k))) ∧ Box4 w (.int .u64 (q : Int)) (.string (bs k)) (.string (bs v)) (.bool false) w' := fun W hW =>
    (text_of k W (by omega)).mono fun e w' ⟨he, hb⟩ => ⟨he, hW.call hb⟩
  have h3 : ∀ W, Box4 w (.int .u64 (q : Int)) (.string (bs k)) (.string (bs v)) (.bool false) W → Calls Try.prog 50 #[.string (bs v)] W fun e w' => e = .returned (.string (bs (txt v))) ∧ Box4 w (.int .u64 (q : Int)) (.string (bs k)) (.string (bs v)) (.bool false) w' := fun W hW =>
    (text_of v W (by omega)).mono fun e w' ⟨he, hb⟩ => ⟨he, hW.call hb⟩
  have s1 : (bs (put (2 * q))).size ≤ 10 := by rw [bs_size]; exact put_ten (lt64 (by omega))
  have s2 : (bs (txt k)).size ≤ 50 := by rw [bs_size]; have := txt_len (s := k) (by omega); omega
  have s3 : (bs (txt v)).size ≤ 310 := by rw [bs_size]; have := txt_len (s := v) (by omega); omega
  rw [bs_app, bs_app]
  have K0 := Box.made w (.cells #[.int .u64 (q : Int), .string (bs k), .string (bs v), .bool false] 45)
  have wr1 := IntWalk.u64_in (2 * (q : Int)) ⟨by omega, by omega⟩
  generalize bs (put (2 * q)) = P1 at *
  generalize bs (txt k) = T1 at *
  generalize bs (txt v) = T2 at *
  have c1 : ¬ 9223372036854775807 < P1.size + T1.size := by omega
  have c2 : ¬ 9223372036854775807 < P1.size + T1.size + T2.size := by omega
  generalize bs k = K at *
  generalize bs v = V at *
  have H1 := Lib.hid h1
  have H2 := Lib.hid h2
  have H3 := Lib.hid h3
  clear h1 h2 h3 hk hv hq
  go_enter Try.func60, Try.ntmps60
  go_wp2_with fail
  go_region_held3 (fun W => Box4 w (.int .u64 (q : Int)) (.string K) (.string V) (.bool false) W ∧ W.cell? ⟨w.heap.size, 0, none⟩ = some (.int .u64 (q : Int)) ∧ W.cell? ⟨w.heap.size, 1, none⟩ = some (.string K) ∧ W.cell? ⟨w.heap.size, 2, none⟩ = some (.string V) ∧ W.cell? ⟨w.heap.size, 3, none⟩ = some (.bool false))
    (first | exact Box4.cells ‹_› | exact Box4.cells K0 | exact Box4.cells K0.drew | exact Box4.cells (Box.drew ‹_›))
    (first | (go_at_call 23; (with_reducible refine (H1.out _ ?_).mono ?_); (first | assumption | exact K0 | exact K0.drew | exact Box.drew ‹_›); rintro e w2 ⟨rfl, k2⟩) | (go_at_call 50; (with_reducible refine (H2.out _ ?_).mono ?_); (first | assumption | exact K0 | exact K0.drew | exact Box.drew ‹_›); rintro e w2 ⟨rfl, k2⟩) | (go_at_call 50; (with_reducible refine (H3.out _ ?_).mono ?_); (first | assumption | exact K0 | exact K0.drew | exact Box.drew ‹_›); rintro e w2 ⟨rfl, k2⟩))
  go_wp2_with fail
  go_ret
  exact ⟨rfl, Box.below ‹_›⟩

/-- What encoding returns for a record that may be. -/
theorem enc_any (r : Rc) (w : World) (h : right r = true) :
    Calls Try.prog 60 #[rv r] w fun e w' => e = .returned (.string (bs (enc r))) ∧ Below w.heap.size w w' := by
  obtain ⟨h1, h2, h3, h4, h5, h6⟩ := (right_iff r).1 h
  obtain ⟨q, k, v, g⟩ := r
  cases g with
  | true => rw [enc_gone rfl]; exact enc_gone_of q k (bs v) w h2 h4
  | false => rw [enc_here rfl]; exact enc_here_of q k v w h2 h4 h5

end Go.Proofs.Ytdifecclldkhpaa
