/- What the call encoding of package hint returns, and the document's own answer for an entry's bytes. -/
import Derived.Test.YtdifecclldkhpaaHvalid
import Derived.Test.YtdifecclldkhpaaRrefs
namespace Go.Proofs.Ytdifecclldkhpaa
open Go.RowKit

/-- Nothing that was there has turned, and the first new block holds an entry's five cells. -/
def Box5 (t : TypeId) (w0 : World) (c0 c1 c2 c3 c4 : Value) (W : World) : Prop := Box w0 (.cells #[c0, c1, c2, c3, c4] t) W
theorem Box5.cells {t : TypeId} {w0 : World} {c0 c1 c2 c3 c4 : Value} {W : World} (h : Box5 t w0 c0 c1 c2 c3 c4 W) :
    Box5 t w0 c0 c1 c2 c3 c4 W ∧ W.cell? ⟨w0.heap.size, 0, none⟩ = some c0 ∧ W.cell? ⟨w0.heap.size, 1, none⟩ = some c1 ∧ W.cell? ⟨w0.heap.size, 2, none⟩ = some c2 ∧ W.cell? ⟨w0.heap.size, 3, none⟩ = some c3 ∧ W.cell? ⟨w0.heap.size, 4, none⟩ = some c4 :=
  ⟨h, by rw [Lib.cell_of_heap h.2.2]; rfl, by rw [Lib.cell_of_heap h.2.2]; rfl, by rw [Lib.cell_of_heap h.2.2]; rfl, by rw [Lib.cell_of_heap h.2.2]; rfl, by rw [Lib.cell_of_heap h.2.2]; rfl⟩

set_option maxRecDepth 100000 in
set_option maxHeartbeats 800000 in
theorem eenc_of (k : List UInt8) (o l q : Nat) (g : Bool) (z : Nat) (w : World) (hk : k.length ≤ 40) (ho : o ≤ 1048576) (hl : l ≤ 400) (hq : q ≤ 1099511627776) (hz : z = esz (l : Int) g) :
    Calls Try.prog 25 #[.agg #[.string (bs k), .int .i64 (o : Int), .int .i64 (l : Int), .int .u64 (q : Int), .bool g]] w fun e w' => e = .returned (.string (bs (txt k ++ put o ++ put z ++ put q))) ∧ Below w.heap.size w w' := by
  have hz801 : z ≤ 801 := by rw [hz]; unfold esz; split <;> omega
  have h1 : ∀ W, Box5 39 w (.string (bs k)) (.int .i64 (o : Int)) (.int .i64 (l : Int)) (.int .u64 (q : Int)) (.bool g) W → Calls Try.prog 50 #[.string (bs k)] W fun e w' => e = .returned (.string (bs (txt k))) ∧ Box5 39 w (.string (bs k)) (.int .i64 (o : Int)) (.int .i64 (l : Int)) (.int .u64 (q : Int)) (.bool g) w' := fun W hW =>
    (text_of k W (by omega)).mono fun e w' ⟨he, hb⟩ => ⟨he, hW.call hb⟩
  have h2 : ∀ (n : Nat) W, n ≤ 18446744073709551615 → Box5 39 w (.string (bs k)) (.int .i64 (o : Int)) (.int .i64 (l : Int)) (.int .u64 (q : Int)) (.bool g) W → Calls Try.prog 23 #[.int .u64 (n : Int)] W fun e w' => e = .returned (.string (bs (put n))) ∧ Box5 39 w (.string (bs k)) (.int .i64 (o : Int)) (.int .i64 (l : Int)) (.int .u64 (q : Int)) (.bool g) w' := fun n W hn hW =>
    (put_nat n W hn).mono fun e w' ⟨he, hb⟩ => ⟨he, hW.call hb⟩
  have hA := h2 o
  have hB := h2 z
  have hC := h2 q
  have s1 : (bs (txt k)).size ≤ 50 := by rw [bs_size]; have := txt_len (s := k) (by omega); omega
  have s2 : (bs (put o)).size ≤ 10 := by rw [bs_size]; exact put_ten (lt64 (by omega))
  have s3 : (bs (put z)).size ≤ 10 := by rw [bs_size]; exact put_ten (lt64 (by omega))
  have s4 : (bs (put q)).size ≤ 10 := by rw [bs_size]; exact put_ten (lt64 (by omega))
  rw [bs_app, bs_app, bs_app]
  have K0 := Box.made w (.cells #[.string (bs k), .int .i64 (o : Int), .int .i64 (l : Int), .int .u64 (q : Int), .bool g] 39)
  generalize bs (txt k) = T1 at *
  generalize bs (put o) = P1 at *
  generalize bs (put z) = P2 at *
  generalize bs (put q) = P3 at *
  have c1 : ¬ 9223372036854775807 < T1.size + P1.size := by omega
  have c2 : ¬ 9223372036854775807 < T1.size + P1.size + P2.size := by omega
  have c3 : ¬ 9223372036854775807 < T1.size + P1.size + P2.size + P3.size := by omega
  generalize bs k = K at *
  have K0 := Lib.hid K0
  have H1 := Lib.hid h1
  have HA := Lib.hid fun W hW => hA W (by omega) hW
  have HC := Lib.hid fun W hW => hC W (by omega) hW
  have wr0 := IntWalk.u64_in (o : Int) ⟨by omega, by omega⟩
  have wr1 := IntWalk.u64_in (2 * (l : Int)) ⟨by omega, by omega⟩
  have wr2 := IntWalk.u64_in (2 * (l : Int) + 1) ⟨by omega, by omega⟩
  cases g with
  | false =>
    have hB := fun W hW => hB W (by omega) hW
    rw [show (z : Int) = 2 * (l : Int) from by rw [hz]; unfold esz; simp] at hB
    have HB := Lib.hid hB
    clear h1 h2 hA hB hC hz hz801 wr2
    go_enter Try.func25, Try.ntmps25
    go_wp2_with fail
    go_region_held3 (fun W => Box5 39 w (.string K) (.int .i64 (o : Int)) (.int .i64 (l : Int)) (.int .u64 (q : Int)) (.bool false) W ∧ W.cell? ⟨w.heap.size, 0, none⟩ = some (.string K) ∧ W.cell? ⟨w.heap.size, 1, none⟩ = some (.int .i64 (o : Int)) ∧ W.cell? ⟨w.heap.size, 2, none⟩ = some (.int .i64 (l : Int)) ∧ W.cell? ⟨w.heap.size, 3, none⟩ = some (.int .u64 (q : Int)) ∧ W.cell? ⟨w.heap.size, 4, none⟩ = some (.bool false))
      (first | exact Box5.cells ‹_› | exact Box5.cells K0.out | exact Box5.cells K0.out.drew | exact Box5.cells (Box.drew ‹_›))
      (first | (go_at_call 50; (with_reducible refine (H1.out _ ?_).mono ?_); (first | assumption | exact K0.out | exact K0.out.drew | exact Box.drew ‹_›); rintro e w2 ⟨rfl, k2⟩) | (go_at_call 23; (with_reducible refine (HA.out _ ?_).mono ?_); (first | assumption | exact K0.out | exact K0.out.drew | exact Box.drew ‹_›); rintro e w2 ⟨rfl, k2⟩) | (go_at_call 23; (with_reducible refine (HB.out _ ?_).mono ?_); (first | assumption | exact K0.out | exact K0.out.drew | exact Box.drew ‹_›); rintro e w2 ⟨rfl, k2⟩) | (go_at_call 23; (with_reducible refine (HC.out _ ?_).mono ?_); (first | assumption | exact K0.out | exact K0.out.drew | exact Box.drew ‹_›); rintro e w2 ⟨rfl, k2⟩))
    go_wp2_with fail
    go_ret
    exact ⟨rfl, Box.below ‹_›⟩
  | true =>
    have hB := fun W hW => hB W (by omega) hW
    rw [show (z : Int) = 2 * (l : Int) + 1 from by rw [hz]; unfold esz; simp] at hB
    have HB := Lib.hid hB
    clear h1 h2 hA hB hC hz hz801
    go_enter Try.func25, Try.ntmps25
    go_wp2_with fail
    go_region_held3 (fun W => Box5 39 w (.string K) (.int .i64 (o : Int)) (.int .i64 (l : Int)) (.int .u64 (q : Int)) (.bool true) W ∧ W.cell? ⟨w.heap.size, 0, none⟩ = some (.string K) ∧ W.cell? ⟨w.heap.size, 1, none⟩ = some (.int .i64 (o : Int)) ∧ W.cell? ⟨w.heap.size, 2, none⟩ = some (.int .i64 (l : Int)) ∧ W.cell? ⟨w.heap.size, 3, none⟩ = some (.int .u64 (q : Int)) ∧ W.cell? ⟨w.heap.size, 4, none⟩ = some (.bool true))
      (first | exact Box5.cells ‹_› | exact Box5.cells K0.out | exact Box5.cells K0.out.drew | exact Box5.cells (Box.drew ‹_›))
      (first | (go_at_call 50; (with_reducible refine (H1.out _ ?_).mono ?_); (first | assumption | exact K0.out | exact K0.out.drew | exact Box.drew ‹_›); rintro e w2 ⟨rfl, k2⟩) | (go_at_call 23; (with_reducible refine (HA.out _ ?_).mono ?_); (first | assumption | exact K0.out | exact K0.out.drew | exact Box.drew ‹_›); rintro e w2 ⟨rfl, k2⟩) | (go_at_call 23; (with_reducible refine (HB.out _ ?_).mono ?_); (first | assumption | exact K0.out | exact K0.out.drew | exact Box.drew ‹_›); rintro e w2 ⟨rfl, k2⟩) | (go_at_call 23; (with_reducible refine (HC.out _ ?_).mono ?_); (first | assumption | exact K0.out | exact K0.out.drew | exact Box.drew ‹_›); rintro e w2 ⟨rfl, k2⟩))
    go_wp2_with fail
    go_ret
    exact ⟨rfl, Box.below ‹_›⟩

set_option maxRecDepth 100000 in
set_option maxHeartbeats 800000 in
theorem refeenc_of (k : List UInt8) (o l q : Nat) (g : Bool) (z : Nat) (w : World) (hk : k.length ≤ 40) (ho : o ≤ 1048576) (hl : l ≤ 400) (hq : q ≤ 1099511627776) (hz : z = esz (l : Int) g) :
    Calls Try.prog 30 #[.agg #[.string (bs k), .int .i64 (o : Int), .int .i64 (l : Int), .int .u64 (q : Int), .bool g]] w fun e w' => e = .returned (.string (bs (txt k ++ put o ++ put z ++ put q))) ∧ Below w.heap.size w w' := by
  have hz801 : z ≤ 801 := by rw [hz]; unfold esz; split <;> omega
  have h1 : ∀ W, Box5 49 w (.string (bs k)) (.int .i64 (o : Int)) (.int .i64 (l : Int)) (.int .u64 (q : Int)) (.bool g) W → Calls Try.prog 54 #[.string (bs k)] W fun e w' => e = .returned (.string (bs (txt k))) ∧ Box5 49 w (.string (bs k)) (.int .i64 (o : Int)) (.int .i64 (l : Int)) (.int .u64 (q : Int)) (.bool g) w' := fun W hW =>
    (reftext_of k W (by omega)).mono fun e w' ⟨he, hb⟩ => ⟨he, hW.call hb⟩
  have h2 : ∀ (n : Nat) W, n ≤ 18446744073709551615 → Box5 49 w (.string (bs k)) (.int .i64 (o : Int)) (.int .i64 (l : Int)) (.int .u64 (q : Int)) (.bool g) W → Calls Try.prog 28 #[.int .u64 (n : Int)] W fun e w' => e = .returned (.string (bs (put n))) ∧ Box5 49 w (.string (bs k)) (.int .i64 (o : Int)) (.int .i64 (l : Int)) (.int .u64 (q : Int)) (.bool g) w' := fun n W hn hW =>
    (refput_nat n W hn).mono fun e w' ⟨he, hb⟩ => ⟨he, hW.call hb⟩
  have hA := h2 o
  have hB := h2 z
  have hC := h2 q
  have s1 : (bs (txt k)).size ≤ 50 := by rw [bs_size]; have := txt_len (s := k) (by omega); omega
  have s2 : (bs (put o)).size ≤ 10 := by rw [bs_size]; exact put_ten (lt64 (by omega))
  have s3 : (bs (put z)).size ≤ 10 := by rw [bs_size]; exact put_ten (lt64 (by omega))
  have s4 : (bs (put q)).size ≤ 10 := by rw [bs_size]; exact put_ten (lt64 (by omega))
  rw [bs_app, bs_app, bs_app]
  have K0 := Box.made w (.cells #[.string (bs k), .int .i64 (o : Int), .int .i64 (l : Int), .int .u64 (q : Int), .bool g] 49)
  generalize bs (txt k) = T1 at *
  generalize bs (put o) = P1 at *
  generalize bs (put z) = P2 at *
  generalize bs (put q) = P3 at *
  have c1 : ¬ 9223372036854775807 < T1.size + P1.size := by omega
  have c2 : ¬ 9223372036854775807 < T1.size + P1.size + P2.size := by omega
  have c3 : ¬ 9223372036854775807 < T1.size + P1.size + P2.size + P3.size := by omega
  generalize bs k = K at *
  have K0 := Lib.hid K0
  have H1 := Lib.hid h1
  have HA := Lib.hid fun W hW => hA W (by omega) hW
  have HC := Lib.hid fun W hW => hC W (by omega) hW
  have wr0 := IntWalk.u64_in (o : Int) ⟨by omega, by omega⟩
  have wr1 := IntWalk.u64_in (2 * (l : Int)) ⟨by omega, by omega⟩
  have wr2 := IntWalk.u64_in (2 * (l : Int) + 1) ⟨by omega, by omega⟩
  cases g with
  | false =>
    have hB := fun W hW => hB W (by omega) hW
    rw [show (z : Int) = 2 * (l : Int) from by rw [hz]; unfold esz; simp] at hB
    have HB := Lib.hid hB
    clear h1 h2 hA hB hC hz hz801 wr2
    go_enter Try.func30, Try.ntmps30
    go_wp2_with fail
    go_region_held3 (fun W => Box5 49 w (.string K) (.int .i64 (o : Int)) (.int .i64 (l : Int)) (.int .u64 (q : Int)) (.bool false) W ∧ W.cell? ⟨w.heap.size, 0, none⟩ = some (.string K) ∧ W.cell? ⟨w.heap.size, 1, none⟩ = some (.int .i64 (o : Int)) ∧ W.cell? ⟨w.heap.size, 2, none⟩ = some (.int .i64 (l : Int)) ∧ W.cell? ⟨w.heap.size, 3, none⟩ = some (.int .u64 (q : Int)) ∧ W.cell? ⟨w.heap.size, 4, none⟩ = some (.bool false))
      (first | exact Box5.cells ‹_› | exact Box5.cells K0.out | exact Box5.cells K0.out.drew | exact Box5.cells (Box.drew ‹_›))
      (first | (go_at_call 54; (with_reducible refine (H1.out _ ?_).mono ?_); (first | assumption | exact K0.out | exact K0.out.drew | exact Box.drew ‹_›); rintro e w2 ⟨rfl, k2⟩) | (go_at_call 28; (with_reducible refine (HA.out _ ?_).mono ?_); (first | assumption | exact K0.out | exact K0.out.drew | exact Box.drew ‹_›); rintro e w2 ⟨rfl, k2⟩) | (go_at_call 28; (with_reducible refine (HB.out _ ?_).mono ?_); (first | assumption | exact K0.out | exact K0.out.drew | exact Box.drew ‹_›); rintro e w2 ⟨rfl, k2⟩) | (go_at_call 28; (with_reducible refine (HC.out _ ?_).mono ?_); (first | assumption | exact K0.out | exact K0.out.drew | exact Box.drew ‹_›); rintro e w2 ⟨rfl, k2⟩))
    go_wp2_with fail
    go_ret
    exact ⟨rfl, Box.below ‹_›⟩
  | true =>
    have hB := fun W hW => hB W (by omega) hW
    rw [show (z : Int) = 2 * (l : Int) + 1 from by rw [hz]; unfold esz; simp] at hB
    have HB := Lib.hid hB
    clear h1 h2 hA hB hC hz hz801
    go_enter Try.func30, Try.ntmps30
    go_wp2_with fail
    go_region_held3 (fun W => Box5 49 w (.string K) (.int .i64 (o : Int)) (.int .i64 (l : Int)) (.int .u64 (q : Int)) (.bool true) W ∧ W.cell? ⟨w.heap.size, 0, none⟩ = some (.string K) ∧ W.cell? ⟨w.heap.size, 1, none⟩ = some (.int .i64 (o : Int)) ∧ W.cell? ⟨w.heap.size, 2, none⟩ = some (.int .i64 (l : Int)) ∧ W.cell? ⟨w.heap.size, 3, none⟩ = some (.int .u64 (q : Int)) ∧ W.cell? ⟨w.heap.size, 4, none⟩ = some (.bool true))
      (first | exact Box5.cells ‹_› | exact Box5.cells K0.out | exact Box5.cells K0.out.drew | exact Box5.cells (Box.drew ‹_›))
      (first | (go_at_call 54; (with_reducible refine (H1.out _ ?_).mono ?_); (first | assumption | exact K0.out | exact K0.out.drew | exact Box.drew ‹_›); rintro e w2 ⟨rfl, k2⟩) | (go_at_call 28; (with_reducible refine (HA.out _ ?_).mono ?_); (first | assumption | exact K0.out | exact K0.out.drew | exact Box.drew ‹_›); rintro e w2 ⟨rfl, k2⟩) | (go_at_call 28; (with_reducible refine (HB.out _ ?_).mono ?_); (first | assumption | exact K0.out | exact K0.out.drew | exact Box.drew ‹_›); rintro e w2 ⟨rfl, k2⟩) | (go_at_call 28; (with_reducible refine (HC.out _ ?_).mono ?_); (first | assumption | exact K0.out | exact K0.out.drew | exact Box.drew ‹_›); rintro e w2 ⟨rfl, k2⟩))
    go_wp2_with fail
    go_ret
    exact ⟨rfl, Box.below ‹_›⟩

theorem nat_of {a : Int} (h : 0 ≤ a) : ((a.toNat : Nat) : Int) = a := by omega

theorem eenc_any (e : Et) (w : World) (h : eright e = true) :
    Calls Try.prog 25 #[ev e] w fun x w' => x = .returned (.string (bs (eenc e))) ∧ Below w.heap.size w w' := by
  obtain ⟨h1, h2, h3, h4, h5, h6, h7, h8⟩ := (eright_iff e).1 h
  have := eenc_of e.k e.o.toNat e.l.toNat e.q e.g (esz e.l e.g) w h2 (by omega) (by omega) h8 (by rw [nat_of (by omega)])
  rwa [nat_of (by omega), nat_of (by omega)] at this

theorem refeenc_any (e : Et) (w : World) (h : eright e = true) :
    Calls Try.prog 30 #[ev e] w fun x w' => x = .returned (.string (bs (eenc e))) ∧ Below w.heap.size w w' := by
  obtain ⟨h1, h2, h3, h4, h5, h6, h7, h8⟩ := (eright_iff e).1 h
  have := refeenc_of e.k e.o.toNat e.l.toNat e.q e.g (esz e.l e.g) w h2 (by omega) (by omega) h8 (by rw [nat_of (by omega)])
  rwa [nat_of (by omega), nat_of (by omega)] at this

end Go.Proofs.Ytdifecclldkhpaa
