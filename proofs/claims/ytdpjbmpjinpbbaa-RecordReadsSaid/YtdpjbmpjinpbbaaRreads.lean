/- The walk of the law RecordReads. -/
import Derived.Test.YtdpjbmpjinpbbaaRrefread
namespace Go.Proofs.Ytdpjbmpjinpbbaa
open Go.RowKit

theorem allV_shape (l : List Rc) : ∃ (x : ByteArray) (y : Int), allV l = .tuple #[.string x, .int .i64 y] := by
  unfold allV
  split
  · exact ⟨_, _, rfl⟩
  · exact ⟨_, _, rfl⟩

/-- Three records in memory, each as it was laid. -/
def Tri (w0 w1 w2 : World) (a0 a1 a2 a3 b0 b1 b2 b3 : Value) (W : World) : Prop := Box4 w0 a0 a1 a2 a3 W ∧ Box4 w1 b0 b1 b2 b3 W ∧ Box4 w2 b0 b1 b2 b3 W

theorem Tri.drew {w0 w1 w2 : World} {a0 a1 a2 a3 b0 b1 b2 b3 : Value} {W : World} (h : Tri w0 w1 w2 a0 a1 a2 a3 b0 b1 b2 b3 W) : Tri w0 w1 w2 a0 a1 a2 a3 b0 b1 b2 b3 W.drew := ⟨Box.drew h.1, Box.drew h.2.1, Box.drew h.2.2⟩
theorem Tri.call {w0 w1 w2 : World} {a0 a1 a2 a3 b0 b1 b2 b3 : Value} {W W' : World} (h : Tri w0 w1 w2 a0 a1 a2 a3 b0 b1 b2 b3 W) (b : Below W.heap.size W W') : Tri w0 w1 w2 a0 a1 a2 a3 b0 b1 b2 b3 W' := ⟨Box.call h.1 b, Box.call h.2.1 b, Box.call h.2.2 b⟩
theorem Tri.cells {w0 w1 w2 : World} {a0 a1 a2 a3 b0 b1 b2 b3 : Value} {W : World} (h : Tri w0 w1 w2 a0 a1 a2 a3 b0 b1 b2 b3 W) :
    Tri w0 w1 w2 a0 a1 a2 a3 b0 b1 b2 b3 W ∧ W.cell? ⟨w0.heap.size, 0, none⟩ = some a0 ∧ W.cell? ⟨w0.heap.size, 1, none⟩ = some a1 ∧ W.cell? ⟨w0.heap.size, 2, none⟩ = some a2 ∧ W.cell? ⟨w0.heap.size, 3, none⟩ = some a3 ∧
    W.cell? ⟨w1.heap.size, 0, none⟩ = some b0 ∧ W.cell? ⟨w1.heap.size, 1, none⟩ = some b1 ∧ W.cell? ⟨w1.heap.size, 2, none⟩ = some b2 ∧ W.cell? ⟨w1.heap.size, 3, none⟩ = some b3 ∧
    W.cell? ⟨w2.heap.size, 0, none⟩ = some b0 ∧ W.cell? ⟨w2.heap.size, 1, none⟩ = some b1 ∧ W.cell? ⟨w2.heap.size, 2, none⟩ = some b2 ∧ W.cell? ⟨w2.heap.size, 3, none⟩ = some b3 := by
  obtain ⟨_, x0, x1, x2, x3⟩ := Box4.cells h.1
  obtain ⟨_, y0, y1, y2, y3⟩ := Box4.cells h.2.1
  obtain ⟨_, z0, z1, z2, z3⟩ := Box4.cells h.2.2
  exact ⟨h, x0, x1, x2, x3, y0, y1, y2, y3, z0, z1, z2, z3⟩

set_option maxRecDepth 100000 in
set_option maxHeartbeats 1000000 in
theorem reads_of (r : Rc) (b : ByteArray) (hq : r.q ≤ 18446744073709551615) (hK : r.k.length ≤ 9223372036854775807) (hV : r.v.length ≤ 9223372036854775807) (hb : b.size ≤ 9223372036854775807) (w : World) :
    Calls Try.prog 3 #[rv r, .string b] w fun e w' => e = .returned (.bool true) ∧ Below w.heap.size w w' := by
  have h1 := fun w => bytes_any r w hq hK hV
  have h2 := fun w => refbytes_any r w hq hK hV
  have h3 := fun w => read_any b w hb
  have h4 := fun w => refread_any b w hb
  have h5 := fun w => right_any r w hq hK hV
  have h6 := fun w => refright_any r w hq hK hV
  have K0 := Lib.hid (Box.made w (.cells #[.int .u64 ((r.q : Nat) : Int), .string (bs r.k), .string (bs r.v), .bool r.g] 24))
  simp only [rv, rdV] at h1 h2 h3 h4 h5 h6 ⊢
  obtain ⟨x, y, hx⟩ := allV_shape [r]
  simp only [hx] at h1 h2
  generalize right r = R at *
  have zK : (bs r.k).size ≤ 9223372036854775807 := by rw [bs_size]; exact hK
  have zV : (bs r.v).size ≤ 9223372036854775807 := by rw [bs_size]; exact hV
  clear hx hK hV
  generalize ((r.q : Nat) : Int) = Q at *
  generalize bs r.k = K at *
  generalize bs r.v = V at *
  generalize r.g = G at *
  generalize (((rd b.data.toList).1.q : Nat) : Int) = Qx at *
  generalize bs (rd b.data.toList).1.k = Kx at *
  generalize bs (rd b.data.toList).1.v = Vx at *
  generalize (rd b.data.toList).1.g = Gx at *
  generalize bs (rd b.data.toList).2.1 = Sx at *
  generalize (((rd b.data.toList).2.2 : Nat) : Int) = Ex at *
  have H1 := Lib.hid h1
  have H2 := Lib.hid h2
  have H3 := Lib.hid h3
  have H4 := Lib.hid h4
  have H5 := Lib.hid h5
  have H6 := Lib.hid h6
  clear h1 h2 h3 h4 h5 h6 hq
  by_cases c : 500 < K.size ∨ 500 < V.size ∨ 2000 < b.size
  · rcases c with c | c | c
    all_goals
      go_enter Try.func3, Try.ntmps3
      go_wp2_with fail
      refine (awake_any _).mono ?_
      rintro e w1 ⟨rfl, b1⟩
      have K1 : Box4 w _ _ _ _ w1 := K0.out.call b1
      obtain ⟨K1, d0, d1, d2, d3⟩ := Box4.cells K1
      clear b1
      go_wp2_with fail
      all_goals
        go_ret
        exact ⟨rfl, K1.1⟩
  obtain ⟨c1, c2, c3⟩ : K.size ≤ 500 ∧ V.size ≤ 500 ∧ b.size ≤ 2000 := by omega
  clear c hb zK zV
  go_enter Try.func3, Try.ntmps3
  go_wp2_with fail
  refine (awake_any _).mono ?_
  rintro e w1 ⟨rfl, b1⟩
  have K1 : Box4 w _ _ _ _ w1 := K0.out.call b1
  obtain ⟨K1, d0, d1, d2, d3⟩ := Box4.cells K1
  clear b1 K0
  go_wp2_with fail
  (with_reducible refine (H1.out _).mono ?_)
  rintro e w2 ⟨rfl, b2⟩
  have K2 : Box4 w _ _ _ _ w2 := K1.call b2
  clear b2 d0 d1 d2 d3
  obtain ⟨K2, d0, d1, d2, d3⟩ := Box4.cells K2
  go_wp2_with fail
  (with_reducible refine (H2.out _).mono ?_)
  rintro e w3 ⟨rfl, b3⟩
  have K3 : Box4 w _ _ _ _ w3 := K2.call b3
  clear b3 d0 d1 d2 d3 K1 K2
  go_wp2_with fail
  (with_reducible refine (H3.out _).mono ?_)
  rintro e w4 ⟨rfl, b4⟩
  have K4 := Lib.hid (Box.alloc (K3.call b4) (.cells #[.int .u64 Qx, .string Kx, .string Vx, .bool Gx] 24))
  have M4 := Lib.hid (Box.made w4 (.cells #[.int .u64 Qx, .string Kx, .string Vx, .bool Gx] 24))
  clear b4 K3
  go_wp2_with fail
  (with_reducible refine (H4.out _).mono ?_)
  rintro e w5 ⟨rfl, b5⟩
  have hz : w4.heap.size < w5.heap.size := (M4.out.call b5).2.1
  have T0 : Tri w w4 w5 _ _ _ _ _ _ _ _ (w5.alloc (.cells #[.int .u64 Qx, .string Kx, .string Vx, .bool Gx] 24)) := ⟨Box.alloc (K4.out.call b5) _, Box.alloc (M4.out.call b5) _, Box.made w5 _⟩
  clear b5 K4 M4
  have t5 : ∀ W, Tri w w4 w5 (.int .u64 Q) (.string K) (.string V) (.bool G) (.int .u64 Qx) (.string Kx) (.string Vx) (.bool Gx) W → Calls Try.prog 12 #[.agg #[.int .u64 Q, .string K, .string V, .bool G]] W fun e w' => e = .returned (.bool R) ∧ Tri w w4 w5 (.int .u64 Q) (.string K) (.string V) (.bool G) (.int .u64 Qx) (.string Kx) (.string Vx) (.bool Gx) w' := fun W hW => (H5.out W).mono fun e w' ⟨he, hb⟩ => ⟨he, hW.call hb⟩
  have t6 : ∀ W, Tri w w4 w5 (.int .u64 Q) (.string K) (.string V) (.bool G) (.int .u64 Qx) (.string Kx) (.string Vx) (.bool Gx) W → Calls Try.prog 13 #[.agg #[.int .u64 Q, .string K, .string V, .bool G]] W fun e w' => e = .returned (.bool R) ∧ Tri w w4 w5 (.int .u64 Q) (.string K) (.string V) (.bool G) (.int .u64 Qx) (.string Kx) (.string Vx) (.bool Gx) w' := fun W hW => (H6.out W).mono fun e w' ⟨he, hb⟩ => ⟨he, hW.call hb⟩
  have T5 := Lib.hid t5
  have T6 := Lib.hid t6
  clear t5 t6 H1 H2 H3 H4 H5 H6
  go_wp2_with fail
  generalize w5.alloc (.cells #[.int .u64 Qx, .string Kx, .string Vx, .bool Gx] 24) = W0 at *
  go_region_held3 (fun W => Tri w w4 w5 (.int .u64 Q) (.string K) (.string V) (.bool G) (.int .u64 Qx) (.string Kx) (.string Vx) (.bool Gx) W ∧ W.cell? ⟨w.heap.size, 0, none⟩ = some (.int .u64 Q) ∧ W.cell? ⟨w.heap.size, 1, none⟩ = some (.string K) ∧ W.cell? ⟨w.heap.size, 2, none⟩ = some (.string V) ∧ W.cell? ⟨w.heap.size, 3, none⟩ = some (.bool G) ∧
      W.cell? ⟨w4.heap.size, 0, none⟩ = some (.int .u64 Qx) ∧ W.cell? ⟨w4.heap.size, 1, none⟩ = some (.string Kx) ∧ W.cell? ⟨w4.heap.size, 2, none⟩ = some (.string Vx) ∧ W.cell? ⟨w4.heap.size, 3, none⟩ = some (.bool Gx) ∧
      W.cell? ⟨w5.heap.size, 0, none⟩ = some (.int .u64 Qx) ∧ W.cell? ⟨w5.heap.size, 1, none⟩ = some (.string Kx) ∧ W.cell? ⟨w5.heap.size, 2, none⟩ = some (.string Vx) ∧ W.cell? ⟨w5.heap.size, 3, none⟩ = some (.bool Gx))
    (first | exact Tri.cells ‹_› | exact Tri.cells T0 | exact Tri.cells T0.drew | exact Tri.cells (Tri.drew ‹_›))
    (first | (go_at_call 12; (with_reducible refine (T5.out _ ?_).mono ?_); (first | assumption | exact T0 | exact T0.drew | exact Tri.drew ‹_›); rintro e w6 ⟨rfl, k6⟩) | (go_at_call 13; (with_reducible refine (T6.out _ ?_).mono ?_); (first | assumption | exact T0 | exact T0.drew | exact Tri.drew ‹_›); rintro e w6 ⟨rfl, k6⟩))
  go_wp2_with fail
  go_ret
  exact ⟨rfl, (Tri.cells ‹_›).1.1.1⟩

end Go.Proofs.Ytdpjbmpjinpbbaa
