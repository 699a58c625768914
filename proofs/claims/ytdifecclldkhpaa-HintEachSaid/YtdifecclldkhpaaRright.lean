/- What the calls deletion and Right of package record return. -/
import Derived.Test.YtdifecclldkhpaaRbuild
import Derived.Deep.RegionHeld3
namespace Go.Proofs.Ytdifecclldkhpaa
open Go.RowKit

/-- A record as a Go value. -/
def rv (r : Rc) : Value := .agg #[.int .u64 ((r.q : Nat) : Int), .string (bs r.k), .string (bs r.v), .bool r.g]

theorem ret_bool {a b : Bool} (h : a = b) : Ending.returned (.bool a) = .returned (.bool b) := by rw [h]

/-- Nothing that was there has turned, and the first new block is as it was laid. -/
def Box (w0 : World) (o : Obj) (W : World) : Prop := Below w0.heap.size w0 W ∧ w0.heap.size < W.heap.size ∧ W.heap[w0.heap.size]? = some o

theorem Box.made (w0 : World) (o : Obj) : Box w0 o (w0.alloc o) := ⟨(Below.refl _ _).alloc (Nat.le_refl _) _, by simp, heap_alloc_new w0 o⟩
theorem Box.drew {w0 : World} {o : Obj} {W : World} (h : Box w0 o W) : Box w0 o W.drew := ⟨h.1.drew, h.2⟩
theorem Box.call {w0 : World} {o : Obj} {W W' : World} (h : Box w0 o W) (b : Below W.heap.size W W') : Box w0 o W' :=
  ⟨h.1.trans (b.mono h.1.size), Nat.lt_of_lt_of_le h.2.1 b.size, by rw [b.block _ h.2.1]; exact h.2.2⟩

theorem Box.below {w0 : World} {o : Obj} {W : World} (h : Box w0 o W) : Below w0.heap.size w0 W := h.1

/-- .. and its four cells. -/
def Box4 (w0 : World) (c0 c1 c2 c3 : Value) (W : World) : Prop := Box w0 (.cells #[c0, c1, c2, c3] 45) W
theorem Box4.cells {w0 : World} {c0 c1 c2 c3 : Value} {W : World} (h : Box4 w0 c0 c1 c2 c3 W) :
    Box4 w0 c0 c1 c2 c3 W ∧ W.cell? ⟨w0.heap.size, 0, none⟩ = some c0 ∧ W.cell? ⟨w0.heap.size, 1, none⟩ = some c1 ∧ W.cell? ⟨w0.heap.size, 2, none⟩ = some c2 ∧ W.cell? ⟨w0.heap.size, 3, none⟩ = some c3 :=
  ⟨h, by rw [Lib.cell_of_heap h.2.2]; rfl, by rw [Lib.cell_of_heap h.2.2]; rfl, by rw [Lib.cell_of_heap h.2.2]; rfl, by rw [Lib.cell_of_heap h.2.2]; rfl⟩

set_option maxRecDepth 100000 in
set_option maxHeartbeats 400000 in
theorem deletion_of (q : Int) (K : ByteArray) (w : World) :
    Calls Try.prog 70 #[.int .u64 q, .string K] w fun e w' => e = .returned (.agg #[.int .u64 q, .string K, .string ⟨#[]⟩, .bool true]) ∧ Below w.heap.size w w' := by
  go_enter Try.func70, Try.ntmps70
  go_wp2
  exact bodyPost_ret (v := .agg #[.int .u64 q, .string K, .string ⟨#[]⟩, .bool true]) (by simp [results, Try.results70, go_sem]) rfl ⟨rfl, (Below.refl _ _).alloc (Nat.le_refl _) _⟩

/-- May one be, by number and lengths? -/
def rgt (q k v : Nat) : Bool := decide (1 ≤ q ∧ q ≤ 1099511627776 ∧ 1 ≤ k ∧ k ≤ 40 ∧ v ≤ 300)

set_option maxRecDepth 100000 in
set_option maxHeartbeats 400000 in
theorem right_here (q : Nat) (K V : ByteArray) (w : World) (hq : q ≤ 18446744073709551615) (hK : K.size ≤ 9223372036854775807) (hV : V.size ≤ 9223372036854775807) :
    Calls Try.prog 59 #[.agg #[.int .u64 (q : Int), .string K, .string V, .bool false]] w fun e w' => e = .returned (.bool (rgt q K.size V.size)) ∧ Below w.heap.size w w' := by
  go_enter Try.func59, Try.ntmps59
  go_wp2_with fail
  go_quiet (fail)
  go_wp2_with fail
  all_goals
    go_ret
    refine ⟨ret_bool ?_, below_drewN ((Below.refl _ _).alloc (Nat.le_refl _) _) nq⟩
    unfold rgt
    first | (rw [decide_eq_decide]; omega) | (symm; rw [decide_eq_false_iff_not]; omega)

theorem empty_of {V : ByteArray} (h : V.size = 0) : V = ⟨#[]⟩ := by
  obtain ⟨⟨l⟩⟩ := V
  simp [ByteArray.size] at h
  rw [h]
theorem list_ne {V : ByteArray} (h : ¬ V.size = 0) : ¬ V.toList = [] := fun e => h (by rw [Lib.size_eq, ← Lib.toList_data, e]; rfl)

set_option maxRecDepth 100000 in
set_option maxHeartbeats 400000 in
theorem right_gone (q : Nat) (K V : ByteArray) (w : World) (hq : q ≤ 18446744073709551615) (hK : K.size ≤ 9223372036854775807) :
    Calls Try.prog 59 #[.agg #[.int .u64 (q : Int), .string K, .string V, .bool true]] w fun e w' => e = .returned (.bool (rgt q K.size 0 && decide (V.size = 0))) ∧ Below w.heap.size w w' := by
  have K0 := Box.made w (.cells #[.int .u64 (q : Int), .string K, .string V, .bool true] 45)
  have hd : ∀ W, Box4 w (.int .u64 (q : Int)) (.string K) (.string V) (.bool true) W → Calls Try.prog 70 #[.int .u64 (q : Int), .string K] W fun e w' => e = .returned (.agg #[.int .u64 (q : Int), .string K, .string ⟨#[]⟩, .bool true]) ∧ Box4 w (.int .u64 (q : Int)) (.string K) (.string V) (.bool true) w' := fun W hW =>
    (deletion_of q K W).mono fun e w' ⟨he, hb⟩ => ⟨he, hW.call hb⟩
  have HD := Lib.hid hd
  clear hd
  by_cases hv : V.size = 0
  · obtain rfl := empty_of hv
    rw [show decide ((⟨#[]⟩ : ByteArray).size = 0) = true from rfl, Bool.and_true]
    clear hv
    go_enter Try.func59, Try.ntmps59
    go_wp2_with fail
    go_region_held3 (fun W => Box4 w (.int .u64 (q : Int)) (.string K) (.string ⟨#[]⟩) (.bool true) W ∧ W.cell? ⟨w.heap.size, 0, none⟩ = some (.int .u64 (q : Int)) ∧ W.cell? ⟨w.heap.size, 1, none⟩ = some (.string K) ∧ W.cell? ⟨w.heap.size, 2, none⟩ = some (.string ⟨#[]⟩) ∧ W.cell? ⟨w.heap.size, 3, none⟩ = some (.bool true))
      (first | exact Box4.cells ‹_› | exact Box4.cells K0 | exact Box4.cells K0.drew | exact Box4.cells (Box.drew ‹_›))
      (first | (go_at_call 70; (with_reducible refine (HD.out _ ?_).mono ?_); (first | assumption | exact K0 | exact K0.drew | exact Box.drew ‹_›); rintro e w2 ⟨rfl, k2⟩))
    go_wp2_with fail
    all_goals
      go_ret
      refine ⟨ret_bool ?_, Box.below ‹_›⟩
      unfold rgt
      first | (symm; rw [decide_eq_true_iff]; omega) | (symm; rw [decide_eq_false_iff_not]; omega) | (rw [decide_eq_decide]; omega)
  · rw [show decide (V.size = 0) = false from by simpa using hv, Bool.and_false]
    have hv1 := list_ne hv
    clear hv
    go_enter Try.func59, Try.ntmps59
    go_wp2_with fail
    go_region_held3 (fun W => Box4 w (.int .u64 (q : Int)) (.string K) (.string V) (.bool true) W ∧ W.cell? ⟨w.heap.size, 0, none⟩ = some (.int .u64 (q : Int)) ∧ W.cell? ⟨w.heap.size, 1, none⟩ = some (.string K) ∧ W.cell? ⟨w.heap.size, 2, none⟩ = some (.string V) ∧ W.cell? ⟨w.heap.size, 3, none⟩ = some (.bool true))
      (first | exact Box4.cells ‹_› | exact Box4.cells K0 | exact Box4.cells K0.drew | exact Box4.cells (Box.drew ‹_›))
      (first | (go_at_call 70; (with_reducible refine (HD.out _ ?_).mono ?_); (first | assumption | exact K0 | exact K0.drew | exact Box.drew ‹_›); rintro e w2 ⟨rfl, k2⟩))
    go_wp2_with fail
    go_ret
    exact ⟨rfl, Box.below ‹_›⟩

/-- What Right returns. -/
theorem right_any (r : Rc) (w : World) (hq : r.q ≤ 18446744073709551615) (hK : r.k.length ≤ 9223372036854775807) (hV : r.v.length ≤ 9223372036854775807) :
    Calls Try.prog 59 #[rv r] w fun e w' => e = .returned (.bool (right r)) ∧ Below w.heap.size w w' := by
  obtain ⟨q, k, v, g⟩ := r
  cases g with
  | false =>
    have := right_here q (bs k) (bs v) w hq (by rw [bs_size]; exact hK) (by rw [bs_size]; exact hV)
    rw [bs_size, bs_size] at this
    rw [show right ⟨q, k, v, false⟩ = rgt q k.length v.length from by unfold right rgt; simp [Bool.and_assoc]]
    exact this
  | true =>
    have := right_gone q (bs k) (bs v) w hq (by rw [bs_size]; exact hK)
    rw [bs_size, bs_size] at this
    rw [show right ⟨q, k, v, true⟩ = (rgt q k.length 0 && decide (v.length = 0)) from by
      unfold right rgt
      cases v with
      | nil => simp [Bool.and_assoc]
      | cons c l => simp]
    exact this

end Go.Proofs.Ytdifecclldkhpaa
