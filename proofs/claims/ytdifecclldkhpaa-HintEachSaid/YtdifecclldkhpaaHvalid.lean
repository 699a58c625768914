/- What the call valid of package hint returns, and the document's own Right of layer 5. -/
import Derived.Test.YtdifecclldkhpaaHmath
import Derived.Test.YtdifecclldkhpaaRright
namespace Go.Proofs.Ytdifecclldkhpaa
open Go.RowKit

/-- An entry as a Go value. -/
def ev (e : Et) : Value := .agg #[.string (bs e.k), .int .i64 e.o, .int .i64 e.l, .int .u64 ((e.q : Nat) : Int), .bool e.g]

/-- May one be, by lengths and numbers? -/
def egt (k : Nat) (o l : Int) (q : Nat) : Bool := decide (1 ≤ k ∧ k ≤ 40 ∧ 0 ≤ o ∧ o ≤ 1048576 ∧ 1 ≤ l ∧ l ≤ 400 ∧ 1 ≤ q ∧ q ≤ 1099511627776)

/-- An entry is no greater than a machine's. -/
def EFit (e : Et) : Prop := e.k.length ≤ 9223372036854775807 ∧ (-9223372036854775808 ≤ e.o ∧ e.o ≤ 9223372036854775807) ∧ (-9223372036854775808 ≤ e.l ∧ e.l ≤ 9223372036854775807) ∧ e.q ≤ 18446744073709551615

set_option maxRecDepth 100000 in
set_option maxHeartbeats 400000 in
theorem valid_of (K : ByteArray) (o l : Int) (q : Nat) (g : Bool) (w : World) (hK : K.size ≤ 9223372036854775807) (hq : q ≤ 18446744073709551615) :
    Calls Try.prog 24 #[.agg #[.string K, .int .i64 o, .int .i64 l, .int .u64 (q : Int), .bool g]] w fun e w' => e = .returned (.bool (egt K.size o l q)) ∧ Below w.heap.size w w' := by
  go_enter Try.func24, Try.ntmps24
  go_wp2_with fail
  all_goals
    go_ret
    refine ⟨ret_bool ?_, (Below.refl _ _).alloc (Nat.le_refl _) _⟩
    unfold egt
    first | (rw [decide_eq_decide]; omega) | (symm; rw [decide_eq_false_iff_not]; omega) | (symm; rw [decide_eq_true_iff]; omega)

set_option maxRecDepth 100000 in
set_option maxHeartbeats 400000 in
theorem refvalid_of (K : ByteArray) (o l : Int) (q : Nat) (g : Bool) (w : World) (hK : K.size ≤ 9223372036854775807) (hq : q ≤ 18446744073709551615) :
    Calls Try.prog 29 #[.agg #[.string K, .int .i64 o, .int .i64 l, .int .u64 (q : Int), .bool g]] w fun e w' => e = .returned (.bool (egt K.size o l q)) ∧ Below w.heap.size w w' := by
  go_enter Try.func29, Try.ntmps29
  go_wp2_with fail
  all_goals
    go_ret
    refine ⟨ret_bool ?_, (Below.refl _ _).alloc (Nat.le_refl _) _⟩
    unfold egt
    first | (rw [decide_eq_decide]; omega) | (symm; rw [decide_eq_false_iff_not]; omega) | (symm; rw [decide_eq_true_iff]; omega)

theorem egt_of (e : Et) : egt (bs e.k).size e.o e.l e.q = eright e := by rw [bs_size]; rfl

theorem valid_any (e : Et) (w : World) (h : EFit e) :
    Calls Try.prog 24 #[ev e] w fun x w' => x = .returned (.bool (eright e)) ∧ Below w.heap.size w w' := by
  have := valid_of (bs e.k) e.o e.l e.q e.g w (by rw [bs_size]; exact h.1) h.2.2.2
  rwa [egt_of] at this

theorem refvalid_any (e : Et) (w : World) (h : EFit e) :
    Calls Try.prog 29 #[ev e] w fun x w' => x = .returned (.bool (eright e)) ∧ Below w.heap.size w w' := by
  have := refvalid_of (bs e.k) e.o e.l e.q e.g w (by rw [bs_size]; exact h.1) h.2.2.2
  rwa [egt_of] at this

end Go.Proofs.Ytdifecclldkhpaa
