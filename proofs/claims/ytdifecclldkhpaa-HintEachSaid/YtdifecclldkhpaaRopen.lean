/- A record that comes in as an argument: how it is read, and that it reads so in every world. -/
import Derived.Test.YtdifecclldkhpaaRread2
import Derived.OpenShut
import Derived.Lib.SmallJoins
import Derived.ProofKit
import Derived.ShutString
namespace Go.Proofs.Ytdifecclldkhpaa
open Go.Joins Go.ChangeShapes Go.WideShapes Go.RowKit Go.Deep

theorem cellsRec : Try.prog.cellsOf 45 = 4 := by kernel_rfl
theorem cellsStr : Try.prog.cellsOf 9 = 1 := by kernel_rfl
theorem cellsU64 : Try.prog.cellsOf 37 = 1 := by kernel_rfl
theorem cellsBool : Try.prog.cellsOf 4 = 1 := by kernel_rfl

/-- A record's datum. -/
def rdat {H : Type} (r : Rc) : DataW H := .agg [.lit (.int .u64 ((r.q : Nat) : Int)), .lit (.string r.k), .lit (.string r.v), .lit (.bool r.g)]

/-- What is known of a record that came in. -/
def Came (r : Rc) : Prop := r.q ≤ 18446744073709551615 ∧ r.k.length ≤ maxLen ∧ r.v.length ≤ maxLen

theorem Came.fits {r : Rc} (h : Came r) : r.q ≤ 18446744073709551615 ∧ r.k.length ≤ 9223372036854775807 ∧ r.v.length ≤ 9223372036854775807 := by
  obtain ⟨h1, h2, h3⟩ := h
  unfold maxLen at h2 h3
  omega

section
variable {H : Type} {enc : TypeId × Value → H}

theorem rec_of_parts {c0 c1 c2 c3 : Value} {y0 y1 y2 y3 : DataW H × List MemPlace} {W : World} {base : Nat} {spare : Nat → Bool} {held : Bool} {n : Nat}
    (h0 : DataW.trod enc Try.prog W base spare held n 37 [c0] = some y0) (h1 : DataW.trod enc Try.prog W base spare held n 9 [c1] = some y1)
    (h2 : DataW.trod enc Try.prog W base spare held n 9 [c2] = some y2) (h3 : DataW.trod enc Try.prog W base spare held n 4 [c3] = some y3) :
    ∃ r : Rc, Came r ∧ c0 = .int .u64 ((r.q : Nat) : Int) ∧ c1 = .string (bs r.k) ∧ c2 = .string (bs r.v) ∧ c3 = .bool r.g ∧
      DataW.agg [y0.1, y1.1, y2.1, y3.1] = rdat (H := H) r ∧ y0.2 = [] ∧ y1.2 = [] ∧ y2.2 = [] ∧ y3.2 = [] := by
  obtain ⟨q, e0, rfl, z0⟩ := DataW.trod_int Try.underlying37 h0
  obtain ⟨k, e1, rfl, z1⟩ := DataW.trod_string Try.underlying9 h1
  obtain ⟨v, e2, rfl, z2⟩ := DataW.trod_string Try.underlying9 h2
  obtain ⟨g, e3, rfl⟩ := DataW.trod_bool Try.underlying4 h3
  simp only [List.cons.injEq, and_true] at e0 e1 e2 e3
  obtain ⟨q0, q1⟩ := bounds_u64 z0
  have hq : ((q.toNat : Nat) : Int) = q := by omega
  refine ⟨⟨q.toNat, k.data.toList, v.data.toList, g⟩, ⟨by show q.toNat ≤ _; omega, by show k.data.toList.length ≤ _; rw [len_size]; exact z1, by show v.data.toList.length ≤ _; rw [len_size]; exact z2⟩, ?_, ?_, ?_, e3, ?_, rfl, rfl, rfl, rfl⟩
  · rw [e0, hq]
  · rw [e1, bs_of]
  · rw [e2, bs_of]
  · show _ = DataW.agg [.lit (.int .u64 ((q.toNat : Nat) : Int)), _, _, _]
    rw [hq]

theorem wf_u64 {q : Nat} (h : q ≤ 18446744073709551615) : (Lit.int .u64 ((q : Nat) : Int)).wf = true := by
  have e0 : IntKind.u64.min = 0 := rfl
  have e1 : IntKind.u64.max = 18446744073709551615 := rfl
  simp [Lit.wf, e0, e1]; omega

theorem rec_reads {r : Rc} (h : Came r) (W : World) (base : Nat) (sp : Nat → Bool) (held : Bool) : DataW.Trod enc Try.prog W base sp held 45 (rv r) (rdat r) [] := by
  obtain ⟨h1, h2, h3⟩ := h
  have z := wf_u64 h1
  rw [← bs_size] at h2 h3
  refine ⟨2, ?_⟩
  simp [DataW.trod, Value.cells, rv, rdat, Try.underlying45, Try.underlying37, Try.underlying9, Try.underlying4, cellsRec, cellsStr, cellsU64, cellsBool, z, h2, h3, bs_list]

set_option maxRecDepth 100000 in
theorem open_rec {r : Reach} {b0 : Nat} {W : World} {base : Nat} {sp : Nat → Bool} {held : Bool} {v : Value} {d : DataW H} {p : List MemPlace}
    (hv : Value.okWide Try.prog W r b0 45 v) (h : DataW.Trod enc Try.prog W base sp held 45 v d p) : ∃ x : Rc, Came x ∧ v = rv x ∧ d = rdat x ∧ p = [] := by
  obtain ⟨v0, v1, v2, v3, y0, y1, y2, y3, n, rfl, rfl, rfl, h0, h1, h2, h3⟩ := open_agg4 Try.underlying45 (by kernel_rfl) cellsRec hv h
  obtain ⟨x, hx, rfl, rfl, rfl, rfl, hd, p0, p1, p2, p3⟩ := rec_of_parts h0 h1 h2 h3
  exact ⟨x, hx, rfl, hd, by rw [p0, p1, p2, p3]; rfl⟩

end
end Go.Proofs.Ytdifecclldkhpaa
