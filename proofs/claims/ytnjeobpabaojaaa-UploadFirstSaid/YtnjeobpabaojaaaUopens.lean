/- One on its way, and a slice of these, that come in: how they are read, and what their cells hold. -/
import Derived.Test.YtnjeobpabaojaaaUwant
namespace Go.Proofs.Ytnjeobpabaojaaa.U
open Go.RowKit Go.ChangeShapes Go.WideShapes Go.Joins Go.Deep
set_option linter.unusedVariables false

theorem cellsIntU : Try.prog.cellsOf 3 = 1 := by kernel_rfl
theorem cellsUp : Try.prog.cellsOf 28 = 3 := by kernel_rfl
theorem add_addU (x : Addr) (i j : Nat) : (x.add i).add j = x.add (i + j) := by
  obtain ⟨b, off, spot⟩ := x
  unfold Addr.add
  by_cases h1 : i = 0 <;> by_cases h2 : j = 0 <;> simp [h1, h2]
  omega
/-- Its datum. -/
def udat {H : Type} (u : Upl) : DataW H := .agg [.lit (.int .i64 u.st), .lit (.int .i64 u.tr), .lit (.int .i64 u.nx)]
theorem i64_wf {n : Int} (h : i64 n) : (Lit.int .i64 n).wf = true := by
  have e1 : IntKind.i64.min = -9223372036854775808 := by decide
  have e2 : IntKind.i64.max = 9223372036854775807 := by decide
  unfold i64 at h
  simp only [Lit.wf, e1, e2]
  simp; omega

section
variable {H : Type} {enc : TypeId × Value → H}

set_option maxRecDepth 100000 in
theorem up_of_cells {W : World} {base : Nat} {spare : Nat → Bool} {held : Bool} {n : Nat} {c0 c1 c2 : Value} {x : DataW H × List MemPlace}
    (h : DataW.trod enc Try.prog W base spare held n 28 [c0, c1, c2] = some x) : ∃ u : Upl, u.fit ∧ c0 = .int .i64 u.st ∧ c1 = .int .i64 u.tr ∧ c2 = .int .i64 u.nx ∧ x = (udat u, []) := by
  obtain ⟨xs, m, _, rfl, _, hlen, hf⟩ := DataW.trod_struct Try.underlying28 h
  obtain ⟨y0, y1, y2, rfl⟩ : ∃ y0 y1 y2, xs = [y0, y1, y2] := by
    match xs, hlen with
    | [y0, y1, y2], _ => exact ⟨y0, y1, y2, rfl⟩
  have h0 := hf 0 _ rfl
  have h1 := hf 1 _ rfl
  have h2 := hf 2 _ rfl
  simp [cellsIntU] at h0 h1 h2
  obtain ⟨a, e0, rfl, z0⟩ := DataW.trod_int Try.underlying3 h0
  obtain ⟨b, e1, rfl, z1⟩ := DataW.trod_int Try.underlying3 h1
  obtain ⟨c, e2, rfl, z2⟩ := DataW.trod_int Try.underlying3 h2
  simp only [List.cons.injEq, and_true] at e0 e1 e2
  exact ⟨⟨a, b, c⟩, ⟨wf_i64 z0, wf_i64 z1, wf_i64 z2⟩, e0, e1, e2, rfl⟩

theorem up_reads {u : Upl} (h : u.fit) (W : World) (base : Nat) (sp : Nat → Bool) (held : Bool) : DataW.Trod enc Try.prog W base sp held 28 (upV u) (udat u) [] := by
  obtain ⟨h1, h2, h3⟩ := h
  have z1 := i64_wf h1; have z2 := i64_wf h2; have z3 := i64_wf h3
  refine ⟨2, ?_⟩
  simp [DataW.trod, Value.cells, upV, udat, Try.underlying28, Try.underlying3, cellsIntU, cellsUp, z1, z2, z3]

set_option maxRecDepth 100000 in
theorem open_up {r : Reach} {b0 : Nat} {W : World} {base : Nat} {sp : Nat → Bool} {held : Bool} {v : Value} {d : DataW H} {p : List MemPlace}
    (hv : Value.okWide Try.prog W r b0 28 v) (h : DataW.Trod enc Try.prog W base sp held 28 v d p) : ∃ u : Upl, ∃ _ : u.fit, v = upV u ∧ d = udat u ∧ p = [] := by
  obtain ⟨⟨cs⟩, rfl, hsz⟩ := okWide_struct Try.underlying28 hv
  rw [cellsUp] at hsz
  obtain ⟨c0, c1, c2, rfl⟩ : ∃ c0 c1 c2, cs = [c0, c1, c2] := by
    match cs, hsz with
    | [c0, c1, c2], _ => exact ⟨c0, c1, c2, rfl⟩
  obtain ⟨fuel, hf⟩ := h
  obtain ⟨u, hu, rfl, rfl, rfl, hd⟩ := up_of_cells (by simpa [Value.cells] using hf)
  simp only [Prod.mk.injEq] at hd
  exact ⟨u, hu, rfl, hd.1, hd.2⟩

theorem open_ups {W : World} {t : TypeId} (ht : Try.prog.underlying t = some (.slice 28)) {a : Option Addr} {len cap : Nat} {d : DataW H} {p : List MemPlace}
    (h : DataW.Trod enc Try.prog W 0 (fun _ => true) true t (.slice a len cap) d p) : ∃ l : List Upl, l.length = len ∧ len ≤ maxLen ∧ UpsIn W a l ∧ ∀ u ∈ l, u.fit := by
  obtain ⟨fuel, hf⟩ := h
  rcases open_slice ht hf with ⟨hcs, _⟩ | ⟨x, l, c, m, n, D, Pl, hcs, _, hl, hm, hmm, hx, hi⟩
  · simp [Value.cells] at hcs
    obtain ⟨rfl, rfl, rfl⟩ := hcs
    exact ⟨[], rfl, by unfold maxLen; omega, fun i h => by simp at h, fun r hr => by simp at hr⟩
  · simp [Value.cells] at hcs
    obtain ⟨rfl, rfl, rfl⟩ := hcs
    simp only [if_true] at hmm
    subst hmm
    rw [cellsUp] at hi
    have hex : ∀ i, i < len → ∃ o : Upl, o.fit ∧ W.cell? (x.add (i * 3)) = some (.int .i64 o.st) ∧ W.cell? (x.add (i * 3 + 1)) = some (.int .i64 o.tr) ∧ W.cell? (x.add (i * 3 + 2)) = some (.int .i64 o.nx) := fun i hil => by
      obtain ⟨cs, hc, hd⟩ := hi i (by omega)
      obtain ⟨_, hcl, hat⟩ := World.cells?_some hc
      obtain ⟨c0, c1, c2, rfl⟩ : ∃ c0 c1 c2, cs = [c0, c1, c2] := by
        match cs, hcl with
        | [c0, c1, c2], _ => exact ⟨c0, c1, c2, rfl⟩
      obtain ⟨o, ho, rfl, rfl, rfl, _⟩ := up_of_cells hd
      have e0 := hat 0 (by omega)
      have e1 := hat 1 (by omega)
      have e2 := hat 2 (by omega)
      rw [add_addU] at e0 e1 e2
      exact ⟨o, ho, e0, e1, e2⟩
    obtain ⟨f, hf2⟩ := choose_lt hex
    refine ⟨(List.range len).map f, by simp, by omega, fun i hi2 => ?_, fun r hr => ?_⟩
    · have hil : i < len := by simpa using hi2
      obtain ⟨b, off, spot⟩ := x
      have hs : spot = none := by simpa [Addr.add] using World.cell?_spot (hf2 0 (by omega)).2.1
      subst hs
      obtain ⟨_, e0, e1, e2⟩ := hf2 i hil
      simp only [Addr.add_lit] at e0 e1 e2
      simp only [List.getElem_map, List.getElem_range]
      exact ⟨b, off, rfl, World.block_lt_of_cell? _ _ e0, e0, e1, e2⟩
    · obtain ⟨i, hi3, rfl⟩ := List.mem_map.1 hr
      exact (hf2 i (List.mem_range.1 hi3)).1
end
end Go.Proofs.Ytnjeobpabaojaaa.U
