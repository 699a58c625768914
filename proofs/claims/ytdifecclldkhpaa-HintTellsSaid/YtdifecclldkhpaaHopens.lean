/- An entry, and a slice of entries, that come in as arguments: how they are read. -/
import Derived.Test.YtdifecclldkhpaaHread
import Derived.Test.YtdifecclldkhpaaRopens
namespace Go.Proofs.Ytdifecclldkhpaa
open Go.Joins Go.ChangeShapes Go.WideShapes Go.RowKit Go.Deep

theorem cellsEnt : Try.prog.cellsOf 39 = 5 := by kernel_rfl
theorem cellsInt : Try.prog.cellsOf 3 = 1 := by kernel_rfl

/-- An entry's datum. -/
def edat {H : Type} (e : Et) : DataW H := .agg [.lit (.string e.k), .lit (.int .i64 e.o), .lit (.int .i64 e.l), .lit (.int .u64 ((e.q : Nat) : Int)), .lit (.bool e.g)]

/-- What is known of an entry that came in. -/
def ECame (e : Et) : Prop := e.k.length ≤ maxLen ∧ (Lit.int .i64 e.o).wf = true ∧ (Lit.int .i64 e.l).wf = true ∧ e.q ≤ 18446744073709551615

theorem ECame.fit {e : Et} (h : ECame e) : EFit e := by
  obtain ⟨h1, h2, h3, h4⟩ := h
  unfold maxLen at h1
  exact ⟨by omega, bounds_i64 h2, bounds_i64 h3, h4⟩

theorem ECame.all {l : List Et} (h : ∀ e ∈ l, ECame e) : EFits l := fun e he => (h e he).fit

instance : Inhabited Et := ⟨⟨[], 0, 0, 0, false⟩⟩

section
variable {H : Type} {enc : TypeId × Value → H}

set_option maxRecDepth 100000 in
theorem ent_of_cells {W : World} {base : Nat} {spare : Nat → Bool} {held : Bool} {n : Nat} {c0 c1 c2 c3 c4 : Value} {x : DataW H × List MemPlace}
    (h : DataW.trod enc Try.prog W base spare held n 39 [c0, c1, c2, c3, c4] = some x) :
    ∃ e : Et, ECame e ∧ c0 = .string (bs e.k) ∧ c1 = .int .i64 e.o ∧ c2 = .int .i64 e.l ∧ c3 = .int .u64 ((e.q : Nat) : Int) ∧ c4 = .bool e.g ∧ x = (edat e, []) := by
  obtain ⟨xs, m, _, rfl, _, hlen, hf⟩ := DataW.trod_struct Try.underlying39 h
  obtain ⟨y0, y1, y2, y3, y4, rfl⟩ : ∃ y0 y1 y2 y3 y4, xs = [y0, y1, y2, y3, y4] := by
    match xs, hlen with
    | [y0, y1, y2, y3, y4], _ => exact ⟨y0, y1, y2, y3, y4, rfl⟩
  have h0 := hf 0 _ rfl
  have h1 := hf 1 _ rfl
  have h2 := hf 2 _ rfl
  have h3 := hf 3 _ rfl
  have h4 := hf 4 _ rfl
  simp [cellsStr, cellsInt, cellsU64, cellsBool] at h0 h1 h2 h3 h4
  obtain ⟨k, e0, rfl, z0⟩ := DataW.trod_string Try.underlying9 h0
  obtain ⟨o, e1, rfl, z1⟩ := DataW.trod_int Try.underlying3 h1
  obtain ⟨l, e2, rfl, z2⟩ := DataW.trod_int Try.underlying3 h2
  obtain ⟨q, e3, rfl, z3⟩ := DataW.trod_int Try.underlying37 h3
  obtain ⟨g, e4, rfl⟩ := DataW.trod_bool Try.underlying4 h4
  simp only [List.cons.injEq, and_true] at e0 e1 e2 e3 e4
  obtain ⟨q0, q1⟩ := bounds_u64 z3
  have hq : ((q.toNat : Nat) : Int) = q := by omega
  refine ⟨⟨k.data.toList, o, l, q.toNat, g⟩, ⟨by show k.data.toList.length ≤ _; rw [len_size]; exact z0, z1, z2, by show q.toNat ≤ _; omega⟩, ?_, e1, e2, ?_, e4, ?_⟩
  · rw [e0, bs_of]
  · rw [e3, hq]
  · simp only [edat, hq]
    rfl

theorem ent_reads {e : Et} (h : ECame e) (W : World) (base : Nat) (sp : Nat → Bool) (held : Bool) : DataW.Trod enc Try.prog W base sp held 39 (ev e) (edat e) [] := by
  obtain ⟨h1, h2, h3, h4⟩ := h
  have z := wf_u64 h4
  rw [← bs_size] at h1
  refine ⟨2, ?_⟩
  simp [DataW.trod, Value.cells, ev, edat, Try.underlying39, Try.underlying3, Try.underlying37, Try.underlying9, Try.underlying4, cellsEnt, cellsStr, cellsInt, cellsU64, cellsBool, z, h1, h2, h3, bs_list]

set_option maxRecDepth 100000 in
theorem open_ent {r : Reach} {b0 : Nat} {W : World} {base : Nat} {sp : Nat → Bool} {held : Bool} {v : Value} {d : DataW H} {p : List MemPlace}
    (hv : Value.okWide Try.prog W r b0 39 v) (h : DataW.Trod enc Try.prog W base sp held 39 v d p) : ∃ x : Et, ECame x ∧ v = ev x ∧ d = edat x ∧ p = [] := by
  obtain ⟨⟨cs⟩, rfl, hsz⟩ := okWide_struct Try.underlying39 hv
  rw [cellsEnt] at hsz
  obtain ⟨c0, c1, c2, c3, c4, rfl⟩ : ∃ c0 c1 c2 c3 c4, cs = [c0, c1, c2, c3, c4] := by
    match cs, hsz with
    | [c0, c1, c2, c3, c4], _ => exact ⟨c0, c1, c2, c3, c4, rfl⟩
  obtain ⟨fuel, hf⟩ := h
  obtain ⟨x, hx, rfl, rfl, rfl, rfl, rfl, hd⟩ := ent_of_cells (by simpa [Value.cells] using hf)
  simp only [Prod.mk.injEq] at hd
  exact ⟨x, hx, rfl, hd.1, hd.2⟩

theorem open_ents {W : World} {t : TypeId} (ht : Try.prog.underlying t = some (.slice 39)) {a : Option Addr} {len cap : Nat} {d : DataW H} {p : List MemPlace}
    (h : DataW.Trod enc Try.prog W 0 (fun _ => true) true t (.slice a len cap) d p) : ∃ l : List Et, l.length = len ∧ len ≤ maxLen ∧ EntsIn W a l ∧ ∀ e ∈ l, ECame e := by
  obtain ⟨fuel, hf⟩ := h
  rcases open_slice ht hf with ⟨hcs, _⟩ | ⟨x, l, c, m, n, D, Pl, hcs, _, hl, hm, hmm, hx, hi⟩
  · simp [Value.cells] at hcs
    obtain ⟨rfl, rfl, rfl⟩ := hcs
    exact ⟨[], rfl, by unfold maxLen; omega, EntsIn.nil _ _, fun r hr => by simp at hr⟩
  · simp [Value.cells] at hcs
    obtain ⟨rfl, rfl, rfl⟩ := hcs
    simp only [if_true] at hmm
    subst hmm
    rw [cellsEnt] at hi
    have hex : ∀ i, i < len → ∃ e : Et, ECame e ∧ W.cell? (x.add (i * 5)) = some (.string (bs e.k)) ∧ W.cell? (x.add (i * 5 + 1)) = some (.int .i64 e.o) ∧ W.cell? (x.add (i * 5 + 2)) = some (.int .i64 e.l) ∧ W.cell? (x.add (i * 5 + 3)) = some (.int .u64 ((e.q : Nat) : Int)) ∧ W.cell? (x.add (i * 5 + 4)) = some (.bool e.g) := fun i hil => by
      obtain ⟨cs, hc, hd⟩ := hi i (by omega)
      obtain ⟨_, hcl, hat⟩ := World.cells?_some hc
      obtain ⟨c0, c1, c2, c3, c4, rfl⟩ : ∃ c0 c1 c2 c3 c4, cs = [c0, c1, c2, c3, c4] := by
        match cs, hcl with
        | [c0, c1, c2, c3, c4], _ => exact ⟨c0, c1, c2, c3, c4, rfl⟩
      obtain ⟨e, he, rfl, rfl, rfl, rfl, rfl, _⟩ := ent_of_cells hd
      have e0 := hat 0 (by omega)
      have e1 := hat 1 (by omega)
      have e2 := hat 2 (by omega)
      have e3 := hat 3 (by omega)
      have e4 := hat 4 (by omega)
      rw [add_add] at e0 e1 e2 e3 e4
      exact ⟨e, he, e0, e1, e2, e3, e4⟩
    obtain ⟨f, hf2⟩ := choose_lt hex
    refine ⟨(List.range len).map f, by simp, by omega, fun h0 => ?_, fun r hr => ?_⟩
    · have hpos : 0 < len := by simpa using h0
      obtain ⟨b, off, spot⟩ := x
      have hs : spot = none := by simpa [Addr.add] using World.cell?_spot (hf2 0 hpos).2.1
      subst hs
      refine ⟨b, off, rfl, ?_, fun i hi2 => ?_⟩
      · have := World.block_lt_of_cell? _ _ (hf2 0 hpos).2.1
        simpa [Addr.add] using this
      · have hil : i < len := by simpa using hi2
        obtain ⟨_, e0, e1, e2, e3, e4⟩ := hf2 i hil
        simp only [Addr.add_lit] at e0 e1 e2 e3 e4
        simp only [List.getElem_map, List.getElem_range]
        exact ⟨e0, e1, e2, e3, e4⟩
    · obtain ⟨i, hi3, rfl⟩ := List.mem_map.1 hr
      exact (hf2 i (List.mem_range.1 hi3)).1

end
end Go.Proofs.Ytdifecclldkhpaa
