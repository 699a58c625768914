/- A slice of calls of a cache that comes in: what its cells hold. -/
import Derived.Test.YtbndhhlekfdppaaLsame
namespace Go.Proofs.Ytbndhhlekfdppaa.L
open Go.RowKit Go.ChangeShapes Go.WideShapes Go.Joins Go.Deep
set_option linter.unusedVariables false

def Bk.fit (b : Bk) : Prop := (-9223372036854775808 ≤ b.seg ∧ b.seg ≤ 9223372036854775807) ∧ (-9223372036854775808 ≤ b.n ∧ b.n ≤ 9223372036854775807)
/-- A call of a script. -/
structure Lop where
  d : Int
  b : Bk
  s : List UInt8
instance : Inhabited Lop := ⟨⟨0, ⟨0, 0⟩, []⟩⟩
def Lop.fit (o : Lop) : Prop := (-9223372036854775808 ≤ o.d ∧ o.d ≤ 9223372036854775807) ∧ o.b.fit ∧ o.s.length ≤ 9223372036854775807

/-- The four cells of a call. -/
def LopAt (w : World) (b off : Nat) (o : Lop) : Prop :=
  w.cell? ⟨b, off, none⟩ = some (.int .i64 o.d) ∧ w.cell? ⟨b, off + 1, none⟩ = some (.int .i64 o.b.seg) ∧ w.cell? ⟨b, off + 1 + 1, none⟩ = some (.int .i64 o.b.n) ∧ w.cell? ⟨b, off + 3, none⟩ = some (.string (bs o.s))
/-- A slice holds these calls. -/
def LopsIn (w : World) (a : Option Addr) (l : List Lop) : Prop := ∀ i (h : i < l.length), ∃ b off, a = some ⟨b, off, none⟩ ∧ b < w.heap.size ∧ LopAt w b (off + i * 4) l[i]
theorem LopsIn.at {w w' : World} {B : Nat} {a : Option Addr} {l : List Lop} (h : LopsIn w a l) (hb : Below B w w') (hB : w.heap.size ≤ B) (i : Nat) (o : Lop) (ho : l[i]? = some o) :
    ∃ b off, a = some ⟨b, off, none⟩ ∧ b < w.heap.size ∧ LopAt w' b (off + i * 4) o := by
  obtain ⟨hi, e⟩ := List.getElem?_eq_some_iff.1 ho
  subst e
  obtain ⟨b, off, h1, h2, c0, c1, c2, c3⟩ := h i hi
  have hk : ∀ j, w'.cell? ⟨b, j, none⟩ = w.cell? ⟨b, j, none⟩ := fun j => hb.cell (p := ⟨b, j, none⟩) (Nat.lt_of_lt_of_le h2 hB)
  exact ⟨b, off, h1, h2, by rw [hk]; exact c0, by rw [hk]; exact c1, by rw [hk]; exact c2, by rw [hk]; exact c3⟩

theorem cellsStrL : Try.prog.cellsOf 9 = 1 := by kernel_rfl
theorem cellsIntL : Try.prog.cellsOf 3 = 1 := by kernel_rfl
theorem cellsBk : Try.prog.cellsOf 32 = 2 := by kernel_rfl
theorem cellsLop : Try.prog.cellsOf 34 = 4 := by kernel_rfl
section
variable {H : Type} {enc : TypeId × Value → H} {W : World}
set_option maxRecDepth 100000 in
theorem bk_of_cells {n : Nat} {c0 c1 : Value} {x : DataW H × List MemPlace} (h : DataW.trod enc Try.prog W 0 (fun _ => true) true n 32 [c0, c1] = some x) :
    ∃ b : Bk, b.fit ∧ c0 = .int .i64 b.seg ∧ c1 = .int .i64 b.n := by
  obtain ⟨xs, m, _, rfl, _, hlen, hf⟩ := DataW.trod_struct Try.underlying32 h
  obtain ⟨y0, y1, rfl⟩ : ∃ y0 y1, xs = [y0, y1] := by
    match xs, hlen with
    | [y0, y1], _ => exact ⟨y0, y1, rfl⟩
  have h0 := hf 0 _ rfl
  have h1 := hf 1 _ rfl
  simp [cellsIntL] at h0 h1
  obtain ⟨a, e0, _, z0⟩ := DataW.trod_int Try.underlying3 h0
  obtain ⟨b, e1, _, z1⟩ := DataW.trod_int Try.underlying3 h1
  simp only [List.cons.injEq, and_true] at e0 e1
  exact ⟨⟨a, b⟩, ⟨wf_i64 z0, wf_i64 z1⟩, e0, e1⟩
set_option maxRecDepth 100000 in
theorem lop_of_cells {n : Nat} {c0 c1 c2 c3 : Value} {x : DataW H × List MemPlace} (h : DataW.trod enc Try.prog W 0 (fun _ => true) true n 34 [c0, c1, c2, c3] = some x) :
    ∃ o : Lop, o.fit ∧ c0 = .int .i64 o.d ∧ c1 = .int .i64 o.b.seg ∧ c2 = .int .i64 o.b.n ∧ c3 = .string (bs o.s) := by
  obtain ⟨xs, m, _, rfl, _, hlen, hf⟩ := DataW.trod_struct Try.underlying34 h
  obtain ⟨y0, y1, y2, rfl⟩ : ∃ y0 y1 y2, xs = [y0, y1, y2] := by
    match xs, hlen with
    | [y0, y1, y2], _ => exact ⟨y0, y1, y2, rfl⟩
  have h0 := hf 0 _ rfl
  have h1 := hf 1 _ rfl
  have h2 := hf 2 _ rfl
  simp [cellsStrL, cellsIntL, cellsBk] at h0 h1 h2
  obtain ⟨d, e0, _, z0⟩ := DataW.trod_int Try.underlying3 h0
  obtain ⟨b, hb, q0, q1⟩ := bk_of_cells h1
  obtain ⟨s, e1, _, z1⟩ := DataW.trod_string Try.underlying9 h2
  simp only [List.cons.injEq, and_true] at e0 e1
  unfold maxLen at z1
  have l4 : s.data.toList.length = s.size := Array.length_toList
  refine ⟨⟨d, b, s.data.toList⟩, ⟨wf_i64 z0, hb, ?_⟩, e0, q0, q1, by rw [bs_of]; exact e1⟩
  show s.data.toList.length ≤ _; omega
theorem add_addL (x : Addr) (i j : Nat) : (x.add i).add j = x.add (i + j) := by
  obtain ⟨b, off, spot⟩ := x
  unfold Addr.add
  by_cases h1 : i = 0 <;> by_cases h2 : j = 0 <;> simp [h1, h2]
  omega
theorem open_lops {t : TypeId} (ht : Try.prog.underlying t = some (.slice 34)) {a : Option Addr} {len cap : Nat} {d : DataW H} {p : List MemPlace}
    (h : DataW.Trod enc Try.prog W 0 (fun _ => true) true t (.slice a len cap) d p) : ∃ l : List Lop, l.length = len ∧ len ≤ maxLen ∧ LopsIn W a l ∧ ∀ o ∈ l, o.fit := by
  obtain ⟨fuel, hf⟩ := h
  rcases open_slice ht hf with ⟨hcs, _⟩ | ⟨x, l, c, m, n, D, Pl, hcs, _, hl, hm, hmm, hx, hi⟩
  · simp [Value.cells] at hcs
    obtain ⟨rfl, rfl, rfl⟩ := hcs
    exact ⟨[], rfl, by unfold maxLen; omega, fun i h => by simp at h, fun r hr => by simp at hr⟩
  · simp [Value.cells] at hcs
    obtain ⟨rfl, rfl, rfl⟩ := hcs
    simp only [if_true] at hmm
    subst hmm
    rw [cellsLop] at hi
    have hex : ∀ i, i < len → ∃ o : Lop, o.fit ∧ W.cell? (x.add (i * 4)) = some (.int .i64 o.d) ∧ W.cell? (x.add (i * 4 + 1)) = some (.int .i64 o.b.seg) ∧ W.cell? (x.add (i * 4 + 1 + 1)) = some (.int .i64 o.b.n) ∧ W.cell? (x.add (i * 4 + 3)) = some (.string (bs o.s)) := fun i hil => by
      obtain ⟨cs, hc, hd⟩ := hi i (by omega)
      obtain ⟨_, hcl, hat⟩ := World.cells?_some hc
      obtain ⟨c0, c1, c2, c3, rfl⟩ : ∃ c0 c1 c2 c3, cs = [c0, c1, c2, c3] := by
        match cs, hcl with
        | [c0, c1, c2, c3], _ => exact ⟨c0, c1, c2, c3, rfl⟩
      obtain ⟨o, ho, rfl, rfl, rfl, rfl⟩ := lop_of_cells hd
      have e0 := hat 0 (by omega)
      have e1 := hat 1 (by omega)
      have e2 := hat 2 (by omega)
      have e3 := hat 3 (by omega)
      rw [add_addL] at e0 e1 e2 e3
      exact ⟨o, ho, e0, e1, e2, e3⟩
    obtain ⟨f, hf2⟩ := choose_lt hex
    refine ⟨(List.range len).map f, by simp, by omega, fun i hi2 => ?_, fun r hr => ?_⟩
    · have hil : i < len := by simpa using hi2
      obtain ⟨b, off, spot⟩ := x
      have hs : spot = none := by simpa [Addr.add] using World.cell?_spot (hf2 0 (by omega)).2.1
      subst hs
      obtain ⟨_, e0, e1, e2, e3⟩ := hf2 i hil
      simp only [Addr.add_lit] at e0 e1 e2 e3
      simp only [List.getElem_map, List.getElem_range]
      exact ⟨b, off, rfl, World.block_lt_of_cell? _ _ e0, e0, e1, e2, e3⟩
    · obtain ⟨i, hi3, rfl⟩ := List.mem_map.1 hr
      exact (hf2 i (List.mem_range.1 hi3)).1
end
end Go.Proofs.Ytbndhhlekfdppaa.L
