/- A slice of calls of a directory that comes in: what its cells hold. -/
import Derived.Test.YtbjginlhgedjdaaDoorKdel
import Derived.Test.YtbjginlhgedjdaaDoorBopens
namespace Go.Proofs.YtbjginlhgedjdaaDoor.K
open Go.RowKit Go.ChangeShapes Go.WideShapes Go.Joins Go.Deep
set_option linter.unusedVariables false

/-- A call of a script. -/
structure Kop where
  d : Int
  k : List UInt8
  l : Lc

instance : Inhabited Kop := ⟨⟨0, [], ⟨0, 0, 0, 0⟩⟩⟩

def Kop.fit (o : Kop) : Prop := (-9223372036854775808 ≤ o.d ∧ o.d ≤ 9223372036854775807) ∧ o.k.length ≤ 9223372036854775807

/-- The six cells of a call. -/
def KopAt (w : World) (b off : Nat) (o : Kop) : Prop :=
  w.cell? ⟨b, off, none⟩ = some (.int .i64 o.d) ∧ w.cell? ⟨b, off + 1, none⟩ = some (.string (bs o.k)) ∧ w.cell? ⟨b, off + 2, none⟩ = some (.int .i64 o.l.seg) ∧ w.cell? ⟨b, off + 3, none⟩ = some (.int .i64 o.l.off) ∧
  w.cell? ⟨b, off + 4, none⟩ = some (.int .i64 o.l.len) ∧ w.cell? ⟨b, off + 5, none⟩ = some (.int .u64 o.l.seq)

/-- A slice holds these calls. -/
def KopsIn (w : World) (a : Option Addr) (l : List Kop) : Prop := ∀ i (h : i < l.length), ∃ b off, a = some ⟨b, off, none⟩ ∧ b < w.heap.size ∧ KopAt w b (off + i * 6) l[i]

theorem KopsIn.at {w w' : World} {B : Nat} {a : Option Addr} {l : List Kop} (h : KopsIn w a l) (hb : Below B w w') (hB : w.heap.size ≤ B) (i : Nat) (o : Kop) (ho : l[i]? = some o) :
    ∃ b off, a = some ⟨b, off, none⟩ ∧ b < w.heap.size ∧ KopAt w' b (off + i * 6) o := by
  obtain ⟨hi, e⟩ := List.getElem?_eq_some_iff.1 ho
  subst e
  obtain ⟨b, off, h1, h2, c0, c1, c2, c3, c4, c5⟩ := h i hi
  have hk : ∀ j, w'.cell? ⟨b, j, none⟩ = w.cell? ⟨b, j, none⟩ := fun j => hb.cell (p := ⟨b, j, none⟩) (Nat.lt_of_lt_of_le h2 hB)
  exact ⟨b, off, h1, h2, by rw [hk]; exact c0, by rw [hk]; exact c1, by rw [hk]; exact c2, by rw [hk]; exact c3, by rw [hk]; exact c4, by rw [hk]; exact c5⟩

theorem cellsStrK : Tryd.prog.cellsOf 9 = 1 := by kernel_rfl
theorem cellsIntK : Tryd.prog.cellsOf 3 = 1 := by kernel_rfl
theorem cellsU64K : Tryd.prog.cellsOf 29 = 1 := by kernel_rfl
theorem cellsLocK : Tryd.prog.cellsOf 31 = 4 := by kernel_rfl
theorem cellsKop : Tryd.prog.cellsOf 33 = 6 := by kernel_rfl

section
variable {H : Type} {enc : TypeId × Value → H} {W : World}

set_option maxRecDepth 100000 in
theorem loc_of_cells {n : Nat} {c0 c1 c2 c3 : Value} {x : DataW H × List MemPlace} (h : DataW.trod enc Tryd.prog W 0 (fun _ => true) true n 31 [c0, c1, c2, c3] = some x) :
    ∃ l : Lc, c0 = .int .i64 l.seg ∧ c1 = .int .i64 l.off ∧ c2 = .int .i64 l.len ∧ c3 = .int .u64 l.seq := by
  obtain ⟨xs, m, _, rfl, _, hlen, hf⟩ := DataW.trod_struct Tryd.underlying31 h
  obtain ⟨y0, y1, y2, y3, rfl⟩ : ∃ y0 y1 y2 y3, xs = [y0, y1, y2, y3] := by
    match xs, hlen with
    | [y0, y1, y2, y3], _ => exact ⟨y0, y1, y2, y3, rfl⟩
  have h0 := hf 0 _ rfl
  have h1 := hf 1 _ rfl
  have h2 := hf 2 _ rfl
  have h3 := hf 3 _ rfl
  simp [cellsIntK, cellsU64K] at h0 h1 h2 h3
  obtain ⟨a, e0, _, _⟩ := DataW.trod_int Tryd.underlying3 h0
  obtain ⟨b, e1, _, _⟩ := DataW.trod_int Tryd.underlying3 h1
  obtain ⟨c, e2, _, _⟩ := DataW.trod_int Tryd.underlying3 h2
  obtain ⟨d, e3, _, _⟩ := DataW.trod_int Tryd.underlying29 h3
  simp only [List.cons.injEq, and_true] at e0 e1 e2 e3
  exact ⟨⟨a, b, c, d⟩, e0, e1, e2, e3⟩

set_option maxRecDepth 100000 in
theorem kop_of_cells {n : Nat} {c0 c1 c2 c3 c4 c5 : Value} {x : DataW H × List MemPlace} (h : DataW.trod enc Tryd.prog W 0 (fun _ => true) true n 33 [c0, c1, c2, c3, c4, c5] = some x) :
    ∃ o : Kop, o.fit ∧ c0 = .int .i64 o.d ∧ c1 = .string (bs o.k) ∧ c2 = .int .i64 o.l.seg ∧ c3 = .int .i64 o.l.off ∧ c4 = .int .i64 o.l.len ∧ c5 = .int .u64 o.l.seq := by
  obtain ⟨xs, m, _, rfl, _, hlen, hf⟩ := DataW.trod_struct Tryd.underlying33 h
  obtain ⟨y0, y1, y2, rfl⟩ : ∃ y0 y1 y2, xs = [y0, y1, y2] := by
    match xs, hlen with
    | [y0, y1, y2], _ => exact ⟨y0, y1, y2, rfl⟩
  have h0 := hf 0 _ rfl
  have h1 := hf 1 _ rfl
  have h2 := hf 2 _ rfl
  simp [cellsStrK, cellsIntK, cellsLocK] at h0 h1 h2
  obtain ⟨d, e0, _, z0⟩ := DataW.trod_int Tryd.underlying3 h0
  obtain ⟨b, e1, _, z1⟩ := DataW.trod_string Tryd.underlying9 h1
  obtain ⟨l, q0, q1, q2, q3⟩ := loc_of_cells h2
  simp only [List.cons.injEq, and_true] at e0 e1
  unfold maxLen at z1
  have l4 : b.data.toList.length = b.size := Array.length_toList
  refine ⟨⟨d, b.data.toList, l⟩, ⟨wf_i64 z0, ?_⟩, e0, by rw [bs_of]; exact e1, q0, q1, q2, q3⟩
  show b.data.toList.length ≤ _; omega

theorem add_addK (x : Addr) (i j : Nat) : (x.add i).add j = x.add (i + j) := by
  obtain ⟨b, off, spot⟩ := x
  unfold Addr.add
  by_cases h1 : i = 0 <;> by_cases h2 : j = 0 <;> simp [h1, h2]
  omega

theorem open_kops {t : TypeId} (ht : Tryd.prog.underlying t = some (.slice 33)) {a : Option Addr} {len cap : Nat} {d : DataW H} {p : List MemPlace}
    (h : DataW.Trod enc Tryd.prog W 0 (fun _ => true) true t (.slice a len cap) d p) : ∃ l : List Kop, l.length = len ∧ len ≤ maxLen ∧ KopsIn W a l ∧ ∀ o ∈ l, o.fit := by
  obtain ⟨fuel, hf⟩ := h
  rcases open_slice ht hf with ⟨hcs, _⟩ | ⟨x, l, c, m, n, D, Pl, hcs, _, hl, hm, hmm, hx, hi⟩
  · simp [Value.cells] at hcs
    obtain ⟨rfl, rfl, rfl⟩ := hcs
    exact ⟨[], rfl, by unfold maxLen; omega, fun i h => by simp at h, fun r hr => by simp at hr⟩
  · simp [Value.cells] at hcs
    obtain ⟨rfl, rfl, rfl⟩ := hcs
    simp only [if_true] at hmm
    subst hmm
    rw [cellsKop] at hi
    have hex : ∀ i, i < len → ∃ o : Kop, o.fit ∧ W.cell? (x.add (i * 6)) = some (.int .i64 o.d) ∧ W.cell? (x.add (i * 6 + 1)) = some (.string (bs o.k)) ∧ W.cell? (x.add (i * 6 + 2)) = some (.int .i64 o.l.seg) ∧
        W.cell? (x.add (i * 6 + 3)) = some (.int .i64 o.l.off) ∧ W.cell? (x.add (i * 6 + 4)) = some (.int .i64 o.l.len) ∧ W.cell? (x.add (i * 6 + 5)) = some (.int .u64 o.l.seq) := fun i hil => by
      obtain ⟨cs, hc, hd⟩ := hi i (by omega)
      obtain ⟨_, hcl, hat⟩ := World.cells?_some hc
      obtain ⟨c0, c1, c2, c3, c4, c5, rfl⟩ : ∃ c0 c1 c2 c3 c4 c5, cs = [c0, c1, c2, c3, c4, c5] := by
        match cs, hcl with
        | [c0, c1, c2, c3, c4, c5], _ => exact ⟨c0, c1, c2, c3, c4, c5, rfl⟩
      obtain ⟨o, ho, rfl, rfl, rfl, rfl, rfl, rfl⟩ := kop_of_cells hd
      have e0 := hat 0 (by omega)
      have e1 := hat 1 (by omega)
      have e2 := hat 2 (by omega)
      have e3 := hat 3 (by omega)
      have e4 := hat 4 (by omega)
      have e5 := hat 5 (by omega)
      rw [add_addK] at e0 e1 e2 e3 e4 e5
      exact ⟨o, ho, e0, e1, e2, e3, e4, e5⟩
    obtain ⟨f, hf2⟩ := choose_lt hex
    refine ⟨(List.range len).map f, by simp, by omega, fun i hi2 => ?_, fun r hr => ?_⟩
    · have hil : i < len := by simpa using hi2
      obtain ⟨b, off, spot⟩ := x
      have hs : spot = none := by simpa [Addr.add] using World.cell?_spot (hf2 0 (by omega)).2.1
      subst hs
      obtain ⟨_, e0, e1, e2, e3, e4, e5⟩ := hf2 i hil
      simp only [Addr.add_lit] at e0 e1 e2 e3 e4 e5
      simp only [List.getElem_map, List.getElem_range]
      exact ⟨b, off, rfl, World.block_lt_of_cell? _ _ e0, e0, e1, e2, e3, e4, e5⟩
    · obtain ⟨i, hi3, rfl⟩ := List.mem_map.1 hr
      exact (hf2 i (List.mem_range.1 hi3)).1
end
end Go.Proofs.YtbjginlhgedjdaaDoor.K
