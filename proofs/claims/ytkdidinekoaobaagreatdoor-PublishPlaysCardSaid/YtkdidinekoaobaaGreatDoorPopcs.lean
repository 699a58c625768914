/- A slice of publish's calls that comes in: what its cells hold. -/
import Derived.Test.YtkdidinekoaobaaGreatDoorNopens
import Derived.Test.YtkdidinekoaobaaGreatDoorBb
import Derived.SizedLaws
namespace Go.Proofs.YtkdidinekoaobaaGreatDoor.P
open Go.RowKit Go.ChangeShapes Go.WideShapes Go.Joins Go.Deep J
set_option linter.unusedVariables false

/-- One of publish's calls. -/
structure Opq where
  d : Int
  n : Int
  nm : List UInt8
  b : List UInt8
  sa : Option Addr
  sc : Nat
  sl : List Sg
  ka : Option Addr
  kc : Nat
  ks : List Int

instance : Inhabited Opq := ⟨⟨0, 0, [], [], none, 0, [], none, 0, []⟩⟩

structure Opq.fit (o : Opq) : Prop where
  d : i64 o.d
  n : i64 o.n
  nm : o.nm.length ≤ 9223372036854775807
  b : o.b.length ≤ 9223372036854775807
  sl : o.sl.length ≤ 9223372036854775807
  ks : o.ks.length ≤ 17592186044416
  kr : ∀ y ∈ o.ks, -9223372036854775808 ≤ y ∧ y ≤ 9223372036854775807
  sf : ∀ s ∈ o.sl, s.fit

/-- The six cells of a call. -/
def OpqAt (w : World) (b off : Nat) (o : Opq) : Prop :=
  w.cell? ⟨b, off, none⟩ = some (.int .i64 o.d) ∧ w.cell? ⟨b, off + 1, none⟩ = some (.int .i64 o.n) ∧ w.cell? ⟨b, off + 2, none⟩ = some (.string (bs o.nm)) ∧ w.cell? ⟨b, off + 3, none⟩ = some (.string (bs o.b)) ∧ w.cell? ⟨b, off + 4, none⟩ = some (.slice o.sa o.sl.length o.sc) ∧ w.cell? ⟨b, off + 5, none⟩ = some (.slice o.ka o.ks.length o.kc)

/-- A slice holds these calls. -/
def OpqsIn (w : World) (a : Option Addr) (l : List Opq) : Prop := ∀ i (h : i < l.length), (∃ b off, a = some ⟨b, off, none⟩ ∧ b < w.heap.size ∧ OpqAt w b (off + i * 6) l[i]) ∧ SgsIn w l[i].sa l[i].sl ∧ Vals w l[i].ka (l[i].ks.map (Value.int .i64))

theorem OpqsIn.at {w w' : World} {B : Nat} {a : Option Addr} {l : List Opq} (h : OpqsIn w a l) (hb : Below B w w') (hB : w.heap.size ≤ B) (i : Nat) (o : Opq) (ho : l[i]? = some o) :
    (∃ b off, a = some ⟨b, off, none⟩ ∧ b < w.heap.size ∧ OpqAt w' b (off + i * 6) o) ∧ SgsIn w o.sa o.sl ∧ Vals w o.ka (o.ks.map (Value.int .i64)) := by
  obtain ⟨hi, e⟩ := List.getElem?_eq_some_iff.1 ho
  subst e
  obtain ⟨⟨b, off, h1, h2, c0, c1, c2, c3, c4, c5⟩, hs, hv⟩ := h i hi
  have hk : ∀ j, w'.cell? ⟨b, j, none⟩ = w.cell? ⟨b, j, none⟩ := fun j => hb.cell (p := ⟨b, j, none⟩) (Nat.lt_of_lt_of_le h2 hB)
  exact ⟨⟨b, off, h1, h2, by rw [hk]; exact c0, by rw [hk]; exact c1, by rw [hk]; exact c2, by rw [hk]; exact c3, by rw [hk]; exact c4, by rw [hk]; exact c5⟩, hs, hv⟩

theorem cellsStrQ : Tryz.prog.cellsOf 9 = 1 := by kernel_rfl
theorem cellsIntsQ : Tryz.prog.cellsOf 28 = 1 := by kernel_rfl
theorem cellsOpQ : Tryz.prog.cellsOf 35 = 6 := by kernel_rfl
theorem bytesInt : Tryz.prog.bytesOf 3 = 8 := by kernel_rfl

section
variable {H : Type} {enc : TypeId × Value → H} {W : World}

/-- What is read of a slice of integers weighs as many bytes as it has. -/
theorem open_intsw {t : TypeId} (ht : Tryz.prog.underlying t = some (.slice 3)) {a : Option Addr} {len cap : Nat} {fuel : Nat} {x : DataW H × List MemPlace}
    (hf : DataW.trod enc Tryz.prog W 0 (fun _ => true) true fuel t [.slice a len cap] = some x) : ∃ l : List Int, l.length = len ∧ Vals W a (l.map (Value.int .i64)) ∧ (∀ y ∈ l, -9223372036854775808 ≤ y ∧ y ≤ 9223372036854775807) ∧ (∀ M, (∀ n ∈ DataW.weights Tryz.prog t x.1, n ≤ M) → len * 8 ≤ M) := by
  rcases open_slice1 ht (by kernel_rfl) hf with ⟨hcs, _⟩ | ⟨y, l, c, m, n, V, D, Pl, hcs, _, hl, hm, hmm, hx, hi⟩
  · simp at hcs
    obtain ⟨rfl, rfl, rfl⟩ := hcs
    exact ⟨[], rfl, fun i h => by simp at h, fun y hy => by simp at hy, fun M _ => by omega⟩
  · simp at hcs
    obtain ⟨rfl, rfl, rfl⟩ := hcs
    simp only [if_true] at hmm
    have hex : ∀ i, i < len → ∃ s : Int, V i = .int .i64 s ∧ -9223372036854775808 ≤ s ∧ s ≤ 9223372036854775807 := fun i hil => by
      obtain ⟨s, h1, h2, h3⟩ := DataW.trod_int Tryz.underlying3 (hi i (by omega)).2
      refine ⟨s, by simpa using h1, ?_⟩
      exact wf_i64 h3
    obtain ⟨f, hf2⟩ := choose_lt hex
    have hvals : Vals W (some y) (((List.range len).map f).map (Value.int .i64)) := vals_of (n := len) (by simp) (fun i hi2 => by
      have hil : i < len := by simpa using hi2
      rw [(hi i (by omega)).1, (hf2 i hil).1]
      simp)
    refine ⟨(List.range len).map f, by simp, hvals, fun y hy => ?_, fun M hM => ?_⟩
    · obtain ⟨i, hi3, rfl⟩ := List.mem_map.1 hy
      exact (hf2 i (List.mem_range.1 hi3)).2
    · have := hM ((((List.range len).map D).length + ((List.range (m - len)).map fun j => D (len + j)).length) * Tryz.prog.bytesOf 3) (by rw [hx]; simp [DataW.weights, ht])
      rw [bytesInt] at this
      simp at this
      omega

theorem weightsAll_mem {e : TypeId} : ∀ {l : List (DataW H)} {d : DataW H}, d ∈ l → ∀ n ∈ d.weights Tryz.prog e, n ∈ DataW.weightsAll Tryz.prog e l
  | d' :: r, d, hd, n, hn => by
    simp only [DataW.weightsAll, List.mem_append]
    rcases List.mem_cons.1 hd with rfl | h
    · exact Or.inl hn
    · exact Or.inr (weightsAll_mem h n hn)

set_option maxRecDepth 100000 in
theorem opq_of_cells {n : Nat} {c0 c1 c2 c3 c4 c5 : Value} {x : DataW H × List MemPlace} (h : DataW.trod enc Tryz.prog W 0 (fun _ => true) true n 35 [c0, c1, c2, c3, c4, c5] = some x) (hw : ∀ n ∈ DataW.weights Tryz.prog 35 x.1, n ≤ reachBytes) :
    ∃ o : Opq, o.fit ∧ c0 = .int .i64 o.d ∧ c1 = .int .i64 o.n ∧ c2 = .string (bs o.nm) ∧ c3 = .string (bs o.b) ∧ c4 = .slice o.sa o.sl.length o.sc ∧ c5 = .slice o.ka o.ks.length o.kc ∧ SgsIn W o.sa o.sl ∧ Vals W o.ka (o.ks.map (Value.int .i64)) := by
  obtain ⟨xs, m, _, rfl, _, hlen, hf⟩ := DataW.trod_struct Tryz.underlying35 h
  obtain ⟨y0, y1, y2, y3, y4, y5, rfl⟩ : ∃ y0 y1 y2 y3 y4 y5, xs = [y0, y1, y2, y3, y4, y5] := by
    match xs, hlen with
    | [y0, y1, y2, y3, y4, y5], _ => exact ⟨y0, y1, y2, y3, y4, y5, rfl⟩
  have h0 := hf 0 _ rfl
  have h1 := hf 1 _ rfl
  have h2 := hf 2 _ rfl
  have h3 := hf 3 _ rfl
  have h4 := hf 4 _ rfl
  have h5 := hf 5 _ rfl
  simp [cellsStrQ, cellsIntN, cellsIntsQ, cellsSegsN] at h0 h1 h2 h3 h4 h5
  obtain ⟨d, e0, _, z0⟩ := DataW.trod_int Tryz.underlying3 h0
  obtain ⟨nn, e1, _, z1⟩ := DataW.trod_int Tryz.underlying3 h1
  obtain ⟨nm, e2, _, z2⟩ := DataW.trod_string Tryz.underlying9 h2
  obtain ⟨b, e3, _, z3⟩ := DataW.trod_string Tryz.underlying9 h3
  simp only [List.cons.injEq, and_true] at e0 e1 e2 e3
  obtain ⟨sl, sa, sc, e4, q1, q2, q3⟩ := open_segs h4
  obtain ⟨ka, kl, kc, hcs⟩ : ∃ ka kl kc, [c5] = [Value.slice ka kl kc] := by
    rcases open_slice1 Tryz.underlying28 (by kernel_rfl) h5 with ⟨hcs, _⟩ | ⟨x, l, c, m, n, V, D, Pl, hcs, _⟩
    · exact ⟨_, _, _, hcs⟩
    · exact ⟨_, _, _, hcs⟩
  rw [hcs] at h5
  simp only [List.cons.injEq, and_true] at hcs
  obtain ⟨ks, hl, hv, hr, hwt⟩ := open_intsw Tryz.underlying28 h5
  have hk : kl * 8 ≤ reachBytes := hwt _ (fun q hq => hw q (by simp [DataW.weights, DataW.weightsEach, Tryz.underlying35, hq]))
  have hre : reachBytes = 140737488351232 := rfl
  unfold maxLen at z2 z3 q1
  have l1 := len_size nm
  have l2 := len_size b
  refine ⟨⟨d, nn, nm.data.toList, b.data.toList, sa, sc, sl, ka, kc, ks⟩, ⟨wf_i64 z0, wf_i64 z1, ?_, ?_, q1, ?_, hr, q3⟩, e0, e1, by rw [bs_of]; exact e2, by rw [bs_of]; exact e3, e4, by rw [hl]; exact hcs, q2, hv⟩
  · show nm.data.toList.length ≤ _; omega
  · show b.data.toList.length ≤ _; omega
  · show ks.length ≤ _; omega

theorem open_opqs {t : TypeId} (ht : Tryz.prog.underlying t = some (.slice 35)) {a : Option Addr} {len cap : Nat} {d : DataW H} {p : List MemPlace}
    (h : DataW.Trod enc Tryz.prog W 0 (fun _ => true) true t (.slice a len cap) d p) (hw : ∀ n ∈ DataW.weights Tryz.prog t d, n ≤ reachBytes) : ∃ l : List Opq, l.length = len ∧ len ≤ maxLen ∧ OpqsIn W a l ∧ ∀ o ∈ l, o.fit := by
  obtain ⟨fuel, hf⟩ := h
  rcases open_slice ht hf with ⟨hcs, _⟩ | ⟨x, l, c, m, n, D, Pl, hcs, _, hl, hm, hmm, hx, hi⟩
  · simp [Value.cells] at hcs
    obtain ⟨rfl, rfl, rfl⟩ := hcs
    exact ⟨[], rfl, by unfold maxLen; omega, fun i h => by simp at h, fun r hr => by simp at hr⟩
  · simp [Value.cells] at hcs
    obtain ⟨rfl, rfl, rfl⟩ := hcs
    simp only [if_true] at hmm
    subst hmm
    rw [cellsOpQ] at hi
    have hd : d = (.slice ((List.range len).map D) ((List.range (m - len)).map fun j => D (len + j))) := congrArg Prod.fst hx
    have hex : ∀ i, i < len → ∃ o : Opq, o.fit ∧ SgsIn W o.sa o.sl ∧ Vals W o.ka (o.ks.map (Value.int .i64)) ∧ W.cell? (x.add (i * 6)) = some (.int .i64 o.d) ∧ W.cell? (x.add (i * 6 + 1)) = some (.int .i64 o.n) ∧ W.cell? (x.add (i * 6 + 2)) = some (.string (bs o.nm)) ∧ W.cell? (x.add (i * 6 + 3)) = some (.string (bs o.b)) ∧
        W.cell? (x.add (i * 6 + 4)) = some (.slice o.sa o.sl.length o.sc) ∧ W.cell? (x.add (i * 6 + 5)) = some (.slice o.ka o.ks.length o.kc) := fun i hil => by
      obtain ⟨cs, hc, hd2⟩ := hi i (by omega)
      obtain ⟨_, hcl, hat⟩ := World.cells?_some hc
      obtain ⟨c0, c1, c2, c3, c4, c5, rfl⟩ : ∃ c0 c1 c2 c3 c4 c5, cs = [c0, c1, c2, c3, c4, c5] := by
        match cs, hcl with
        | [c0, c1, c2, c3, c4, c5], _ => exact ⟨c0, c1, c2, c3, c4, c5, rfl⟩
      obtain ⟨o, ho, rfl, rfl, rfl, rfl, rfl, rfl, hs, hv⟩ := opq_of_cells hd2 (fun q hq => hw q (by
        rw [hd]
        simp only [DataW.weights, ht, List.mem_cons, List.mem_append]
        exact Or.inr (Or.inl (weightsAll_mem (List.mem_map.2 ⟨i, List.mem_range.2 hil, rfl⟩) q hq))))
      have e0 := hat 0 (by omega)
      have e1 := hat 1 (by omega)
      have e2 := hat 2 (by omega)
      have e3 := hat 3 (by omega)
      have e4 := hat 4 (by omega)
      have e5 := hat 5 (by omega)
      rw [add_addN] at e0 e1 e2 e3 e4 e5
      exact ⟨o, ho, hs, hv, e0, e1, e2, e3, e4, e5⟩
    obtain ⟨f, hf2⟩ := choose_lt hex
    refine ⟨(List.range len).map f, by simp, by omega, fun i hi2 => ?_, fun r hr => ?_⟩
    · have hil : i < len := by simpa using hi2
      obtain ⟨b, off, spot⟩ := x
      have hs : spot = none := by simpa [Addr.add] using World.cell?_spot (hf2 0 (by omega)).2.2.2.1
      subst hs
      obtain ⟨_, hs, hv, e0, e1, e2, e3, e4, e5⟩ := hf2 i hil
      simp only [Addr.add_lit] at e0 e1 e2 e3 e4 e5
      simp only [List.getElem_map, List.getElem_range]
      exact ⟨⟨b, off, rfl, World.block_lt_of_cell? _ _ e0, e0, e1, e2, e3, e4, e5⟩, hs, hv⟩
    · obtain ⟨i, hi3, rfl⟩ := List.mem_map.1 hr
      exact (hf2 i (List.mem_range.1 hi3)).1
end
end Go.Proofs.YtkdidinekoaobaaGreatDoor.P
