/- A slice of calls of segments that comes in: what its cells hold. -/
import Derived.Test.YtmekkbhblghbmaaGreatDoorRb
import Derived.Test.YtmekkbhblghbmaaGreatDoorBopens
namespace Go.Proofs.YtmekkbhblghbmaaGreatDoor
open Go.RowKit Go.ChangeShapes Go.WideShapes Go.Joins Go.Deep
set_option linter.unusedVariables false

/-- A call of a script. -/
structure Sop where
  d : Int
  n : Int
  m : Int
  la : Option Addr
  lc : Nat
  l : List Rc
  b : List UInt8
  ka : Option Addr
  kc : Nat
  ks : List Int

instance : Inhabited Sop := ⟨⟨0, 0, 0, none, 0, [], [], none, 0, []⟩⟩

def Sop.fit (o : Sop) : Prop := ((-9223372036854775808 ≤ o.d ∧ o.d ≤ 9223372036854775807) ∧ (-9223372036854775808 ≤ o.n ∧ o.n ≤ 9223372036854775807) ∧ (-9223372036854775808 ≤ o.m ∧ o.m ≤ 9223372036854775807)) ∧
  (o.l.length ≤ 9223372036854775807 ∧ ∀ r ∈ o.l, Came r) ∧ o.b.length ≤ 9223372036854775807 ∧ o.ks.length ≤ 9223372036854775807 ∧ ∀ y ∈ o.ks, -9223372036854775808 ≤ y ∧ y ≤ 9223372036854775807

/-- The six cells of a call. -/
def SopAt (w : World) (b off : Nat) (o : Sop) : Prop :=
  w.cell? ⟨b, off, none⟩ = some (.int .i64 o.d) ∧ w.cell? ⟨b, off + 1, none⟩ = some (.int .i64 o.n) ∧ w.cell? ⟨b, off + 2, none⟩ = some (.int .i64 o.m) ∧ w.cell? ⟨b, off + 3, none⟩ = some (.slice o.la o.l.length o.lc) ∧
  w.cell? ⟨b, off + 4, none⟩ = some (.string (bs o.b)) ∧ w.cell? ⟨b, off + 5, none⟩ = some (.slice o.ka o.ks.length o.kc)

/-- A slice holds these calls. -/
def SopsIn (w : World) (a : Option Addr) (l : List Sop) : Prop := ∀ i (h : i < l.length), (∃ b off, a = some ⟨b, off, none⟩ ∧ b < w.heap.size ∧ SopAt w b (off + i * 6) l[i]) ∧ Recs w l[i].la l[i].l ∧ Vals w l[i].ka (l[i].ks.map (Value.int .i64))

theorem SopsIn.at {w w' : World} {B : Nat} {a : Option Addr} {l : List Sop} (h : SopsIn w a l) (hb : Below B w w') (hB : w.heap.size ≤ B) (i : Nat) (o : Sop) (ho : l[i]? = some o) :
    (∃ b off, a = some ⟨b, off, none⟩ ∧ b < w.heap.size ∧ SopAt w' b (off + i * 6) o) ∧ Recs w o.la o.l ∧ Vals w o.ka (o.ks.map (Value.int .i64)) := by
  obtain ⟨hi, e⟩ := List.getElem?_eq_some_iff.1 ho
  subst e
  obtain ⟨⟨b, off, h1, h2, c0, c1, c2, c3, c4, c5⟩, hv⟩ := h i hi
  have hk : ∀ j, w'.cell? ⟨b, j, none⟩ = w.cell? ⟨b, j, none⟩ := fun j => hb.cell (p := ⟨b, j, none⟩) (Nat.lt_of_lt_of_le h2 hB)
  exact ⟨⟨b, off, h1, h2, by rw [hk]; exact c0, by rw [hk]; exact c1, by rw [hk]; exact c2, by rw [hk]; exact c3, by rw [hk]; exact c4, by rw [hk]; exact c5⟩, hv⟩

theorem cellsStr8 : Tryz.prog.cellsOf 9 = 1 := by kernel_rfl
theorem cellsInt8 : Tryz.prog.cellsOf 3 = 1 := by kernel_rfl
theorem cellsInts8 : Tryz.prog.cellsOf 32 = 1 := by kernel_rfl
theorem cellsRecs8 : Tryz.prog.cellsOf 31 = 1 := by kernel_rfl
theorem cellsSop : Tryz.prog.cellsOf 34 = 6 := by kernel_rfl

section
variable {H : Type} {enc : TypeId × Value → H} {W : World}

set_option maxRecDepth 100000 in
theorem sop_of_cells {n : Nat} {c0 c1 c2 c3 c4 c5 : Value} {x : DataW H × List MemPlace} (h : DataW.trod enc Tryz.prog W 0 (fun _ => true) true n 34 [c0, c1, c2, c3, c4, c5] = some x) :
    ∃ o : Sop, o.fit ∧ c0 = .int .i64 o.d ∧ c1 = .int .i64 o.n ∧ c2 = .int .i64 o.m ∧ c3 = .slice o.la o.l.length o.lc ∧ c4 = .string (bs o.b) ∧ c5 = .slice o.ka o.ks.length o.kc ∧ Recs W o.la o.l ∧ Vals W o.ka (o.ks.map (Value.int .i64)) := by
  obtain ⟨xs, m, _, rfl, _, hlen, hf⟩ := DataW.trod_struct Tryz.underlying34 h
  obtain ⟨y0, y1, y2, y3, y4, y5, rfl⟩ : ∃ y0 y1 y2 y3 y4 y5, xs = [y0, y1, y2, y3, y4, y5] := by
    match xs, hlen with
    | [y0, y1, y2, y3, y4, y5], _ => exact ⟨y0, y1, y2, y3, y4, y5, rfl⟩
  have h0 := hf 0 _ rfl
  have h1 := hf 1 _ rfl
  have h2 := hf 2 _ rfl
  have h3 := hf 3 _ rfl
  have h4 := hf 4 _ rfl
  have h5 := hf 5 _ rfl
  simp [cellsStr8, cellsInt8, cellsInts8, cellsRecs8] at h0 h1 h2 h3 h4 h5
  obtain ⟨d, e0, _, z0⟩ := DataW.trod_int Tryz.underlying3 h0
  obtain ⟨k, e1, _, z1⟩ := DataW.trod_int Tryz.underlying3 h1
  obtain ⟨mm, e2, _, z2⟩ := DataW.trod_int Tryz.underlying3 h2
  obtain ⟨b, e4, _, z4⟩ := DataW.trod_string Tryz.underlying9 h4
  simp only [List.cons.injEq, and_true] at e0 e1 e2 e4
  obtain ⟨la, ll, lc, hls⟩ : ∃ la ll lc, [c3] = [Value.slice la ll lc] := by
    rcases open_slice Tryz.underlying31 h3 with ⟨hcs, _⟩ | ⟨x, l, c, m, n, D, Pl, hcs, _⟩
    · exact ⟨_, _, _, hcs⟩
    · exact ⟨_, _, _, hcs⟩
  rw [hls] at h3
  simp only [List.cons.injEq, and_true] at hls
  obtain ⟨l, hll, hlm, hrec, hcame⟩ := open_recs (enc := enc) (W := W) Tryz.underlying31 (a := la) (len := ll) (cap := lc) (d := y3.1) (p := y3.2) ⟨m, by simpa [Value.cells] using h3⟩
  obtain ⟨ka, kl, kc, hcs⟩ : ∃ ka kl kc, [c5] = [Value.slice ka kl kc] := by
    rcases open_slice1 Tryz.underlying32 (by kernel_rfl) h5 with ⟨hcs, _⟩ | ⟨x, l, c, m, n, V, D, Pl, hcs, _⟩
    · exact ⟨_, _, _, hcs⟩
    · exact ⟨_, _, _, hcs⟩
  rw [hcs] at h5
  simp only [List.cons.injEq, and_true] at hcs
  obtain ⟨ks, hl, hm, hv, hr⟩ := open_intsin Tryz.underlying32 h5
  unfold maxLen at z4 hm hlm
  have l4 : b.data.toList.length = b.size := Array.length_toList
  refine ⟨⟨d, k, mm, la, lc, l, b.data.toList, ka, kc, ks⟩, ⟨⟨wf_i64 z0, wf_i64 z1, wf_i64 z2⟩, ⟨?_, hcame⟩, ?_, ?_, hr⟩, e0, e1, e2, by rw [hll]; exact hls, by rw [bs_of]; exact e4, by rw [hl]; exact hcs, hrec, hv⟩
  · show l.length ≤ _; omega
  · show b.data.toList.length ≤ _; omega
  · show ks.length ≤ _; omega

theorem add_add8 (x : Addr) (i j : Nat) : (x.add i).add j = x.add (i + j) := by
  obtain ⟨b, off, spot⟩ := x
  unfold Addr.add
  by_cases h1 : i = 0 <;> by_cases h2 : j = 0 <;> simp [h1, h2]
  omega

theorem open_sopsin {t : TypeId} (ht : Tryz.prog.underlying t = some (.slice 34)) {a : Option Addr} {len cap : Nat} {d : DataW H} {p : List MemPlace}
    (h : DataW.Trod enc Tryz.prog W 0 (fun _ => true) true t (.slice a len cap) d p) : ∃ l : List Sop, l.length = len ∧ len ≤ maxLen ∧ SopsIn W a l ∧ ∀ o ∈ l, o.fit := by
  obtain ⟨fuel, hf⟩ := h
  rcases open_slice ht hf with ⟨hcs, _⟩ | ⟨x, l, c, m, n, D, Pl, hcs, _, hl, hm, hmm, hx, hi⟩
  · simp [Value.cells] at hcs
    obtain ⟨rfl, rfl, rfl⟩ := hcs
    exact ⟨[], rfl, by unfold maxLen; omega, fun i h => by simp at h, fun r hr => by simp at hr⟩
  · simp [Value.cells] at hcs
    obtain ⟨rfl, rfl, rfl⟩ := hcs
    simp only [if_true] at hmm
    subst hmm
    rw [cellsSop] at hi
    have hex : ∀ i, i < len → ∃ o : Sop, o.fit ∧ (Recs W o.la o.l ∧ Vals W o.ka (o.ks.map (Value.int .i64))) ∧ W.cell? (x.add (i * 6)) = some (.int .i64 o.d) ∧ W.cell? (x.add (i * 6 + 1)) = some (.int .i64 o.n) ∧ W.cell? (x.add (i * 6 + 2)) = some (.int .i64 o.m) ∧
        W.cell? (x.add (i * 6 + 3)) = some (.slice o.la o.l.length o.lc) ∧ W.cell? (x.add (i * 6 + 4)) = some (.string (bs o.b)) ∧ W.cell? (x.add (i * 6 + 5)) = some (.slice o.ka o.ks.length o.kc) := fun i hil => by
      obtain ⟨cs, hc, hd⟩ := hi i (by omega)
      obtain ⟨_, hcl, hat⟩ := World.cells?_some hc
      obtain ⟨c0, c1, c2, c3, c4, c5, rfl⟩ : ∃ c0 c1 c2 c3 c4 c5, cs = [c0, c1, c2, c3, c4, c5] := by
        match cs, hcl with
        | [c0, c1, c2, c3, c4, c5], _ => exact ⟨c0, c1, c2, c3, c4, c5, rfl⟩
      obtain ⟨o, ho, rfl, rfl, rfl, rfl, rfl, rfl, hv⟩ := sop_of_cells hd
      have e0 := hat 0 (by omega)
      have e1 := hat 1 (by omega)
      have e2 := hat 2 (by omega)
      have e3 := hat 3 (by omega)
      have e4 := hat 4 (by omega)
      have e5 := hat 5 (by omega)
      rw [add_add8] at e0 e1 e2 e3 e4 e5
      exact ⟨o, ho, hv, e0, e1, e2, e3, e4, e5⟩
    obtain ⟨f, hf2⟩ := choose_lt hex
    refine ⟨(List.range len).map f, by simp, by omega, fun i hi2 => ?_, fun r hr => ?_⟩
    · have hil : i < len := by simpa using hi2
      obtain ⟨b, off, spot⟩ := x
      have hs : spot = none := by simpa [Addr.add] using World.cell?_spot (hf2 0 (by omega)).2.2.1
      subst hs
      obtain ⟨_, hv, e0, e1, e2, e3, e4, e5⟩ := hf2 i hil
      simp only [Addr.add_lit] at e0 e1 e2 e3 e4 e5
      simp only [List.getElem_map, List.getElem_range]
      exact ⟨⟨b, off, rfl, World.block_lt_of_cell? _ _ e0, e0, e1, e2, e3, e4, e5⟩, hv⟩
    · obtain ⟨i, hi3, rfl⟩ := List.mem_map.1 hr
      exact (hf2 i (List.mem_range.1 hi3)).1
end
end Go.Proofs.YtmekkbhblghbmaaGreatDoor
