/- A slice of records that comes in as an argument: what its cells hold. -/
import Derived.Test.YtdifecclldkhpaaRopen
import Derived.Deep.Slices
import Derived.ChangeOld
namespace Go.Proofs.Ytdifecclldkhpaa
open Go.Joins Go.ChangeShapes Go.WideShapes Go.RowKit Go.Deep

theorem laidOut : laidOutB Try.prog = true := by kernel_rfl

instance : Inhabited Rc := ⟨Rc.z⟩

section
variable {H : Type} {enc : TypeId × Value → H}

theorem rec_at {W : World} {base : Nat} {spare : Nat → Bool} {held : Bool} {n : Nat} {cs : List Value} {x : DataW H × List MemPlace} {a : Addr}
    (hc : W.cells? base a 4 = some cs) (h : DataW.trod enc Try.prog W base spare held n 45 cs = some x) :
    ∃ r : Rc, Came r ∧ W.cell? (a.add 0) = some (.int .u64 ((r.q : Nat) : Int)) ∧ W.cell? (a.add 1) = some (.string (bs r.k)) ∧ W.cell? (a.add 2) = some (.string (bs r.v)) ∧ W.cell? (a.add 3) = some (.bool r.g) := by
  obtain ⟨_, hl, hat⟩ := World.cells?_some hc
  obtain ⟨c0, c1, c2, c3, rfl⟩ : ∃ c0 c1 c2 c3, cs = [c0, c1, c2, c3] := by
    match cs, hl with
    | [c0, c1, c2, c3], _ => exact ⟨c0, c1, c2, c3, rfl⟩
  obtain ⟨y0, y1, y2, y3, m, _, _, h0, h1, h2, h3⟩ := trod_struct4 Try.underlying45 h
  simp [cellsStr, cellsU64, cellsBool] at h0 h1 h2 h3
  obtain ⟨r, hr, rfl, rfl, rfl, rfl, _⟩ := rec_of_parts h0 h1 h2 h3
  exact ⟨r, hr, hat 0 (by omega), hat 1 (by omega), hat 2 (by omega), hat 3 (by omega)⟩

theorem open_recs {W : World} {t : TypeId} (ht : Try.prog.underlying t = some (.slice 45)) {a : Option Addr} {len cap : Nat} {d : DataW H} {p : List MemPlace}
    (h : DataW.Trod enc Try.prog W 0 (fun _ => true) true t (.slice a len cap) d p) : ∃ l : List Rc, l.length = len ∧ len ≤ maxLen ∧ Recs W a l ∧ ∀ r ∈ l, Came r := by
  obtain ⟨fuel, hf⟩ := h
  have hlt := DataW.trod_lt fuel _ _ _ hf
  rcases open_slice ht hf with ⟨hcs, _⟩ | ⟨x, l, c, m, n, D, Pl, hcs, _, hl, hm, hmm, hx, hi⟩
  · simp [Value.cells] at hcs
    obtain ⟨rfl, rfl, rfl⟩ := hcs
    exact ⟨[], rfl, by unfold maxLen; omega, fun h => by simp at h, fun r hr => by simp at hr⟩
  · simp [Value.cells] at hcs
    obtain ⟨rfl, rfl, rfl⟩ := hcs
    simp only [if_true] at hmm
    subst hmm
    rw [cellsRec] at hi
    have hex : ∀ i, i < len → ∃ r : Rc, Came r ∧ W.cell? (x.add (i * 4)) = some (.int .u64 ((r.q : Nat) : Int)) ∧ W.cell? (x.add (i * 4 + 1)) = some (.string (bs r.k)) ∧ W.cell? (x.add (i * 4 + 2)) = some (.string (bs r.v)) ∧ W.cell? (x.add (i * 4 + 3)) = some (.bool r.g) := fun i hil => by
      obtain ⟨cs, hc, hd⟩ := hi i (by omega)
      obtain ⟨r, hr, e0, e1, e2, e3⟩ := rec_at hc hd
      rw [add_add] at e0 e1 e2 e3
      exact ⟨r, hr, e0, e1, e2, e3⟩
    obtain ⟨f, hf2⟩ := choose_lt hex
    refine ⟨(List.range len).map f, by simp, by omega, fun h0 => ?_, fun r hr => ?_⟩
    · have hpos : 0 < len := by simpa using h0
      obtain ⟨b, off, spot⟩ := x
      have hs : spot = none := by simpa [Addr.add] using World.cell?_spot (hf2 0 hpos).2.1
      subst hs
      refine ⟨b, off, rfl, ?_, fun i hi2 => ?_⟩
      · have := World.block_lt_of_cell? _ _ (hf2 0 hpos).2.1
        simpa [Addr.add] using this
      · have hil : i < len := by simpa using hi2
        obtain ⟨_, e0, e1, e2, e3⟩ := hf2 i hil
        simp only [Addr.add_lit] at e0 e1 e2 e3
        simp only [List.getElem_map, List.getElem_range]
        exact ⟨e0, e1, e2, e3⟩
    · obtain ⟨i, hi3, rfl⟩ := List.mem_map.1 hr
      exact (hf2 i (List.mem_range.1 hi3)).1

end

theorem Came.all {l : List Rc} (h : ∀ r ∈ l, Came r) : Fits l := fun r hr => (h r hr).fits

end Go.Proofs.Ytdifecclldkhpaa
