/- A manifest that comes in: how it is read, and what its cells hold. -/
import Derived.Test.YtkdidinekoaobaaGreatDoorNa
import Derived.Test.YtkdidinekoaobaaGreatDoorBb
namespace Go.Proofs.YtkdidinekoaobaaGreatDoor.J
open Go.RowKit Go.ChangeShapes Go.WideShapes Go.Joins Go.Deep
set_option linter.unusedVariables false

instance : Inhabited Sg := ⟨⟨0, 0, 0⟩⟩
theorem cellsIntN : Tryz.prog.cellsOf 3 = 1 := by kernel_rfl
theorem cellsU32N : Tryz.prog.cellsOf 49 = 1 := by kernel_rfl
theorem cellsSegN : Tryz.prog.cellsOf 51 = 3 := by kernel_rfl
theorem cellsSegsN : Tryz.prog.cellsOf 31 = 1 := by kernel_rfl
theorem cellsMfN : Tryz.prog.cellsOf 33 = 2 := by kernel_rfl
theorem wf_u32N {n : Int} (h : (Lit.int .u32 n).wf = true) : 0 ≤ n ∧ n ≤ 4294967295 := by
  have h' : IntKind.u32.min ≤ n ∧ n ≤ IntKind.u32.max := by simpa [Lit.wf] using h
  have e1 : IntKind.u32.min = 0 := by decide
  have e2 : IntKind.u32.max = 4294967295 := by decide
  omega
theorem add_addN (x : Addr) (i j : Nat) : (x.add i).add j = x.add (i + j) := by
  obtain ⟨b, off, spot⟩ := x
  unfold Addr.add
  by_cases h1 : i = 0 <;> by_cases h2 : j = 0 <;> simp [h1, h2]
  omega

section
variable {H : Type} {enc : TypeId × Value → H} {W : World}

set_option maxRecDepth 100000 in
theorem seg_of_cells {base : Nat} {spare : Nat → Bool} {held : Bool} {n : Nat} {c0 c1 c2 : Value} {x : DataW H × List MemPlace}
    (h : DataW.trod enc Tryz.prog W base spare held n 51 [c0, c1, c2] = some x) :
    ∃ s : Sg, s.fit ∧ c0 = .int .i64 s.n ∧ c1 = .int .i64 s.size ∧ c2 = .int .u32 s.sum := by
  obtain ⟨xs, m, _, rfl, _, hlen, hf⟩ := DataW.trod_struct Tryz.underlying51 h
  obtain ⟨y0, y1, y2, rfl⟩ : ∃ y0 y1 y2, xs = [y0, y1, y2] := by
    match xs, hlen with
    | [y0, y1, y2], _ => exact ⟨y0, y1, y2, rfl⟩
  have h0 := hf 0 _ rfl
  have h1 := hf 1 _ rfl
  have h2 := hf 2 _ rfl
  simp [cellsIntN, cellsU32N] at h0 h1 h2
  obtain ⟨a, e0, _, z0⟩ := DataW.trod_int Tryz.underlying3 h0
  obtain ⟨b, e1, _, z1⟩ := DataW.trod_int Tryz.underlying3 h1
  obtain ⟨c, e2, _, z2⟩ := DataW.trod_int Tryz.underlying49 h2
  simp only [List.cons.injEq, and_true] at e0 e1 e2
  have q2 := wf_u32N z2
  refine ⟨⟨a, b, c.toNat⟩, ⟨wf_i64 z0, wf_i64 z1, by show c.toNat < _; omega⟩, e0, e1, ?_⟩
  rw [e2, show ((c.toNat : Nat) : Int) = c by omega]

theorem open_segs {fuel : Nat} {c : Value} {x : DataW H × List MemPlace} (h : DataW.trod enc Tryz.prog W 0 (fun _ => true) true fuel 31 [c] = some x) :
    ∃ (l : List Sg) (a : Option Addr) (cap : Nat), c = .slice a l.length cap ∧ l.length ≤ maxLen ∧ SgsIn W a l ∧ ∀ s ∈ l, s.fit := by
  rcases open_slice Tryz.underlying31 h with ⟨hcs, _⟩ | ⟨x, len, cap, m, n, D, Pl, hcs, _, hl, hm, hmm, hx, hi⟩
  · simp only [List.cons.injEq, and_true] at hcs
    subst hcs
    exact ⟨[], none, 0, rfl, by simp, SgsIn.nil _ _, fun r hr => by simp at hr⟩
  · simp only [List.cons.injEq, and_true] at hcs
    subst hcs
    simp only [if_true] at hmm
    subst hmm
    rw [cellsSegN] at hi
    have hex : ∀ i, i < len → ∃ o : Sg, o.fit ∧ W.cell? (x.add (i * 3)) = some (.int .i64 o.n) ∧ W.cell? (x.add (i * 3 + 1)) = some (.int .i64 o.size) ∧ W.cell? (x.add (i * 3 + 2)) = some (.int .u32 o.sum) := fun i hil => by
      obtain ⟨cs, hc, hd⟩ := hi i (by omega)
      obtain ⟨_, hcl, hat⟩ := World.cells?_some hc
      obtain ⟨c0, c1, c2, rfl⟩ : ∃ c0 c1 c2, cs = [c0, c1, c2] := by
        match cs, hcl with
        | [c0, c1, c2], _ => exact ⟨c0, c1, c2, rfl⟩
      obtain ⟨o, ho, rfl, rfl, rfl⟩ := seg_of_cells hd
      have e0 := hat 0 (by omega)
      have e1 := hat 1 (by omega)
      have e2 := hat 2 (by omega)
      rw [add_addN] at e0 e1 e2
      exact ⟨o, ho, e0, e1, e2⟩
    obtain ⟨f, hf2⟩ := choose_lt hex
    refine ⟨(List.range len).map f, some x, m, by simp, by simp; omega, fun i hi2 => ?_, fun r hr => ?_⟩
    · have hil : i < len := by simpa using hi2
      obtain ⟨b, off, spot⟩ := x
      have hs : spot = none := by simpa [Addr.add] using World.cell?_spot (hf2 0 (by omega)).2.1
      subst hs
      obtain ⟨_, e0, e1, e2⟩ := hf2 i hil
      simp only [Addr.add_lit] at e0 e1 e2
      simp only [List.getElem_map, List.getElem_range]
      exact ⟨b, off, rfl, World.block_lt_of_cell? _ _ e0, e0, e1, e2⟩
    · obtain ⟨i, hi3, rfl⟩ := List.mem_map.1 hr
      exact (hf2 i (List.mem_range.1 hi3)).1

set_option maxRecDepth 100000 in
theorem open_mf {r : Reach} {b0 : Nat} {v : Value} {d : DataW H} {p : List MemPlace}
    (hv : Value.okWide Tryz.prog W r b0 33 v) (h : DataW.Trod enc Tryz.prog W 0 (fun _ => true) true 33 v d p) :
    ∃ (m : Mf) (a : Option Addr) (cap : Nat), v = mfV m.ver a m.segs.length cap ∧ m.segs.length ≤ maxLen ∧ SgsIn W a m.segs ∧ m.fit := by
  obtain ⟨⟨cs⟩, rfl, hsz⟩ := okWide_struct Tryz.underlying33 hv
  rw [cellsMfN] at hsz
  obtain ⟨c0, c1, rfl⟩ : ∃ c0 c1, cs = [c0, c1] := by
    match cs, hsz with
    | [c0, c1], _ => exact ⟨c0, c1, rfl⟩
  obtain ⟨fuel, hf⟩ := h
  have hf : DataW.trod enc Tryz.prog W 0 (fun _ => true) true fuel 33 [c0, c1] = some (d, p) := by simpa [Value.cells] using hf
  obtain ⟨xs, m, _, _, _, hlen, hff⟩ := DataW.trod_struct Tryz.underlying33 hf
  obtain ⟨y0, y1, rfl⟩ : ∃ y0 y1, xs = [y0, y1] := by
    match xs, hlen with
    | [y0, y1], _ => exact ⟨y0, y1, rfl⟩
  have h0 := hff 0 _ rfl
  have h1 := hff 1 _ rfl
  simp [cellsIntN, cellsSegsN] at h0 h1
  obtain ⟨ver, e0, _, z0⟩ := DataW.trod_int Tryz.underlying3 h0
  simp only [List.cons.injEq, and_true] at e0
  obtain ⟨l, a, cap, rfl, g1, g2, g3⟩ := open_segs h1
  exact ⟨⟨ver, l⟩, a, cap, by rw [e0]; rfl, g1, g2, wf_i64 z0, g3⟩
end
end Go.Proofs.YtkdidinekoaobaaGreatDoor.J
