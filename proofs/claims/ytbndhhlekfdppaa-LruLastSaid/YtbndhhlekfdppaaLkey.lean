/- A map of blocks to texts, as a law keeps one: what is held under which block. -/
import Derived.Test.YtbndhhlekfdppaaLawake
import Derived.Maps.OwnSet
import Derived.DeepKeys4
namespace Go.Proofs.Ytbndhhlekfdppaa.L
open Go.RowKit Go.Maps
set_option linter.unusedVariables false

theorem laidOutK : laidOutB Try.prog = true := by kernel_rfl
theorem blkLaw : WideMaps.KeyLaw Try.prog 32 := deep_law_laid laidOutK (m := 2) (by omega) (of_decide_eq_true (by kernel_rfl)) (by kernel_rfl) (by rw [Try.underlying32])
theorem blkKey : Keyed Try.prog 32 := Keyed.of_law blkLaw
/-- What such a key reads as. -/
def keyB (b : Bk) : Lit := .string (keyBytes [.int .i64 b.seg, .int .i64 b.n])
theorem keyLit (b : Bk) (h : b.fit) : keyOf Try.prog 32 (blkV b) = some (keyB b) := by
  have hkt : Try.prog.keyType 32 = true := by kernel_rfl
  have hc : Try.prog.cellsOf 32 = 2 := by kernel_rfl
  have hi : Try.prog.cellsOf 3 = 1 := by kernel_rfl
  obtain ⟨m, hm⟩ : ∃ m, Try.prog.types.size = m + 1 := ⟨Try.prog.types.size - 1, by have : 0 < Try.prog.types.size := of_decide_eq_true (by kernel_rfl); omega⟩
  have w1 : (Lit.int .i64 b.seg).wf = true := by have h1 := h.1; have : IntKind.i64.min ≤ b.seg ∧ b.seg ≤ IntKind.i64.max := h1; simpa [Lit.wf] using this
  have w2 : (Lit.int .i64 b.n).wf = true := by have h1 := h.2; have : IntKind.i64.min ≤ b.n ∧ b.n ≤ IntKind.i64.max := h1; simpa [Lit.wf] using this
  unfold keyOf
  simp only [Try.underlying32]
  rw [if_pos (by simp [hkt, Value.formed, Try.underlying32, blkV, hc]), hm]
  unfold Program.keyLits
  simp only [Try.underlying32, Value.cells, blkV]
  rw [if_pos (by rw [hc]; exact ⟨rfl, by kernel_rfl⟩)]
  simp [Program.keyLits, Try.underlying3, hi, w1, w2, keyB]
theorem keyB_lit (b : Bk) : WideAt.IsKeyLit (keyB b) := trivial
theorem blkV_inj {a b : Bk} (h : blkV a = blkV b) : a = b := by
  obtain ⟨s, n⟩ := a; obtain ⟨s', n'⟩ := b
  simp [blkV] at h
  rw [h.1, h.2]
theorem keyB_ne {a b : Bk} (ha : a.fit) (hb : b.fit) (h : a ≠ b) : keyB a ≠ keyB b := fun e =>
  h (blkV_inj (blkKey.inj (keyLit a ha) (by rw [e]; exact keyLit b hb)))

/-- An element of the map is told as it is. -/
def heldR (v : Value) : Option (DataW Value × List MemPlace) := some (.held v, [])
theorem heldR_ex {v u : Value} {ps : List MemPlace} (h : heldR v = some (.held u, ps)) : v = u := by
  simp [heldR] at h; exact h.1
theorem zeroText (w : World) : (zeroValue 9).run Try.prog w = .ok (.string (bs [])) w := by kernel_rfl
/-- The map in block mb has at most n entries and tells of each block the text f (none: the empty one). -/
def MapT (w : World) (mb n : Nat) (f : Bk → List UInt8) : Prop :=
  ∃ D : DataW Value, w.ownsMap Try.prog 32 heldR mb n D ∧ ∀ b : Bk, b.fit → D.atKey (keyB b) (.held (.string (bs []))) = .held (.string (bs (f b)))
theorem MapT.lt {w : World} {mb n : Nat} {f : Bk → List UInt8} (h : MapT w mb n f) : mb < w.heap.size := by
  obtain ⟨D, h, _⟩ := h
  exact h.lt
theorem MapT.kept {w w' : World} {mb n : Nat} {f : Bk → List UInt8} (h : MapT w mb n f) (hk : w'.heap[mb]? = w.heap[mb]?) : MapT w' mb n f := by
  obtain ⟨D, ⟨es, clock, hb, r⟩, r2⟩ := h
  exact ⟨D, ⟨es, clock, by rw [hk]; exact hb, r⟩, r2⟩
theorem mapT_new (w : World) : MapT (w.alloc (.map #[] 0)) w.heap.size 0 (fun _ => []) :=
  ⟨_, World.ownsMap_made w _ _ _, fun b hb => by simp [DataW.atKey]⟩
theorem MapT.look {w : World} {mb n : Nat} {f : Bk → List UInt8} (h : MapT w mb n f) {b : Bk} (hb : b.fit) :
    (Instr.lookup 46 (.map (some mb)) (blkV b) false).run Try.prog w = .ok (.string (bs (f b))) w := by
  obtain ⟨D, hD, hf⟩ := h
  obtain ⟨v, ps, hr, hv⟩ := hD.lookup blkKey Try.underlying46 (zeroText w) (zd := .held (.string (bs []))) (zp := []) rfl (keyLit b hb)
  rw [hf b hb] at hv
  rw [hr, heldR_ex hv]
theorem MapT.store {w : World} {mb n : Nat} {f : Bk → List UInt8} (h : MapT w mb n f) {b : Bk} (hb : b.fit) (s : List UInt8) (hn : n < maxLen) :
    ∃ w', (Instr.mapUpdate 46 (.map (some mb)) (blkV b) (.string (bs s))).run Try.prog w = .ok () w' ∧ MapT w' mb (n + 1) (fun c => if c = b then s else f c) ∧ w.grownBy w' (some mb) := by
  obtain ⟨D, hD, hf⟩ := h
  obtain ⟨w', hr, hown, hg⟩ := hD.update blkKey Try.underlying46 hn (keyLit b hb) (val := .string (bs s)) (d := .held (.string (bs s))) (ps := []) rfl
  refine ⟨w', hr, ⟨_, hown, fun c hc => ?_⟩, hg⟩
  dsimp only
  by_cases e : c = b
  · subst e
    rw [if_pos rfl]
    exact atKey_put_same hD.isMap (keyB_lit _) _ _
  · rw [if_neg e, atKey_put_other (keyB_ne hc hb e)]
    exact hf c hc
end Go.Proofs.Ytbndhhlekfdppaa.L
