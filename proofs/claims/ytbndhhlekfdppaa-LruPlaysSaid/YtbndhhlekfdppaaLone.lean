/- One cache of the program, and what a law keeps beside it: a map, some blocks that the cache never turns. -/
import Derived.Test.YtbndhhlekfdppaaLwas
namespace Go.Proofs.Ytbndhhlekfdppaa.L
open Go.RowKit Go.Maps
set_option linter.unusedVariables false

/-- Blocks that lie where a slice says, wherever it begins. -/
def Us (w : World) (a : Option Addr) (u : List Bk) : Prop := ∀ (i : Nat) (x : Bk), u[i]? = some x → ∃ g off, a = some ⟨g, off, none⟩ ∧ g < w.heap.size ∧ w.cell? ⟨g, off + i * 2, none⟩ = some (.int .i64 x.seg) ∧ w.cell? ⟨g, off + i * 2 + 1, none⟩ = some (.int .i64 x.n)
/-- The block in which it lies. -/
def At (a : Option Addr) (g : Nat) : Prop := ∃ off, a = some ⟨g, off, none⟩
theorem us_nil (w : World) (a : Option Addr) : Us w a [] := fun i x h => by simp at h
theorem Us.kept {w w' : World} {a : Option Addr} {u : List Bk} (h : Us w a u) (hs : w.heap.size ≤ w'.heap.size) (hk : ∀ g, At a g → w'.heap[g]? = w.heap[g]?) : Us w' a u := fun i x hx => by
  obtain ⟨g, off, h1, h2, h3, h4⟩ := h i x hx
  have hb := hk g ⟨off, h1⟩
  refine ⟨g, off, h1, Nat.lt_of_lt_of_le h2 hs, ?_, ?_⟩
  · rw [← h3]; simp [World.cell?, hb]
  · rw [← h4]; simp [World.cell?, hb]
theorem us_of_row {w : World} {B : Nat} {a : Option Addr} {n c : Nat} {u : List Bk} (h : Bks w B (.slice a n c) u) (hn : n = u.length) : Us w a u := fun i x hx => by
  obtain ⟨g, h1, _, h2, h3, h4⟩ := bks_at h hn hx
  exact ⟨g, 0, h1, h2, by rw [Nat.zero_add]; exact h3, by rw [Nat.zero_add]; exact h4⟩
theorem Us.drop1 {w : World} {g off : Nat} {u : List Bk} (h : Us w (some ⟨g, off, none⟩) u) : Us w (some ⟨g, off + 2, none⟩) (u.drop 1) := fun i x hx => by
  rw [List.getElem?_drop] at hx
  obtain ⟨g', off', h1, h2, h3, h4⟩ := h (1 + i) x hx
  cases h1
  refine ⟨g, off + 2, rfl, h2, ?_, ?_⟩
  · rw [← h3]; congr 2; omega
  · rw [← h4]; congr 2; omega

/-- Cl: blocks that are none of the cache's and not the map's. -/
structure Lst (Pc : Nat → World → Nat → (Nat → Prop) → Nat → List It → Prop) (B : Nat) (w1 w : World) (pb most mb n : Nat) (f : Bk → List UInt8) (S : List It) (Cl : Nat → Prop) : Prop where
  dir : ∃ F, Pc B w pb F most S ∧ ¬ F mb ∧ ∀ g, Cl g → g < w.heap.size ∧ ¬ F g ∧ g ≠ mb
  ok : Ok most S
  fit : Fits S
  most : 1 ≤ most ∧ most ≤ 64
  bel : Below w1.heap.size w1 w
  le : w1.heap.size ≤ B
  map : MapT w mb n f
  mbB : w1.heap.size ≤ mb
/-- What is clear is as it was. -/
structure Keep (Cl : Nat → Prop) (w w' : World) : Prop where
  size : w.heap.size ≤ w'.heap.size
  block : ∀ g, Cl g → w'.heap[g]? = w.heap[g]?
section
variable {Pc : Nat → World → Nat → (Nat → Prop) → Nat → List It → Prop} {B pb most mb n : Nat} {w1 w w' : World} {f : Bk → List UInt8} {S : List It} {Cl Cl' : Nat → Prop} {b : Bk}
theorem Lst.old (C : CacheC Pc) (h : Lst Pc B w1 w pb most mb n f S Cl) (hb : Below w.heap.size w w') : Lst Pc B w1 w' pb most mb n f S Cl := by
  obtain ⟨F, hd, h1, h2⟩ := h.dir
  exact ⟨⟨F, C.kept hd (Turn.of_below (fun _ => False) hb (Nat.le_refl _)) (fun _ _ _ f => f), h1, fun g hg => ⟨Nat.lt_of_lt_of_le (h2 g hg).1 hb.size, (h2 g hg).2⟩⟩, h.ok, h.fit, h.most,
    h.bel.trans (hb.mono h.bel.size), h.le, h.map.kept (hb.block _ h.map.lt), h.mbB⟩
/-- Other blocks are clear: some of those that were, and new ones. -/
theorem Lst.clear (C : CacheC Pc) (h : Lst Pc B w1 w pb most mb n f S Cl) (hb : Below w.heap.size w w') (hc : ∀ g, Cl' g → Cl g ∨ (w.heap.size ≤ g ∧ g < w'.heap.size)) : Lst Pc B w1 w' pb most mb n f S Cl' := by
  have h' := h.old C hb
  obtain ⟨F, hd, h1, h2⟩ := h.dir
  have hFl := C.lt hd
  refine ⟨⟨F, C.kept hd (Turn.of_below (fun _ => False) hb (Nat.le_refl _)) (fun _ _ _ f => f), h1, fun g hg => ?_⟩, h.ok, h.fit, h.most, h'.bel, h.le, h'.map, h.mbB⟩
  rcases hc g hg with k | ⟨k1, k2⟩
  · exact ⟨Nat.lt_of_lt_of_le (h2 g k).1 hb.size, (h2 g k).2⟩
  · exact ⟨k2, fun hf => by have := (hFl g hf).2; omega, fun e => by have := h.map.lt; omega⟩
/-- A clear block is written to, or a new one is made. -/
theorem Lst.row (C : CacheC Pc) (h : Lst Pc B w1 w pb most mb n f S Cl) {row : Option Nat} (hg : w.grownBy w' row) (hr : ∀ k, row = some k → Cl k ∧ w1.heap.size ≤ k) : Lst Pc B w1 w' pb most mb n f S Cl := by
  obtain ⟨F, hd, h1, h2⟩ := h.dir
  have t : Turn (fun k => row = some k) w w' := (Turn.refl _ w).grown hg (fun k hk => Or.inl hk)
  refine ⟨⟨F, C.kept hd t (fun k _ hf hk => (h2 k (hr k hk).1).2.1 hf), h1, fun g k => ⟨Nat.lt_of_lt_of_le (h2 g k).1 t.size, (h2 g k).2⟩⟩, h.ok, h.fit, h.most,
    h.bel.trans (t.below (fun k hk => (hr k hk).2) h.bel.size), h.le, h.map.kept (t.block _ h.map.lt (fun hk => (h2 mb (hr mb hk).1).2.2 rfl)), h.mbB⟩
theorem Lst.rowC (C : CacheC Pc) (h : Lst Pc B w1 w pb most mb n f S Cl) {row : Option Nat} (hg : w.grownBy w' row) (hr : ∀ k, row = some k → Cl k ∧ w1.heap.size ≤ k) (hc : ∀ g, Cl' g → Cl g ∨ (w.heap.size ≤ g ∧ g < w'.heap.size)) : Lst Pc B w1 w' pb most mb n f S Cl' := by
  have h' := h.row C hg hr
  obtain ⟨F, hd, h1, h2⟩ := h.dir
  have hFl := C.lt hd
  have t : Turn (fun k => row = some k) w w' := (Turn.refl _ w).grown hg (fun k hk => Or.inl hk)
  refine ⟨⟨F, C.kept hd t (fun k _ hf hk => (h2 k (hr k hk).1).2.1 hf), h1, fun g k => ?_⟩, h.ok, h.fit, h.most, h'.bel, h.le, h'.map, h.mbB⟩
  rcases hc g k with q | ⟨q1, q2⟩
  · exact ⟨Nat.lt_of_lt_of_le (h2 g q).1 t.size, (h2 g q).2⟩
  · exact ⟨q2, fun hf => by have := (hFl g hf).2; omega, fun e => by have := h.map.lt; omega⟩
theorem Lst.turn (C : CacheC Pc) {F : Nat → Prop} {r : Value} {l' : List It} {e : Ending} (h : Lst Pc B w1 w pb most mb n f S Cl) (hd : Pc B w pb F most S) (h1 : ¬ F mb) (h2 : ∀ g, Cl g → g < w.heap.size ∧ ¬ F g ∧ g ≠ mb)
    (hok : Ok most l') (hf : Fits l') (hp : PcPost Pc B w pb F most l' r e w') : e = .returned r ∧ Lst Pc B w1 w' pb most mb n f l' Cl ∧ Keep Cl w w' := by
  obtain ⟨he, F', hd', hF, t⟩ := hp
  have hFl := C.lt hd
  have hno : ∀ k, k < w.heap.size → ¬ F k → ¬ F' k := fun k hk hn hf => by
    rcases hF k hf with g | g
    · exact hn g
    · omega
  exact ⟨he, ⟨⟨F', hd', hno _ h.map.lt h1, fun g hg => ⟨Nat.lt_of_lt_of_le (h2 g hg).1 t.size, hno g (h2 g hg).1 (h2 g hg).2.1, (h2 g hg).2.2⟩⟩, hok, hf, h.most,
    h.bel.trans (t.below (fun k hk => Nat.le_trans h.le (hFl k hk).1) h.bel.size), h.le, h.map.kept (t.block _ h.map.lt h1), h.mbB⟩, t.size, fun g hg => t.block g (h2 g hg).1 (h2 g hg).2.1⟩
theorem Lst.get (C : CacheC Pc) (h : Lst Pc B w1 w pb most mb n f S Cl) (hb : b.fit) : Calls Try.prog 8 #[.pointer (some ⟨pb, 0, none⟩), blkV b] w fun e w' => e = .returned (.tuple #[.string (bs (textOf S b)), .bool (hasB S b)]) ∧ Lst Pc B w1 w' pb most mb n f (getS S b) Cl ∧ Keep Cl w w' := by
  obtain ⟨F, hd, h1, h2⟩ := h.dir
  exact (C.get hd h.ok h.most.2 h.fit hb).mono fun e w' hp => h.turn C hd h1 h2 (ok_get h.ok b) (fits_get h.fit b) hp
theorem Lst.put (C : CacheC Pc) (h : Lst Pc B w1 w pb most mb n f S Cl) (hb : b.fit) {s : List UInt8} (hs : s.length ≤ 9223372036854775807) : Calls Try.prog 10 #[.pointer (some ⟨pb, 0, none⟩), blkV b, .string (bs s)] w fun e w' => e = .returned (.tuple #[]) ∧ Lst Pc B w1 w' pb most mb n f (putS most S b s) Cl ∧ Keep Cl w w' := by
  obtain ⟨F, hd, h1, h2⟩ := h.dir
  exact (C.put hd h.ok h.most.1 h.most.2 h.fit hb hs).mono fun e w' hp => h.turn C hd h1 h2 (ok_put h.ok b s) (fits_put h.fit hb hs) hp
theorem Lst.blocks (C : CacheC Pc) (h : Lst Pc B w1 w pb most mb n f S Cl) : Calls Try.prog 15 #[.pointer (some ⟨pb, 0, none⟩)] w fun e w' => ∃ va vc, e = .returned (.slice va S.length vc) ∧ Bks w' w.heap.size (.slice va S.length vc) (S.map Prod.fst) ∧ Below w.heap.size w w' := by
  obtain ⟨F, hd, h1, h2⟩ := h.dir
  exact (C.blocks hd h.ok h.most.2 h.fit).mono fun e w' ⟨v, h1, h2, h3⟩ => by
    obtain ⟨va, vc, rfl⟩ := slice_form h2
    rw [List.length_map] at h1 h2
    exact ⟨va, vc, h1, h2, h3⟩
theorem Lst.store (C : CacheC Pc) (h : Lst Pc B w1 w pb most mb n f S Cl) (hb : b.fit) (s : List UInt8) (hn : n < maxLen) :
    ∃ w', (Instr.mapUpdate 46 (.map (some mb)) (blkV b) (.string (bs s))).run Try.prog w = .ok () w' ∧ Lst Pc B w1 w' pb most mb (n + 1) (fun c => if c = b then s else f c) S Cl ∧ Keep Cl w w' := by
  obtain ⟨F, hd, h1, h2⟩ := h.dir
  obtain ⟨w', hr, hm, hg⟩ := h.map.store hb s hn
  have t : Turn (fun k => some mb = some k) w w' := (Turn.refl _ w).grown hg (fun k hk => Or.inl hk)
  refine ⟨w', hr, ⟨⟨F, C.kept hd t (fun k _ hf hk => h1 (by injection hk with hk; rw [hk]; exact hf)), h1, fun g k => ⟨Nat.lt_of_lt_of_le (h2 g k).1 t.size, (h2 g k).2⟩⟩, h.ok, h.fit, h.most,
    h.bel.trans (t.below (fun k hk => by injection hk with hk; rw [← hk]; exact h.mbB) h.bel.size), h.le, hm, h.mbB⟩, t.size, fun g hg => t.block g (h2 g hg).1 (fun hk => (h2 g hg).2.2 (by injection hk with hk; exact hk.symm))⟩
theorem lst_new (C : CacheC Pc) {w2 : World} {F : Nat → Prop} (hm : 1 ≤ most ∧ most ≤ 64) (hd : Pc w1.heap.size w2 pb F most []) (hb : Below w1.heap.size w1 w2) :
    Lst Pc w1.heap.size w1 (w2.alloc (.map #[] 0)) pb most w2.heap.size 0 (fun _ => []) [] (fun _ => False) := by
  have hFl := C.lt hd
  have hb3 : Below w2.heap.size w2 (w2.alloc (.map #[] 0)) := (Below.refl _ _).alloc (Nat.le_refl _) _
  exact ⟨⟨F, C.kept hd (Turn.of_below (fun _ => False) hb3 (Nat.le_refl _)) (fun _ _ _ f => f), fun hf => by have := (hFl _ hf).2; omega, fun g hg => hg.elim⟩, ok_nil _, fits_nil, hm, hb.trans (hb3.mono hb.size), Nat.le_refl _, mapT_new w2, hb.size⟩
end
end Go.Proofs.Ytbndhhlekfdppaa.L
