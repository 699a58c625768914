/- SegmentPlays: entries that a call makes of its records; blocks that are watched beside. -/
import Derived.Test.YtmekkbhblghbmaaGreatDoorSpstep
import Derived.Test.YtmekkbhblghbmaaGreatDoorStnmem
namespace Go.Proofs.YtmekkbhblghbmaaGreatDoor
open Go.RowKit
set_option linter.unusedVariables false

/-- The entry that is made of a record. -/
def hme (m : Int) (i : Nat) (r : Rc) : Et := ⟨r.k, m, (i : Int) + 1, r.q, r.g⟩
def hmk (m : Int) (l : List Rc) : Nat → List Et
  | 0 => []
  | i + 1 => hmk m l i ++ (match l[i]? with
    | none => []
    | some r => [hme m i r])
theorem hmk_next (m : Int) (l : List Rc) (i : Nat) (h : i < l.length) : hmk m l (i + 1) = hmk m l i ++ [hme m i l[i]] := by
  rw [hmk, List.getElem?_eq_getElem h]
theorem hmk_len (m : Int) (l : List Rc) : ∀ i, i ≤ l.length → (hmk m l i).length = i
  | 0, _ => rfl
  | i + 1, h => by rw [hmk_next m l i (by omega), List.length_append, hmk_len m l i (by omega)]; rfl
theorem hmk_fit (m : Int) (l : List Rc) (hm : -9223372036854775808 ≤ m ∧ m ≤ 9223372036854775807) (hl : l.length ≤ 40) (hc : ∀ r ∈ l, Came r) : ∀ i, i ≤ l.length → EFits (hmk m l i)
  | 0, _ => fun e he => by simp [hmk] at he
  | i + 1, h => fun e he => by
    rw [hmk_next m l i (by omega)] at he
    rcases List.mem_append.1 he with he | he
    · exact hmk_fit m l hm hl hc i (by omega) e he
    · rw [List.mem_singleton] at he
      subst he
      have h1 := (hc _ (List.getElem_mem (show i < l.length by omega))).fits
      exact ⟨h1.2.1, hm, ⟨by show (-9223372036854775808 : Int) ≤ (i : Int) + 1; omega, by show (i : Int) + 1 ≤ _; omega⟩, h1.1⟩

/-- New blocks may be watched, too. -/
theorem bo8_new {B pb qb : Nat} {X : Nat → Prop} {Sd Sr : D.St} {w0 w : World} (h : D.Bo B w0 pb qb X Sd Sr) (hb : Below w0.heap.size w0 w) (Y : Nat → Prop) (hY : ∀ k, Y k → w0.heap.size ≤ k ∧ k < w.heap.size) : D.Bo B w pb qb (fun k => X k ∨ Y k) Sd Sr := by
  obtain ⟨F, lv, hd, hr, h1, h2⟩ := h
  refine ⟨F, lv, dkB hd hb, hr.below hb, h1, fun k hk => ?_⟩
  rcases hk with hk | hk
  · obtain ⟨a1, a2⟩ := h2 k hk
    exact ⟨Nat.lt_of_lt_of_le a1 hb.size, a2⟩
  · obtain ⟨y1, y2⟩ := hY k hk
    exact ⟨y2, fun hf => by have := (hd.lt hf).2; omega, fun e => by have := hr.lt.1; omega, fun e => by have := (hr.lt.2 k e).2; omega⟩

/-- The disks, with a call's own block and rows beside. -/
def PRows (W0 W1 Wr : World) (ob : Nat) (Y : Nat → Prop) (W : World) : Prop := PWatch W0 W1 ob W ∧ Wr.heap.size ≤ W.heap.size ∧ ∀ k, Y k → W.heap[k]? = Wr.heap[k]?
theorem PRows.drew {W0 W1 Wr W : World} {ob : Nat} {Y : Nat → Prop} (h : PRows W0 W1 Wr ob Y W) : PRows W0 W1 Wr ob Y W.drew := ⟨h.1.drew, h.2⟩
theorem PRows.fr {W0 W1 Wr W W' : World} {ob B : Nat} {X Y : Nat → Prop} (h : PRows W0 W1 Wr ob Y W) (k : D.Fr B X W W') (hX : X ob) (hY : ∀ k, Y k → X k) (hB : W0.heap.size ≤ B) (hs : W.heap.size ≤ W'.heap.size) : PRows W0 W1 Wr ob Y W' :=
  ⟨h.1.fr k hX hB, Nat.le_trans h.2.1 hs, fun i hi => (k.2 i (hY i hi)).trans (h.2.2 i hi)⟩
theorem PRows.ents {W0 W1 Wr W : World} {ob : Nat} {Y : Nat → Prop} {a : Option Addr} {l : List Et} (h : PRows W0 W1 Wr ob Y W) (he : EntsIn Wr a l) (hY : 0 < l.length → ∀ A, a = some A → Y A.block) : EntsIn W a l :=
  he.keep h.2.1 (fun h0 A hA => h.2.2 _ (hY h0 A hA))

/-- The entries that a write tells are no greater than a machine's. -/
theorem wrL_fit {S : D.St} (h : D.Good S) (n : Int) (l : List Rc) : EFits (wrL S n l) := by
  unfold wrL
  split
  · rename_i h0
    have hb := fileB_len h (sN n)
    have hg : segOk n ∧ good l = true := by
      unfold wrE at h0
      split at h0
      · assumption
      · omega
    intro e he
    obtain ⟨x, hx, rfl⟩ := List.mem_map.1 he
    have hlen := (fbs_len hg.2).2
    have h2 : (cat [l]).length = (fbs l).length := by simp [cat]
    obtain ⟨off, r, rfl, hr, ho⟩ := hof_le [l] 0 (fun x hx => by rw [List.mem_singleton] at hx; subst hx; exact hg.2) x hx
    have hf := ent_fit (off := off) hr (by omega)
    refine ⟨hf.1, ⟨?_, ?_⟩, hf.2.2⟩
    · show (-9223372036854775808 : Int) ≤ (off : Int) + ((fileB S (sN n)).length : Int)
      omega
    · show (off : Int) + ((fileB S (sN n)).length : Int) ≤ _
      omega
  · intro e he; cases he
theorem wrL_len {S : D.St} (n : Int) (l : List Rc) : (wrL S n l).length ≤ l.length := by
  unfold wrL
  split
  · rw [moved_len, hof_one_len]; exact Nat.le_refl _
  · simp
/-- Nothing that was there has turned. -/
def PNew (w W : World) : Prop := Below w.heap.size w W
theorem PNew.refl (w : World) : PNew w w := Below.refl _ _
theorem PNew.drew {w W : World} (h : PNew w W) : PNew w W.drew := Below.drew h
theorem PNew.on {w W W' : World} (h : PNew w W) (hb : Below W.heap.size W W') : PNew w W' := Below.trans h (hb.mono (Below.size h))

theorem PNew.alloc {w W : World} (h : PNew w W) (o : Obj) : PNew w (W.alloc o) := Below.alloc h (Below.size h) o

/-- A block that was laid ahead of a call is there behind it. -/
theorem new_kept {w W w' : World} {cs : Array Value} {T : TypeId} (hb : Below W.heap.size W w') (hW : W.heap = (w.alloc (.cells cs T)).heap) : w'.heap[w.heap.size]? = some (.cells cs T (0, 0)) := by
  have h1 := heap_alloc_new w (.cells cs T)
  rw [hb.block _ (by rw [hW]; simp), hW]
  exact h1
theorem fresh4 {W : World} {g : Nat} {a b c d : Value} {T : TypeId} (h : W.heap[g]? = some (.cells #[a, b, c, d] T (0, 0))) : (W.cell? ⟨g, 0, none⟩ = some a ∧ W.cell? ⟨g, 1, none⟩ = some b ∧ W.cell? ⟨g, 2, none⟩ = some c ∧ W.cell? ⟨g, 3, none⟩ = some d) ∧
    W.frozen? ⟨g, 0, none⟩ = false ∧ W.frozen? ⟨g, 1, none⟩ = false ∧ W.frozen? ⟨g, 2, none⟩ = false ∧ W.frozen? ⟨g, 3, none⟩ = false :=
  ⟨⟨by rw [Lib.cell_of_heap h]; rfl, by rw [Lib.cell_of_heap h]; rfl, by rw [Lib.cell_of_heap h]; rfl, by rw [Lib.cell_of_heap h]; rfl⟩, Lib.frozen_of_heap h 0, Lib.frozen_of_heap h 1, Lib.frozen_of_heap h 2, Lib.frozen_of_heap h 3⟩
theorem set4_block {W : World} {g : Nat} {a b c d : Value} {T : TypeId} (h : W.heap[g]? = some (.cells #[a, b, c, d] T (0, 0))) (v0 v1 v2 v3 : Value) :
    ((((W.setCell ⟨g, 0, none⟩ v0).setCell ⟨g, 1, none⟩ v1).setCell ⟨g, 2, none⟩ v2).setCell ⟨g, 3, none⟩ v3).heap[g]? = some (.cells #[v0, v1, v2, v3] T (0, 0)) :=
  heap_setCell_same _ _ 3 _ _ v3 (heap_setCell_same _ _ 2 _ _ v2 (heap_setCell_same _ _ 1 _ _ v1 (heap_setCell_same W _ 0 _ _ v0 h)))
theorem PNew.set4 {w W : World} (h : PNew w W) (v0 v1 v2 v3 : Value) : PNew w ((((W.setCell ⟨w.heap.size, 0, none⟩ v0).setCell ⟨w.heap.size, 1, none⟩ v1).setCell ⟨w.heap.size, 2, none⟩ v2).setCell ⟨w.heap.size, 3, none⟩ v3) := below_set4 h v0 v1 v2 v3

/-- Rows of other types lie apart. -/
theorem owns_apart {w : World} {B1 B2 T1 T2 n1 n2 k1 k2 : Nat} {u1 u2 : Value} {x1 x2 : List Value} (h1 : w.ownsRow B1 T1 n1 u1 k1 x1) (h2 : w.ownsRow B2 T2 n2 u2 k2 x2) (hT : T1 ≠ T2) : ∀ g, u1.ownBlock = some g → u2.ownBlock ≠ some g := by
  intro g hg1 hg2
  rcases h1.2 with ⟨rfl, _⟩ | ⟨g1, c1, cur1, rfl, _, hb1, _⟩
  · cases hg1
  · rcases h2.2 with ⟨rfl, _⟩ | ⟨g2, c2, cur2, rfl, _, hb2, _⟩
    · cases hg2
    · obtain rfl : g1 = g := Option.some.inj hg1
      obtain rfl : g2 = g1 := Option.some.inj hg2
      rw [hb1] at hb2
      injection hb2 with e
      injection e with _ e2 _
      exact hT e2
end Go.Proofs.YtmekkbhblghbmaaGreatDoor
