/- The iterator's side of a walk over keys: what it knows of its own blocks across a round. -/
import Derived.Test.YtbjginlhgedjdaaDoorKrange
namespace Go.Proofs.YtbjginlhgedjdaaDoor.K
open Go.RowKit Go.Shelf
set_option linter.unusedVariables false

section
variable {G : World → Nat → Prop} {V : World → Prop} {W W' : World} {k : Nat} {o : Obj}
/-- A block of mine: it is there, and none of the other side's. -/
def Mine (G : World → Nat → Prop) (W : World) (k : Nat) (o : Obj) : Prop := W.heap[k]? = some o ∧ (o.isCells = true ∨ o.isWalk = true) ∧ ¬ G W k
theorem Mine.round (h : Mine G W k o) (g : GTurn G W W') : Mine G W' k o :=
  ⟨g.same k o h.1 h.2.1 h.2.2, h.2.1, fun hg => by
    rcases g.fresh k hg with q | q
    · exact h.2.2 q
    · have := (Array.getElem?_eq_some_iff.1 h.1).1; omega⟩
theorem Mine.old (hS : Side G V) (hV : V W) (h : Mine G W k o) (hb : Below W.heap.size W W') : Mine G W' k o :=
  ⟨(hb.block k (Array.getElem?_eq_some_iff.1 h.1).1).trans h.1, h.2.1, fun hg => h.2.2 ((hS.old W W' hV hb).2 k hg)⟩
/-- What is laid anew is mine. -/
theorem Mine.new (hS : Side G V) (hV : V W) (hb : Below W.heap.size W W') (hk : W.heap.size ≤ k) (ho : W'.heap[k]? = some o) (hc : o.isCells = true ∨ o.isWalk = true) : Mine G W' k o :=
  ⟨ho, hc, fun hg => by have := hS.lt W hV k ((hS.old W W' hV hb).2 k hg); omega⟩
theorem Side.later (hS : Side G V) (hV : V W) (hb : Below W.heap.size W W') : V W' := (hS.old W W' hV hb).1
/-- A row that is mine. -/
def MineRow (G : World → Nat → Prop) (W : World) (B : Nat) (e : TypeId) (size : Nat) (v : Value) (n : Nat) (xs : List Value) : Prop := W.ownsRow B e size v n xs ∧ ∀ g, v.ownBlock = some g → ¬ G W g
theorem MineRow.round {B : Nat} {e : TypeId} {size n : Nat} {v : Value} {xs : List Value} (h : MineRow G W B e size v n xs) (g : GTurn G W W') : MineRow G W' B e size v n xs := by
  have hc : ∀ q, v.ownBlock = some q → ∃ cs, W.heap[q]? = some (.cells cs e (0, 0)) := fun q hq => by
    rcases h.1.2 with ⟨rfl, _⟩ | ⟨q', cap, cur, rfl, _, hgb, _⟩
    · simp [Value.ownBlock] at hq
    · obtain rfl : q' = q := by simpa [Value.ownBlock] using hq
      exact ⟨cur, hgb⟩
  refine ⟨owns_kept h.1 (fun q hq => ?_), fun q hq => ?_⟩
  · obtain ⟨cs, hcs⟩ := hc q hq
    rw [g.same q _ hcs (Or.inl rfl) (h.2 q hq), hcs]
  · obtain ⟨cs, hcs⟩ := hc q hq
    exact (Mine.round (o := .cells cs e (0, 0)) ⟨hcs, Or.inl rfl, h.2 q hq⟩ g).2.2
theorem MineRow.old {B : Nat} {e : TypeId} {size n : Nat} {v : Value} {xs : List Value} (hS : Side G V) (hV : V W) (h : MineRow G W B e size v n xs) (hb : Below W.heap.size W W') : MineRow G W' B e size v n xs :=
  ⟨owns_kept h.1 (fun q hq => hb.block q (h.1.lt q hq).2), fun q hq hg => h.2 q hq ((hS.old W W' hV hb).2 q hg)⟩
theorem MineRow.new {e : TypeId} {size n : Nat} {v : Value} {xs : List Value} (hS : Side G V) (hV : V W) (hb : Below W.heap.size W W') (h : W'.ownsRow W.heap.size e size v n xs) : MineRow G W' W.heap.size e size v n xs :=
  ⟨h, fun q hq hg => by have := hS.lt W hV q ((hS.old W W' hV hb).2 q hg); have := (h.lt q hq).1; omega⟩
/-- The directory's blocks across a round. -/
structure MineDir (Pd : Nat → World → Nat → (Nat → Prop) → Dr → Prop) (G : World → Nat → Prop) (B : Nat) (W : World) (pb : Nat) (F : Nat → Prop) (S : Dr) : Prop where
  dir : Pd B W pb F S
  mul : Ml B W
  kind : ∀ k, F k → ∃ o : Obj, W.heap[k]? = some o ∧ (o.isCells = true ∨ o.isWalk = true)
  no : ∀ k, F k → ¬ G W k
  low : ∀ g, G W g → B ≤ g
variable {Pd : Nat → World → Nat → (Nat → Prop) → Dr → Prop} {B pb : Nat} {F : Nat → Prop} {S : Dr}
theorem MineDir.round (hkept : ∀ {B w w' pb F G S}, Pd B w pb F S → Turn G w w' → (∀ k, k < w.heap.size → F k → ¬ G k) → Pd B w' pb F S) (hbase : B ≤ W.heap.size) (h : MineDir Pd G B W pb F S) (g : GTurn G W W') : MineDir Pd G B W' pb F S := by
  have t : Turn (fun q => ¬ F q) W W' := ⟨g.os, g.tape, g.output, g.size, fun k _ hn => by
    have hF : F k := Classical.not_not.1 hn
    obtain ⟨o, ho, hc⟩ := h.kind k hF
    rw [g.same k o ho hc (h.no k hF), ho]⟩
  have hm : W'.heap[0]? = W.heap[0]? := by
    have hlt := h.mul.1
    obtain ⟨_, t', fz, ho⟩ := h.mul
    rw [g.same _ _ ho (Or.inl rfl) (fun hg => by have := h.low _ hg; omega), ho]
  refine ⟨hkept h.dir t (fun k _ hF hn => hn hF), Ml.kept h.mul hm (Nat.le_refl _), fun k hF => ?_, fun k hF hg => ?_, fun q hq => ?_⟩
  · obtain ⟨o, ho, hc⟩ := h.kind k hF
    exact ⟨o, g.same k o ho hc (h.no k hF), hc⟩
  · obtain ⟨o, ho, hc⟩ := h.kind k hF
    exact (Mine.round (o := o) ⟨ho, hc, h.no k hF⟩ g).2.2 hg
  · rcases g.fresh q hq with e | e
    · exact h.low q e
    · omega
theorem MineDir.old (hkept : ∀ {B w w' pb F G S}, Pd B w pb F S → Turn G w w' → (∀ k, k < w.heap.size → F k → ¬ G k) → Pd B w' pb F S) (hS : Side G V) (hV : V W) (h : MineDir Pd G B W pb F S) (hb : Below W.heap.size W W') : MineDir Pd G B W' pb F S := by
  refine ⟨hkept h.dir (Turn.of_below (fun _ => False) hb (Nat.le_refl _)) (fun _ _ _ f => f), Ml.new h.mul hb, fun k hF => ?_, fun k hF hg => h.no k hF ((hS.old W W' hV hb).2 k hg), fun q hq => h.low q ((hS.old W W' hV hb).2 q hq)⟩
  obtain ⟨o, ho, hc⟩ := h.kind k hF
  exact ⟨o, (hb.block k (Array.getElem?_eq_some_iff.1 ho).1).trans ho, hc⟩
end
end Go.Proofs.YtbjginlhgedjdaaDoor.K
