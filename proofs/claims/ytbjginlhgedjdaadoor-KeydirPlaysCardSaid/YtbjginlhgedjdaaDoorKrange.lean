/- The law's walk over all keys from one on, over what is asked of the program's iterator. -/
import Derived.Test.YtbjginlhgedjdaaDoorKawake
import Derived.Test.YtbjginlhgedjdaaDoorKrow
import Derived.RangeFuncNested
import Derived.RangeFuncBound
import Derived.RangeFuncCalls
import Derived.RangeFuncLeaves
import Derived.Shelf.Abstract
import Derived.Shelf.RegionOpen
import Derived.OwnWalkIn
import Derived.TacticsInMore
import Derived.LoopNIn
import Derived.LoopIn
import Derived.Maps.AppendAt
namespace Go.Proofs.YtbjginlhgedjdaaDoor.K
open Go.RowKit Go.Shelf
set_option linter.unusedVariables false
attribute [local go_sem] Oper.semAt_some

/-- What is handed to a round. -/
def encE (x : Ent Lc) : Array Value := #[.string (bs x.1), locV x.2]
/-- What a step of the other side leaves as it was: G: the blocks that are its own to turn, in a world; V: that world is one in which G can be told. -/
structure GTurn (G : World → Nat → Prop) (W W' : World) : Prop where
  os : W'.os = W.os
  tape : W'.tape = W.tape
  output : W'.output = W.output
  size : W.heap.size ≤ W'.heap.size
  same : ∀ q o, W.heap[q]? = some o → (o.isCells = true ∨ o.isWalk = true) → ¬ G W q → W'.heap[q]? = some o
  fresh : ∀ q, G W' q → G W q ∨ W.heap.size ≤ q
theorem GTurn.trans {G : World → Nat → Prop} {A B C : World} (h : GTurn G A B) (k : GTurn G B C) : GTurn G A C :=
  ⟨k.os.trans h.os, k.tape.trans h.tape, k.output.trans h.output, Nat.le_trans h.size k.size, fun q o ho hc hn => by
    refine k.same q o (h.same q o ho hc hn) hc (fun hg => ?_)
    rcases h.fresh q hg with g | g
    · exact hn g
    · have := (Array.getElem?_eq_some_iff.1 ho).1; omega,
   fun q hq => by
    rcases k.fresh q hq with g | g
    · exact h.fresh q g
    · exact Or.inr (Nat.le_trans h.size g)⟩
/-- The other side's blocks, as the iterator knows them. -/
structure Side (G : World → Nat → Prop) (V : World → Prop) : Prop where
  lt : ∀ W, V W → ∀ g, G W g → g < W.heap.size
  old : ∀ W W', V W → Below W.heap.size W W' → V W' ∧ ∀ g, G W' g → G W g
/-- What is asked of the program's From: gf is the function that its value names. -/
structure FromC (Pd : Nat → World → Nat → (Nat → Prop) → Dr → Prop) (gf : Nat) : Prop where
  enters : ∀ args w, (callFunc gf args).run Tryd.prog w = .ok (.enter gf args) w
  call : ∀ {B w pb F S n k} (G : World → Nat → Prop) (V : World → Prop), Side G V → Pd B w pb F S → Ml B w → Fit n S → n ≤ 150 → k.length ≤ 1000 → V w → (∀ g, G w g → B ≤ g ∧ ¬ F g) →
    Calls Tryd.prog 32 #[.pointer (some ⟨pb, 0, none⟩), .string (bs k)] w fun e w' => ∃ lb, e = .returned (.func (.func gf) #[] lb) ∧ Below w.heap.size w w' ∧
      ∀ (Kp : World → World → Prop), (∀ W W', Kp W W' → V W → V W' ∧ GTurn G W W') →
        SeqStopsK Fence.wide 9 Tryd.prog gf lb encE Kp (fun xs => xs = fromE S k) (fun pre => pre <+: fromE S k) (fromE S k).length w'

/-- The two boxes into which the rounds collect, and the rows that they hold. -/
def Rows2 (a : Nat) (W : World) (q : Nat) : Prop := (q = a ∨ q = a + 1) ∨ ∃ c, (c = a ∨ c = a + 1) ∧ ∃ n cap, W.cell? ⟨c, 0, none⟩ = some (.slice (some ⟨q, 0, none⟩) n cap)
def Told2 (a : Nat) (W : World) : Prop := a + 1 < W.heap.size ∧ ∀ q, Rows2 a W q → q < W.heap.size
theorem rows2_same {a : Nat} {W W' : World} (h0 : W'.heap[a]? = W.heap[a]?) (h1 : W'.heap[a + 1]? = W.heap[a + 1]?) (q : Nat) (h : Rows2 a W' q) : Rows2 a W q := by
  rcases h with h | ⟨c, hc, n, cap, hq⟩
  · exact Or.inl h
  · refine Or.inr ⟨c, hc, n, cap, ?_⟩
    rcases hc with rfl | rfl
    · rw [← World.cell?_of_block (w := W) (a := ⟨c, 0, none⟩) h0]; exact hq
    · rw [← World.cell?_of_block (w := W) (a := ⟨a + 1, 0, none⟩) h1]; exact hq
theorem side2 (a : Nat) : Side (Rows2 a) (Told2 a) :=
  ⟨fun W h => h.2, fun W W' h hb => by
    have hr := rows2_same (a := a) (hb.block a (by have := h.1; omega)) (hb.block (a + 1) h.1)
    exact ⟨⟨Nat.lt_of_lt_of_le h.1 hb.size, fun q hq => Nat.lt_of_lt_of_le (h.2 q (hr q hq)) hb.size⟩, hr⟩⟩
/-- What a round keeps. -/
def Kp2 (a : Nat) (W W' : World) : Prop := Told2 a W → Told2 a W' ∧ GTurn (Rows2 a) W W'
theorem Kp2.trans {a : Nat} {A B C : World} (h : Kp2 a A B) (k : Kp2 a B C) : Kp2 a A C := fun hA => ⟨(k (h hA).1).1, (h hA).2.trans (k (h hA).1).2⟩
theorem Kp2.below {a : Nat} {W W' : World} (hb : Below W.heap.size W W') : Kp2 a W W' := fun h =>
  ⟨((side2 a).old W W' h hb).1, hb.os, hb.tape, hb.output, hb.size, fun q o ho _ _ => (hb.block q (Array.getElem?_eq_some_iff.1 ho).1).trans ho, fun q hq => Or.inl (((side2 a).old W W' h hb).2 q hq)⟩
theorem Kp2.put {a n5 : Nat} (ha : a + 1 < n5) (W : World) (l : Nat) (o o' : Obj) (hl : n5 ≤ l) (ho : W.heap[l]? = some o) (h1 : o.isCells = false) (h2 : o.isWalk = false) : Kp2 a W (W.putObj l o') := fun h => by
  have g := grownBy_putObj' W l o'
  have hr := rows2_same (a := a) (W := W) (W' := W.putObj l o') (World.putObj_heap_other (by omega)) (World.putObj_heap_other (by omega))
  refine ⟨⟨Nat.lt_of_lt_of_le h.1 g.size, fun q hq => Nat.lt_of_lt_of_le (h.2 q (hr q hq)) g.size⟩, g.os, g.tape, g.output, g.size, fun q o2 ho2 hc _ => ?_, fun q hq => Or.inl (hr q hq)⟩
  have hne : q ≠ l := fun e => by
    subst e
    rw [ho] at ho2; cases ho2
    rcases hc with hc | hc
    · rw [h1] at hc; cases hc
    · rw [h2] at hc; cases hc
  rw [World.putObj_heap_other hne]; exact ho2
/-- A row that box c holds grows, or a new one is laid, and box c takes it. -/
theorem Kp2.app {a c : Nat} (hc : c = a ∨ c = a + 1) {W w1 : World} {tmp : Obj} {v v' : Value} {t e : TypeId} {n m size B : Nat} {xs ys : List Value} (hv : Boxed W c t v) (hrow : W.ownsRow B e size v n xs) (hown' : w1.ownsRow B e size v' m ys) (hv1 : Boxed w1 c t v)
    (hgrow : (W.alloc tmp).grownBy w1 v.ownBlock) (hf : v'.ownBlock = v.ownBlock ∨ v'.ownBlock = some (W.alloc tmp).heap.size) (hot : ∀ j, j = a ∨ j = a + 1 → j ≠ c → some j ≠ v.ownBlock) : Kp2 a W (w1.setCell ⟨c, 0, none⟩ v') := fun h => by
  have hz : W.heap.size ≤ w1.heap.size := by have := hgrow.size; rw [World.size_alloc] at this; omega
  have hel : ∀ j, j < W.heap.size → some j ≠ v.ownBlock → j ≠ c → (w1.setCell ⟨c, 0, none⟩ v').heap[j]? = W.heap[j]? := fun j hj h1 h2 => by
    rw [Below.heap_setCell _ _ _ _ h2, hgrow.block j (by rw [World.size_alloc]; omega) h1, Below.heap_alloc W _ j hj]
  have hb' := hv1.set v'
  have hal : ∀ j, j = a ∨ j = a + 1 → j < W.heap.size := fun j hj => by have := h.1; omega
  have hnm : ∀ {v : Value} {W : World} {xs : List Value} {n B : Nat} (q : Nat), W.ownsRow B e size v n xs → v.ownBlock = some q → ∃ cap, v = .slice (some ⟨q, 0, none⟩) n cap := fun {v W xs n B} q hr hq => by
    rcases hr.2 with ⟨rfl, _⟩ | ⟨g, cap, cur, rfl, _⟩
    · simp [Value.ownBlock] at hq
    · obtain rfl : g = q := by simpa [Value.ownBlock] using hq
      exact ⟨cap, rfl⟩
  have hfr : ∀ q, Rows2 a (w1.setCell ⟨c, 0, none⟩ v') q → Rows2 a W q ∨ (q = (W.alloc tmp).heap.size ∧ v'.ownBlock = some q) := fun q hq => by
    rcases hq with hq | ⟨d, hd, n', cap, hq⟩
    · exact Or.inl (Or.inl hq)
    · by_cases hdc : d = c
      · subst hdc
        rw [hb'.cell] at hq
        cases hq
        have hob : (Value.slice (some ⟨q, 0, none⟩) n' cap).ownBlock = some q := rfl
        rcases hf with hf | hf
        · rw [hob] at hf
          obtain ⟨cap', rfl⟩ := hnm q hrow hf.symm
          exact Or.inl (Or.inr ⟨d, hd, _, _, hv.cell⟩)
        · rw [hob] at hf
          exact Or.inr ⟨Option.some.inj hf, rfl⟩
      · have := hel d (hal d hd) (hot d hd hdc) hdc
        refine Or.inl (Or.inr ⟨d, hd, n', cap, ?_⟩)
        rw [← World.cell?_of_block (w := W) (a := ⟨d, 0, none⟩) this]; exact hq
  have hsz : (w1.setCell ⟨c, 0, none⟩ v').heap.size = w1.heap.size := by simp
  refine ⟨⟨by rw [hsz]; have := h.1; omega, fun q hq => ?_⟩, ?_, ?_, ?_, by rw [hsz]; exact hz, fun q o ho _ hn => ?_, fun q hq => ?_⟩
  · rw [hsz]
    rcases hfr q hq with g | ⟨rfl, g⟩
    · have := h.2 q g; omega
    · exact (hown'.lt _ g).2
  · exact hgrow.os
  · exact hgrow.tape
  · exact hgrow.output
  · have hql := (Array.getElem?_eq_some_iff.1 ho).1
    rw [hel q hql (fun e2 => ?_) (fun e2 => hn (Or.inl (e2 ▸ hc)))]
    · exact ho
    · obtain ⟨cap, rfl⟩ := hnm q hrow e2.symm
      exact hn (Or.inr ⟨c, hc, _, _, hv.cell⟩)
  · rcases hfr q hq with g | ⟨rfl, _⟩
    · exact Or.inl g
    · exact Or.inr (by rw [World.size_alloc]; omega)

theorem rowForm {w : World} {B : Nat} {e : TypeId} {size : Nat} {v : Value} {n : Nat} {xs : List Value} (h : w.ownsRow B e size v n xs) : ∃ a c, v = .slice a n c := by
  rcases h with ⟨_, ⟨rfl, rfl⟩ | ⟨g, cap, cur, rfl, _, hg, _⟩⟩
  · exact ⟨none, 0, rfl⟩
  · exact ⟨_, cap, rfl⟩
/-- What has been collected, between two rounds: n5: the heap's size when the walk over the iterator began. -/
structure Pack (w : World) (n5 : Nat) (W : World) (p q : List (Ent Lc)) : Prop where
  out : ∃ v, Boxed W (w.heap.size + 2) 38 v ∧ W.ownsRow n5 9 1 v p.length (strs (p.map Prod.fst))
  loc : ∃ v, Boxed W (w.heap.size + 3) 46 v ∧ W.ownsRow n5 31 4 v q.length (lflat (q.map Prod.snd))
  b4 : Boxed W w.heap.size 38 (.slice none 0 0)
  b5 : Boxed W (w.heap.size + 1) 46 (.slice none 0 0)
  bel : Below w.heap.size w W
  big : w.heap.size + 4 ≤ n5 ∧ n5 ≤ W.heap.size
theorem row_kept {W W' : World} {n5 k size : Nat} {e : TypeId} {v : Value} {xs : List Value} {row : Option Nat} (h : W.ownsRow n5 e size v k xs) (hg : W.grownBy W' row) (hr : ∀ r, row = some r → ∀ (cs : Array Value), W.heap[r]? ≠ some (Obj.cells cs e (0, 0))) : W'.ownsRow n5 e size v k xs := by
  refine h.kept hg ?_
  rcases h.2 with ⟨rfl, _⟩ | ⟨g, cap, cur, rfl, _, hgb, _⟩
  · exact .inl rfl
  · exact .inr fun e' => hr g (by simpa [Value.ownBlock] using e'.symm) _ hgb
theorem Pack.kept {w W W' : World} {n5 : Nat} {p q : List (Ent Lc)} {row : Option Nat} (h : Pack w n5 W p q) (hg : W.grownBy W' row) (hr : ∀ r, row = some r → n5 ≤ r ∧ ∃ o : Obj, W.heap[r]? = some o ∧ o.isCells = false) : Pack w n5 W' p q := by
  obtain ⟨v, h1, h2⟩ := h.out
  obtain ⟨u, h3, h4⟩ := h.loc
  have hb := h.big
  have hno : ∀ r, row = some r → ∀ (cs : Array Value) (e : TypeId), W.heap[r]? ≠ some (Obj.cells cs e (0, 0)) := fun r e cs t hc => by
    obtain ⟨_, o, ho, hi⟩ := hr r e
    rw [hc] at ho; cases ho; cases hi
  have hlt : ∀ j, j < n5 → some j ≠ row := fun j hj e => by have := (hr j e.symm).1; omega
  exact ⟨⟨v, h1.kept hg (hlt _ (by omega)), row_kept h2 hg (fun r e cs => hno r e cs _)⟩, ⟨u, h3.kept hg (hlt _ (by omega)), row_kept h4 hg (fun r e cs => hno r e cs _)⟩, h.b4.kept hg (hlt _ (by omega)), h.b5.kept hg (hlt _ (by omega)),
    h.bel.grown hg h.bel.size (fun k e => by have := (hr k e).1; omega), hb.1, Nat.le_trans hb.2 hg.size⟩
/-- A block is laid, a row that is collected grows, its box takes it: what lies elsewhere. -/
theorem grown_set {W w1 : World} {tmp : Obj} {row : Option Nat} {B : Nat} {v' : Value} (hg : (W.alloc tmp).grownBy w1 row) {j : Nat} (hj : j < W.heap.size) (h1 : some j ≠ row) (h2 : j ≠ B) : (w1.setCell ⟨B, 0, none⟩ v').heap[j]? = W.heap[j]? := by
  rw [Below.heap_setCell _ _ _ _ h2, hg.block j (by rw [World.size_alloc]; omega) h1, Below.heap_alloc W _ j hj]
theorem not_of_type {W : World} {n5 k size : Nat} {e t : TypeId} {v : Value} {xs : List Value} {j : Nat} {cs : Array Value} (h : W.ownsRow n5 e size v k xs) (hj : W.heap[j]? = some (.cells cs t (0, 0))) (hne : t ≠ e) : some j ≠ v.ownBlock := by
  rcases h.2 with ⟨rfl, _⟩ | ⟨g, cap, cur, rfl, _, hgb, _⟩
  · simp [Value.ownBlock]
  · intro e'
    obtain rfl : j = g := by simpa [Value.ownBlock] using e'
    rw [hj] at hgb
    simp at hgb
    exact hne hgb.2
theorem row_elsewhere {W w2 : World} {n5 k size : Nat} {e : TypeId} {v : Value} {xs : List Value} (h : W.ownsRow n5 e size v k xs) (hk : ∀ (j : Nat) (cs : Array Value), W.heap[j]? = some (Obj.cells cs e (0, 0)) → w2.heap[j]? = W.heap[j]?) : w2.ownsRow n5 e size v k xs := by
  refine owns_kept h (fun g hg => ?_)
  rcases h.2 with ⟨rfl, _⟩ | ⟨g', cap, cur, rfl, _, hgb, _⟩
  · simp [Value.ownBlock] at hg
  · obtain rfl : g' = g := by simpa [Value.ownBlock] using hg
    exact hk _ _ hgb
theorem lflat_app : ∀ (a b : List Lc), lflat (a ++ b) = lflat a ++ lflat b
  | [], b => rfl
  | x :: r, b => by simp [lflat, lflat_app r b]
section
variable {w W w1 : World} {n5 : Nat} {p q : List (Ent Lc)} {x : Ent Lc} {v v' : Value} {tmp : Obj}
/-- Behind 'out = append(out, k)'. -/
theorem Pack.out_app (h : Pack w n5 W p q) (hv : Boxed W (w.heap.size + 2) 38 v) (hrow : W.ownsRow n5 9 1 v p.length (strs (p.map Prod.fst)))
    (hown' : w1.ownsRow n5 9 1 v' (p.length + 1) (strs (p.map Prod.fst) ++ [.string (bs x.1)])) (hgrow : (W.alloc tmp).grownBy w1 v.ownBlock) (hf : v'.ownBlock = v.ownBlock ∨ v'.ownBlock = some (W.alloc tmp).heap.size) :
    Boxed w1 (w.heap.size + 2) 38 v ∧ Pack w n5 (w1.setCell ⟨w.heap.size + 2, 0, none⟩ v') (p ++ [x]) q ∧ KeepsOthers W (w1.setCell ⟨w.heap.size + 2, 0, none⟩ v') ∧ Kp2 (w.heap.size + 2) W (w1.setCell ⟨w.heap.size + 2, 0, none⟩ v') ∧
      ∀ (j : Nat) (cs : Array Value) (t : TypeId), t ≠ 9 → t ≠ 38 → W.heap[j]? = some (Obj.cells cs t (0, 0)) → (w1.setCell ⟨w.heap.size + 2, 0, none⟩ v').heap[j]? = some (Obj.cells cs t (0, 0)) := by
  have hb := h.big
  have hne : 38 ≠ 9 := by decide
  have hv1 : Boxed w1 (w.heap.size + 2) 38 v := (hv.alloc tmp).kept hgrow (hv.not_row hne hrow)
  have hback : ∀ r, v.ownBlock = some r → n5 ≤ r ∧ r < W.heap.size := hrow.lt
  have hz : W.heap.size ≤ w1.heap.size := by have := hgrow.size; rw [World.size_alloc] at this; omega
  have hel : ∀ (j : Nat) (cs : Array Value) (t : TypeId), t ≠ 9 → t ≠ 38 → W.heap[j]? = some (Obj.cells cs t (0, 0)) → (w1.setCell ⟨w.heap.size + 2, 0, none⟩ v').heap[j]? = some (Obj.cells cs t (0, 0)) := fun j cs t h1 h2 hj => by
    rw [grown_set hgrow (Array.getElem?_eq_some_iff.1 hj).1 (not_of_type hrow hj h1) (fun e => by
      rw [e, show W.heap[w.heap.size + 2]? = _ from hv] at hj; simp at hj; exact h2 hj.2.symm)]
    exact hj
  have hlow : ∀ j, j < n5 → j ≠ w.heap.size + 2 → (w1.setCell ⟨w.heap.size + 2, 0, none⟩ v').heap[j]? = W.heap[j]? := fun j hj hj2 => grown_set hgrow (by omega) (fun e => by have := (hback j e.symm).1; omega) hj2
  have hsz : (w1.setCell ⟨w.heap.size + 2, 0, none⟩ v').heap.size = w1.heap.size := by simp
  obtain ⟨u, h3, h4⟩ := h.loc
  refine ⟨hv1, ⟨⟨v', hv1.set v', ?_⟩, ⟨u, (hlow _ (by omega) (by omega)).trans h3, row_elsewhere h4 (fun j cs hj => (hel j cs _ (by decide) (by decide) hj).trans hj.symm)⟩, (hlow _ (by omega) (by omega)).trans h.b4, (hlow _ (by omega) (by omega)).trans h.b5, ?_, hb.1, by rw [hsz]; omega⟩, ?_, ?_, hel⟩
  · have := hown'.kept (grownBy_setCell' w1 (w.heap.size + 2) v') (.inr (hv1.not_row hne hown').symm)
    simpa [strs] using this
  · have q1 := (Below.refl w.heap.size W).alloc h.bel.size tmp
    have q2 := q1.grown hgrow (by rw [World.size_alloc]; have := h.bel.size; omega) (fun j ej => by have := (hback j ej).1; omega)
    have q3 := q2.setCell (p := ⟨w.heap.size + 2, 0, none⟩) (by show w.heap.size ≤ w.heap.size + 2; omega) v'
    exact h.bel.trans q3
  · refine ((KeepsOthers.alloc W tmp).trans (KeepsOthers.of_grownBy hgrow fun j o ej hj => ?_)).trans (KeepsOthers.setCell _ _ _)
    rcases (hrow.alloc tmp).2 with ⟨rfl, _⟩ | ⟨g, cap, cur, rfl, _, hgb, _⟩
    · simp [Value.ownBlock] at ej
    · obtain rfl : g = j := by simpa [Value.ownBlock] using ej
      rw [hgb] at hj; cases hj; rfl
  · exact Kp2.app (Or.inl rfl) hv hrow hown' hv1 hgrow hf (fun j hj _ e => by have := (hback j e.symm).1; omega)
/-- Behind 'locs = append(locs, l)'. -/
theorem Pack.loc_app (h : Pack w n5 W p q) (hv : Boxed W (w.heap.size + 3) 46 v) (hrow : W.ownsRow n5 31 4 v q.length (lflat (q.map Prod.snd)))
    (hown' : w1.ownsRow n5 31 4 v' (q.length + 1) (lflat (q.map Prod.snd) ++ lflat [x.2])) (hgrow : (W.alloc tmp).grownBy w1 v.ownBlock) (hf : v'.ownBlock = v.ownBlock ∨ v'.ownBlock = some (W.alloc tmp).heap.size) :
    Boxed w1 (w.heap.size + 3) 46 v ∧ Pack w n5 (w1.setCell ⟨w.heap.size + 3, 0, none⟩ v') p (q ++ [x]) ∧ KeepsOthers W (w1.setCell ⟨w.heap.size + 3, 0, none⟩ v') ∧ Kp2 (w.heap.size + 2) W (w1.setCell ⟨w.heap.size + 3, 0, none⟩ v') ∧
      ∀ (j : Nat) (cs : Array Value) (t : TypeId), t ≠ 31 → t ≠ 46 → W.heap[j]? = some (Obj.cells cs t (0, 0)) → (w1.setCell ⟨w.heap.size + 3, 0, none⟩ v').heap[j]? = some (Obj.cells cs t (0, 0)) := by
  have hb := h.big
  have hne : 46 ≠ 31 := by decide
  have hv1 : Boxed w1 (w.heap.size + 3) 46 v := (hv.alloc tmp).kept hgrow (hv.not_row hne hrow)
  have hback : ∀ r, v.ownBlock = some r → n5 ≤ r ∧ r < W.heap.size := hrow.lt
  have hz : W.heap.size ≤ w1.heap.size := by have := hgrow.size; rw [World.size_alloc] at this; omega
  have hel : ∀ (j : Nat) (cs : Array Value) (t : TypeId), t ≠ 31 → t ≠ 46 → W.heap[j]? = some (Obj.cells cs t (0, 0)) → (w1.setCell ⟨w.heap.size + 3, 0, none⟩ v').heap[j]? = some (Obj.cells cs t (0, 0)) := fun j cs t h1 h2 hj => by
    rw [grown_set hgrow (Array.getElem?_eq_some_iff.1 hj).1 (not_of_type hrow hj h1) (fun e => by
      rw [e, show W.heap[w.heap.size + 3]? = _ from hv] at hj; simp at hj; exact h2 hj.2.symm)]
    exact hj
  have hlow : ∀ j, j < n5 → j ≠ w.heap.size + 3 → (w1.setCell ⟨w.heap.size + 3, 0, none⟩ v').heap[j]? = W.heap[j]? := fun j hj hj2 => grown_set hgrow (by omega) (fun e => by have := (hback j e.symm).1; omega) hj2
  have hsz : (w1.setCell ⟨w.heap.size + 3, 0, none⟩ v').heap.size = w1.heap.size := by simp
  obtain ⟨u, h3, h4⟩ := h.out
  refine ⟨hv1, ⟨⟨u, (hlow _ (by omega) (by omega)).trans h3, row_elsewhere h4 (fun j cs hj => (hel j cs _ (by decide) (by decide) hj).trans hj.symm)⟩, ⟨v', hv1.set v', ?_⟩, (hlow _ (by omega) (by omega)).trans h.b4, (hlow _ (by omega) (by omega)).trans h.b5, ?_, hb.1, by rw [hsz]; omega⟩, ?_, ?_, hel⟩
  · have := hown'.kept (grownBy_setCell' w1 (w.heap.size + 3) v') (.inr (hv1.not_row hne hown').symm)
    rw [List.map_append, lflat_app]; simpa using this
  · have q1 := (Below.refl w.heap.size W).alloc h.bel.size tmp
    have q2 := q1.grown hgrow (by rw [World.size_alloc]; have := h.bel.size; omega) (fun j ej => by have := (hback j ej).1; omega)
    have q3 := q2.setCell (p := ⟨w.heap.size + 3, 0, none⟩) (by show w.heap.size ≤ w.heap.size + 3; omega) v'
    exact h.bel.trans q3
  · refine ((KeepsOthers.alloc W tmp).trans (KeepsOthers.of_grownBy hgrow fun j o ej hj => ?_)).trans (KeepsOthers.setCell _ _ _)
    rcases (hrow.alloc tmp).2 with ⟨rfl, _⟩ | ⟨g, cap, cur, rfl, _, hgb, _⟩
    · simp [Value.ownBlock] at ej
    · obtain rfl : g = j := by simpa [Value.ownBlock] using ej
      rw [hgb] at hj; cases hj; rfl
  · exact Kp2.app (Or.inr rfl) hv hrow hown' hv1 hgrow hf (fun j hj _ e => by have := (hback j e.symm).1; omega)
end
/-- At the law's return. -/
theorem Pack.shut {w W W3 : World} {n5 D : Nat} {ys : List (Ent Lc)} {kv lv : Value} (h : Pack w n5 W ys ys) (hD : n5 ≤ D) (hr : W.ownsRow n5 9 1 kv ys.length (strs (ys.map Prod.fst))) (hr2 : W.ownsRow n5 31 4 lv ys.length (lflat (ys.map Prod.snd)))
    (hK : W.heap[D]? = some (.deferred (some []))) (hW : ((((W.setCell ⟨w.heap.size, 0, none⟩ kv).setCell ⟨w.heap.size + 1, 0, none⟩ lv).drew).putObj D (.deferred none)) = W3) :
    W3.cell? ⟨w.heap.size, 0, none⟩ = some kv ∧ W3.cell? ⟨w.heap.size + 1, 0, none⟩ = some lv ∧ Strs W3 w.heap.size kv (ys.map Prod.fst) ∧ Locs W3 w.heap.size lv (ys.map Prod.snd) ∧ Below w.heap.size w W3 := by
  have hb := h.big
  have g1 := grownBy_setCell' W w.heap.size kv
  have g2 := grownBy_setCell' (W.setCell ⟨w.heap.size, 0, none⟩ kv) (w.heap.size + 1) lv
  have g3 := grownBy_putObj' ((W.setCell ⟨w.heap.size, 0, none⟩ kv).setCell ⟨w.heap.size + 1, 0, none⟩ lv).drew D (.deferred none)
  have a4 : Boxed ((W.setCell ⟨w.heap.size, 0, none⟩ kv).setCell ⟨w.heap.size + 1, 0, none⟩ lv).drew w.heap.size 38 kv := show Boxed ((W.setCell ⟨w.heap.size, 0, none⟩ kv).setCell ⟨w.heap.size + 1, 0, none⟩ lv) w.heap.size 38 kv from (h.b4.set kv).kept g2 (fun e => by have := Option.some.inj e; omega)
  have c5 : Boxed (W.setCell ⟨w.heap.size, 0, none⟩ kv) (w.heap.size + 1) 46 (.slice none 0 0) := h.b5.kept g1 (fun e => by have := Option.some.inj e; omega)
  have a5 : Boxed ((W.setCell ⟨w.heap.size, 0, none⟩ kv).setCell ⟨w.heap.size + 1, 0, none⟩ lv).drew (w.heap.size + 1) 46 lv := c5.set lv
  have kD : ((W.setCell ⟨w.heap.size, 0, none⟩ kv).setCell ⟨w.heap.size + 1, 0, none⟩ lv).drew.heap[D]? = some (.deferred (some [])) := (((KeepsOthers.setCell W ⟨w.heap.size, 0, none⟩ kv).trans (KeepsOthers.setCell _ ⟨w.heap.size + 1, 0, none⟩ lv)).trans (KeepsOthers.drew _)).same D _ hK rfl
  have rk : ∀ {e : TypeId} {size k : Nat} {v : Value} {xs : List Value}, e ≠ 38 → e ≠ 46 → W.ownsRow n5 e size v k xs → W3.ownsRow n5 e size v k xs := fun {e size k v xs} e1 e2 hrow => by
    have q1 := row_kept hrow g1 (fun r er cs hc => by cases er; rw [show W.heap[w.heap.size]? = _ from h.b4] at hc; simp at hc; exact e1 hc.2.symm)
    have q2 := row_kept q1 g2 (fun r er cs hc => by cases er; rw [show (W.setCell ⟨w.heap.size, 0, none⟩ kv).heap[w.heap.size + 1]? = _ from c5] at hc; simp at hc; exact e2 hc.2.symm)
    have q3 : ((W.setCell ⟨w.heap.size, 0, none⟩ kv).setCell ⟨w.heap.size + 1, 0, none⟩ lv).drew.ownsRow n5 e size v k xs := q2
    rw [← hW]
    exact row_kept q3 g3 (fun r er cs hc => by cases er; rw [kD] at hc; cases hc)
  refine ⟨?_, ?_, ?_, ?_, ?_⟩
  · rw [← hW]; exact (a4.kept g3 (fun e => by have := Option.some.inj e; omega)).cell
  · rw [← hW]; exact (a5.kept g3 (fun e => by have := Option.some.inj e; omega)).cell
  · have := rk (by decide) (by decide) hr
    rw [← List.length_map (f := Prod.fst)] at this
    exact ss_base this (by omega)
  · have := rk (by decide) (by decide) hr2
    rw [← List.length_map (f := Prod.snd)] at this
    obtain ⟨h1, h2⟩ := this
    refine ⟨h1, h2.imp id ?_⟩
    rintro ⟨g, cap, cur, hv, hb', r⟩
    exact ⟨g, cap, cur, hv, by omega, r⟩
  · rw [← hW]
    exact (((h.bel.setCell (p := ⟨w.heap.size, 0, none⟩) (Nat.le_refl _) kv).setCell (p := ⟨w.heap.size + 1, 0, none⟩) (by show w.heap.size ≤ w.heap.size + 1; omega) lv).drew).grown g3 (by have := h.bel.size; simpa using this) (fun k e => by cases e; omega)
theorem infoStrK : (Tryd.prog.info? 9).map (fun i => (i.zero, i.size, i.bytes)) = some (some (.string ⟨#[]⟩), 1, 16) := by kernel_rfl
theorem infoLocK : (Tryd.prog.info? 31).map (fun i => (i.zero, i.size, i.bytes)) = some (some (.agg #[.int .i64 0, .int .i64 0, .int .i64 0, .int .u64 0]), 4, 32) := by kernel_rfl
theorem cell_four (w : World) (c0 c1 c2 c3 : Value) (t : TypeId) : ∀ j u, [c0, c1, c2, c3][j]? = some u → (w.alloc (.cells #[c0, c1, c2, c3] t)).cell? ((⟨w.heap.size, 0, none⟩ : Addr).add j) = some u := fun j u h => by
  rw [Addr.add_lit, Nat.zero_add, cell_of_row _ w.heap.size j _ _ (0, 0) (heap_alloc_new w _)]
  simpa using h
set_option maxRecDepth 100000 in
set_option maxHeartbeats 2000000 in
theorem keys_of {Pd : Nat → World → Nat → (Nat → Prop) → Dr → Prop} {gf : Nat} (hlt : ∀ {B w pb F S}, Pd B w pb F S → ∀ k, F k → B ≤ k ∧ k < w.heap.size) (hbase : ∀ {B w pb F S}, Pd B w pb F S → B ≤ w.heap.size)
    (hkept : ∀ {B w w' pb F G S}, Pd B w pb F S → Turn G w w' → (∀ k, k < w.heap.size → F k → ¬ G k) → Pd B w' pb F S) (CF : FromC Pd gf)
    {B : Nat} {w : World} {pb : Nat} {F : Nat → Prop} {S : Dr} {n : Nat} {k : List UInt8} (hd : Pd B w pb F S) (hm : Ml B w) (hf : Fit n S) (hn : n ≤ 150) (hk : k.length ≤ 1000) :
    Calls Tryd.prog 21 #[.pointer (some ⟨pb, 0, none⟩), .string (bs k)] w fun e w' =>
      ∃ kv lv, e = .returned (.tuple #[kv, lv]) ∧ Strs w' w.heap.size kv ((fromE S k).map Prod.fst) ∧ Locs w' w.heap.size lv ((fromE S k).map Prod.snd) ∧ Below w.heap.size w w' := by
  obtain ⟨W4, hW4⟩ : ∃ W4, W4 = (((w.alloc (.cells #[.slice none 0 0] 38)).alloc (.cells #[.slice none 0 0] 46)).alloc (.cells #[.slice none 0 0] 38)).alloc (.cells #[.slice none 0 0] 46) := ⟨_, rfl⟩
  have b4 : Boxed W4 w.heap.size 38 (.slice none 0 0) := by rw [hW4]; exact ((((Boxed.new w _ _).alloc _).alloc _).alloc _)
  have b5 : Boxed W4 (w.heap.size + 1) 46 (.slice none 0 0) := by
    have := ((Boxed.new (w.alloc (.cells #[.slice none 0 0] 38)) 46 (.slice none 0 0)).alloc (.cells #[.slice none 0 0] 38)).alloc (.cells #[.slice none 0 0] 46)
    rw [World.size_alloc] at this; rw [hW4]; exact this
  have b6 : Boxed W4 (w.heap.size + 2) 38 (.slice none 0 0) := by
    have := (Boxed.new ((w.alloc (.cells #[.slice none 0 0] 38)).alloc (.cells #[.slice none 0 0] 46)) 38 (.slice none 0 0)).alloc (.cells #[.slice none 0 0] 46)
    simp only [World.size_alloc] at this; rw [hW4]; exact this
  have b7 : Boxed W4 (w.heap.size + 3) 46 (.slice none 0 0) := by
    have := Boxed.new (((w.alloc (.cells #[.slice none 0 0] 38)).alloc (.cells #[.slice none 0 0] 46)).alloc (.cells #[.slice none 0 0] 38)) 46 (.slice none 0 0)
    simp only [World.size_alloc] at this; rw [hW4]; exact this
  have hB4 : Below w.heap.size w W4 := by rw [hW4]; exact ((((Below.refl _ w).alloc (Nat.le_refl _) _).alloc (by simp) _).alloc (by simp; omega) _).alloc (by simp; omega) _
  have hs4 : W4.heap.size = w.heap.size + 4 := by rw [hW4]; simp
  have hd4 := hkept hd (Turn.of_below (fun _ => False) hB4 (Nat.le_refl _)) (fun _ _ _ f => f)
  have hbw := hbase hd
  have hFl := hlt hd
  have hT4 : Told2 (w.heap.size + 2) W4 := ⟨by omega, fun q hq => by
    rcases hq with hq | ⟨c, hc, n', cap, hq⟩
    · omega
    · rcases hc with rfl | rfl
      · rw [b6.cell] at hq; cases hq
      · rw [b7.cell] at hq; cases hq⟩
  have hcall := CF.call (Rows2 (w.heap.size + 2)) (Told2 (w.heap.size + 2)) (side2 _) hd4 (Ml.kept hm (hB4.block _ (Nat.lt_of_lt_of_le hm.1 hbw)) (Nat.le_refl _)) hf hn hk hT4 (fun g hg => by
    rcases hg with hg | ⟨c, hc, n', cap, hg⟩
    · exact ⟨by omega, fun hF => by have := (hFl g hF).2; omega⟩
    · rcases hc with rfl | rfl
      · rw [b6.cell] at hg; cases hg
      · rw [b7.cell] at hg; cases hg)
  have hcn : (fromE S k).length ≤ 150 := by
    have h1 : (fromE S k).length ≤ (sre S).length := List.length_filter_le _ _
    rw [sre_len] at h1; have := hf.cn; omega
  clear hd hm hf hd4 hFl hlt hbase hkept
  refine (callsIn_wide (n := 10)).1 ?_
  refine callsIn_of_wp_marks Tryd.func21 rfl trivial ?_ rfl
  simp only [Tryd.ntmps21, List.size_toArray, List.length_cons, List.length_nil, Nat.reduceAdd, Nat.reduceSub, Array.replicate_succ, Array.replicate_zero, List.push_toArray, List.append_toArray, List.nil_append, List.cons_append]
  gi_wp2
  rw [← hW4]
  clear hW4
  refine ⟨trivial, (callsIn_wide (n := 9)).2 (hcall.mono ?_)⟩
  rintro e w5 ⟨lb, rfl, hb5, hseq⟩
  have hnf : ∀ W, (binOp BinOp.eql 68 (.func (.func gf) #[] lb) .nilFunc).run Tryd.prog W = .ok (.bool false) W := fun _ => by kernel_rfl
  gi_wp2
  have hn5 : w.heap.size + 4 ≤ w5.heap.size := by have := hb5.size; omega
  have hP0 : Pack w w5.heap.size w5 [] [] := ⟨⟨_, (hb5.block _ (by omega)).trans b6, World.ownsRow_nil _ _ _ _⟩, ⟨_, (hb5.block _ (by omega)).trans b7, World.ownsRow_nil _ _ _ _⟩, (hb5.block _ (by omega)).trans b4, (hb5.block _ (by omega)).trans b5, hB4.trans (hb5.mono hB4.size), hn5, Nat.le_refl _⟩
  generalize hE : fromE S k = E at *
  generalize hn5' : w5.heap.size = n5 at *
  clear hcall b4 b5 b6 b7 hB4 hs4
  refine wpIn_rangeFunc_ownH rfl (by omega) (gf := gf) (lb := lb) rfl trivial CF.enters (hseq (Kp2 (w.heap.size + 2)) (fun _ _ h => h)) (fun h1 h2 => h1.trans h2)
    (fun W l o o' hl h1 h2 h3 => Kp2.put (n5 := n5) (by omega) W l o o' (by omega) h1 h2 h3) (Below.refl _ _) (fun _ => rfl)
    (fun pre W => Pack w n5 W pre pre) (fun _ _ _ => False) (fun s W W' row h hg hr => h.kept hg (fun r e => by have := hr r e; exact ⟨by omega, this.2⟩)) (fun _ _ _ _ _ hs _ _ => hs) hP0
    (fun x a' W => ∃ Bx, n5 ≤ Bx ∧ W.heap[Bx]? = some (.cells #[.int .i64 x.2.seg, .int .i64 x.2.off, .int .i64 x.2.len, .int .u64 x.2.seq] 31 (0, 0)) ∧ a' = { tmps := #[.pointer (some ⟨pb, 0, none⟩), .string (bs k), undef, undef, .pointer (some ⟨w.heap.size, 0, none⟩), .pointer (some ⟨w.heap.size + 1, 0, none⟩), .pointer (some ⟨w.heap.size + 2, 0, none⟩), .pointer (some ⟨w.heap.size + 3, 0, none⟩), .func (.func gf) #[] lb, .string (bs x.1), .pointer (some ⟨Bx, 0, none⟩), .pointer (some ⟨pb, 0, none⟩), .string (bs k), .func (.func gf) #[] lb, .func (.func gf) #[] lb, .bool false, .func (.func gf) #[] lb, .string (bs x.1), .agg #[.int .i64 x.2.seg, .int .i64 x.2.off, .int .i64 x.2.len, .int .u64 x.2.seq], undef, undef, undef, undef, undef, undef, undef, undef, undef, undef, undef, undef, undef], defers := [] })
    (fun x a' _ X Y row hs hg hr => by
      obtain ⟨Bx, h1, h2, h3⟩ := hs
      refine ⟨Bx, h1, (hg.block Bx (Array.getElem?_eq_some_iff.1 h2).1 (fun e => ?_)).trans h2, h3⟩
      obtain ⟨o, ho, hc⟩ := (hr Bx e.symm).2
      rw [h2] at ho; cases ho; cases hc)
    ?assign ?body ?done ?stop
  case assign =>
    rintro l pre x W K hi hK
    simp only [encE, locV]
    gi_wp2
    exact hK _ _ ((KeepsOthers.alloc _ _).from _) (Kp2.below ((Below.refl _ _).alloc (Nat.le_refl _) _)) (hi.kept (World.grownBy_alloc _ _ none) (fun r e => by cases e)) ⟨W.heap.size, hi.big.2, heap_alloc_new W _, rfl⟩
  case body =>
    rintro l pre x a' W hl ⟨r, hr⟩ hP ⟨Bx, hBx, bX, rfl⟩ hlt
    obtain ⟨v, hv, hrow⟩ := hP.out
    obtain ⟨va, vc, rfl⟩ := rowForm hrow
    have hc := hv.cell
    have hpl : pre.length ≤ 150 := by omega
    obtain ⟨i0, hi, hz0, hz1, hz2⟩ := info_parts infoStrK
    obtain ⟨j0, hj, hy0, hy1, hy2⟩ := info_parts infoLocK
    have hbig := hP.big
    have hrow1 := hrow
    have hlm : (pre.map Prod.fst).length = pre.length := List.length_map ..
    gi_wp2_with (first
      | (gi_at_builtin; refine wpListIn_append_row _ rfl _ _ 38 rfl n5 9 i0 (.string ⟨#[]⟩) 1 16 Tryd.underlying38 hi hz0 hz1 hz2 (by omega) rfl _ _ _ rfl (hrow.alloc _) ⟨W.heap.size, 0, none⟩ 1 1 [.string (bs x.1)] rfl rfl (cell_one_new _ _ _) (by simp [Value.oneCell']) (by omega) (by simp; omega) ?_
         intro v' w1 hown' hgrow hfr
         obtain ⟨g', cap', rfl⟩ := ownsRow_succ hown'
         obtain ⟨hv1, hP2, hk2, hkp2, hel2⟩ := hP.out_app (x := x) hv hrow hown' hgrow hfr
         have hc1 := hv1.cell; have hf1 := hv1.frozen
         obtain ⟨u, hu, hrow2⟩ := hP2.loc
         obtain ⟨ua, uc, rfl⟩ := rowForm hrow2
         have c7 := hu.cell
         have hel := hel2 Bx _ _ (by decide) (by decide) bX
         have hcl := fun t => cell_of_row _ Bx t _ _ (0, 0) hel
         have e0 := hcl 0; have e1 := hcl 1; have e2 := hcl 2; have e3 := hcl 3
         simp only [List.getElem?_toArray, List.getElem?_cons_succ, List.getElem?_cons_zero] at e0 e1 e2 e3
         have hc4 := cell_four (w1.setCell ⟨w.heap.size + 2, 0, none⟩ (.slice (some ⟨g', 0, none⟩) (pre.length + 1) cap')) (.int .i64 x.2.seg) (.int .i64 x.2.off) (.int .i64 x.2.len) (.int .u64 x.2.seq) 31
         rw [World.size_setCell] at hc4
         have hz2 := hP2.big.2
         rw [World.size_setCell] at hz2)
      | (gi_at_builtin; refine wpListIn_append_row _ rfl _ _ 46 rfl n5 31 j0 (.agg #[.int .i64 0, .int .i64 0, .int .i64 0, .int .u64 0]) 4 32 Tryd.underlying46 hj hy0 hy1 hy2 (by omega) rfl _ _ _ rfl (hrow2.alloc _) ⟨w1.heap.size, 0, none⟩ 1 1 [.int .i64 x.2.seg, .int .i64 x.2.off, .int .i64 x.2.len, .int .u64 x.2.seq] rfl rfl hc4 (by simp [Value.oneCell']) (by omega) (by simp; omega) ?_
         intro v2 w2 hown2 hgrow2 hfr2
         obtain ⟨g2, cap2, rfl⟩ := ownsRow_succ hown2
         obtain ⟨hv2, hP3, hk3, hkp3, _⟩ := hP2.loc_app (x := x) hu hrow2 hown2 hgrow2 hfr2
         have hc2 := hv2.cell; have hf2 := hv2.frozen))
    exact ⟨(hk2.from _).trans (hk3.from _), hkp2.trans hkp3, hP3⟩
  case done =>
    rintro D ys W hD rfl hP hK
    have hD' : n5 ≤ D := by omega
    obtain ⟨v, hv, hrow⟩ := hP.out
    obtain ⟨u, hu, hrow2⟩ := hP.loc
    obtain ⟨va, vc, rfl⟩ := rowForm hrow
    obtain ⟨ua, uc, rfl⟩ := rowForm hrow2
    have hmix : Tryd.prog.follows .mixedOrders = true := by kernel_rfl
    have c6 := hv.cell; have c7 := hu.cell
    have c4 := hP.b4.cell; have c5 := hP.b5.cell
    have f4 := hP.b4.frozen; have f5 := hP.b5.frozen
    gi_wp2
    gi_region_with_o (fail)
    all_goals gi_wp2
    all_goals
      have hKD := (((KeepsOthers.setCell W ⟨w.heap.size, 0, none⟩ (.slice va ys.length vc)).trans (KeepsOthers.setCell _ ⟨w.heap.size + 1, 0, none⟩ (.slice ua ys.length uc))).trans (KeepsOthers.drew _)).same D _ hK rfl
      have hPF := hP.shut hD' hrow hrow2 hK rfl
      generalize (World.setCell (World.setCell W _ _) _ _).drew = W2 at *
      refine ⟨by simp, .inl ⟨_, _, rfl, run_takeDeferred hKD, ?_⟩⟩
      obtain ⟨d4, d5, r4, r5, hbe⟩ := hPF
      generalize W2.putObj D (.deferred none) = W3 at *
      refine ⟨.tuple #[.slice va ys.length vc, .slice ua ys.length uc], ?_, _, _, rfl, by rw [hE]; exact r4, by rw [hE]; exact r5, hbe⟩
      simp [results, Tryd.results21, go_sem, d4, d5]
  case stop =>
    rintro D c pre W _ _ h _
    exact h.elim
end Go.Proofs.YtbjginlhgedjdaaDoor.K
