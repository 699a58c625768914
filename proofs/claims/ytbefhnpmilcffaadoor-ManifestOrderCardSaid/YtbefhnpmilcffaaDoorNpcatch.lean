/- The deferred function of decode, which recovers a panic; the two named results that it captures. -/
import Derived.Test.YtbefhnpmilcffaaDoorNpmath
import Derived.Defers
import Derived.Recover
namespace Go.Proofs.YtbefhnpmilcffaaDoor.J
open Go.RowKit
set_option linter.unusedVariables false
set_option linter.unusedSimpArgs false

set_option maxRecDepth 100000 in
theorem catch_idle (p q : Addr) (w : World) :
    CallsD Tryd.prog 45 #[.pointer (some p), .pointer (some q)] .returning w fun e u' w' => e = .returned (.tuple #[]) ∧ u' = .returning ∧ w' = w := by
  refine callsD_of_wpS Tryd.func45 rfl fun c₀ cs hu => ?_
  apply wpS_seq
  apply wpS_region
  simp [wpOpsS, go_sem, recoverD, hu, Tryd.ntmps45, Exit.thenS]
  refine wpS_cond (t := false) (by simp [Act.eval, Array.replicate]) ?_
  simp only [Bool.false_eq_true, if_false]
  refine wpS_of_wp (wp_skip ?_)
  cases c₀
  simp_all [bodyPostS, results, Tryd.results45]

/-- The two captured results are as the closure lays them. -/
def Caught (B g k : Nat) (w w' : World) : Prop := w'.heap[g]? = some (.cells #[.int .i64 0, .slice none 0 0] 24 (0, 0)) ∧ w'.heap[k]? = some (.cells #[.int .i64 2] 26 (0, 0)) ∧ Below B w w'

set_option maxRecDepth 100000 in
theorem catch_panicking (B g k : Nat) (u : TypeId) (pv c0 c1 d0 : Value) (older : List PanicEntry) (w : World)
    (hg : w.heap[g]? = some (.cells #[c0, c1] 24 (0, 0))) (hk : w.heap[k]? = some (.cells #[d0] 26 (0, 0))) (hgk : g ≠ k) (hBg : B ≤ g) (hBk : B ≤ k) :
    CallsD Tryd.prog 45 #[.pointer (some ⟨g, 0, none⟩), .pointer (some ⟨k, 0, none⟩)] (.panicking ({ v := .iface u pv, recovered := false } :: older)) w fun e u' w' =>
      e = .returned (.tuple #[]) ∧ u' = .panicking ({ v := .iface u pv, recovered := true } :: older) ∧ Caught B g k w w' := by
  obtain ⟨w3, hw3⟩ : ∃ w3, w3 = (((w.setCell ⟨g, 0, none⟩ (.int .i64 0)).setCell ⟨g, 1, none⟩ (.slice none 0 0)).setCell ⟨k, 0, none⟩ (.int .i64 2)) := ⟨_, rfl⟩
  have h1 := heap_setCell_same w g 0 _ _ (.int .i64 0) hg
  have h2 := heap_setCell_same _ g 1 _ _ (.slice none 0 0) h1
  have h3 : ((w.setCell ⟨g, 0, none⟩ (.int .i64 0)).setCell ⟨g, 1, none⟩ (.slice none 0 0)).heap[k]? = some (.cells #[d0] 26 (0, 0)) := by
    rw [Below.heap_setCell _ _ _ _ (by show k ≠ g; omega), Below.heap_setCell _ _ _ _ (by show k ≠ g; omega)]; exact hk
  have hC : Caught B g k w w3 := by
    rw [hw3]
    exact ⟨by rw [Below.heap_setCell _ _ _ _ (by show g ≠ k; omega)]; exact h2, heap_setCell_same _ k 0 _ _ (.int .i64 2) h3,
      (((Below.refl B w).setCell (p := ⟨g, 0, none⟩) hBg _).setCell (p := ⟨g, 1, none⟩) hBg _).setCell (p := ⟨k, 0, none⟩) hBk _⟩
  have q0 : w.cell? ⟨g, 0, none⟩ = some c0 := by simpa using cell_of_row w g 0 _ _ (0, 0) hg
  have q1 : (w.setCell ⟨g, 0, none⟩ (.int .i64 0)).cell? ⟨g, 1, none⟩ = some c1 := by simpa using cell_of_row _ g 1 _ _ (0, 0) h1
  have q2 : ((w.setCell ⟨g, 0, none⟩ (.int .i64 0)).setCell ⟨g, 1, none⟩ (.slice none 0 0)).cell? ⟨k, 0, none⟩ = some d0 := by simpa using cell_of_row _ k 0 _ _ (0, 0) h3
  clear h1 h2 h3
  have f0 : ∀ t, w.frozen? ⟨g, t, none⟩ = false := fun t => by simp only [World.frozen?, hg]; simp
  have f1 : ∀ t, w.frozen? ⟨k, t, none⟩ = false := fun t => by simp only [World.frozen?, hk]; simp
  refine callsD_of_wpS Tryd.func45 rfl fun c₀ cs hu => ?_
  apply wpS_seq
  apply wpS_region
  simp [wpOpsS, go_sem, recoverD, hu, Tryd.ntmps45, Exit.thenS]
  refine wpS_cond (t := true) (by simp [Act.eval, Array.replicate]) ?_
  simp only [if_true]
  apply wpS_region
  simp [wpOpsS, go_sem, q0, q1, q2, f0, f1, bodyPostS, results, Tryd.results45, ← hw3]
  exact hC

theorem SgsIn.far {w : World} {a : Option Addr} {l : List Sg} (h : SgsIn w a l) (p : Addr) (hp : ∀ x, a = some x → x.block ≠ p.block) (v : Value) : SgsIn (w.setCell p v) a l := fun i hi => by
  obtain ⟨b, off, rfl, h2, h3⟩ := h i hi
  have hne : p.block ≠ b := fun e => hp _ rfl e.symm
  exact ⟨b, off, rfl, by simpa using h2, by unfold SgAt; rw [World.cell?_setCell_far _ _ _ _ hne, World.cell?_setCell_far _ _ _ _ hne, World.cell?_setCell_far _ _ _ _ hne]; exact h3⟩

/-- The two named results, that the closure captures, are the first two new blocks. -/
def Rt (w0 : World) (c0 c1 d : Value) (W : World) : Prop := W.heap[w0.heap.size]? = some (.cells #[c0, c1] 24 (0, 0)) ∧ W.heap[w0.heap.size + 1]? = some (.cells #[d] 26 (0, 0)) ∧ Below w0.heap.size w0 W
theorem Rt.start (w : World) (c0 c1 d : Value) : Rt w c0 c1 d ((w.alloc (.cells #[c0, c1] 24)).alloc (.cells #[d] 26)) := by
  have b1 := (Below.refl w.heap.size w).alloc (Nat.le_refl _) (.cells #[c0, c1] 24)
  have z : (w.alloc (.cells #[c0, c1] 24)).heap.size = w.heap.size + 1 := by simp
  refine ⟨heap_alloc2_old w _ _, ?_, b1.alloc (by omega) _⟩
  have := heap_alloc_new (w.alloc (.cells #[c0, c1] 24)) (.cells #[d] 26)
  rw [z] at this
  exact this
theorem Rt.call {w0 : World} {c0 c1 d : Value} {W W' : World} (h : Rt w0 c0 c1 d W) (b : Below W.heap.size W W') : Rt w0 c0 c1 d W' := by
  have l1 : w0.heap.size + 1 < W.heap.size := (Array.getElem?_eq_some_iff.1 h.2.1).1
  exact ⟨by rw [b.block _ (by omega)]; exact h.1, by rw [b.block _ l1]; exact h.2.1, h.2.2.trans (b.mono h.2.2.size)⟩
theorem Rt.cells {w0 : World} {c0 c1 d : Value} {W : World} (h : Rt w0 c0 c1 d W) :
    W.cell? ⟨w0.heap.size, 0, none⟩ = some c0 ∧ W.cell? ⟨w0.heap.size, 1, none⟩ = some c1 ∧ W.cell? ⟨w0.heap.size + 1, 0, none⟩ = some d ∧ (∀ t, W.frozen? ⟨w0.heap.size, t, none⟩ = false) ∧ (∀ t, W.frozen? ⟨w0.heap.size + 1, t, none⟩ = false) := by
  obtain ⟨hg, hk, _⟩ := h
  exact ⟨by simpa using cell_of_row W w0.heap.size 0 _ _ (0, 0) hg, by simpa using cell_of_row W w0.heap.size 1 _ _ (0, 0) hg, by simpa using cell_of_row W (w0.heap.size + 1) 0 _ _ (0, 0) hk,
    fun t => by simp only [World.frozen?, hg]; simp, fun t => by simp only [World.frozen?, hk]; simp⟩
theorem Rt.set0 {w0 : World} {c0 c1 d : Value} {W : World} (h : Rt w0 c0 c1 d W) (v : Value) : Rt w0 v c1 d (W.setCell ⟨w0.heap.size, 0, none⟩ v) :=
  ⟨heap_setCell_same W _ 0 _ _ v h.1, by rw [Below.heap_setCell _ _ _ _ (by show w0.heap.size + 1 ≠ w0.heap.size; omega)]; exact h.2.1, h.2.2.setCell (p := ⟨w0.heap.size, 0, none⟩) (Nat.le_refl _) _⟩
theorem Rt.set1 {w0 : World} {c0 c1 d : Value} {W : World} (h : Rt w0 c0 c1 d W) (v : Value) : Rt w0 c0 v d (W.setCell ⟨w0.heap.size, 1, none⟩ v) :=
  ⟨heap_setCell_same W _ 1 _ _ v h.1, by rw [Below.heap_setCell _ _ _ _ (by show w0.heap.size + 1 ≠ w0.heap.size; omega)]; exact h.2.1, h.2.2.setCell (p := ⟨w0.heap.size, 1, none⟩) (Nat.le_refl _) _⟩
theorem Rt.set2 {w0 : World} {c0 c1 d : Value} {W : World} (h : Rt w0 c0 c1 d W) (v : Value) : Rt w0 c0 c1 v (W.setCell ⟨w0.heap.size + 1, 0, none⟩ v) :=
  ⟨by rw [Below.heap_setCell _ _ _ _ (by show w0.heap.size ≠ w0.heap.size + 1; omega)]; exact h.1, heap_setCell_same W _ 0 _ _ v h.2.1, h.2.2.setCell (p := ⟨w0.heap.size + 1, 0, none⟩) (Nat.le_succ _) _⟩
/-- All three stores. -/
theorem Rt.sets {w0 : World} {c0 c1 d : Value} {W : World} (h : Rt w0 c0 c1 d W) (v0 v1 v2 : Value) :
    W.cell? ⟨w0.heap.size, 0, none⟩ = some c0 ∧ (W.setCell ⟨w0.heap.size, 0, none⟩ v0).cell? ⟨w0.heap.size, 1, none⟩ = some c1 ∧
    ((W.setCell ⟨w0.heap.size, 0, none⟩ v0).setCell ⟨w0.heap.size, 1, none⟩ v1).cell? ⟨w0.heap.size + 1, 0, none⟩ = some d ∧
    (∀ t, W.frozen? ⟨w0.heap.size, t, none⟩ = false) ∧ (∀ t, W.frozen? ⟨w0.heap.size + 1, t, none⟩ = false) ∧
    Rt w0 v0 v1 v2 (((W.setCell ⟨w0.heap.size, 0, none⟩ v0).setCell ⟨w0.heap.size, 1, none⟩ v1).setCell ⟨w0.heap.size + 1, 0, none⟩ v2) :=
  ⟨h.cells.1, (h.set0 v0).cells.2.1, ((h.set0 v0).set1 v1).cells.2.2.1, h.cells.2.2.2.1, h.cells.2.2.2.2, ((h.set0 v0).set1 v1).set2 v2⟩
theorem Rt.turn {w0 : World} {c0 c1 d : Value} {W W' : World} {q : Nat} (h : Rt w0 c0 c1 d W) (t : Tq q W W') (hq : w0.heap.size + 1 < q) : Rt w0 c0 c1 d W' := by
  have l1 : w0.heap.size + 1 < W.heap.size := (Array.getElem?_eq_some_iff.1 h.2.1).1
  exact ⟨by rw [t.block _ (by omega) (by show ¬ w0.heap.size = q; omega)]; exact h.1, by rw [t.block _ l1 (by show ¬ w0.heap.size + 1 = q; omega)]; exact h.2.1,
    h.2.2.trans (t.below (fun k hk => by have hk : k = q := hk; omega) h.2.2.size)⟩
end Go.Proofs.YtbefhnpmilcffaaDoor.J
