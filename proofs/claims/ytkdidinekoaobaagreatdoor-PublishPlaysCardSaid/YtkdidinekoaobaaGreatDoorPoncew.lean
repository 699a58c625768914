/- What PublishOnce keeps, from one round to the next. -/
import Derived.Test.YtkdidinekoaobaaGreatDoorPback
namespace Go.Proofs.YtkdidinekoaobaaGreatDoor.P
open Go.RowKit M J
set_option linter.unusedVariables false
set_option linter.unusedSimpArgs false

abbrev mfC (ver : Int) (a : Option Addr) (n c : Nat) : Array Value := #[.int .i64 ver, .slice a n c]
/-- A row of segments lies in no block of two cells. -/
theorem sgs_ne {W : World} {a : Option Addr} {l : List Sg} {nb : Nat} {c0 c1 : Value} {T : TypeId} (h : SgsIn W a l) (hn : W.heap[nb]? = some (.cells #[c0, c1] T (0, 0))) : ∀ i, i < l.length → ∀ x, a = some x → x.block ≠ nb := by
  intro i hi x hx e
  obtain ⟨b, off, h1, h2, _, _, p2⟩ := h i hi
  rw [hx] at h1
  cases h1
  simp only at e
  subst e
  rw [cell_of_row W b _ _ _ (0, 0) hn] at p2
  have : (#[c0, c1] : Array Value)[off + i * 3 + 2]? = none := by
    rw [Array.getElem?_eq_none]
    simp
  rw [this] at p2
  cases p2
theorem sgs_set2 {W : World} {a : Option Addr} {l : List Sg} {nb : Nat} {c0 c1 : Value} {T : TypeId} (h : SgsIn W a l) (hn : W.heap[nb]? = some (.cells #[c0, c1] T (0, 0))) (v0 v1 : Value) : SgsIn ((W.setCell ⟨nb, 0, none⟩ v0).setCell ⟨nb, 1, none⟩ v1) a l := fun i hi => by
  have hne := sgs_ne h hn i hi
  obtain ⟨b, off, e, h2, h3⟩ := h i hi
  have hb : b ≠ nb := hne ⟨b, off, none⟩ e
  have hk : ∀ j, ((W.setCell ⟨nb, 0, none⟩ v0).setCell ⟨nb, 1, none⟩ v1).cell? ⟨b, j, none⟩ = W.cell? ⟨b, j, none⟩ := fun j => by
    rw [World.cell?_setCell_far _ _ _ _ (show nb ≠ b from fun e => hb e.symm), World.cell?_setCell_far _ _ _ _ (show nb ≠ b from fun e => hb e.symm)]
  exact ⟨b, off, e, by simpa using h2, by unfold SgAt; rw [hk, hk, hk]; exact h3⟩
theorem set2_block {W : World} {nb : Nat} {c0 c1 : Value} {T : TypeId} (hn : W.heap[nb]? = some (.cells #[c0, c1] T (0, 0))) (v0 v1 : Value) :
    W.cell? ⟨nb, 0, none⟩ = some c0 ∧ (W.setCell ⟨nb, 0, none⟩ v0).cell? ⟨nb, 1, none⟩ = some c1 ∧ (∀ t, W.frozen? ⟨nb, t, none⟩ = false) ∧ ((W.setCell ⟨nb, 0, none⟩ v0).setCell ⟨nb, 1, none⟩ v1).heap[nb]? = some (.cells #[v0, v1] T (0, 0)) := by
  have h1 := heap_setCell_same W nb 0 _ _ v0 hn
  have h2 := heap_setCell_same _ nb 1 _ _ v1 h1
  exact ⟨by simpa using cell_of_row W nb 0 _ _ (0, 0) hn, by simpa using cell_of_row _ nb 1 _ _ (0, 0) h1, fun t => by simp only [World.frozen?, hn]; simp, h2⟩
theorem turn2 (W : World) (nb : Nat) (v0 v1 : Value) : Turn (fun k => k = nb) W ((W.setCell ⟨nb, 0, none⟩ v0).setCell ⟨nb, 1, none⟩ v1) :=
  ((Turn.refl (fun k => k = nb) W).setCell (p := ⟨nb, 0, none⟩) rfl v0).setCell (p := ⟨nb, 1, none⟩) rfl v1

/-- What holds between two rounds. -/
def OnceI (B pb mb i : Nat) (W : World) (F : Nat → Prop) (S : Rs) (m : Mf) (ma : Option Addr) (mc : Nat) : Prop :=
  RkS B W pb F S ∧ Small i S ∧ S.n ≤ 40 * i ∧ Inv S.obs m ∧ m.ver ≤ i ∧ m.segs.length ≤ 1 ∧ m.fit ∧ W.heap[mb]? = some (.cells (mfC m.ver ma m.segs.length mc) 33 (0, 0)) ∧ SgsIn W ma m.segs ∧ ¬ F mb ∧ (m.segs ≠ [] → ∀ x, ma = some x → ¬ F x.block)
theorem sgs_turn2 {w w' : World} {a : Option Addr} {l : List Sg} (h : SgsIn w a l) (hz : w.heap.size ≤ w'.heap.size) (hk : l ≠ [] → ∀ x, a = some x → x.block < w.heap.size → w'.heap[x.block]? = w.heap[x.block]?) : SgsIn w' a l := by
  by_cases hl : l = []
  · subst hl; exact SgsIn.nil _ _
  · exact sgs_turn h hz (hk hl)
theorem OnceI.store {B pb mb i : Nat} {W : World} {F : Nat → Prop} {S : Rs} {m' : Mf} {a' : Option Addr} {c' : Nat} {c0 c1 : Value} (h1 : RkS B W pb F S) (h2 : Small i S) (h3 : S.n ≤ 40 * i) (h4 : Inv S.obs m') (h5 : m'.ver ≤ i) (h6 : m'.segs.length ≤ 1) (h7 : m'.fit)
    (h8 : W.heap[mb]? = some (.cells #[c0, c1] 33 (0, 0))) (h9 : SgsIn W a' m'.segs) (h10 : ¬ F mb) (h11 : ∀ x, a' = some x → ¬ F x.block) :
    OnceI B pb mb i ((W.setCell ⟨mb, 0, none⟩ (.int .i64 m'.ver)).setCell ⟨mb, 1, none⟩ (.slice a' m'.segs.length c')) F S m' a' c' :=
  ⟨h1.kept (turn2 W mb _ _) (fun k _ hk e => h10 (by have e : k = mb := e; rw [← e]; exact hk)), h2, h3, h4, h5, h6, h7, (set2_block h8 _ _).2.2.2, sgs_set2 h9 h8 _ _, h10, fun _ => h11⟩
theorem once_small {k : Nat} {S : Rs} (h : Small k S) {ver : Int} {l : List Sg} (hb : (mbs (nextMf ver l)).1.length ≤ 1500) : Small (k + 1) (next S ver l).1 ∧ (next S ver l).1.n ≤ S.n + 2 := by
  have hnl : ∀ v, (nm v).length ≤ 100 := fun v => by unfold nm; split <;> simp [dig_len]
  have h1 : Small (k + 1) (putS S (nm (nextMf ver l).ver) (mbs (nextMf ver l)).1) := small_newL h (hnl _) hb
  have hn : (putS S (nm (nextMf ver l).ver) (mbs (nextMf ver l)).1).n = S.n + 1 := rfl
  unfold next
  dsimp only
  split
  · exact ⟨⟨h.1, by have := h.2; show S.obs.length ≤ _; omega⟩, by show S.n ≤ _; omega⟩
  · split
    · exact ⟨h1, by show (putS S (nm (nextMf ver l).ver) (mbs (nextMf ver l)).1).n ≤ _; rw [hn]; omega⟩
    · split
      · exact ⟨h1, by show (putS S (nm (nextMf ver l).ver) (mbs (nextMf ver l)).1).n + 1 ≤ _; rw [hn]; omega⟩
      · exact ⟨h1, by show (putS S (nm (nextMf ver l).ver) (mbs (nextMf ver l)).1).n + 1 ≤ _; rw [hn]; omega⟩
theorem mbs_len {m : Mf} (hw : m.wf) (h : m.segs.length ≤ 80) : (mbs m).1.length ≤ 1500 := by
  by_cases hr : Right m
  · rw [mbs_yes hr]
    have := pre_len hr hw m.segs.length (Nat.le_refl _)
    rw [pre_all] at this
    simp only [seal4, List.length_append, four_length]
    omega
  · rw [mbs_no hr]; simp

/-- What Next leaves, told from the world ahead of the statement. -/
def NX (B pb : Nat) (F3 : Nat → Prop) (S' : Rs) (r : Mf) (w3 W w8 : World) (F8 : Nat → Prop) (a8 : Option Addr) : Prop :=
  SgsIn w8 a8 r.segs ∧ (∀ x, a8 = some x → ¬ F8 x.block) ∧ RkS B w8 pb F8 S' ∧ Below B w3 w8 ∧ w3.heap.size ≤ W.heap.size ∧ (∀ k, k < W.heap.size → ¬ F3 k → ¬ F8 k ∧ w8.heap[k]? = W.heap[k]?) ∧ ∀ k, k < w3.heap.size → W.heap[k]? = w3.heap[k]?
/-- .. and when it is laid into its block nb. -/
def MidN (B pb : Nat) (F3 : Nat → Prop) (S' : Rs) (r : Mf) (w3 wc : World) (nb : Nat) (F8 : Nat → Prop) (a8 : Option Addr) (c8 : Nat) : Prop :=
  wc.heap[nb]? = some (.cells (mfC r.ver a8 r.segs.length c8) 33 (0, 0)) ∧ ¬ F8 nb ∧ SgsIn wc a8 r.segs ∧ (∀ x, a8 = some x → ¬ F8 x.block) ∧ RkS B wc pb F8 S' ∧ Below B w3 wc ∧ w3.heap.size ≤ nb ∧ ∀ k, k < w3.heap.size → ¬ F3 k → ¬ F8 k ∧ wc.heap[k]? = w3.heap[k]?
theorem MidN.set {B pb : Nat} {F3 F8 : Nat → Prop} {S' : Rs} {r : Mf} {w3 W w8 : World} {a8 : Option Addr} {nb c8 : Nat} {c0 c1 : Value} (h : NX B pb F3 S' r w3 W w8 F8 a8) (hn : w8.heap[nb]? = some (.cells #[c0, c1] 33 (0, 0))) (hf : ¬ F8 nb) (h3 : w3.heap.size ≤ nb) (hB : B ≤ w3.heap.size) :
    MidN B pb F3 S' r w3 ((w8.setCell ⟨nb, 0, none⟩ (.int .i64 r.ver)).setCell ⟨nb, 1, none⟩ (.slice a8 r.segs.length c8)) nb F8 a8 c8 := by
  obtain ⟨h1, h2, h4, h5, h6, h7, h8⟩ := h
  have t := turn2 w8 nb (.int .i64 r.ver) (.slice a8 r.segs.length c8)
  refine ⟨(set2_block hn _ _).2.2.2, hf, sgs_set2 h1 hn _ _, h2, h4.kept t (fun k _ hk e => hf (by have e : k = nb := e; rw [← e]; exact hk)), h5.trans (t.below (fun k hk => by have hk : k = nb := hk; omega) (Nat.le_trans hB h5.size)), h3, fun k hk hnf => ?_⟩
  obtain ⟨q1, q2⟩ := h7 k (by omega) hnf
  exact ⟨q1, by rw [t.block k (by have := (Array.getElem?_eq_some_iff.1 hn).1; omega) (by show ¬ k = nb; omega), q2, h8 k hk]⟩
theorem MidN.new {B pb : Nat} {F3 F8 : Nat → Prop} {S' : Rs} {r : Mf} {w3 W w8 : World} {a8 : Option Addr} {c8 : Nat} (h : NX B pb F3 S' r w3 W w8 F8 a8) (hz : w3.heap.size ≤ w8.heap.size) (hB : B ≤ w3.heap.size) :
    MidN B pb F3 S' r w3 (w8.alloc (.cells (mfC r.ver a8 r.segs.length c8) 33)) w8.heap.size F8 a8 c8 := by
  obtain ⟨h1, h2, h4, h5, h6, h7, h8⟩ := h
  have b : Below w8.heap.size w8 (w8.alloc (.cells (mfC r.ver a8 r.segs.length c8) 33)) := (Below.refl _ _).alloc (Nat.le_refl _) _
  refine ⟨heap_alloc_new w8 _, fun hf => by have := (h4.lt hf).2; omega, h1.later b (Nat.le_refl _), h2, h4.below b, h5.trans (b.mono (Nat.le_trans hB hz)), hz, fun k hk hnf => ?_⟩
  obtain ⟨q1, q2⟩ := h7 k (by omega) hnf
  exact ⟨q1, by rw [b.block k (by omega), q2, h8 k hk]⟩
end Go.Proofs.YtkdidinekoaobaaGreatDoor.P
