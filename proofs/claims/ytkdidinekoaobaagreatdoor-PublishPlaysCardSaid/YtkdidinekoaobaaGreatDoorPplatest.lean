/- The program's Latest. -/
import Derived.Test.YtkdidinekoaobaaGreatDoorPpiter
import Derived.Test.YtkdidinekoaobaaGreatDoorPoncew
import Derived.WalkMore
namespace Go.Proofs.YtkdidinekoaobaaGreatDoor.P
open Go.RowKit Go.Shelf M J
set_option linter.unusedVariables false
attribute [local go_sem] Oper.semAt_some

theorem wpIn_scope_wide {P : Program} {n : Nat} {c : Code} {Q : Exit → Act → World → Prop} {a : Act} {w : World} (h : c.wpIn Fence.wide n P (Exit.noGoto Q) a w) : (Code.scope c).wpIn Fence.wide n P Q a w := wpIn_wide.2 (wp_scope_straight (wpIn_wide.1 h))
theorem wpIn_label_wide {P : Program} {n l : Nat} {Q : Exit → Act → World → Prop} {a : Act} {w : World} (h : Q .normal a w) : (Code.label l).wpIn Fence.wide n P Q a w := wpIn_wide.2 (wp_label h)
/-- It ends behind its last operation. -/
def normalOnly (Q : Exit → Act → World → Prop) : Exit → Act → World → Prop
  | .normal, a, w => Q .normal a w
  | _, _, _ => False
theorem wpIn_normalOnly {P : Program} {F : Fence} {n : Nat} {c : Code} {Q : Exit → Act → World → Prop} {a : Act} {w : World} (h : c.wpIn F n P (normalOnly Q) a w) : c.wpIn F n P Q a w :=
  wpIn_mono h (fun e a w h => by cases e <;> first | exact h | exact h.elim)
theorem gE_cases (S : Rs) (n : List UInt8) : gE S n = 0 ∨ gE S n = 5 ∨ gE S n = 9 := by
  unfold gE errOf getE
  split
  · exact Or.inr (Or.inr rfl)
  · split
    · exact Or.inl rfl
    · exact Or.inr (Or.inl rfl)
theorem nm_vr {n : List UInt8} (h : (vr n).2 = true) : nm (vr n).1 = n := by
  unfold vr at h ⊢
  split
  · rename_i hx
    exact hx.choose_spec.2
  · rename_i hx
    rw [dif_neg hx] at h
    cases h
theorem lat_no {S : Rs} {n : List UInt8} {r : List (List UInt8)} (h : (vr n).2 = false) : lat S (n :: r) = lat S r := by rw [lat, if_pos h]
theorem lat_ver {S : Rs} {n : List UInt8} {r : List (List UInt8)} (h : (vr n).2 = true) : lat S (n :: r) = if rdX S (vr n).1 = 0 ∨ rdX S (vr n).1 = 9 then (used S, rdM S (vr n).1, rdX S (vr n).1) else lat (used S) r := by
  have hn := nm_vr h
  have he := mrd_err (gB S n)
  have hg := gE_cases S n
  have hX : rdX S (vr n).1 = if gE S n ≠ 0 then gE S n else if (mrd (gB S n)).2 ≠ 0 then ((mrd (gB S n)).2 : Nat) else if (mrd (gB S n)).1.ver ≠ (vr n).1 then 2 else 0 := by unfold rdX; rw [hn]
  have hM : rdM S (vr n).1 = if rdX S (vr n).1 = 0 then (mrd (gB S n)).1 else noMf := by unfold rdM; rw [hn]
  rw [lat, if_neg (by rw [h]; simp)]
  generalize rdM S (vr n).1 = R at *
  generalize rdX S (vr n).1 = X at *
  unfold Reads
  by_cases h9 : gE S n = 9
  · rw [if_pos (by omega), h9] at hX
    subst hX
    rw [if_neg (by omega)] at hM
    rw [if_pos h9, if_pos (Or.inr rfl), hM]
  · rw [if_neg h9]
    by_cases h0 : gE S n = 0
    · rw [if_neg (by omega)] at hX
      by_cases h1 : (mrd (gB S n)).2 = 0
      · rw [if_neg (by omega)] at hX
        by_cases h2 : (mrd (gB S n)).1.ver = (vr n).1
        · rw [if_neg (by omega)] at hX
          subst hX
          rw [if_pos rfl] at hM
          rw [if_pos ⟨h0, Prod.ext rfl h1, h2⟩, if_pos (Or.inl rfl), hM]
        · rw [if_pos h2] at hX
          rw [if_neg (fun h => h2 h.2.2), if_neg (by omega)]
      · rw [if_pos h1] at hX
        rw [if_neg (fun h => h1 (by rw [h.2.1])), if_neg (by omega)]
    · rw [if_pos h0] at hX
      rw [if_neg (fun h => h0 h.1), if_neg (by omega)]
theorem sgs_grown {W W' : World} {row : Option Nat} {a : Option Addr} {l : List Sg} (h : SgsIn W a l) (hg : W.grownBy W' row) (hr : ∀ r, row = some r → ∃ o : Obj, W.heap[r]? = some o ∧ o.isCells = false) : SgsIn W' a l :=
  sgs_turn2 h hg.size (fun hne x hx hl => by
    obtain ⟨b, off, e1, h2, c0, _⟩ := h 0 (List.length_pos_iff.2 hne)
    rw [hx] at e1
    cases e1
    refine hg.block b h2 (fun e => ?_)
    obtain ⟨o, ho, hc⟩ := hr b e.symm
    simp only [World.cell?, ho] at c0
    cases o <;> first | (simp at c0; done) | (cases hc; done))

/-- Between two rounds: n4 is the world in which the walk began. -/
structure LatI (B pb : Nat) (F : Nat → Prop) (S1 : Rs) (w4 : World) (pre : List (List UInt8)) (W : World) : Prop where
  is : ∃ S' F', (∀ rest, lat S1 (pre ++ rest) = lat S' rest) ∧ S'.obs = S1.obs ∧ S'.n ≤ S1.n + pre.length ∧ RkS B W pb F' S' ∧ (∀ k, F' k → F k) ∧ Turn F w4 W
theorem LatI.grown {B pb : Nat} {F : Nat → Prop} {S1 : Rs} {w4 W W' : World} {pre : List (List UInt8)} {row : Option Nat} (h : LatI B pb F S1 w4 pre W) (hF : ∀ k, F k → k < w4.heap.size) (hg : W.grownBy W' row) (hr : ∀ r, row = some r → w4.heap.size ≤ r) : LatI B pb F S1 w4 pre W' := by
  obtain ⟨S', F', h1, h2, h3, h4, h5, h6⟩ := h.is
  refine ⟨S', F', h1, h2, h3, h4.kept ((Turn.refl (fun k => row = some k) W).grown hg (fun k e => Or.inl e)) (fun k _ hk e => ?_), h5, h6.grown hg (fun k e => Or.inr (hr k e))⟩
  have := hr k e
  have := hF k (h5 k hk)
  omega
/-- When it has been found, or can't be had. -/
def LatX (B pb : Nat) (F : Nat → Prop) (S1 : Rs) (w4 : World) (b6 : Nat) (pre : List (List UInt8)) (W : World) : Prop :=
  ∃ S' F' m x a cap, (∀ rest, lat S1 (pre ++ rest) = (S', m, x)) ∧ RkS B W pb F' S' ∧ (∀ k, F' k → F k) ∧ Turn (fun k => F k ∨ k = b6 ∨ k = b6 + 1) w4 W ∧
    W.heap[b6]? = some (.cells #[.int .i64 m.ver, .slice a m.segs.length cap] 33 (0, 0)) ∧ W.heap[b6 + 1]? = some (.cells #[.int .i64 x] 36 (0, 0)) ∧ SgsIn W a m.segs ∧ ∀ y, a = some y → w4.heap.size ≤ y.block
theorem LatX.grown {B pb : Nat} {F : Nat → Prop} {S1 : Rs} {w4 W W' : World} {b6 : Nat} {pre : List (List UInt8)} {row : Option Nat} (h : LatX B pb F S1 w4 b6 pre W) (hF : ∀ k, F k → k < w4.heap.size) (hb : b6 + 1 < w4.heap.size) (hg : W.grownBy W' row) (hr : ∀ r, row = some r → w4.heap.size ≤ r ∧ ∃ o : Obj, W.heap[r]? = some o ∧ o.isCells = false) : LatX B pb F S1 w4 b6 pre W' := by
  obtain ⟨S', F', m, x, a, cap, h1, h2, h3, h4, h5, h6, h7, h8⟩ := h
  refine ⟨S', F', m, x, a, cap, h1, h2.kept ((Turn.refl (fun k => row = some k) W).grown hg (fun k e => Or.inl e)) (fun k _ hk e => ?_), h3, h4.grown hg (fun k e => Or.inr (hr k e).1), ?_, ?_, sgs_grown h7 hg (fun r e => (hr r e).2), h8⟩
  · have := (hr k e).1
    have := hF k (h3 k hk)
    omega
  · rw [hg.block b6 (Array.getElem?_eq_some_iff.1 h5).1 (fun e => by have := (hr b6 e.symm).1; omega)]; exact h5
  · rw [hg.block (b6 + 1) (Array.getElem?_eq_some_iff.1 h6).1 (fun e => by have := (hr (b6 + 1) e.symm).1; omega)]; exact h6

/-- At the end of the walk. -/
def LatE (B pb : Nat) (F : Nat → Prop) (w4 : World) (b6 : Nat) (R : Rs × Mf × Int) (W : World) : Prop :=
  ∃ F' a cap, RkS B W pb F' R.1 ∧ (∀ k, F' k → F k) ∧ Turn (fun k => F k ∨ k = b6 ∨ k = b6 + 1) w4 W ∧
    W.heap[b6]? = some (.cells #[.int .i64 R.2.1.ver, .slice a R.2.1.segs.length cap] 33 (0, 0)) ∧ W.heap[b6 + 1]? = some (.cells #[.int .i64 R.2.2] 36 (0, 0)) ∧ SgsIn W a R.2.1.segs ∧ ∀ y, a = some y → w4.heap.size ≤ y.block
theorem LatX.end {B pb : Nat} {F : Nat → Prop} {S1 : Rs} {w4 W : World} {b6 : Nat} {pre rest : List (List UInt8)} (h : LatX B pb F S1 w4 b6 pre W) : LatE B pb F w4 b6 (lat S1 (pre ++ rest)) W := by
  obtain ⟨S', F', m, x, a, cap, h1, h2, h3, h4, h5, h6, h7, h8⟩ := h
  rw [h1 rest]
  exact ⟨F', a, cap, h2, h3, h4, h5, h6, h7, h8⟩
theorem LatI.end {B pb : Nat} {F : Nat → Prop} {S1 : Rs} {w4 W : World} {b6 : Nat} {pre : List (List UInt8)} (h : LatI B pb F S1 w4 pre W) (hF : ∀ k, F k → k < b6) (hb : b6 + 1 < w4.heap.size)
    (n6 : w4.heap[b6]? = some (.cells #[.int .i64 0, .slice none 0 0] 33 (0, 0))) (n7 : w4.heap[b6 + 1]? = some (.cells #[.int .i64 5] 36 (0, 0))) : LatE B pb F w4 b6 (lat S1 pre) W := by
  obtain ⟨S', F', h1, h2, h3, h4, h5, h6⟩ := h.is
  have h0 := h1 []
  rw [List.append_nil] at h0
  rw [h0]
  refine ⟨F', none, 0, h4, h5, h6.mono (fun k _ hk => Or.inl hk), ?_, ?_, SgsIn.nil _ _, fun y hy => nomatch hy⟩
  · rw [h6.block b6 (by omega) (fun hf => by have := hF _ hf; omega)]; exact n6
  · rw [h6.block (b6 + 1) (by omega) (fun hf => by have := hF _ hf; omega)]; exact n7
/-- Stores into a manifest and into an error. -/
theorem lay_set {W : World} {p q : Nat} {c0 c1 d0 : Value} {T T' : TypeId} (hp : W.heap[p]? = some (.cells #[c0, c1] T (0, 0))) (hq : W.heap[q]? = some (.cells #[d0] T' (0, 0))) (hne : p ≠ q) (v0 v1 u0 : Value) :
    (W.cell? ⟨p, 0, none⟩ = some c0 ∧ (W.setCell ⟨p, 0, none⟩ v0).cell? ⟨p, 1, none⟩ = some c1 ∧ (∀ t, W.frozen? ⟨p, t, none⟩ = false)) ∧ (W.cell? ⟨q, 0, none⟩ = some d0 ∧ (W.setCell ⟨p, 0, none⟩ v0).cell? ⟨q, 0, none⟩ = some d0 ∧ ((W.setCell ⟨p, 0, none⟩ v0).setCell ⟨p, 1, none⟩ v1).cell? ⟨q, 0, none⟩ = some d0 ∧ (∀ t, W.frozen? ⟨q, t, none⟩ = false)) ∧
    (((W.setCell ⟨p, 0, none⟩ v0).setCell ⟨p, 1, none⟩ v1).setCell ⟨q, 0, none⟩ u0).heap[p]? = some (.cells #[v0, v1] T (0, 0)) ∧ (((W.setCell ⟨p, 0, none⟩ v0).setCell ⟨p, 1, none⟩ v1).setCell ⟨q, 0, none⟩ u0).heap[q]? = some (.cells #[u0] T' (0, 0)) ∧
    Turn (fun k => k = p ∨ k = q) W (((W.setCell ⟨p, 0, none⟩ v0).setCell ⟨p, 1, none⟩ v1).setCell ⟨q, 0, none⟩ u0) := by
  obtain ⟨k0, k1, kf, k2⟩ := two_set hp v0 v1
  have hq1 : (W.setCell ⟨p, 0, none⟩ v0).heap[q]? = some (.cells #[d0] T' (0, 0)) := by rw [Below.heap_setCell _ _ _ _ (by show q ≠ p; omega)]; exact hq
  have hq2 : ((W.setCell ⟨p, 0, none⟩ v0).setCell ⟨p, 1, none⟩ v1).heap[q]? = some (.cells #[d0] T' (0, 0)) := by rw [Below.heap_setCell _ _ _ _ (by show q ≠ p; omega)]; exact hq1
  have hq3 := heap_setCell_same _ q 0 _ _ u0 hq2
  refine ⟨⟨k0, k1, kf⟩, ⟨by simpa using cell_of_row W q 0 _ _ (0, 0) hq, by simpa using cell_of_row _ q 0 _ _ (0, 0) hq1, by simpa using cell_of_row _ q 0 _ _ (0, 0) hq2, fun t => by simp only [World.frozen?, hq]; simp⟩, ?_, hq3, ((two_turn (q := p) (G := fun k => k = p ∨ k = q) (Or.inl rfl) v0 v1).setCell (p := ⟨q, 0, none⟩) (Or.inr rfl) u0)⟩
  rw [Below.heap_setCell _ _ _ _ (by show p ≠ q; exact hne)]; exact k2
theorem back_mem {ns : List (List UInt8)} {x : List UInt8 × Nat} (h : x ∈ back ns) : x.1 ∈ ns := by
  have := List.mem_map_of_mem (f := Prod.fst) h
  rw [back_fst] at this
  exact List.mem_reverse.1 this
theorem vr_range {n : List UInt8} (h : (vr n).2 = true) : 1 ≤ (vr n).1 ∧ (vr n).1 ≤ 999999 := by
  unfold vr at h ⊢
  split
  · rename_i hx
    exact hx.choose_spec.1
  · rename_i hx
    rw [dif_neg hx] at h
    cases h
theorem lat_shut {B pb : Nat} {F F' : Nat → Prop} {S S' : Rs} {w w1 w2 w4 W : World} {D b6 : Nat} {a : Option Addr} {l : List Sg} {c0 c1 : Value} {n : Int} (h : RkS B w pb F S) (hb1 : Below w.heap.size w w1) (t2 : Turn F w1 w2) (b24 : Below w2.heap.size w2 w4)
    (e3 : Turn (fun k => F k ∨ k = b6 ∨ k = b6 + 1) w4 W) (h2 : w.heap.size + 2 ≤ w2.heap.size) (h6 : w2.heap.size ≤ b6) (hD : w4.heap.size ≤ D) (e1 : RkS B W pb F' S') (e2 : ∀ k, F' k → F k) (e6 : SgsIn W a l) (e7 : ∀ y, a = some y → w4.heap.size ≤ y.block) (hK : W.heap[D]? = some (.deferred (some [])))
    (p1 : W.heap[w.heap.size + 1]? = some (.cells #[c0, c1] 33 (0, 0))) (cap : Nat) :
    let W2 := ((W.setCell ⟨w.heap.size + 1, 0, none⟩ (.int .i64 n)).setCell ⟨w.heap.size + 1, 1, none⟩ (.slice a l.length cap)).drew
    W2.heap[D]? = some (.deferred (some [])) ∧ (W2.putObj D (.deferred none)).cell? ⟨w.heap.size + 1, 0, none⟩ = some (.int .i64 n) ∧ (W2.putObj D (.deferred none)).cell? ⟨w.heap.size + 1, 1, none⟩ = some (.slice a l.length cap) ∧
      SgsIn (W2.putObj D (.deferred none)) a l ∧ NewRow w F' a ∧ Goes B pb F S' w (W2.putObj D (.deferred none)) F' := by
  intro W2
  have z1 := hb1.size
  have z2 := t2.size
  have z3 := b24.size
  have z4 := e3.size
  have hF : ∀ k, F k → k < w.heap.size := fun k hk => (h.lt hk).2
  obtain ⟨_, _, _, k2⟩ := two_set p1 (.int .i64 n) (.slice a l.length cap)
  have tA : Turn (fun k => k = w.heap.size + 1) W W2 := (two_turn (q := w.heap.size + 1) (G := fun k => k = w.heap.size + 1) rfl (.int .i64 n) (.slice a l.length cap)).trans (Turn.of_below _ (Below.refl _ _).drew (Nat.le_refl _))
  have hpo := grownBy_putObj' W2 D (.deferred none)
  have tB : Turn (fun k => k = w.heap.size + 1 ∨ k = D) W (W2.putObj D (.deferred none)) := (tA.mono (fun k _ hk => Or.inl hk)).trans ((Turn.refl (fun k => k = w.heap.size + 1 ∨ k = D) W2).grown hpo (fun k e => Or.inl (Or.inr (by cases e; rfl))))
  have hDW : W2.heap[D]? = some (.deferred (some [])) := by rw [tA.block D (Array.getElem?_eq_some_iff.1 hK).1 (by show ¬ D = w.heap.size + 1; omega)]; exact hK
  have kk : (W2.putObj D (.deferred none)).heap[w.heap.size + 1]? = some (.cells #[.int .i64 n, .slice a l.length cap] 33 (0, 0)) := by rw [World.putObj_heap_other (by omega)]; exact k2
  obtain ⟨j0, j1⟩ := two_cells kk
  refine ⟨hDW, j0, j1, sgs_turn2 e6 tB.size (fun hne y hy hl => tB.block _ hl (fun e => ?_)), fun y hy => ⟨by have := e7 y hy; omega, fun hf => by have := hF _ (e2 _ hf); have := e7 y hy; omega⟩, e1.kept tB (fun k _ hk e => by have := hF _ (e2 _ hk); omega), fun k hk => Or.inl (e2 k hk), ?_⟩
  · have hy7 := e7 y hy
    rcases e with e | e
    · omega
    · obtain ⟨b, off, f1, _, f2, _⟩ := e6 0 (List.length_pos_iff.2 hne)
      rw [hy] at f1
      cases f1
      simp only at e
      subst e
      simp [World.cell?, hK] at f2
  · exact ⟨tB.os.trans (e3.os.trans (b24.os.trans (t2.os.trans hb1.os))), tB.tape.trans (e3.tape.trans (b24.tape.trans (t2.tape.trans hb1.tape))), tB.output.trans (e3.output.trans (b24.output.trans (t2.output.trans hb1.output))), by have := tB.size; omega, fun k hk hf => by
      rw [tB.block k (by omega) (fun e => by omega), e3.block k (by omega) (fun e => by
        rcases e with e | e
        · exact hf e
        · omega), b24.block k (by omega), t2.block k (by omega) hf, hb1.block k hk]⟩
def LatPost (B pb : Nat) (F : Nat → Prop) (S' : Rs) (m : Mf) (x : Int) (w : World) (e : Ending) (w' : World) : Prop :=
  ∃ F' a cap, e = .returned (.tuple #[mfV m.ver a m.segs.length cap, .int .i64 x]) ∧ SgsIn w' a m.segs ∧ NewRow w F' a ∧ Goes B pb F S' w w' F'

section
variable {B pb : Nat} {F : Nat → Prop} {S : Rs} {w : World} (h : RkS B w pb F S) (hV : Vb B w) (hS : Room S)
include h hV hS
set_option maxRecDepth 100000 in
set_option maxHeartbeats 2000000 in
theorem latest_near (hfar : ¬ far S) : Calls Tryz.prog 9 #[.pointer (some ⟨pb, 0, none⟩)] w (LatPost B pb F (lat (used S) (S.obs.map Ob.nm).reverse).1 (lat (used S) (S.obs.map Ob.nm).reverse).2.1 (lat (used S) (S.obs.map Ob.nm).reverse).2.2 w) := by
  obtain ⟨w1, hw1⟩ : ∃ w1, w1 = (w.alloc (.cells #[.pointer (some ⟨pb, 0, none⟩)] 24)).alloc (.cells #[.int .i64 0, .slice none 0 0] 33) := ⟨_, rfl⟩
  have hb1 : Below w.heap.size w w1 := by rw [hw1]; exact ((Below.refl _ _).alloc (Nat.le_refl _) _).alloc (by simp) _
  have n0 : w1.heap[w.heap.size]? = some (.cells #[.pointer (some ⟨pb, 0, none⟩)] 24 (0, 0)) := by rw [hw1]; exact heap_alloc2_old w _ _
  have n1 : w1.heap[w.heap.size + 1]? = some (.cells #[.int .i64 0, .slice none 0 0] 33 (0, 0)) := by rw [hw1]; exact heap_alloc2_new w _ _
  have hz1 : w1.heap.size = w.heap.size + 2 := by rw [hw1]; simp
  have HLS := Lib.hid (list_s (h.below hb1) (by have := hS.1; omega))
  have hnm : namesIf S = S.obs.map Ob.nm := by unfold namesIf; rw [if_neg hfar]
  rw [err_fine _ hfar, hnm] at HLS
  have hns : ∀ n ∈ S.obs.map Ob.nm, n.length ≤ 100 := fun n hn => by
    obtain ⟨o, ho, rfl⟩ := List.mem_map.1 hn
    exact (hS.2.1 o ho).1
  have hnl : (S.obs.map Ob.nm).length ≤ 1000 := by rw [List.length_map]; exact hS.2.2
  generalize S.obs.map Ob.nm = ns at *
  obtain ⟨S1, hS1⟩ : ∃ S1, S1 = used S := ⟨_, rfl⟩
  rw [← hS1] at HLS ⊢
  have hn1 : S1.n ≤ 900000000000 := by rw [hS1]; have := hS.1; show S.n + 1 ≤ _; omega
  have hs1 : Small 1000 S1 := by rw [hS1]; exact hS.2
  have HR := Lib.hid h; have HV := Lib.hid hV; have HB1 := Lib.hid hb1; have HW1 := Lib.hid hw1; have HNS := Lib.hid hns; have HS1 := Lib.hid hs1; have HN0 := Lib.hid n0; have HN1 := Lib.hid n1; have HFL := Lib.hid (fun k (hk : F k) => h.lt hk)
  clear h hV hS hfar hnm hns hS1 hs1 hw1 hb1 n0 n1
  have e0 : w1.cell? ⟨w.heap.size, 0, none⟩ = some (.pointer (some ⟨pb, 0, none⟩)) := by rw [cell_of_row w1 _ 0 _ _ (0, 0) HN0.out]; rfl
  refine (callsIn_wide (n := 10)).1 ?_
  refine callsIn_of_wp_marks Tryz.func9 rfl trivial ?_ rfl
  simp only [Tryz.ntmps9, List.size_toArray, List.length_cons, List.length_nil, Nat.reduceAdd, Nat.reduceSub, Array.replicate_succ, Array.replicate_zero, List.push_toArray, List.append_toArray, List.nil_append, List.cons_append]
  rw [HW1.out] at e0
  gi_wp2
  refine wpIn_scope_wide ?_
  gi_wp2
  clear e0
  rw [← HW1.out]
  refine ⟨trivial, (callsIn_wide (n := 9)).2 (HLS.out.mono ?_)⟩
  rintro e w2 ⟨va, vc, rfl, hnms, F2, r2, hF2, t2⟩
  have hz2 := t2.size
  obtain ⟨w3, hw3⟩ : ∃ w3, w3 = (w2.alloc (.cells #[.int .i64 0, .slice none 0 0] 33)).alloc (.cells #[.int .i64 5] 36) := ⟨_, rfl⟩
  have b23 : Below w2.heap.size w2 w3 := by rw [hw3]; exact ((Below.refl _ _).alloc (Nat.le_refl _) _).alloc (by simp) _
  have n6 : w3.heap[w2.heap.size]? = some (.cells #[.int .i64 0, .slice none 0 0] 33 (0, 0)) := by rw [hw3]; exact heap_alloc2_old w2 _ _
  have n7 : w3.heap[w2.heap.size + 1]? = some (.cells #[.int .i64 5] 36 (0, 0)) := by rw [hw3]; exact heap_alloc2_new w2 _ _
  have hz3 : w3.heap.size = w2.heap.size + 2 := by rw [hw3]; simp
  have HBK := Lib.hid (backward_any va ns.length vc w3)
  have HW3 := Lib.hid hw3
  clear hw3
  gi_wp2
  refine wpIn_label_wide ?_
  gi_wp2
  rw [← HW3.out]
  refine ⟨trivial, (callsIn_wide (n := 9)).2 (HBK.out.mono ?_)⟩
  rintro e w4 ⟨rfl, hw4⟩
  have b34 : Below w3.heap.size w3 w4 := by rw [hw4]; exact (Below.refl _ _).alloc (Nat.le_refl _) _
  have n8 : w4.heap[w3.heap.size]? = some (.cells #[.slice va ns.length vc] 65 (0, 0)) := by rw [hw4]; exact heap_alloc_new w3 _
  have hz4 : w4.heap.size = w3.heap.size + 1 := by rw [hw4]; simp
  have b24 := b23.trans (b34.mono b23.size)
  replace n6 := (b34.block _ (by omega)).trans n6
  replace n7 := (b34.block _ (by omega)).trans n7
  have hb0 : Below B w w4 := ((HB1.out.mono HR.out.size).trans (t2.below (fun k hk => (HFL.out k hk).1) (Nat.le_trans HR.out.size HB1.out.size))).trans (b24.mono (by have := HR.out.size; omega))
  have hnF : ∀ k, w.heap.size ≤ k → ¬ F k := fun k hk hf => by have := (HFL.out k hf).2; omega
  have n0 : w4.heap[w.heap.size]? = some (.cells #[.pointer (some ⟨pb, 0, none⟩)] 24 (0, 0)) := ((b24.block _ (by omega)).trans (t2.block _ (by omega) (hnF _ (Nat.le_refl _)))).trans HN0.out
  have n1 : w4.heap[w.heap.size + 1]? = some (.cells #[.int .i64 0, .slice none 0 0] 33 (0, 0)) := ((b24.block _ (by omega)).trans (t2.block _ (by omega) (hnF _ (by omega)))).trans HN1.out
  have hgb : ∃ gb cur t, w4.heap[gb]? = some (.cells cur t (0, 0)) ∧ (∀ j (h : j < ns.length), va = some ⟨gb, 0, none⟩ ∧ cur[j]? = some (.string (bs ns[j]))) ∧ w1.heap.size ≤ gb := by
    rcases hnms.2 with ⟨e, h0⟩ | ⟨g, cap, cur, e, hB, hg, hcap, hcm, hsz, htake⟩
    · exact ⟨_, _, _, n8, fun j h => by omega, by omega⟩
    · have hgl := (Array.getElem?_eq_some_iff.1 hg).1
      refine ⟨g, cur, _, (b24.block _ hgl).trans hg, fun j h => ⟨by injection e, ?_⟩, hB⟩
      have h1 : cur.toList[j]? = (strs ns)[j]? := by rw [← htake, List.getElem?_take, if_pos (by omega)]
      rw [← Array.getElem?_toList, h1]
      simp [strs, h]
  obtain ⟨gb, cur, gt, hgb, hgc, hgl⟩ := hgb
  have hgl4 := (Array.getElem?_eq_some_iff.1 hgb).1
  have hseq : SeqStopsK Fence.wide 9 Tryz.prog 63 #[.pointer (some ⟨w3.heap.size, 0, none⟩)] (fun x : { x // x ∈ back ns } => encB x.1) (KpB w3.heap.size gb) (fun xs => xs = (back ns).attach) (fun pre => pre <+: (back ns).attach) (back ns).attach.length w4 := fun l J Jx W hW hJ hJx hY h0 =>
    bwalk_any Subtype.val (back ns).attach ns (List.attach_map_subtype_val _) w3.heap.size gb (KpB w3.heap.size gb) (fun _ _ h => h) l J Jx W hY h0 (by omega) ((hW.block _ (by omega)).trans n8) ((hW.block _ hgl4).trans hgb) hgc
  have hall : ((back ns).attach.map (fun x : { x // x ∈ back ns } => x.1.1)) = ns.reverse := by
    rw [← back_fst ns, show (fun x : { x // x ∈ back ns } => x.1.1) = Prod.fst ∘ Subtype.val from rfl, ← List.map_map, List.attach_map_subtype_val]
  have hlen : (back ns).attach.length ≤ 1000 := by rw [List.length_attach, back_len]; exact hnl
  have r4 := r2.below b24
  have HI0 : LatI B pb F S1 w4 ((([] : List { x // x ∈ back ns }).map (fun x => x.1.1))) w4 := ⟨S1, F2, fun _ => rfl, rfl, by simp, r4, hF2, Turn.refl _ _⟩
  generalize w3.heap.size = bx at *
  have hz5 : w2.heap.size + 3 ≤ w4.heap.size := by omega
  have hz6 : w2.heap.size + 1 < bx ∧ bx < w4.heap.size := by omega
  clear hz3 hz4
  have HN6 := Lib.hid n6; have HN7 := Lib.hid n7; have HN04 := Lib.hid n0; have HN14 := Lib.hid n1; have HBW := Lib.hid hb0; have HT2 := Lib.hid t2; have HB24 := Lib.hid b24; have HNF := Lib.hid hnF; have HI := Lib.hid HI0; have HALL := Lib.hid hall; have HSEQ := Lib.hid hseq; have HGB := Lib.hid hgb
  clear n6 n7 n0 n1 hb0 t2 b24 b34 b23 hnF HI0 hall hseq r4 r2 hnms hgc n8 HBK HW3 hw4 HLS HN0 HN1 hgb
  gi_wp2
  refine wpIn_rangeFunc_ownH rfl (by omega) (gf := 63) (lb := #[.pointer (some ⟨bx, 0, none⟩)]) rfl trivial (enters_of Tryz.func63 (by kernel_rfl) rfl) HSEQ.out (fun h1 h2 => KpB.trans h1 h2)
    (fun W l o o' hl h1 h2 h3 => KpB.put W l o o' h1 h2) (Below.refl _ _) (fun _ => rfl)
    (fun pre W => LatI B pb F S1 w4 (pre.map (fun x : { x // x ∈ back ns } => x.1.1)) W) (fun c pre W => c = .exit 0 ∧ LatX B pb F S1 w4 w2.heap.size (pre.map (fun x : { x // x ∈ back ns } => x.1.1)) W)
    (fun s W W' row h hg hr => h.grown (fun k hk => by have := HFL.out k hk; omega) hg (fun r e => (hr r e).1)) (fun c s W W' row h hg hr => ⟨h.1, h.2.grown (fun k hk => by have := HFL.out k hk; omega) (by omega) hg hr⟩) HI.out
    (fun x a' W => a' = { tmps := #[.pointer (some ⟨pb, 0, none⟩), .pointer (some ⟨w.heap.size, 0, none⟩), .pointer (some ⟨w.heap.size + 1, 0, none⟩), .int .i64 0, .slice va ns.length vc, .int .i64 0, .pointer (some ⟨w2.heap.size, 0, none⟩), .pointer (some ⟨w2.heap.size + 1, 0, none⟩), undef, .string (bs x.1.1), undef, undef, undef, undef,
      .tuple #[.slice va ns.length vc, .int .i64 0], .pointer (some ⟨pb, 0, none⟩), .tuple #[.slice va ns.length vc, .int .i64 0], .slice va ns.length vc, .int .i64 0, .int .i64 0, .bool false, undef, undef, .agg #[.int .i64 0, .slice none 0 0], .slice va ns.length vc, .func (.func 63) #[] #[.pointer (some ⟨bx, 0, none⟩)],
      .int .i64 (x.1.2 : Int), .string (bs x.1.1), undef, undef, undef, undef, undef, undef, undef, undef, undef, undef, undef, undef, undef, undef, undef, undef, undef, undef, undef, undef, undef], defers := [] })
    (fun x a' _ X Y row hs hg hr => hs)
    ?assign ?body ?done ?stop
  case assign =>
    rintro l pre x W K hi hK
    simp only [encB]
    gi_wp2
    exact hK _ _ (KeepsFrom.refl _ _) (fun k hk cs t z e => e) hi rfl
  case body =>
    rintro l pre x a' W hl ⟨r, hr⟩ hI rfl hlt
    obtain ⟨S', F', h1, h2, h3, h4, h5, h6⟩ := hI.is
    have hxl : x.1.1.length ≤ 100 := HNS.out _ (back_mem x.2)
    have hbW : Below B w W := HBW.out.trans (h6.below (fun k hk => (HFL.out k hk).1) (by have := HR.out.size; omega))
    have hvW := HV.out.low hbW
    have hver := manC.ver (s := x.1.1) (w := W) hvW.vt (by omega)
    have hz7 := h6.size
    have hp0 : W.heap[w.heap.size]? = some (.cells #[.pointer (some ⟨pb, 0, none⟩)] 24 (0, 0)) := (h6.block _ (by omega) (HNF.out _ (Nat.le_refl _))).trans HN04.out
    have hp6 : W.heap[w2.heap.size]? = some (.cells #[.int .i64 0, .slice none 0 0] 33 (0, 0)) := (h6.block _ (by omega) (HNF.out _ (by omega))).trans HN6.out
    have hp7 : W.heap[w2.heap.size + 1]? = some (.cells #[.int .i64 5] 36 (0, 0)) := (h6.block _ (by omega) (HNF.out _ (by omega))).trans HN7.out
    have hlen2 : (pre.map (fun x : { x // x ∈ back ns } => x.1.1)).length ≤ 1000 := by rw [List.length_map]; omega
    have hmap : ∀ rest, (pre ++ [x]).map (fun x : { x // x ∈ back ns } => x.1.1) ++ rest = pre.map (fun x : { x // x ∈ back ns } => x.1.1) ++ x.1.1 :: rest := fun rest => by simp
    have hml : ((pre ++ [x]).map (fun x : { x // x ∈ back ns } => x.1.1)).length = (pre.map (fun x : { x // x ∈ back ns } => x.1.1)).length + 1 := by simp
    by_cases hv : (vr x.1.1).2 = true
    · have hrng := vr_range hv
      have hlv : ∀ rest, lat S1 ((pre ++ [x]).map (fun x : { x // x ∈ back ns } => x.1.1) ++ rest) = if rdX S' (vr x.1.1).1 = 0 ∨ rdX S' (vr x.1.1).1 = 9 then (used S', rdM S' (vr x.1.1).1, rdX S' (vr x.1.1).1) else lat (used S') rest := fun rest => by rw [hmap, h1, lat_ver hv]
      rw [hv] at hver
      generalize (vr x.1.1).1 = v at *
      have HRD := Lib.hid (fun W2 (hb2 : Below W.heap.size W W2) => pubread_any (v := v) (h4.below hb2) (hvW.later hb2) ⟨by omega, by rw [Small, h2]; exact HS1.out⟩ (by unfold i64; omega))
      unfold ReadPost at HRD
      generalize rdX S' v = X at *
      generalize rdM S' v = R at *
      have HVER := Lib.hid hver; have HLV := Lib.hid hlv; have H5 := Lib.hid h5; have H6 := Lib.hid h6; have HP0 := Lib.hid hp0; have HP6 := Lib.hid hp6; have HP7 := Lib.hid hp7; have H2 := Lib.hid h2; have H3 := Lib.hid h3; have HML := Lib.hid hml
      clear hver hlv h1 h4 h5 h6 hp0 hp6 hp7 hmap hvW hI hbW h2 h3 hml
      have hkeep : ∀ (W2 W3 : World) (o : Obj) (G : Nat → Prop) (W5 : World), Below W.heap.size W W2 → Turn F' W2 W3 → Turn G (W3.alloc o) W5 → (∀ k, G k → k < w4.heap.size) → KeepsFrom w4.heap.size W W5 := fun W2 W3 o G W5 q1 q2 q3 q4 => by
        have z1 := q1.size
        have z2 := q2.size
        have z3 := q3.size
        rw [World.size_alloc] at z3
        refine ⟨by omega, fun k ob hk ho hc => ?_⟩
        have hkl := (Array.getElem?_eq_some_iff.1 ho).1
        rw [q3.block k (by rw [World.size_alloc]; omega) (fun hg => by have := q4 k hg; omega), Below.heap_alloc W3 _ k (by omega), q2.block k (by omega) (fun hf => HNF.out k (by omega) (H5.out k hf)), q1.block k hkl]
        exact ho
      have HKEEP := Lib.hid hkeep
      clear hkeep
      by_cases hX : X = 0 ∨ X = 9
      · rcases hX with rfl | rfl
        all_goals
          gi_wp2
          refine ⟨trivial, ?_⟩
          refine (CallsIn.inRound l (callsIn_wide.2 HVER.out)).mono ?_
          rintro e W2 ⟨rfl, b2⟩
          have c0 : W2.cell? ⟨w.heap.size, 0, none⟩ = some (.pointer (some ⟨pb, 0, none⟩)) := by rw [cell_of_row W2 _ 0 _ _ (0, 0) ((b2.block _ (by omega)).trans HP0.out)]; rfl
          have HB2 := Lib.hid b2
          have hz8 := b2.size
          clear b2
          gi_wp2
          refine ⟨trivial, ?_⟩
          refine (CallsIn.inRound l (callsIn_wide.2 (HRD.out W2 HB2.out))).mono ?_
          rintro e W3 ⟨F'', a, cap, rfl, hin, hnew, hg, hsub⟩
          have t3 := hg.2.2
          have hz9 := t3.size
          have b9 : Below W3.heap.size W3 (W3.alloc (.cells #[.int .i64 R.ver, .slice a R.segs.length cap] 33)) := (Below.refl _ _).alloc (Nat.le_refl _) _
          have n9 := heap_alloc_new W3 (.cells #[.int .i64 R.ver, .slice a R.segs.length cap] 33)
          have hq6 : (W3.alloc (.cells #[.int .i64 R.ver, .slice a R.segs.length cap] 33)).heap[w2.heap.size]? = some (.cells #[.int .i64 0, .slice none 0 0] 33 (0, 0)) :=
            ((b9.block _ (by omega)).trans ((t3.block _ (by omega) (fun hf => HNF.out _ (by omega) (H5.out _ hf))).trans (HB2.out.block _ (by omega)))).trans HP6.out
          have hq7 : (W3.alloc (.cells #[.int .i64 R.ver, .slice a R.segs.length cap] 33)).heap[w2.heap.size + 1]? = some (.cells #[.int .i64 5] 36 (0, 0)) :=
            ((b9.block _ (by omega)).trans ((t3.block _ (by omega) (fun hf => HNF.out _ (by omega) (H5.out _ hf))).trans (HB2.out.block _ (by omega)))).trans HP7.out
          obtain ⟨d0, d1⟩ := two_cells n9
          obtain ⟨⟨k0, k1, kf⟩, ⟨q0, q1, q2, qf⟩, u6, u7, tt⟩ := lay_set hq6 hq7 (by omega) (.int .i64 R.ver) (.slice a R.segs.length cap) (.int .i64 _)
          have HK := Lib.hid (HKEEP.out W2 W3 _ _ _ HB2.out t3 tt (fun k hk => by omega))
          have hF3 : ∀ k, F'' k → k < w.heap.size := fun k hk => by have := (HFL.out k (H5.out k (hsub k hk))).2; omega
          have HXX : Hid (LatX B pb F S1 w4 w2.heap.size ((pre ++ [x]).map (fun x : { x // x ∈ back ns } => x.1.1)) _) := Lib.hid ⟨used S', F'', R, _, a, cap, fun rest => (HLV.out rest).trans (if_pos (by simp)), (hg.1.below b9).kept tt (fun k _ hk e => by have := hF3 k hk; omega), fun k hk => H5.out k (hsub k hk),
            (((((H6.out.trans (Turn.of_below _ HB2.out (Nat.le_refl _))).trans (t3.mono (fun k _ hk => H5.out k hk))).trans (Turn.of_below _ b9 (Nat.le_refl _))).mono (fun k _ hk => Or.inl hk)).trans (tt.mono (fun k _ hk => Or.inr hk))), u6, u7,
            sgs_turn (hin.later b9 (Nat.le_refl _)) tt.size (fun y hy hl => tt.block _ hl (fun e => by have := (hnew y hy).1; omega)), fun y hy => by have := (hnew y hy).1; omega⟩
          clear n9 b9 hq6 hq7 u6 u7 tt hg hin hnew t3 c0
          unfold mfV
          gi_wp2
          exact ⟨HK.out, rfl, HXX.out⟩
      · have y0 : (X == 0) = false := by simpa using fun e => hX (Or.inl e)
        have y9 : (X == 9) = false := by simpa using fun e => hX (Or.inr e)
        have HX := Lib.hid hX
        clear hX
        gi_wp2
        refine ⟨trivial, ?_⟩
        refine (CallsIn.inRound l (callsIn_wide.2 HVER.out)).mono ?_
        rintro e W2 ⟨rfl, b2⟩
        have c0 : W2.cell? ⟨w.heap.size, 0, none⟩ = some (.pointer (some ⟨pb, 0, none⟩)) := by rw [cell_of_row W2 _ 0 _ _ (0, 0) ((b2.block _ (by omega)).trans HP0.out)]; rfl
        have HB2 := Lib.hid b2
        have hz8 := b2.size
        clear b2
        gi_wp2
        refine ⟨trivial, ?_⟩
        refine (CallsIn.inRound l (callsIn_wide.2 (HRD.out W2 HB2.out))).mono ?_
        rintro e W3 ⟨F'', a, cap, rfl, hin, hnew, hg, hsub⟩
        have t3 := hg.2.2
        have hz9 := t3.size
        have b9 : Below W3.heap.size W3 (W3.alloc (.cells #[.int .i64 R.ver, .slice a R.segs.length cap] 33)) := (Below.refl _ _).alloc (Nat.le_refl _) _
        have HK := Lib.hid (HKEEP.out W2 W3 (.cells #[.int .i64 R.ver, .slice a R.segs.length cap] 33) (fun _ => False) _ HB2.out t3 (Turn.refl _ _) (fun k hk => hk.elim))
        have HTT := Lib.hid ((((H6.out.trans (Turn.of_below _ HB2.out (Nat.le_refl _))).trans (t3.mono (fun k _ hk => H5.out k hk))).trans (Turn.of_below F b9 (Nat.le_refl _))))
        have HTW := Lib.hid ((((Turn.of_below F HB2.out (Nat.le_refl _))).trans (t3.mono (fun k _ hk => H5.out k hk))).trans (Turn.of_below F b9 (Nat.le_refl _)))
        have HII : Hid (LatI B pb F S1 w4 ((pre ++ [x]).map (fun x : { x // x ∈ back ns } => x.1.1)) (W3.alloc (.cells #[.int .i64 R.ver, .slice a R.segs.length cap] 33))) := Lib.hid ⟨used S', F'', fun rest => by rw [HLV.out rest, if_neg HX.out], H2.out, by rw [HML.out]; have := H3.out; show S'.n + 1 ≤ _; push_cast; omega, hg.1.below b9, fun k hk => H5.out k (hsub k hk), HTT.out⟩
        clear b9 hg hin hnew t3 c0 hsub
        unfold mfV
        gi_wp2
        exact ⟨HK.out, KpB.turn HTW.out (HNF.out _ (by omega)) (HNF.out _ (by omega)), HII.out⟩
    · have hv : (vr x.1.1).2 = false := by simpa using hv
      rw [hv] at hver
      have HVER := Lib.hid hver
      have HI2 : Hid (∀ W2, Below W.heap.size W W2 → LatI B pb F S1 w4 ((pre ++ [x]).map (fun x : { x // x ∈ back ns } => x.1.1)) W2) := Lib.hid (fun W2 hb2 => ⟨S', F', fun rest => by rw [hmap, h1, lat_no hv], h2, by rw [hml]; push_cast; omega, h4.below hb2, h5, h6.trans (Turn.of_below _ hb2 (Nat.le_refl _))⟩)
      clear hver h1 h2 h3 h4 h5 h6 hp0 hp6 hp7 hmap hvW hI hml hbW hv
      generalize (vr x.1.1).1 = v at *
      gi_wp2
      refine ⟨trivial, ?_⟩
      refine (CallsIn.inRound l (callsIn_wide.2 HVER.out)).mono ?_
      rintro e W2 ⟨rfl, b2⟩
      gi_wp2
      exact ⟨⟨b2.size, fun k o hk ho hc => (b2.block k (Array.getElem?_eq_some_iff.1 ho).1).trans ho⟩, fun k hk cs t z e => (b2.block k (Array.getElem?_eq_some_iff.1 e).1).trans e, HI2.out _ b2⟩
  case done =>
    rintro D ys W hD rfl hI hK
    rw [HALL.out] at hI
    have hE := hI.end (b6 := w2.heap.size) (fun k hk => by have := HFL.out k hk; omega) (by omega) HN6.out HN7.out
    obtain ⟨F', a, cap, e1, e2, e3, e4, e5, e6, e7⟩ := hE
    have hz8 := e3.size
    generalize lat S1 ns.reverse = Z at *
    obtain ⟨ZS, ZM, ZX⟩ := Z
    simp only at e1 e4 e5 e6
    have p1 : W.heap[w.heap.size + 1]? = some (.cells #[.int .i64 0, .slice none 0 0] 33 (0, 0)) := (e3.block _ (by omega) (fun hg => by
      rcases hg with hg | hg
      · exact HNF.out _ (by omega) hg
      · omega)).trans HN14.out
    have hmix : Tryz.prog.follows .mixedOrders = true := by kernel_rfl
    obtain ⟨c0, c1⟩ := two_cells e4
    have c2 : W.cell? ⟨w2.heap.size + 1, 0, none⟩ = some (.int .i64 ZX) := by rw [cell_of_row W _ 0 _ _ (0, 0) e5]; rfl
    obtain ⟨k0, k1, kf, k2⟩ := two_set p1 (.int .i64 ZM.ver) (.slice a ZM.segs.length cap)
    have hsh := lat_shut (D := D) (n := ZM.ver) HR.out HB1.out HT2.out HB24.out e3 (by omega) (by omega) hD e1 e2 e6 e7 hK p1 cap
    have HSH := Lib.hid hsh
    have HK := Lib.hid hK
    clear e1 e2 e3 e4 e5 e6 e7 p1 k2 hsh hK
    gi_wp2
    refine wpIn_normalOnly ?_
    gi_region_with_o (fail)
    all_goals unfold normalOnly
    all_goals gi_wp2
    all_goals
      rw [Exit.noGoto_ret]
      obtain ⟨hKD, d4, d5, r4, r5, r6⟩ := HSH.out
      generalize (World.setCell (World.setCell W _ _) _ _).drew = W2 at *
      refine ⟨by simp, .inl ⟨_, _, rfl, run_takeDeferred hKD, ?_⟩⟩
      generalize W2.putObj D (.deferred none) = W3 at *
      refine ⟨.tuple #[mfV ZM.ver a ZM.segs.length cap, .int .i64 ZX], ?_, F', a, cap, rfl, r4, r5, r6⟩
      simp [results, Tryz.results9, go_sem, d4, d5, mfV]
  case stop =>
    rintro D c pre W hD ⟨rest, hpr⟩ ⟨rfl, hX⟩ hK
    have hE := hX.end (rest := rest.map (fun x : { x // x ∈ back ns } => x.1.1))
    rw [← List.map_append, hpr, HALL.out] at hE
    obtain ⟨F', a, cap, e1, e2, e3, e4, e5, e6, e7⟩ := hE
    have hz8 := e3.size
    generalize lat S1 ns.reverse = Z at *
    obtain ⟨ZS, ZM, ZX⟩ := Z
    simp only at e1 e4 e5 e6
    have p1 : W.heap[w.heap.size + 1]? = some (.cells #[.int .i64 0, .slice none 0 0] 33 (0, 0)) := (e3.block _ (by omega) (fun hg => by
      rcases hg with hg | hg
      · exact HNF.out _ (by omega) hg
      · omega)).trans HN14.out
    have hmix : Tryz.prog.follows .mixedOrders = true := by kernel_rfl
    obtain ⟨c0, c1⟩ := two_cells e4
    have c2 : W.cell? ⟨w2.heap.size + 1, 0, none⟩ = some (.int .i64 ZX) := by rw [cell_of_row W _ 0 _ _ (0, 0) e5]; rfl
    obtain ⟨k0, k1, kf, k2⟩ := two_set p1 (.int .i64 ZM.ver) (.slice a ZM.segs.length cap)
    have hsh := lat_shut (D := D) (n := ZM.ver) HR.out HB1.out HT2.out HB24.out e3 (by omega) (by omega) hD e1 e2 e6 e7 hK p1 cap
    have HSH := Lib.hid hsh
    have HK := Lib.hid hK
    clear e1 e2 e3 e4 e5 e6 e7 p1 k2 hsh hK
    gi_wp2
    refine wpIn_normalOnly ?_
    gi_region_with_o (fail)
    all_goals unfold normalOnly
    all_goals gi_wp2
    all_goals
      rw [Exit.noGoto_ret]
      obtain ⟨hKD, d4, d5, r4, r5, r6⟩ := HSH.out
      generalize (World.setCell (World.setCell W _ _) _ _).drew = W2 at *
      refine ⟨by simp, .inl ⟨_, _, rfl, run_takeDeferred hKD, ?_⟩⟩
      generalize W2.putObj D (.deferred none) = W3 at *
      refine ⟨.tuple #[mfV ZM.ver a ZM.segs.length cap, .int .i64 ZX], ?_, F', a, cap, rfl, r4, r5, r6⟩
      simp [results, Tryz.results9, go_sem, d4, d5, mfV]
end
set_option maxRecDepth 100000 in
set_option maxHeartbeats 2000000 in
theorem latest_far {B pb : Nat} {F : Nat → Prop} {S : Rs} {w : World} (h : RkS B w pb F S) (hS : Room S) (hfar : far S) : Calls Tryz.prog 9 #[.pointer (some ⟨pb, 0, none⟩)] w (LatPost B pb F (used S) noMf 9 w) := by
  obtain ⟨w1, hw1⟩ : ∃ w1, w1 = (w.alloc (.cells #[.pointer (some ⟨pb, 0, none⟩)] 24)).alloc (.cells #[.int .i64 0, .slice none 0 0] 33) := ⟨_, rfl⟩
  have hb1 : Below w.heap.size w w1 := by rw [hw1]; exact ((Below.refl _ _).alloc (Nat.le_refl _) _).alloc (by simp) _
  have n0 : w1.heap[w.heap.size]? = some (.cells #[.pointer (some ⟨pb, 0, none⟩)] 24 (0, 0)) := by rw [hw1]; exact heap_alloc2_old w _ _
  have n1 : w1.heap[w.heap.size + 1]? = some (.cells #[.int .i64 0, .slice none 0 0] 33 (0, 0)) := by rw [hw1]; exact heap_alloc2_new w _ _
  have hz1 : w1.heap.size = w.heap.size + 2 := by rw [hw1]; simp
  have HLS := Lib.hid (list_s (h.below hb1) (by have := hS.1; omega))
  have hnm : namesIf S = [] := by unfold namesIf; rw [if_pos hfar]
  rw [err_far _ hfar, hnm] at HLS
  have HR := Lib.hid h; have HB1 := Lib.hid hb1; have HW1 := Lib.hid hw1; have HN1 := Lib.hid n1; have HFL := Lib.hid (fun k (hk : F k) => h.lt hk)
  have e0 : w1.cell? ⟨w.heap.size, 0, none⟩ = some (.pointer (some ⟨pb, 0, none⟩)) := by rw [cell_of_row w1 _ 0 _ _ (0, 0) n0]; rfl
  rw [hw1] at e0
  clear h hS hfar hnm hw1 hb1 n0 n1
  have HZ1 := Lib.hid hz1
  clear hz1
  go_enter Tryz.func9, Tryz.ntmps9
  go_wp2_with fail
  go_step3
  go_wp2_with fail
  rw [← HW1.out]
  clear e0
  refine HLS.out.mono ?_
  rintro e w2 ⟨va, vc, rfl, hnms, F2, r2, hF2, t2⟩
  have q2 : Pz B pb F w1 (used S) w2 := ⟨F2, r2, hF2, t2⟩
  have hlt : w.heap.size + 1 < w1.heap.size := by have := HZ1.out; omega
  have h7 : w2.heap[w.heap.size + 1]? = _ := (z_block q2 hlt (fun hf => by have := (HFL.out _ hf).2; omega)).trans HN1.out
  obtain ⟨k0, k1, kf, k2⟩ := two_set h7 (.int .i64 0) (.slice none 0 0)
  obtain ⟨j0, j1⟩ := two_cells k2
  have HE := Lib.hid (z_end2 HR.out HB1.out q2 (Below.refl _ _) (two_turn (q := w.heap.size + 1) ⟨by omega, Or.inl hlt⟩ (.int .i64 0) (.slice none 0 0)))
  clear h7 k2 q2 hnms r2 t2 hF2
  go_wp2_with fail
  rw [Exit.noGoto_ret]
  generalize (w2.setCell _ _).setCell _ _ = wf at *
  obtain ⟨F9, h9, hf9⟩ := HE.out
  exact bodyPost_ret (v := .tuple #[mfV 0 none 0 0, .int .i64 9]) (by simp [results, Tryz.results9, go_sem, j0, j1, mfV]) rfl ⟨F9, none, 0, rfl, SgsIn.nil _ _, (fun x hx => nomatch hx), h9⟩
theorem latest_any {B pb : Nat} {F : Nat → Prop} {S : Rs} {w : World} (h : RkS B w pb F S) (hV : Vb B w) (hS : Room S) : Calls Tryz.prog 9 #[.pointer (some ⟨pb, 0, none⟩)] w (LatPost B pb F (latest S).1 (latest S).2.1 (latest S).2.2 w) := by
  unfold latest
  split
  · rename_i hf
    exact latest_far h hS hf
  · rename_i hf
    exact latest_near h hV hS hf
end Go.Proofs.YtkdidinekoaobaaGreatDoor.P
