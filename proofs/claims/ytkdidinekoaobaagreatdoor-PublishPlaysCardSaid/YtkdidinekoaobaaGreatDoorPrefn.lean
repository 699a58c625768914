/- The document's Next. -/
import Derived.Test.YtkdidinekoaobaaGreatDoorPapp
import Derived.Test.YtkdidinekoaobaaGreatDoorBb
import Derived.Test.YtkdidinekoaobaaGreatDoorPb
import Derived.Test.YtkdidinekoaobaaGreatDoorPoncew
import Derived.RegionTactic
import Derived.BigRegion
namespace Go.Proofs.YtkdidinekoaobaaGreatDoor.P
open Go.RowKit M J
set_option linter.unusedVariables false
set_option linter.unusedSimpArgs false

/-- The document's manifest is laid in block nb. -/
def MidR (w2 : World) (N : Int) (l : List Sg) (nb : Nat) (a' : Option Addr) (c' : Nat) (W : World) : Prop :=
  W.heap[nb]? = some (.cells #[.int .i64 N, .slice a' l.length c'] 41 (0, 0)) ∧ SgsIn W a' l ∧ Below w2.heap.size w2 W ∧ w2.heap.size ≤ nb ∧ ∀ x, a' = some x → w2.heap.size ≤ x.block
theorem MidR.new {w2 w8 : World} {N : Int} {l : List Sg} {a' : Option Addr} {c' : Nat} (h1 : SgsIn w8 a' l) (hx : ∀ x, a' = some x → w2.heap.size ≤ x.block) (h3 : Below w2.heap.size w2 w8) : MidR w2 N l w8.heap.size a' c' (w8.alloc (.cells #[.int .i64 N, .slice a' l.length c'] 41)) := by
  have b : Below w8.heap.size w8 (w8.alloc (.cells #[.int .i64 N, .slice a' l.length c'] 41)) := (Below.refl _ _).alloc (Nat.le_refl _) _
  exact ⟨heap_alloc_new w8 _, h1.later b (Nat.le_refl _), h3.trans (b.mono h3.size), h3.size, hx⟩
theorem MidR.set {w2 w8 : World} {N : Int} {l : List Sg} {a' : Option Addr} {c' nb : Nat} {c0 c1 : Value} (h1 : SgsIn w8 a' l) (hx : ∀ x, a' = some x → w2.heap.size ≤ x.block) (h3 : Below w2.heap.size w2 w8) (hn : w8.heap[nb]? = some (.cells #[c0, c1] 41 (0, 0))) (hnb : w2.heap.size ≤ nb) :
    MidR w2 N l nb a' c' ((w8.setCell ⟨nb, 0, none⟩ (.int .i64 N)).setCell ⟨nb, 1, none⟩ (.slice a' l.length c')) :=
  ⟨(set2_block hn _ _).2.2.2, sgs_set2 h1 hn _ _, h3.trans ((two_turn (q := nb) (G := fun k => w2.heap.size ≤ k) hnb _ _).below (fun k hk => hk) h3.size), hnb, hx⟩
theorem own_none {w : World} {g B : Nat} (hg : w.heap[g]? = some (.cells #[] 54 (0, 0))) (hB : B ≤ g) : w.ownsRow B 54 3 (.slice (some ⟨g, 0, none⟩) 0 0) 0 [] :=
  ⟨rfl, Or.inr ⟨g, 0, #[], rfl, hB, hg, Nat.le_refl _, by unfold maxLen; omega, rfl, rfl⟩⟩

theorem wrap_i64' (x : Int) : i64 (IntKind.i64.wrap x) := by unfold i64; rw [IntKind.wrap_i64]; omega
theorem Old.set {w1 W : World} (h : Old w1 W) {q j : Nat} (hq : w1.heap.size ≤ q) (v : Value) : Old w1 (W.setCell ⟨q, j, none⟩ v) := Below.setCell (p := ⟨q, j, none⟩) h hq v
set_option maxRecDepth 100000 in
set_option maxHeartbeats 4000000 in
theorem refnext_any {B qb : Nat} {lv sv : Value} {S : Rs} {w : World} {m : Mf} {ma a : Option Addr} {mc c : Nat} {l : List Sg} (h : Rf B w qb lv sv S) (hS : Room S) (hin : SgsIn w a l) (hmf : m.fit) (hlf : ∀ s ∈ l, s.fit) (hl : l.length ≤ 100) :
    Calls Tryz.prog 14 #[.pointer (some ⟨qb, 0, none⟩), mfV m.ver ma m.segs.length mc, .slice a l.length c] w fun e w' =>
      (∃ a' cap, e = .returned (.tuple #[mfV (next S m.ver l).2.1.ver a' (next S m.ver l).2.1.segs.length cap, .int .i64 (next S m.ver l).2.2]) ∧ SgsIn w' a' (next S m.ver l).2.1.segs) ∧ RfStep B qb lv sv w (next S m.ver l).1 w' := by
  obtain ⟨i0, hi, hz0, hz1, hz2⟩ := info_parts infoRSeg
  have HINF := Lib.hid (And.intro hi (And.intro hz0 (And.intro hz1 hz2)))
  clear hi hz0 hz1 hz2
  have hql := (h.lt (Or.inl rfl)).2
  obtain ⟨w2, hw2⟩ : ∃ w2, w2 = (w.alloc (.cells #[.int .i64 m.ver, .slice ma m.segs.length mc] 41)).alloc (.cells #[.int .i64 0, .slice none 0 0] 41) := ⟨_, rfl⟩
  have hb2 : Below w.heap.size w w2 := by rw [hw2]; exact ((Below.refl _ _).alloc (Nat.le_refl _) _).alloc (by simp) _
  have n0 : w2.heap[w.heap.size]? = some (.cells #[.int .i64 m.ver, .slice ma m.segs.length mc] 41 (0, 0)) := by rw [hw2]; exact heap_alloc2_old w _ _
  have n1 : w2.heap[w.heap.size + 1]? = some (.cells #[.int .i64 0, .slice none 0 0] 41 (0, 0)) := by rw [hw2]; exact heap_alloc2_new w _ _
  have hz2 : w2.heap.size = w.heap.size + 2 := by rw [hw2]; simp
  obtain ⟨N, hN⟩ : ∃ N, IntKind.i64.wrap (m.ver + 1) = N := ⟨_, rfl⟩
  have hnx : nextMf m.ver l = ⟨N, l⟩ := by unfold nextMf; rw [hN]
  have hin2 := hin.later hb2 (Nat.le_refl _)
  have e0 : w2.cell? ⟨w.heap.size, 0, none⟩ = some (.int .i64 m.ver) := by rw [cell_of_row w2 _ 0 _ _ (0, 0) n0]; rfl
  have hA : w.heap.size < w2.heap.size := by omega
  have m0 : ∀ W, Below w2.heap.size w2 W → W.cell? ⟨w.heap.size, 0, none⟩ = some (.int .i64 m.ver) := fun W hW => (Below.cell (p := ⟨w.heap.size, 0, none⟩) hW hA).trans e0
  have A0 : Below w2.heap.size w2 w2.drew := (Below.refl w2.heap.size w2).drew
  have A1 : Below w2.heap.size w2 (w2.alloc (.cells #[] 54)).drew := ((Below.refl w2.heap.size w2).alloc (Nat.le_refl _) _).drew
  have A2 : Below w2.heap.size w2 ((w2.alloc (.cells #[] 54)).alloc (.cells #[.int .i64 0, .slice none 0 0] 41)).drew := (((Below.refl w2.heap.size w2).alloc (Nat.le_refl _) _).alloc (by simp) _).drew
  have A3 : Below w2.heap.size w2 ((w2.alloc (.cells #[.int .i64 0, .slice none 0 0] 41)).alloc (.cells #[] 54)).drew := (((Below.refl w2.heap.size w2).alloc (Nat.le_refl _) _).alloc (by simp) _).drew
  have A4 : Below w2.heap.size w2 (w2.alloc (.cells #[.int .i64 0, .slice none 0 0] 41)).drew := ((Below.refl w2.heap.size w2).alloc (Nat.le_refl _) _).drew
  have O1 := Lib.hid (own_none (w := (w2.alloc (.cells #[] 54)).drew) (heap_alloc_new w2 _) (Nat.le_refl w2.heap.size))
  have O2 := Lib.hid (own_none (w := ((w2.alloc (.cells #[] 54)).alloc (.cells #[.int .i64 0, .slice none 0 0] 41)).drew) (heap_alloc2_old w2 _ _) (Nat.le_refl w2.heap.size))
  have O3 := Lib.hid (own_none (w := ((w2.alloc (.cells #[.int .i64 0, .slice none 0 0] 41)).alloc (.cells #[] 54)).drew) (heap_alloc2_new w2 _ _) (Nat.le_succ w2.heap.size))
  have S1 := Lib.hid (src_sgs (c := c) (hin2.later A1 (Nat.le_refl _)))
  have S2 := Lib.hid (src_sgs (c := c) (hin2.later A2 (Nat.le_refl _)))
  have S3 := Lib.hid (src_sgs (c := c) (hin2.later A3 (Nat.le_refl _)))
  have x2 := heap_alloc2_new w2 (.cells #[] 54) (.cells #[.int .i64 0, .slice none 0 0] 41)
  have x3 := heap_alloc2_old w2 (.cells #[.int .i64 0, .slice none 0 0] 41) (.cells #[] 54)
  have f0 := m0 _ A0
  have f1 := m0 _ A1
  have f2 := m0 _ A2
  have f3 := m0 _ A3
  have f4 := m0 _ A4
  have HM0 := Lib.hid m0; have X2 := Lib.hid x2; have X3 := Lib.hid x3
  have HR := Lib.hid h; have HS := Lib.hid hS; have HB2 := Lib.hid hb2; have HN1 := Lib.hid n1; have HZ2 := Lib.hid hz2; have HW2 := Lib.hid hw2; have HNX := Lib.hid hnx; have HLF := Lib.hid hlf; have HNW := Lib.hid hN
  have Z1 := Lib.hid A1.size; have Z2 := Lib.hid A2.size; have Z3 := Lib.hid A3.size; have AA1 := Lib.hid A1; have AA2 := Lib.hid A2; have AA3 := Lib.hid A3
  clear hin2 n0 n1 hb2 hw2 hz2 h hS hnx hlf hmf m0 A0 A1 A2 A3 A4 e0 hin hA x2 x3
  have hll := Lib.hid hl
  generalize hL : l.length = L at *
  have HL := Lib.hid hL
  clear hL hl
  unfold mfV
  generalize m.segs.length = ML at *
  generalize hmv : m.ver = mv at *
  clear hmv
  generalize hq : next S mv l = NX at *
  have HQ := Lib.hid hq
  clear hq
  obtain ⟨NS, NM, NE⟩ := NX
  simp only
  go_enter Tryz.func14, Tryz.ntmps14
  go_upto_region 1 with fail
  rw [← HW2.out]
  go_cut [8] (fun nv wc => ∃ nb a' c', nv = .pointer (some ⟨nb, 0, none⟩) ∧ MidR w2 N l nb a' c' wc)
  case first =>
    have K0 := J.Old.refl w2
    have m0 : ∀ W, J.Old w2 W → W.cell? ⟨w.heap.size, 0, none⟩ = some (.int .i64 mv) := HM0.out
    clear f0 f1 f2 f3 f4
    go_region_held3 (fun W => J.Old w2 W) (first | assumption | exact K0 | exact K0.drew | exact J.Old.drew ‹_› | exact J.Old.alloc ‹_› _ | exact (K0.alloc _).drew | exact K0.alloc _ | exact ((K0.alloc _).alloc _).drew | exact (J.Old.alloc ‹_› _).drew | exact Old.set (Old.set ‹_› (by omega) _) (by omega) _ | exact Old.set ‹_› (by omega) _)
      (first
      | (refine step_append_row rfl (.tmp 16) (.tmp 17) 39 (by rfl) w2.heap.size 54 i0 _ 3 24 Tryz.underlying39 HINF.out.1 HINF.out.2.1 HINF.out.2.2.1 HINF.out.2.2.2 (by omega) rfl _ 0 [] (by rfl) O1.out _ L _ (by rfl) S1.out (by have := hll.out; omega) Z1.out ?_
         intro a' c' w8 hown hb8 hg8
         simp only [Nat.zero_add, List.nil_append] at hown ⊢
         have K1 : J.Old w2 w8 := AA1.out.trans hb8
         have N8 := Lib.hid hown)
      | (refine step_append_row rfl (.tmp 16) (.tmp 17) 39 (by rfl) w2.heap.size 54 i0 _ 3 24 Tryz.underlying39 HINF.out.1 HINF.out.2.1 HINF.out.2.2.1 HINF.out.2.2.2 (by omega) rfl _ 0 [] (by rfl) O2.out _ L _ (by rfl) S2.out (by have := hll.out; omega) Z2.out ?_
         intro a' c' w8 hown hb8 hg8
         simp only [Nat.zero_add, List.nil_append] at hown ⊢
         have K1 : J.Old w2 w8 := AA2.out.trans hb8
         have x8 := (hg8.block (w2.heap.size + 1) (Array.getElem?_eq_some_iff.1 X2.out).1 (by simp [Value.ownBlock])).trans X2.out
         obtain ⟨s0, s1, sf, _⟩ := set2_block x8 (.int .i64 N) (.slice a' L c')
         have X8 := Lib.hid x8
         have N8 := Lib.hid hown)
      | (refine step_append_row rfl (.tmp 16) (.tmp 17) 39 (by rfl) w2.heap.size 54 i0 _ 3 24 Tryz.underlying39 HINF.out.1 HINF.out.2.1 HINF.out.2.2.1 HINF.out.2.2.2 (by omega) rfl _ 0 [] (by rfl) O3.out _ L _ (by rfl) S3.out (by have := hll.out; omega) Z3.out ?_
         intro a' c' w8 hown hb8 hg8
         simp only [Nat.zero_add, List.nil_append] at hown ⊢
         have K1 : J.Old w2 w8 := AA3.out.trans hb8
         have x8 := (hg8.block w2.heap.size (Array.getElem?_eq_some_iff.1 X3.out).1 (by simp [Value.ownBlock])).trans X3.out
         obtain ⟨s0, s1, sf, _⟩ := set2_block x8 (.int .i64 N) (.slice a' L c')
         have X8 := Lib.hid x8
         have N8 := Lib.hid hown))
    all_goals
      have hsg : SgsIn w8 a' l := by
        obtain ⟨a9, c9, e9, h9⟩ := owns_sgs (l := l) (v := .slice a' L c') (by rw [HL.out]; exact N8.out)
        injection e9 with e9 _ _
        subst e9
        exact h9
      have hfr : ∀ x, a' = some x → w2.heap.size ≤ x.block := fun x hx => by
        rcases N8.out.2 with ⟨e, _⟩ | ⟨g, cap', cur, e, hB, _⟩
        · injection e with e; rw [e] at hx; cases hx
        · injection e with e; rw [e] at hx; cases hx; exact hB
      have HSG := Lib.hid hsg; have HFR := Lib.hid hfr
      clear hfr
      clear hsg m0 K0
      have KK := Lib.hid K1
      clear K1
      go_wp2_with fail
      go_meet
      first
        | exact ⟨_, a', c', rfl, by have := MidR.new (N := N) (c' := c') HSG.out HFR.out KK.out; rw [HL.out] at this; exact this⟩
        | exact ⟨_, a', c', rfl, by have := MidR.set (N := N) (c' := c') HSG.out HFR.out KK.out X8.out (by omega); rw [HL.out] at this; exact this⟩
  case rest =>
    obtain ⟨nb, a', c', rfl, hM⟩ := hcut
    obtain ⟨p1, p2, p4, p5, p6⟩ := hM
    rw [HL.out] at p1
    have hfit : (⟨N, l⟩ : Mf).fit := ⟨by rw [← HNW.out]; exact wrap_i64' _, HLF.out⟩
    have hbc : Below w.heap.size w wc := HB2.out.trans (p4.mono HB2.out.size)
    have hll2 := hll.out
    have hby : Calls Tryz.prog 41 #[.agg #[.int .i64 N, .slice a' L c']] wc fun e w' => e = .returned (.tuple #[.string (bs (mbs ⟨N, l⟩).1), .int .i64 ((mbs ⟨N, l⟩).2 : Nat)]) ∧ Below wc.heap.size wc w' := by
      have := refbytes_any ⟨N, l⟩ a' c' wc p2 (by show l.length ≤ 2000; rw [HL.out]; omega) hfit.wf
      unfold mfV at this
      rw [show (⟨N, l⟩ : Mf).ver = N from rfl, show (⟨N, l⟩ : Mf).segs = l from rfl, HL.out] at this
      exact this
    obtain ⟨d0, d1⟩ := two_cells p1
    have hnl : nb < wc.heap.size := (Array.getElem?_eq_some_iff.1 p1).1
    have hz2 := HZ2.out
    have n1c : wc.heap[w.heap.size + 1]? = _ := (p4.block _ (by omega)).trans HN1.out
    have hzc := p4.size
    have hqn : qb ≠ nb := by omega
    have HQB : Hid (l ≠ [] → ∀ x, a' = some x → x.block ≠ qb) := Lib.hid (fun _ x hx => by have := p6 x hx; omega)
    have hqr : qb ≠ w.heap.size + 1 := by omega
    have HBY := Lib.hid hby; have HN1C := Lib.hid n1c; have HP1 := Lib.hid p1; have HP2 := Lib.hid p2; have HBC := Lib.hid hbc; have HFIT := Lib.hid hfit
    clear hby n1c p1 p2 p4 p6 hbc hfit O1 O2 O3 S1 S2 S3 X2 X3 Z1 Z2 Z3 AA1 AA2 AA3 HM0 hll2 f0 f1 f2 f3 f4
    by_cases hr : Right ⟨N, l⟩
    · obtain ⟨bt, hbt⟩ : ∃ bt, bt = (mbs ⟨N, l⟩).1 := ⟨_, rfl⟩
      have HM2 : Hid ((mbs ⟨N, l⟩).2 = 0) := Lib.hid (by rw [mbs_yes hr])
      rw [← hbt, HM2.out] at HBY
      have hq := HQ.out
      rw [next_po S mv l (by rw [HNX.out]; exact hr), HNX.out, ← hbt, show (⟨N, l⟩ : Mf).ver = N from rfl] at hq
      have HV6 := Lib.hid (fun W => refname_any N W HFIT.out.1.1 HFIT.out.1.2)
      have hnf := nm_few N
      have HP := Lib.hid (fun w1 W h => q_putNew (S := S) (n := nm N) (b := bt) (W := W) (B := B) (qb := qb) (lv := lv) (sv := sv) (w1 := w1) h (by have := HS.out.1; omega) (by have := HS.out.2.2; omega) (by omega))
      have hpl : (putS S (nm N) bt).obs.length < 1000000000 := by
        have h1 : (newL S.obs (nm N) bt).length ≤ S.obs.length + 1 := by
          unfold newL
          split
          · omega
          · exact len_lays _ _ _
        have := HS.out.2.2
        unfold putS takes
        show (if fateOf S = 1 then S.obs else newL S.obs (nm N) bt).length < _
        split <;> omega
      have HG := Lib.hid (fun w1 W h => q_get (S := putS S (nm N) bt) (n := nm N) (W := W) (B := B) (qb := qb) (lv := lv) (sv := sv) (w1 := w1) h (by rw [putS_n]; have := HS.out.1; omega) hpl)
      have hpo : po S (nm N) bt = if putE S (nm N) = 0 then (putS S (nm N) bt, 0) else if gE (putS S (nm N) bt) (nm N) = 0 ∧ gB (putS S (nm N) bt) (nm N) = bt then (used (putS S (nm N) bt), 0) else (used (putS S (nm N) bt), putE S (nm N)) := rfl
      have hcmp : ((bs (gB (putS S (nm N) bt) (nm N))).toList == (bs bt).toList) = decide (gB (putS S (nm N) bt) (nm N) = bt) := by
        rw [bs_toList, bs_toList]
        by_cases h : gB (putS S (nm N) bt) (nm N) = bt
        · rw [decide_eq_true h]; simpa using h
        · rw [decide_eq_false h]; simpa using h
      have hcase := putE_cases S (nm N)
      clear hr hbt hpl hnf
      rw [hpo] at hq
      clear hpo
      generalize putE S (nm N) = pe at *
      generalize putS S (nm N) bt = S1 at *
      generalize gE S1 (nm N) = g at *
      generalize gB S1 (nm N) = cg at *
      generalize bs (nm N) = On at *
      by_cases h0 : pe = 0
      · subst h0
        simp only [if_true, Prod.mk.injEq] at hq
        obtain ⟨rfl, hq2, rfl⟩ := hq
        have HQ2 := Lib.hid hq2
        clear hq2 hcase hcmp
        generalize bs bt = Bt at *
        go_wp2_with fail
        refine HBY.out.mono ?_
        rintro e w5 ⟨rfl, b5⟩
        have e0 := (b5.cell (p := ⟨nb, 0, none⟩) hnl).trans d0
        clear d0 d1
        go_wp2_with fail
        refine (HV6.out _).mono ?_
        rintro e w6 ⟨rfl, b6⟩
        have hb6 := (HBC.out.trans (b5.mono HBC.out.size)).trans (b6.mono (Nat.le_trans HBC.out.size b5.size))
        have b56 := b5.trans (b6.mono b5.size)
        have z56 := b56.size
        go_wp2_with fail
        refine (HP.out w6 w6 (q_start HR.out hb6)).mono ?_
        rintro e w7 ⟨rfl, q7, t7⟩
        clear t7
        have h7 : w7.heap[w.heap.size + 1]? = _ := ((q_block q7 (by omega) hqr.symm).trans (b56.block _ (by omega))).trans HN1C.out
        have h7n : w7.heap[nb]? = _ := ((q_block q7 (by omega) hqn.symm).trans (b56.block _ hnl)).trans HP1.out
        have HI7 : SgsIn w7 a' l := sgs_turn2 (HP2.out.later b56 (Nat.le_refl _)) (q_size q7) (fun hne x hx hlt => q_block q7 hlt (fun e => by
          obtain ⟨b, off, e1, h2, _⟩ := HP2.out 0 (List.length_pos_iff.2 hne)
          rw [hx] at e1
          cases e1
          exact HQB.out hne _ hx e))
        obtain ⟨d0, d1⟩ := two_cells h7n
        obtain ⟨k0, k1, kf, k2⟩ := two_set h7 (.int .i64 N) (.slice a' L c')
        obtain ⟨j0, j1⟩ := two_cells k2
        have HE := Lib.hid (q_end HR.out hb6 q7 (two_turn (q := w.heap.size + 1) ⟨by omega, by omega⟩ (.int .i64 N) (.slice a' L c')))
        have HI := Lib.hid (sgs_set2 HI7 h7 (.int .i64 N) (.slice a' L c'))
        clear h7 h7n k2 q7 b56 b5 b6 hb6 HI7 e0
        go_wp2_with fail
        generalize (w7.setCell _ _).setCell _ _ = wf at *
        rw [← HQ2.out]
        exact bodyPost_ret (v := .tuple #[.agg #[.int .i64 N, .slice a' L c'], .int .i64 0]) (by simp [results, Tryz.results14, go_sem, j0, j1]) rfl ⟨⟨a', c', by rw [HL.out], HI.out⟩, HE.out⟩
      · simp only [if_neg h0] at hq
        have hpe : (pe == 0) = false := by simpa using h0
        by_cases hg : g = 0
        · subst hg
          by_cases hcb : cg = bt
          · simp only [hcb, and_self, if_true, Prod.mk.injEq] at hq
            obtain ⟨rfl, hq2, rfl⟩ := hq
            have HQ2 := Lib.hid hq2
            rw [decide_eq_true hcb] at hcmp
            clear hq2 hcase hcb h0
            generalize bs cg = Cg at *
            generalize bs bt = Bt at *
            go_wp2_with fail
            refine HBY.out.mono ?_
            rintro e w5 ⟨rfl, b5⟩
            have e0 := (b5.cell (p := ⟨nb, 0, none⟩) hnl).trans d0
            clear d0 d1
            go_wp2_with fail
            refine (HV6.out _).mono ?_
            rintro e w6 ⟨rfl, b6⟩
            have hb6 := (HBC.out.trans (b5.mono HBC.out.size)).trans (b6.mono (Nat.le_trans HBC.out.size b5.size))
            have b56 := b5.trans (b6.mono b5.size)
            have z56 := b56.size
            go_wp2_with fail
            refine (HP.out w6 w6 (q_start HR.out hb6)).mono ?_
            rintro e w7 ⟨rfl, q7, t7⟩
            clear t7
            have h7a : w7.heap[nb]? = _ := ((q_block q7 (by omega) hqn.symm).trans (b56.block _ hnl)).trans HP1.out
            obtain ⟨e7, _⟩ := two_cells h7a
            go_wp2_with fail
            refine (HV6.out _).mono ?_
            rintro e w8 ⟨rfl, b8⟩
            have q8 := q_below q7 b8
            clear q7 b8 e7 h7a
            go_wp2_with fail
            refine (HG.out w6 w8 q8).mono ?_
            rintro e w9 ⟨rfl, q9, t9⟩
            clear q8 t9
            have h7 : w9.heap[w.heap.size + 1]? = _ := ((q_block q9 (by omega) hqr.symm).trans (b56.block _ (by omega))).trans HN1C.out
            have h7n : w9.heap[nb]? = _ := ((q_block q9 (by omega) hqn.symm).trans (b56.block _ hnl)).trans HP1.out
            have HI7 : SgsIn w9 a' l := sgs_turn2 (HP2.out.later b56 (Nat.le_refl _)) (q_size q9) (fun hne x hx hlt => q_block q9 hlt (fun e => by
              obtain ⟨b, off, e1, h2, _⟩ := HP2.out 0 (List.length_pos_iff.2 hne)
              rw [hx] at e1
              cases e1
              exact HQB.out hne _ hx e))
            obtain ⟨d0, d1⟩ := two_cells h7n
            obtain ⟨k0, k1, kf, k2⟩ := two_set h7 (.int .i64 N) (.slice a' L c')
            obtain ⟨j0, j1⟩ := two_cells k2
            have HE := Lib.hid (q_end HR.out hb6 q9 (two_turn (q := w.heap.size + 1) ⟨by omega, by omega⟩ (.int .i64 N) (.slice a' L c')))
            have HI := Lib.hid (sgs_set2 HI7 h7 (.int .i64 N) (.slice a' L c'))
            clear h7 h7n k2 q9 b56 b5 b6 hb6 HI7 e0
            go_wp2_with fail
            generalize (w9.setCell _ _).setCell _ _ = wf at *
            rw [← HQ2.out]
            exact bodyPost_ret (v := .tuple #[.agg #[.int .i64 N, .slice a' L c'], .int .i64 0]) (by simp [results, Tryz.results14, go_sem, j0, j1]) rfl ⟨⟨a', c', by rw [HL.out], HI.out⟩, HE.out⟩
          · simp only [hcb, and_false, if_false, h0, Prod.mk.injEq] at hq
            obtain ⟨rfl, hq2, rfl⟩ := hq
            have HQ2 := Lib.hid hq2
            rw [decide_eq_false hcb] at hcmp
            clear hq2 hcase hcb h0
            generalize bs cg = Cg at *
            generalize bs bt = Bt at *
            go_wp2_with fail
            refine HBY.out.mono ?_
            rintro e w5 ⟨rfl, b5⟩
            have e0 := (b5.cell (p := ⟨nb, 0, none⟩) hnl).trans d0
            clear d0 d1
            go_wp2_with fail
            refine (HV6.out _).mono ?_
            rintro e w6 ⟨rfl, b6⟩
            have hb6 := (HBC.out.trans (b5.mono HBC.out.size)).trans (b6.mono (Nat.le_trans HBC.out.size b5.size))
            have b56 := b5.trans (b6.mono b5.size)
            have z56 := b56.size
            go_wp2_with fail
            refine (HP.out w6 w6 (q_start HR.out hb6)).mono ?_
            rintro e w7 ⟨rfl, q7, t7⟩
            clear t7
            have h7a : w7.heap[nb]? = _ := ((q_block q7 (by omega) hqn.symm).trans (b56.block _ hnl)).trans HP1.out
            obtain ⟨e7, _⟩ := two_cells h7a
            go_wp2_with fail
            refine (HV6.out _).mono ?_
            rintro e w8 ⟨rfl, b8⟩
            have q8 := q_below q7 b8
            clear q7 b8 e7 h7a
            go_wp2_with fail
            refine (HG.out w6 w8 q8).mono ?_
            rintro e w9 ⟨rfl, q9, t9⟩
            clear q8 t9
            have h7 : w9.heap[w.heap.size + 1]? = _ := ((q_block q9 (by omega) hqr.symm).trans (b56.block _ (by omega))).trans HN1C.out
            obtain ⟨k0, k1, kf, k2⟩ := two_set h7 (.int .i64 0) (.slice none 0 0)
            obtain ⟨j0, j1⟩ := two_cells k2
            have HE := Lib.hid (q_end HR.out hb6 q9 (two_turn (q := w.heap.size + 1) ⟨by omega, by omega⟩ (.int .i64 0) (.slice none 0 0)))
            clear h7 k2 q9 b56 b5 b6 hb6 e0
            go_wp2_with fail
            generalize (w9.setCell _ _).setCell _ _ = wf at *
            rw [← HQ2.out]
            exact bodyPost_ret (v := .tuple #[.agg #[.int .i64 0, .slice none 0 0], .int .i64 pe]) (by simp [results, Tryz.results14, go_sem, j0, j1]) rfl ⟨⟨none, 0, rfl, SgsIn.nil _ _⟩, HE.out⟩
        · simp only [hg, false_and, if_false, h0, Prod.mk.injEq] at hq
          obtain ⟨rfl, hq2, rfl⟩ := hq
          have HQ2 := Lib.hid hq2
          have hg' : (g == 0) = false := by simpa using hg
          clear hq2 hcase hg h0 hcmp
          generalize bs cg = Cg at *
          generalize bs bt = Bt at *
          go_wp2_with fail
          refine HBY.out.mono ?_
          rintro e w5 ⟨rfl, b5⟩
          have e0 := (b5.cell (p := ⟨nb, 0, none⟩) hnl).trans d0
          clear d0 d1
          go_wp2_with fail
          refine (HV6.out _).mono ?_
          rintro e w6 ⟨rfl, b6⟩
          have hb6 := (HBC.out.trans (b5.mono HBC.out.size)).trans (b6.mono (Nat.le_trans HBC.out.size b5.size))
          have b56 := b5.trans (b6.mono b5.size)
          have z56 := b56.size
          go_wp2_with fail
          refine (HP.out w6 w6 (q_start HR.out hb6)).mono ?_
          rintro e w7 ⟨rfl, q7, t7⟩
          clear t7
          have h7a : w7.heap[nb]? = _ := ((q_block q7 (by omega) hqn.symm).trans (b56.block _ hnl)).trans HP1.out
          obtain ⟨e7, _⟩ := two_cells h7a
          go_wp2_with fail
          refine (HV6.out _).mono ?_
          rintro e w8 ⟨rfl, b8⟩
          have q8 := q_below q7 b8
          clear q7 b8 e7 h7a
          go_wp2_with fail
          refine (HG.out w6 w8 q8).mono ?_
          rintro e w9 ⟨rfl, q9, t9⟩
          clear q8 t9
          have h7 : w9.heap[w.heap.size + 1]? = _ := ((q_block q9 (by omega) hqr.symm).trans (b56.block _ (by omega))).trans HN1C.out
          obtain ⟨k0, k1, kf, k2⟩ := two_set h7 (.int .i64 0) (.slice none 0 0)
          obtain ⟨j0, j1⟩ := two_cells k2
          have HE := Lib.hid (q_end HR.out hb6 q9 (two_turn (q := w.heap.size + 1) ⟨by omega, by omega⟩ (.int .i64 0) (.slice none 0 0)))
          clear h7 k2 q9 b56 b5 b6 hb6 e0
          go_wp2_with fail
          generalize (w9.setCell _ _).setCell _ _ = wf at *
          rw [← HQ2.out]
          exact bodyPost_ret (v := .tuple #[.agg #[.int .i64 0, .slice none 0 0], .int .i64 pe]) (by simp [results, Tryz.results14, go_sem, j0, j1]) rfl ⟨⟨none, 0, rfl, SgsIn.nil _ _⟩, HE.out⟩
    · have hq := HQ.out
      rw [next_bad S mv l (by rw [HNX.out]; exact hr)] at hq
      simp only [Prod.mk.injEq] at hq
      obtain ⟨rfl, hq2, rfl⟩ := hq
      rw [mbs_no hr] at HBY
      have HQ2 := Lib.hid hq2
      clear hq2 hr
      rw [show (((([] : List UInt8), 1) : List UInt8 × Nat).2 : Int) = 1 from rfl] at HBY
      generalize bs ((([] : List UInt8), 1) : List UInt8 × Nat).1 = Bt at *
      go_wp2_with fail
      refine HBY.out.mono ?_
      rintro e w5 ⟨rfl, b5⟩
      have hb5 := HBC.out.trans (b5.mono HBC.out.size)
      have q5 := q_start HR.out hb5
      have z5 := b5.size
      have h7 : w5.heap[w.heap.size + 1]? = _ := (b5.block _ (by omega)).trans HN1C.out
      obtain ⟨k0, k1, kf, k2⟩ := two_set h7 (.int .i64 0) (.slice none 0 0)
      obtain ⟨j0, j1⟩ := two_cells k2
      have HE := Lib.hid (q_end HR.out hb5 q5 (two_turn (q := w.heap.size + 1) ⟨by omega, by omega⟩ (.int .i64 0) (.slice none 0 0)))
      clear h7 k2 q5 b5 hb5 d0 d1
      go_wp2_with fail
      generalize (w5.setCell _ _).setCell _ _ = wf at *
      rw [← HQ2.out]
      exact bodyPost_ret (v := .tuple #[.agg #[.int .i64 0, .slice none 0 0], .int .i64 1]) (by simp [results, Tryz.results14, go_sem, j0, j1]) rfl ⟨⟨none, 0, rfl, SgsIn.nil _ _⟩, HE.out⟩
end Go.Proofs.YtkdidinekoaobaaGreatDoor.P
