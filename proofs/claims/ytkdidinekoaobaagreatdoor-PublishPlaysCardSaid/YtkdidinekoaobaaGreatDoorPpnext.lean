/- The program's Next. -/
import Derived.Test.YtkdidinekoaobaaGreatDoorPb
import Derived.Test.YtkdidinekoaobaaGreatDoorPpapp
import Derived.Test.YtkdidinekoaobaaGreatDoorPoncew
import Derived.RegionTactic
import Derived.BigRegion
namespace Go.Proofs.YtkdidinekoaobaaGreatDoor.P
open Go.RowKit M J
set_option linter.unusedVariables false
set_option linter.unusedSimpArgs false

/-- The manifest is laid in block nb. -/
def MidX (w2 : World) (N : Int) (l : List Sg) (nb : Nat) (a' : Option Addr) (c' : Nat) (W : World) : Prop :=
  W.heap[nb]? = some (.cells #[.int .i64 N, .slice a' l.length c'] 33 (0, 0)) ∧ SgsIn W a' l ∧ (∀ x, a' = some x → w2.heap.size ≤ x.block ∧ x.block < W.heap.size) ∧ Below w2.heap.size w2 W ∧ w2.heap.size ≤ nb
def CloX (w2 : World) (l : List Sg) (a' : Option Addr) (W w8 : World) : Prop := SgsIn w8 a' l ∧ (∀ x, a' = some x → W.heap.size ≤ x.block ∧ x.block < w8.heap.size) ∧ Below W.heap.size W w8 ∧ Below w2.heap.size w2 W
theorem MidX.new {w2 W w8 : World} {N : Int} {l : List Sg} {a' : Option Addr} {c' : Nat} (h : CloX w2 l a' W w8) : MidX w2 N l w8.heap.size a' c' (w8.alloc (.cells #[.int .i64 N, .slice a' l.length c'] 33)) := by
  obtain ⟨h1, h2, h3, h4⟩ := h
  have b : Below w8.heap.size w8 (w8.alloc (.cells #[.int .i64 N, .slice a' l.length c'] 33)) := (Below.refl _ _).alloc (Nat.le_refl _) _
  have z1 := h4.size
  have z2 := h3.size
  exact ⟨heap_alloc_new w8 _, h1.later b (Nat.le_refl _), fun x hx => by have := h2 x hx; have := b.size; omega, (h4.trans (h3.mono z1)).trans (b.mono (by omega)), by omega⟩
theorem MidX.set {w2 W w8 : World} {N : Int} {l : List Sg} {a' : Option Addr} {c' nb : Nat} {c0 c1 : Value} (h : CloX w2 l a' W w8) (hn : w8.heap[nb]? = some (.cells #[c0, c1] 33 (0, 0))) (hnb : w2.heap.size ≤ nb) (hw : nb < W.heap.size) :
    MidX w2 N l nb a' c' ((w8.setCell ⟨nb, 0, none⟩ (.int .i64 N)).setCell ⟨nb, 1, none⟩ (.slice a' l.length c')) := by
  obtain ⟨h1, h2, h3, h4⟩ := h
  have z1 := h4.size
  have z2 := h3.size
  refine ⟨(set2_block hn _ _).2.2.2, far_two h1 (fun x hx => by have := h2 x hx; omega) _ _, fun x hx => by have := h2 x hx; simp only [World.size_setCell]; omega, (h4.trans (h3.mono z1)).trans ((two_turn (q := nb) (G := fun k => w2.heap.size ≤ k) hnb _ _).below (fun k hk => hk) (by omega)), hnb⟩

theorem wrap_i64 (x : Int) : i64 (IntKind.i64.wrap x) := by unfold i64; rw [IntKind.wrap_i64]; omega
set_option maxRecDepth 100000 in
set_option maxHeartbeats 4000000 in
theorem pnext_any {B pb : Nat} {F : Nat → Prop} {S : Rs} {w : World} {m : Mf} {ma a : Option Addr} {mc c : Nat} {l : List Sg} (h : RkS B w pb F S) (hV : Vb B w) (hS : Room S) (hin : SgsIn w a l) (hmf : m.fit) (hlf : ∀ s ∈ l, s.fit) (hl : l.length ≤ 100) :
    Calls Tryz.prog 13 #[.pointer (some ⟨pb, 0, none⟩), mfV m.ver ma m.segs.length mc, .slice a l.length c] w fun e w' =>
    ∃ F' a' cap, e = .returned (.tuple #[mfV (next S m.ver l).2.1.ver a' (next S m.ver l).2.1.segs.length cap, .int .i64 (next S m.ver l).2.2]) ∧ SgsIn w' a' (next S m.ver l).2.1.segs ∧ NewOr w F' a a' ∧ Goes B pb F (next S m.ver l).1 w w' F' := by
  obtain ⟨Z, hZ⟩ : ∃ Z : Obj, Z = .cells #[.int .i64 0, .slice none 0 0] 33 := ⟨_, rfl⟩
  obtain ⟨w2, hw2⟩ : ∃ w2, w2 = (w.alloc (.cells #[.int .i64 m.ver, .slice ma m.segs.length mc] 33)).alloc (.cells #[.int .i64 0, .slice none 0 0] 33) := ⟨_, rfl⟩
  have hb2 : Below w.heap.size w w2 := by rw [hw2]; exact ((Below.refl _ _).alloc (Nat.le_refl _) _).alloc (by simp) _
  have n0 : w2.heap[w.heap.size]? = some (.cells #[.int .i64 m.ver, .slice ma m.segs.length mc] 33 (0, 0)) := by rw [hw2]; exact heap_alloc2_old w _ _
  have n1 : w2.heap[w.heap.size + 1]? = some (.cells #[.int .i64 0, .slice none 0 0] 33 (0, 0)) := by rw [hw2]; exact heap_alloc2_new w _ _
  have hz2 : w2.heap.size = w.heap.size + 2 := by rw [hw2]; simp
  obtain ⟨N, hN⟩ : ∃ N, IntKind.i64.wrap (m.ver + 1) = N := ⟨_, rfl⟩
  have hnx : nextMf m.ver l = ⟨N, l⟩ := by unfold nextMf; rw [hN]
  have hin2 := hin.later hb2 (Nat.le_refl _)
  have e0 : w2.cell? ⟨w.heap.size, 0, none⟩ = some (.int .i64 m.ver) := by rw [cell_of_row w2 _ 0 _ _ (0, 0) n0]; rfl
  have hA : w.heap.size < w2.heap.size := by omega
  have m0 : ∀ W, Below w2.heap.size w2 W → W.cell? ⟨w.heap.size, 0, none⟩ = some (.int .i64 m.ver) := fun W hW => (Below.cell (p := ⟨w.heap.size, 0, none⟩) hW hA).trans e0
  have A1 : Below w2.heap.size w2 w2.drew := (Below.refl w2.heap.size w2).drew
  have A2 : Below w2.heap.size w2 (w2.alloc (.cells #[.int .i64 0, .slice none 0 0] 33)).drew := ((Below.refl w2.heap.size w2).alloc (Nat.le_refl _) _).drew
  have A4 : Below w2.heap.size w2 (w2.alloc (.cells #[.int .i64 0, .slice none 0 0] 33)) := (Below.refl w2.heap.size w2).alloc (Nat.le_refl _) _
  have HCL : ∀ W, Below w2.heap.size w2 W → Calls Tryz.prog 37 #[.slice a l.length c] W fun e w' => ∃ a' c', e = .returned (.slice a' l.length c') ∧ CloX w2 l a' W w' := fun W hW =>
    (pclone_any (c := c) (hin2.later hW (Nat.le_refl _)) (by omega)).mono fun e w' ⟨a', c', h1, h2, h3, h4⟩ => ⟨a', c', h1, h2, h3, h4, hW⟩
  have H1 := Lib.hid (HCL _ A1)
  have H2 := Lib.hid (HCL _ A2)
  have HM0 := Lib.hid m0
  have f1 : w2.drew.cell? ⟨w.heap.size, 0, none⟩ = some (.int .i64 m.ver) := e0
  have f2 := m0 _ A2
  have f3 := m0 _ A4
  have X2 : Hid (∀ a' w8, CloX w2 l a' (w2.alloc (.cells #[.int .i64 0, .slice none 0 0] 33)).drew w8 → w8.heap[w2.heap.size]? = some (.cells #[.int .i64 0, .slice none 0 0] 33 (0, 0))) := Lib.hid (fun a' w8 h => (h.2.2.1.block _ (by simp)).trans (heap_alloc_new w2 _))
  have HR := Lib.hid h; have HV := Lib.hid hV; have HS := Lib.hid hS; have HB2 := Lib.hid hb2; have HN1 := Lib.hid n1; have HZ2 := Lib.hid hz2; have HW2 := Lib.hid hw2; have HNX := Lib.hid hnx; have HLF := Lib.hid hlf; have HNW := Lib.hid hN
  clear hin2 n0 n1 hb2 hw2 hz2 h hV hS hnx hlf hZ hmf HCL m0 A1 A2 A4 e0 hin hA
  have hll := Lib.hid hl
  generalize hL : l.length = L at *
  have HL := Lib.hid hL
  clear hL hl
  unfold mfV
  generalize m.segs.length = ML at *
  generalize hmv : m.ver = mv at *
  clear hmv
  generalize hq : next S mv l = NX at *
  have HQ := Lib.hid hq
  clear hq
  obtain ⟨NS, NM, NE⟩ := NX
  simp only
  go_enter Tryz.func13, Tryz.ntmps13
  go_upto_region 1 with fail
  rw [← HW2.out]
  go_cut [8] (fun nv wc => ∃ nb a' c', nv = .pointer (some ⟨nb, 0, none⟩) ∧ MidX w2 N l nb a' c' wc)
  case first =>
    go_region_with (first
      | (go_at_call 37
         with_reducible refine H1.out.mono ?_
         rintro er w8 ⟨a', c', rfl, n8⟩
         have g1 := HM0.out w8 (n8.2.2.2.trans (n8.2.2.1.mono n8.2.2.2.size))
         have g2 := HM0.out (w8.alloc (.cells #[.int .i64 0, .slice none 0 0] 33)) ((n8.2.2.2.trans (n8.2.2.1.mono n8.2.2.2.size)).alloc (Nat.le_trans n8.2.2.2.size n8.2.2.1.size) _)
         have N8 := Lib.hid n8)
      | (go_at_call 37
         with_reducible refine H2.out.mono ?_
         rintro er w8 ⟨a', c', rfl, n8⟩
         have g1 := HM0.out w8 (n8.2.2.2.trans (n8.2.2.1.mono n8.2.2.2.size))
         have x8 := X2.out _ _ n8
         obtain ⟨s0, s1, sf, _⟩ := set2_block x8 (.int .i64 N) (.slice a' L c')
         have X8 := Lib.hid x8
         have N8 := Lib.hid n8))
    all_goals
      go_wp2_with fail
      go_meet
      first
        | exact ⟨_, a', c', rfl, by have := MidX.new (N := N) (c' := c') N8.out; rw [HL.out] at this; exact this⟩
        | exact ⟨_, a', c', rfl, by have := MidX.set (N := N) (c' := c') N8.out X8.out (Nat.le_refl _) (by simp); rw [HL.out] at this; exact this⟩
  case rest =>
    obtain ⟨nb, a', c', rfl, hM⟩ := hcut
    obtain ⟨p1, p2, p3, p4, p5⟩ := hM
    rw [HL.out] at p1
    have hfit : (⟨N, l⟩ : Mf).fit := ⟨by rw [← HNW.out]; exact wrap_i64 _, HLF.out⟩
    have hbc : Below w.heap.size w wc := HB2.out.trans (p4.mono HB2.out.size)
    have hll2 := hll.out
    have hby : Calls Tryz.prog 38 #[.agg #[.int .i64 N, .slice a' L c']] wc fun e w' => e = .returned (.tuple #[.string (bs (mbs ⟨N, l⟩).1), .int .i64 ((mbs ⟨N, l⟩).2 : Nat)]) ∧ Below wc.heap.size wc w' := by
      have := manC.bytes (m := ⟨N, l⟩) (a := a') (cap := c') (w := wc) p2 (by show l.length ≤ 1000; rw [HL.out]; omega) hfit
      unfold mfV at this
      rw [show (⟨N, l⟩ : Mf).ver = N from rfl, show (⟨N, l⟩ : Mf).segs = l from rfl, HL.out] at this
      exact this
    obtain ⟨d0, d1⟩ := two_cells p1
    have hnl : nb < wc.heap.size := (Array.getElem?_eq_some_iff.1 p1).1
    have n1c : wc.heap[w.heap.size + 1]? = _ := (p4.block _ (by have := HZ2.out; omega)).trans HN1.out
    have hz2 := HZ2.out
    have hzc := p4.size
    have HBY := Lib.hid hby; have HN1C := Lib.hid n1c; have HP1 := Lib.hid p1; have HP2 := Lib.hid p2; have HP3 := Lib.hid p3; have HBC := Lib.hid hbc; have HFIT := Lib.hid hfit
    clear hby n1c p1 p2 p3 p4 hbc hfit H1 H2 HM0 f1 f2 f3 X2 hll2
    by_cases hr : Right ⟨N, l⟩
    · obtain ⟨bt, hbt⟩ : ∃ bt, bt = (mbs ⟨N, l⟩).1 := ⟨_, rfl⟩
      have HM2 : Hid ((mbs ⟨N, l⟩).2 = 0) := Lib.hid (by rw [mbs_yes hr])
      rw [← hbt, HM2.out] at HBY
      have hq := HQ.out
      rw [next_po S mv l (by rw [HNX.out]; exact hr), HNX.out, ← hbt, show (⟨N, l⟩ : Mf).ver = N from rfl] at hq
      have HV6 := Lib.hid (fun W (hW : Below w.heap.size w W) => manC.name (v := N) (w := W) (HV.out.vt.later hW) HFIT.out.1)
      have HPO := Lib.hid (fun W (hW : Below w.heap.size w W) => putOnce_any (n := nm N) (b := bt) (HR.out.below hW) (by have := nm_few N; omega) HS.out.1 (by have := HS.out.2.2; omega))
      clear hr hbt
      generalize hpo : po S (nm N) bt = PO at *
      obtain ⟨S', x⟩ := PO
      clear hpo
      simp only [Prod.mk.injEq] at HPO hq
      obtain ⟨rfl, hq2, rfl⟩ := hq
      generalize bs (nm N) = On at *
      generalize bs bt = Bt at *
      by_cases hx : x = 0
      · subst hx
        rw [if_pos rfl] at hq2
        have HQ2 := Lib.hid hq2
        clear hq2
        go_wp2_with fail
        refine HBY.out.mono ?_
        rintro e w5 ⟨rfl, b5⟩
        have e0 := (b5.cell (p := ⟨nb, 0, none⟩) hnl).trans d0
        clear d0 d1
        go_wp2_with fail
        refine (HV6.out _ (HBC.out.trans (b5.mono HBC.out.size))).mono ?_
        rintro e w6 ⟨rfl, b6⟩
        have hb6 := (HBC.out.trans (b5.mono HBC.out.size)).trans (b6.mono (Nat.le_trans HBC.out.size b5.size))
        go_wp2_with fail
        refine (HPO.out _ hb6).mono ?_
        rintro e w7 ⟨rfl, F7, g7, s7⟩
        have q7 : Pz B pb F w6 S' w7 := ⟨F7, g7.1, s7, g7.2.2⟩
        have b56 := b5.trans (b6.mono b5.size)
        have z56 := b56.size
        have h7 : w7.heap[w.heap.size + 1]? = _ := ((z_block q7 (by omega) (fun hf => by have := (HR.out.lt hf).2; omega)).trans (b56.block _ (by omega))).trans HN1C.out
        have h7n : w7.heap[nb]? = _ := ((z_block q7 (by omega) (fun hf => by have := (HR.out.lt hf).2; omega)).trans (b56.block _ hnl)).trans HP1.out
        have HI7 : SgsIn w7 a' l := sgs_turn (HP2.out.later b56 (Nat.le_refl _)) (z_size q7) (fun x hx hlt => z_block q7 hlt (fun hf => by have := (HR.out.lt hf).2; have := HP3.out x hx; omega))
        obtain ⟨d0, d1⟩ := two_cells h7n
        obtain ⟨k0, k1, kf, k2⟩ := two_set h7 (.int .i64 N) (.slice a' L c')
        obtain ⟨j0, j1⟩ := two_cells k2
        have HE := Lib.hid (z_end2 HR.out hb6 q7 (Below.refl _ _) (two_turn (q := w.heap.size + 1) ⟨by omega, Or.inl (by omega)⟩ (.int .i64 N) (.slice a' L c')))
        have HI := Lib.hid (far_two HI7 (q := w.heap.size + 1) (fun x hx => by have := HP3.out x hx; omega) (.int .i64 N) (.slice a' L c'))
        clear h7 h7n k2 q7 g7 b56 b5 b6 hb6 HI7 e0
        go_wp2_with fail
        generalize (w7.setCell _ _).setCell _ _ = wf at *
        obtain ⟨F9, h9, hf9⟩ := HE.out
        rw [← HQ2.out]
        exact bodyPost_ret (v := .tuple #[.agg #[.int .i64 N, .slice a' L c'], .int .i64 0]) (by simp [results, Tryz.results13, go_sem, j0, j1]) rfl ⟨F9, a', c', by rw [HL.out], HI.out, fun x hx => Or.inl ⟨by have := HP3.out x hx; omega, fun hf => by
          have := HP3.out x hx
          have := (HR.out.lt (hf9 _ hf).2).2
          omega⟩, h9⟩
      · rw [if_neg hx] at hq2
        have HQ2 := Lib.hid hq2
        have hx0 : (x == 0) = false := by simpa using hx
        clear hq2 hx
        go_wp2_with fail
        refine HBY.out.mono ?_
        rintro e w5 ⟨rfl, b5⟩
        have e0 := (b5.cell (p := ⟨nb, 0, none⟩) hnl).trans d0
        clear d0 d1
        go_wp2_with fail
        refine (HV6.out _ (HBC.out.trans (b5.mono HBC.out.size))).mono ?_
        rintro e w6 ⟨rfl, b6⟩
        have hb6 := (HBC.out.trans (b5.mono HBC.out.size)).trans (b6.mono (Nat.le_trans HBC.out.size b5.size))
        go_wp2_with fail
        refine (HPO.out _ hb6).mono ?_
        rintro e w7 ⟨rfl, F7, g7, s7⟩
        have q7 : Pz B pb F w6 S' w7 := ⟨F7, g7.1, s7, g7.2.2⟩
        have b56 := b5.trans (b6.mono b5.size)
        have z56 := b56.size
        have h7 : w7.heap[w.heap.size + 1]? = _ := ((z_block q7 (by omega) (fun hf => by have := (HR.out.lt hf).2; omega)).trans (b56.block _ (by omega))).trans HN1C.out
        obtain ⟨k0, k1, kf, k2⟩ := two_set h7 (.int .i64 0) (.slice none 0 0)
        obtain ⟨j0, j1⟩ := two_cells k2
        have HE := Lib.hid (z_end2 HR.out hb6 q7 (Below.refl _ _) (two_turn (q := w.heap.size + 1) ⟨by omega, Or.inl (by omega)⟩ (.int .i64 0) (.slice none 0 0)))
        clear h7 k2 q7 g7 b56 b5 b6 hb6 e0
        go_wp2_with fail
        generalize (w7.setCell _ _).setCell _ _ = wf at *
        obtain ⟨F9, h9, hf9⟩ := HE.out
        rw [← HQ2.out]
        exact bodyPost_ret (v := .tuple #[.agg #[.int .i64 0, .slice none 0 0], .int .i64 x]) (by simp [results, Tryz.results13, go_sem, j0, j1]) rfl ⟨F9, none, 0, rfl, SgsIn.nil _ _, (fun x hx => nomatch hx), h9⟩
    · have hq := HQ.out
      rw [next_bad S mv l (by rw [HNX.out]; exact hr)] at hq
      simp only [Prod.mk.injEq] at hq
      obtain ⟨rfl, hq2, rfl⟩ := hq
      rw [mbs_no hr] at HBY
      have HQ2 := Lib.hid hq2
      clear hq2 hr
      rw [show (((([] : List UInt8), 1) : List UInt8 × Nat).2 : Int) = 1 from rfl] at HBY
      generalize bs ((([] : List UInt8), 1) : List UInt8 × Nat).1 = Bt at *
      go_wp2_with fail
      refine HBY.out.mono ?_
      rintro e w5 ⟨rfl, b5⟩
      have hb5 := HBC.out.trans (b5.mono HBC.out.size)
      have q5 := z_start HR.out hb5
      have z5 := b5.size
      have h7 : w5.heap[w.heap.size + 1]? = _ := (b5.block _ (by omega)).trans HN1C.out
      obtain ⟨k0, k1, kf, k2⟩ := two_set h7 (.int .i64 0) (.slice none 0 0)
      obtain ⟨j0, j1⟩ := two_cells k2
      have HE := Lib.hid (z_end2 HR.out hb5 q5 (Below.refl _ _) (two_turn (q := w.heap.size + 1) ⟨by omega, Or.inl (by omega)⟩ (.int .i64 0) (.slice none 0 0)))
      clear h7 k2 q5 b5 hb5 d0 d1
      go_wp2_with fail
      generalize (w5.setCell _ _).setCell _ _ = wf at *
      obtain ⟨F9, h9, hf9⟩ := HE.out
      rw [← HQ2.out]
      exact bodyPost_ret (v := .tuple #[.agg #[.int .i64 0, .slice none 0 0], .int .i64 1]) (by simp [results, Tryz.results13, go_sem, j0, j1]) rfl ⟨F9, none, 0, rfl, SgsIn.nil _ _, (fun x hx => nomatch hx), h9⟩
end Go.Proofs.YtkdidinekoaobaaGreatDoor.P
