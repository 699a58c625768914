/- PublishOnce, over what is asked of the program's publish. -/
import Derived.Test.YtkdidinekoaobaaGreatDoorPoncew
import Derived.RegionTactic
import Derived.BigRegion
import Derived.Deep.RegionWith
import Derived.Deep.DeepCutAuto
namespace Go.Proofs.YtkdidinekoaobaaGreatDoor.P
open Go.RowKit M J
set_option linter.unusedVariables false
set_option linter.unusedSimpArgs false

set_option maxRecDepth 100000 in
set_option maxHeartbeats 8000000 in
theorem once_walk (C : PubC) (zs : List Int) (fs : List (List Int)) (a1 a2 : Option Addr) (c1 c2 : Nat) (w : World) (hV : Vt w) (ht : Vals w a1 (zs.map (Value.int .i64))) (hf : FatesIn w a2 fs) (hfr : ∀ l ∈ fs, ∀ y ∈ l, -9223372036854775808 ≤ y ∧ y ≤ 9223372036854775807)
    (hl1 : zs.length ≤ 9223372036854775807) (hl2 : fs.length ≤ 9223372036854775807) :
    Calls Tryz.prog 5 #[.slice a1 zs.length c1, .slice a2 fs.length c2] w fun e w' => e = .returned (.bool true) ∧ Below w.heap.size w w' := by
  have HAW := Lib.hid (awake_any C w hV)
  have HC := Lib.hid C; have HVT := Lib.hid hV; have HT := Lib.hid ht; have HF := Lib.hid hf; have HFR := Lib.hid hfr
  obtain ⟨L, hL⟩ : ∃ L, L = zs.length := ⟨_, rfl⟩
  obtain ⟨M', hM⟩ : ∃ M', M' = fs.length := ⟨_, rfl⟩
  rw [← hL] at hl1 ⊢
  rw [← hM] at hl2 ⊢
  have HL := Lib.hid hL; have HM := Lib.hid hM
  clear C hV ht hf hfr hL hM
  by_cases h20 : 20 < L
  · go_enter Tryz.func5, Tryz.ntmps5
    go_wp2_with fail
    refine HAW.out.mono ?_
    rintro e w1 ⟨rfl, b1⟩
    go_wp2_with fail
    refine (new_any w1).mono ?_
    rintro e w2 ⟨pb, F0, rfl, r0, hF0, b2⟩
    have HB := Lib.hid (b1.trans (b2.mono b1.size))
    clear r0 hF0 b1 b2
    go_wp2_with fail
    go_ret
    exact ⟨rfl, HB.out⟩
  by_cases hML : M' < L
  · go_enter Tryz.func5, Tryz.ntmps5
    go_wp2_with fail
    refine HAW.out.mono ?_
    rintro e w1 ⟨rfl, b1⟩
    go_wp2_with fail
    refine (new_any w1).mono ?_
    rintro e w2 ⟨pb, F0, rfl, r0, hF0, b2⟩
    have HB := Lib.hid (b1.trans (b2.mono b1.size))
    clear r0 hF0 b1 b2
    go_wp2_with fail
    go_ret
    exact ⟨rfl, HB.out⟩
  go_enter Tryz.func5, Tryz.ntmps5
  go_wp2_with fail
  refine HAW.out.mono ?_
  rintro e w1 ⟨rfl, b1⟩
  go_wp2_with fail
  refine (new_any w1).mono ?_
  rintro e w2 ⟨pb, F0, rfl, r0, hF0, b2⟩
  have HB1 := Lib.hid b1
  have hb1z := b1.size
  obtain ⟨B, hBd⟩ : ∃ B, B = w1.heap.size := ⟨_, rfl⟩
  have hB2 : B ≤ w2.heap.size := by rw [hBd]; exact b2.size
  have a3 : Below w2.heap.size w2 (w2.alloc (.cells #[.int .i64 0, .slice none 0 0] 33)) := (Below.refl _ _).alloc (Nat.le_refl _) _
  have n3 := heap_alloc_new w2 (.cells #[.int .i64 0, .slice none 0 0] 33)
  have HBW := Lib.hid ((b1.trans (b2.mono b1.size)).trans (a3.mono (Nat.le_trans b1.size b2.size)))
  rw [← hBd] at r0 hb1z
  have f3 : ¬ F0 w2.heap.size := fun hf => by have := (r0.lt hf).2; omega
  have O0 : Hid (OnceI B pb w2.heap.size 0 (w2.alloc (.cells #[.int .i64 0, .slice none 0 0] 33)) F0 newS noMf none 0) := Lib.hid
    ⟨r0.below a3, ⟨fun o ho => by simp [newS] at ho, by simp [newS]⟩, by simp [newS], Or.inl ⟨rfl, rfl⟩, by simp [noMf], by simp [noMf], fit_no, n3, SgsIn.nil _ _, f3, fun hne => absurd rfl hne⟩
  have hmb : B ≤ w2.heap.size := hB2
  have hml : w2.heap.size < (w2.alloc (.cells #[.int .i64 0, .slice none 0 0] 33)).heap.size := by simp
  clear r0 hF0 b1 b2 hBd HB1 a3 n3 f3 hB2
  go_wp2_with fail
  generalize w2.alloc _ = w3 at *
  generalize w2.heap.size = mb at *
  go_loopg [8] L (fun g it wr => ∃ (i : Nat) (F : Nat → Prop) (S : Rs) (m : Mf) (ma : Option Addr) (mc : Nat), i + g = L ∧ it = .int .i64 i ∧ OnceI B pb mb i wr F S m ma mc ∧ Below w.heap.size w wr)
  case atStart => exact ⟨0, F0, newS, noMf, none, 0, by omega, rfl, O0.out, HBW.out⟩
  case round =>
    obtain ⟨i, F, S, m, ma, mc, hi, rfl, hO, hbw⟩ := hrel
    have O := Lib.hid hO; have BW := Lib.hid hbw
    clear hO hbw O0 HBW
    by_cases hlt : i < L
    · have hit : i < zs.length := by rw [← HL.out]; exact hlt
      have hif : i < fs.length := by rw [← HM.out]; omega
      obtain ⟨tb, toff, rfl, htl, htc⟩ := HT.out i (by simpa using hit)
      obtain ⟨fb, foff, ka, kc, rfl, hfl2, hfc, hfv⟩ := HF.out i hif
      have HFR1 := Lib.hid (HFR.out fs[i] (List.getElem_mem hif))
      simp only [List.getElem_map] at htc
      have t0 := (BW.out.cell (p := ⟨tb, _, none⟩) htl).trans htc
      have f0 := (BW.out.cell (p := ⟨fb, _, none⟩) hfl2).trans hfc
      have HFV := Lib.hid hfv; have HTC := Lib.hid htc
      clear htc hfc hfv
      generalize zs[i] = z at *
      generalize fs[i] = l at *
      have hiM : i < M' := by omega
      by_cases hz0 : z < 0
      · go_wp2_with fail
        go_ret
        exact ⟨rfl, BW.out⟩
      by_cases hz1 : 1000 < z
      · go_wp2_with fail
        go_ret
        exact ⟨rfl, BW.out⟩
      by_cases h50 : 50 < l.length
      · generalize l.length = ll at *
        go_wp2_with fail
        go_ret
        exact ⟨rfl, BW.out⟩
      go_wp2_with fail
      refine (script_g O.out.1 ka l kc (ints_vals (vals_below HFV.out BW.out (Nat.le_refl _))) (by omega) HFR1.out).mono ?_
      rintro e w4 ⟨F3, rfl, g3⟩
      obtain ⟨o1, o2, o3', o4, o5, o6, o7, o8, o9, o10, o11⟩ := O.out
      have hmlt : mb < wr.heap.size := (Array.getElem?_eq_some_iff.1 o8).1
      have n4 := (goes_block g3 hmlt o10).trans o8
      have f4 := goes_not g3 hmlt o10
      have hs4 := sgs_turn2 o9 (goes_size g3) (fun hne x hx hl => goes_block g3 hl (o11 hne x hx))
      have hz4 := goes_size g3
      have k4 : ∀ x, ma = some x → m.segs ≠ [] → ¬ F3 x.block := fun x hx hne => by
        obtain ⟨b, off, e1, h2, _⟩ := o9 0 (List.length_pos_iff.2 hne)
        rw [hx] at e1
        cases e1
        exact goes_not g3 h2 (o11 hne _ hx)
      have B4 := Lib.hid (BW.out.trans ((goes_below o1 g3).mono hb1z))
      have hl4 : mb < w4.heap.size := (Array.getElem?_eq_some_iff.1 n4).1
      have hB4 : B ≤ w4.heap.size := g3.1.size
      have t4 := (B4.out.cell (p := ⟨tb, _, none⟩) htl).trans HTC.out
      have hver : i64 m.ver := o7.1
      have hni := next_inv (S := setS S l) (m := m) (s := ⟨i, z, 0⟩) o4 (by omega) (by show (0 : Int) ≤ (i : Int) ∧ (i : Int) ≤ 999999; omega) (by show 0 ≤ z ∧ z ≤ 1048576; omega) (by show 0 < 4294967296; omega)
      have hsml := once_small (S := setS S l) (k := i) (show Small i (setS S l) from o2) (ver := m.ver) (l := [⟨i, z, 0⟩]) (mbs_len (fun s hs => by
        simp only [nextMf, List.mem_singleton] at hs
        rw [hs]; show 0 < 4294967296; omega) (by show 1 ≤ 80; omega))
      have hsgf : ∀ s ∈ ([⟨i, z, 0⟩] : List Sg), s.fit := fun s hs => by
        rw [List.mem_singleton.1 hs]
        exact ⟨by show i64 (i : Int); unfold i64; omega, by show i64 z; unfold i64; omega, by show 0 < 4294967296; omega⟩
      have hroom : Room (setS S l) := room_of (k := i) o2 (by omega) (by show S.n ≤ _; omega)
      obtain ⟨S8, hS8⟩ : ∃ S8, S8 = (next (setS S l) m.ver [⟨i, z, 0⟩]).1 := ⟨_, rfl⟩
      obtain ⟨R8, hR8⟩ : ∃ R8, R8 = (next (setS S l) m.ver [⟨i, z, 0⟩]).2.1 := ⟨_, rfl⟩
      obtain ⟨e8, he8⟩ : ∃ e8, e8 = (next (setS S l) m.ver [⟨i, z, 0⟩]).2.2 := ⟨_, rfl⟩
      have hni2 : ((R8, e8) = (oneMf m ⟨i, z, 0⟩, 0) ∧ Inv S8.obs (oneMf m ⟨i, z, 0⟩)) ∨ ((R8, e8) = (noMf, 9) ∧ (Inv S8.obs (oneMf m ⟨i, z, 0⟩) ∨ Inv S8.obs m)) := by rw [hS8, hR8, he8]; exact hni
      have HNI := Lib.hid hni2; have HSM := Lib.hid (show Small (i + 1) S8 ∧ S8.n ≤ (setS S l).n + 2 by rw [hS8]; exact hsml)
      have HNX : Hid (∀ (W : World) (g : Nat), Below w4.heap.size w4 W → W.heap[g]? = some (.cells #[.int .i64 (i : Int), .int .i64 z, .int .u32 0] 51) → ¬ F3 g → Calls Tryz.prog 13 #[.pointer (some ⟨pb, 0, none⟩), .agg #[.int .i64 m.ver, .slice ma m.segs.length mc], .slice (some ⟨g, 0, none⟩) 1 1] W fun e w' =>
          ∃ F8 a8 c8, e = .returned (.tuple #[.agg #[.int .i64 R8.ver, .slice a8 R8.segs.length c8], .int .i64 e8]) ∧ NX B pb F3 S8 R8 w4 W w' F8 a8) := Lib.hid (fun W g hW hg hnf => by
        have hgl : g < W.heap.size := (Array.getElem?_eq_some_iff.1 hg).1
        have r1 := g3.1.below hW
        have hc := HC.out.next (m := m) (ma := ma) (mc := mc) (l := [⟨i, z, 0⟩]) (a := some ⟨g, 0, none⟩) (c := 1) r1 (vb_of HVT.out hb1z (B4.out.trans (hW.mono B4.out.size))) hroom (hs4.later hW (Nat.le_refl _)) (sgs_one (s := ⟨i, z, 0⟩) hg) (fun x hx => by cases hx; exact ⟨hgl, hnf⟩) o7 hsgf (by omega) (by simp)
        unfold mfV at hc
        rw [← hS8, ← hR8, ← he8] at hc
        refine hc.mono fun e w' ⟨F8, a8, c8, e1, e2, e3, e4⟩ => ⟨F8, a8, c8, e1, e2, fun x hx => ?_, e4.1, ?_, hW.size, fun k hk hkf => ⟨goes_not e4 hk hkf, goes_block e4 hk hkf⟩, fun k hk => hW.block k hk⟩
        · rcases e3 x hx with h | ⟨y, hy, hyx⟩
          · exact h.2
          · cases hy
            rw [← hyx]
            exact goes_not e4 hgl hnf
        · exact (hW.mono hB4).trans (goes_below r1 e4))
      have R4 := Lib.hid g3.1
      have N4 := Lib.hid n4; have HS4 := Lib.hid hs4; have K4 := Lib.hid k4; have F4' := Lib.hid f4
      have MVER : Hid (0 ≤ m.ver ∧ m.ver ≤ i ∧ m.segs.length ≤ 1 ∧ m.fit ∧ S.n ≤ 40 * i) := Lib.hid ⟨ver_ge o4, o5, o6, o7, o3'⟩
      have q0 : w4.cell? ⟨mb, 0, none⟩ = some (.int .i64 m.ver) := by rw [cell_of_row w4 mb 0 _ _ (0, 0) n4]; rfl
      have q1 : w4.cell? ⟨mb, 1, none⟩ = some (.slice ma m.segs.length mc) := by rw [cell_of_row w4 mb 1 _ _ (0, 0) n4]; rfl
      have A1 : Below w4.heap.size w4 (w4.alloc (.cells #[.int .i64 (i : Int), .int .i64 z, .int .u32 0] 51)).drew := ((Below.refl w4.heap.size w4).alloc (Nat.le_refl _) _).drew
      have A2 : Below w4.heap.size w4 ((w4.alloc (.cells #[.int .i64 (i : Int), .int .i64 z, .int .u32 0] 51)).alloc (.cells #[.int .i64 0, .slice none 0 0] 33)).drew := (((Below.refl w4.heap.size w4).alloc (Nat.le_refl _) _).alloc (by simp) _).drew
      have A3 : Below w4.heap.size w4 ((w4.alloc (.cells #[.int .i64 0, .slice none 0 0] 33)).alloc (.cells #[.int .i64 (i : Int), .int .i64 z, .int .u32 0] 51)).drew := (((Below.refl w4.heap.size w4).alloc (Nat.le_refl _) _).alloc (by simp) _).drew
      have A4 : Below w4.heap.size w4 (w4.alloc (.cells #[.int .i64 0, .slice none 0 0] 33)).drew := ((Below.refl w4.heap.size w4).alloc (Nat.le_refl _) _).drew
      have hnew : ∀ k, w4.heap.size ≤ k → ¬ F3 k := fun k hk hf => by have := (R4.out.lt hf).2; omega
      have H1 := Lib.hid (HNX.out _ w4.heap.size A1 (heap_alloc_new w4 _) (hnew _ (Nat.le_refl _)))
      have H2 := Lib.hid (HNX.out _ w4.heap.size A2 (heap_alloc2_old w4 _ _) (hnew _ (Nat.le_refl _)))
      have H3 := Lib.hid (HNX.out _ (w4.heap.size + 1) A3 (heap_alloc2_new w4 _ _) (hnew _ (by omega)))
      have X2 : Hid (∀ F8 a8 w8, NX B pb F3 S8 R8 w4 ((w4.alloc (.cells #[.int .i64 (i : Int), .int .i64 z, .int .u32 0] 51)).alloc (.cells #[.int .i64 0, .slice none 0 0] 33)).drew w8 F8 a8 → ¬ F8 (w4.heap.size + 1) ∧ w8.heap[w4.heap.size + 1]? = some (.cells #[.int .i64 0, .slice none 0 0] 33 (0, 0))) := Lib.hid (fun F8 a8 w8 h => by
        obtain ⟨p1, p2⟩ := h.2.2.2.2.2.1 (w4.heap.size + 1) (by simp) (hnew _ (by omega))
        exact ⟨p1, p2.trans (heap_alloc2_new w4 _ _)⟩)
      have X3 : Hid (∀ F8 a8 w8, NX B pb F3 S8 R8 w4 ((w4.alloc (.cells #[.int .i64 0, .slice none 0 0] 33)).alloc (.cells #[.int .i64 (i : Int), .int .i64 z, .int .u32 0] 51)).drew w8 F8 a8 → ¬ F8 w4.heap.size ∧ w8.heap[w4.heap.size]? = some (.cells #[.int .i64 0, .slice none 0 0] 33 (0, 0))) := Lib.hid (fun F8 a8 w8 h => by
        obtain ⟨p1, p2⟩ := h.2.2.2.2.2.1 w4.heap.size (by simp; omega) (hnew _ (Nat.le_refl _))
        exact ⟨p1, p2.trans (heap_alloc2_old w4 _ _)⟩)
      clear o1 o2 o3' o4 o5 o6 o7 o8 o9 o10 o11 hni hni2 hsml hsgf hroom hS8 hR8 he8 n4 hs4 k4 f4 g3 hnew
      go_upto_region 12 with fail
      go_cut [9, 10] (fun nv ev wc => ∃ nb F8 a8 c8, nv = .pointer (some ⟨nb, 0, none⟩) ∧ ev = .int .i64 e8 ∧ MidN B pb F3 S8 R8 w4 wc nb F8 a8 c8)
      case first =>
        have d0 : w4.drew.cell? ⟨mb, 0, none⟩ = some (.int .i64 m.ver) := q0
        have d1 : w4.drew.cell? ⟨mb, 1, none⟩ = some (.slice ma m.segs.length mc) := q1
        have d2 : w4.drew.cell? ⟨tb, toff + i, none⟩ = some (.int .i64 z) := t4
        have d3 := (A1.cell (p := ⟨mb, 0, none⟩) hl4).trans q0
        have d4 := (A1.cell (p := ⟨mb, 1, none⟩) hl4).trans q1
        have d5 := (A4.cell (p := ⟨mb, 0, none⟩) hl4).trans q0
        have d6 := (A4.cell (p := ⟨mb, 1, none⟩) hl4).trans q1
        have d7 := (A2.cell (p := ⟨mb, 0, none⟩) hl4).trans q0
        have d8 := (A2.cell (p := ⟨mb, 1, none⟩) hl4).trans q1
        have d9 := (A3.cell (p := ⟨mb, 0, none⟩) hl4).trans q0
        have d10 := (A3.cell (p := ⟨mb, 1, none⟩) hl4).trans q1
        have hlt4 : tb < w4.heap.size := Nat.lt_of_lt_of_le htl B4.out.size
        have d11 := (A1.cell (p := ⟨tb, toff + i, none⟩) hlt4).trans t4
        have d12 := (A2.cell (p := ⟨tb, toff + i, none⟩) hlt4).trans t4
        have d13 := (A3.cell (p := ⟨tb, toff + i, none⟩) hlt4).trans t4
        have d14 := (A4.cell (p := ⟨tb, toff + i, none⟩) hlt4).trans t4
        clear A1 A2 A3 A4
        go_region_with (first
          | (go_at_call 13
             with_reducible refine H1.out.mono ?_
             rintro er w8 ⟨F8, a8, c8, rfl, n8⟩
             have N8 := Lib.hid n8)
          | (go_at_call 13
             with_reducible refine H2.out.mono ?_
             rintro er w8 ⟨F8, a8, c8, rfl, n8⟩
             have x8 := X2.out _ _ _ n8
             obtain ⟨s0, s1, sf, _⟩ := set2_block x8.2 (.int .i64 R8.ver) (.slice a8 R8.segs.length c8)
             have X8 := Lib.hid x8
             have N8 := Lib.hid n8)
          | (go_at_call 13
             with_reducible refine H3.out.mono ?_
             rintro er w8 ⟨F8, a8, c8, rfl, n8⟩
             have x8 := X3.out _ _ _ n8
             obtain ⟨s0, s1, sf, _⟩ := set2_block x8.2 (.int .i64 R8.ver) (.slice a8 R8.segs.length c8)
             have X8 := Lib.hid x8
             have N8 := Lib.hid n8))
        all_goals
          go_wp2_with fail
          go_meet
          first
            | exact ⟨_, F8, a8, c8, rfl, rfl, MidN.new N8.out (Nat.le_trans (by have := N8.out.2.2.2.1.size; exact this) (Nat.le_refl _)) hB4⟩
            | exact ⟨_, F8, a8, c8, rfl, rfl, MidN.set N8.out X8.out.2 X8.out.1 (by omega) hB4⟩
      case rest =>
        obtain ⟨nb, F8, a8, c8, rfl, rfl, hM⟩ := hcut
        obtain ⟨p1, p2, p3, p4, p5, p6, p7, p8⟩ := hM
        have hnl : nb < wc.heap.size := (Array.getElem?_eq_some_iff.1 p1).1
        obtain ⟨hmf, hmc⟩ := p8 mb hl4 F4'.out
        have hmw : wc.heap[mb]? = _ := hmc.trans N4.out
        have hml2 : mb < wc.heap.size := (Array.getElem?_eq_some_iff.1 hmw).1
        have Bc := Lib.hid (B4.out.trans (p6.mono hb1z))
        have P8 := Lib.hid p8
        go_wp2_with fail
        refine (script_g p5 none [] 0 (ints_nil _) (by simp) (fun y hy => by simp at hy)).mono ?_
        rintro e w9 ⟨F9, rfl, g9⟩
        have n9 := (goes_block g9 hnl p2).trans p1
        have f9 := goes_not g9 hnl p2
        have m9 := (goes_block g9 hml2 hmf).trans hmw
        have mf9 := goes_not g9 hml2 hmf
        have s9 := sgs_turn p3 (goes_size g9) (fun x hx hl => goes_block g9 hl (p4 x hx))
        have k9 : R8.segs ≠ [] → ∀ x, a8 = some x → ¬ F9 x.block := fun hne x hx => by
          obtain ⟨b, off, e1, h2, _⟩ := p3 0 (List.length_pos_iff.2 hne)
          rw [hx] at e1
          cases e1
          exact goes_not g9 h2 (p4 _ hx)
        have B9 := Lib.hid (Bc.out.trans ((goes_below p5 g9).mono hb1z))
        have R9 := Lib.hid g9.1
        have hnl9 : nb < w9.heap.size := (Array.getElem?_eq_some_iff.1 n9).1
        have hml9 : mb < w9.heap.size := (Array.getElem?_eq_some_iff.1 m9).1
        have N9 := Lib.hid n9; have FN9 := Lib.hid f9; have M9 := Lib.hid m9; have FM9 := Lib.hid mf9; have S9 := Lib.hid s9; have K9 := Lib.hid k9
        clear p1 p2 p3 p4 p5 p6 p7 p8 hmf hmc hmw g9 n9 f9 m9 mf9 s9 k9
        obtain ⟨y, hy, hyv, hyf, hyl, hyc⟩ : ∃ y, Inv S8.obs y ∧ y.ver ≤ i + 1 ∧ y.fit ∧ y.segs.length ≤ 1 ∧ ((R8 = oneMf m ⟨i, z, 0⟩ ∧ e8 = 0 ∧ y = oneMf m ⟨i, z, 0⟩) ∨ (e8 = 9 ∧ (y.ver = 0 → y = m))) := by
          have hone : (oneMf m ⟨i, z, 0⟩).ver ≤ (i : Int) + 1 ∧ (oneMf m ⟨i, z, 0⟩).fit ∧ (oneMf m ⟨i, z, 0⟩).segs.length ≤ 1 := ⟨by show m.ver + 1 ≤ _; have := MVER.out.2.1; omega, ⟨by show i64 (m.ver + 1); have := MVER.out.1; have := MVER.out.2.1; unfold i64; omega, fun s hs => by
            simp only [oneMf, List.mem_singleton] at hs
            rw [hs]
            exact ⟨by show i64 (i : Int); unfold i64; omega, by show i64 z; unfold i64; omega, by show 0 < 4294967296; omega⟩⟩, by show 1 ≤ 1; omega⟩
          rcases HNI.out with ⟨h1, h2⟩ | ⟨h1, h2 | h2⟩
          · injection h1 with h1a h1b
            exact ⟨_, h2, hone.1, hone.2.1, hone.2.2, Or.inl ⟨h1a, h1b, rfl⟩⟩
          · injection h1 with h1a h1b
            exact ⟨_, h2, hone.1, hone.2.1, hone.2.2, Or.inr ⟨h1b, fun h0 => by
              exfalso
              have h0 : m.ver + 1 = 0 := h0
              have := MVER.out.1
              omega⟩⟩
          · injection h1 with h1a h1b
            exact ⟨m, h2, by have := MVER.out.2.1; omega, MVER.out.2.2.2.1, MVER.out.2.2.1, Or.inr ⟨h1b, fun _ => rfl⟩⟩
        have hlt9 := latest_inv hy S8.n R9.out.ok.up
        have hl := HC.out.latest R9.out (vb_of HVT.out hb1z B9.out) (room_of (k := i + 1) (show Small (i + 1) (setS S8 []) from HSM.out.1) (by omega) (by have := HSM.out.2; have e : (setS S l).n = S.n := rfl; have := MVER.out.2.2.2.2; show S8.n ≤ _; omega))
        rw [show setS S8 [] = ⟨S8.obs, [], S8.n⟩ from rfl, hlt9] at hl
        have HY := Lib.hid hy; have HYV := Lib.hid hyv; have HYF := Lib.hid hyf; have HYL := Lib.hid hyl
        have HN40 : Hid (S8.n + 2 ≤ 40 * ((i + 1 : Nat) : Int)) := Lib.hid (by have := HSM.out.2; have e : (setS S l).n = S.n := rfl; have := MVER.out.2.2.2.2; push_cast; omega)
        clear hlt9 hy hyv hyf hyl
        by_cases hy0 : y.ver = 0
        · rw [if_pos hy0] at hl
          have he8 : e8 = 9 ∧ y = m := by
            rcases hyc with ⟨_, _, h⟩ | ⟨h1, h2⟩
            · exfalso
              rw [h] at hy0
              have h0 : m.ver + 1 = 0 := hy0
              have := MVER.out.1
              omega
            · exact ⟨h1, h2 hy0⟩
          obtain ⟨rfl, rfl⟩ := he8
          go_wp2_with fail
          refine hl.mono ?_
          rintro e w10 ⟨F10, a10, c10, rfl, _, _, g10⟩
          unfold mfV
          rw [show noMf.ver = 0 from rfl, show noMf.segs.length = 0 from rfl]
          have b11 : Below w10.heap.size w10 (w10.alloc (.cells #[.int .i64 0, .slice a10 0 c10] 33)) := (Below.refl _ _).alloc (Nat.le_refl _) _
          have m10 := (goes_block g10 hml9 FM9.out).trans M9.out
          have mf10 := goes_not g10 hml9 FM9.out
          have m11 := (b11.block mb (Array.getElem?_eq_some_iff.1 m10).1).trans m10
          have hysegs : y.segs = [] := by
            rcases HY.out with ⟨h, _⟩ | ⟨h, _⟩
            · rw [h]; rfl
            · have := h.1; omega
          have OI : Hid (OnceI B pb mb (i + 1) (w10.alloc (.cells #[.int .i64 0, .slice a10 0 c10] 33)) F10 ⟨S8.obs, [], S8.n + 1⟩ y ma mc) := Lib.hid
            ⟨g10.1.below b11, HSM.out.1, by have := HN40.out; show S8.n + 1 ≤ _; omega, HY.out, HYV.out, HYL.out, HYF.out, m11, by rw [hysegs]; exact SgsIn.nil _ _, mf10, fun h => absurd hysegs h⟩
          have BF := Lib.hid (B9.out.trans (((goes_below R9.out g10).mono hb1z).trans (b11.mono (Nat.le_trans B9.out.size (goes_size g10)))))
          clear g10 b11 m10 mf10 m11 hl
          go_wp2_with fail
          go_roundg (gk - 1)
          case measure => omega
          case rel => exact ⟨i + 1, F10, _, y, ma, mc, by omega, by go_num, OI.out, BF.out⟩
        · rw [if_neg hy0] at hl
          unfold mfV at hl
          rcases hyc with ⟨hR8, rfl, hye⟩ | ⟨rfl, _⟩
          · subst hR8
            subst hye
            have v1 : (oneMf m ⟨i, z, 0⟩).ver = m.ver + 1 := rfl
            have v2 : (oneMf m ⟨i, z, 0⟩).segs.length = 1 := rfl
            go_wp2_with fail
            refine hl.mono ?_
            rintro e w10 ⟨F10, a10, c10, rfl, s10, no10, g10⟩
            have b11 : Below w10.heap.size w10 (w10.alloc (.cells (mfC (m.ver + 1) a10 1 c10) 33)) := (Below.refl _ _).alloc (Nat.le_refl _) _
            have m10 := (goes_block g10 hml9 FM9.out).trans M9.out
            have mf10 := goes_not g10 hml9 FM9.out
            have m11 := (b11.block mb (Array.getElem?_eq_some_iff.1 m10).1).trans m10
            have u10 := (goes_block g10 hnl9 FN9.out).trans N9.out
            have u11 := (b11.block nb (Array.getElem?_eq_some_iff.1 u10).1).trans u10
            have x11 := heap_alloc_new w10 (.cells (mfC (m.ver + 1) a10 1 c10) 33)
            have s11 := s10.later b11 (Nat.le_refl _)
            have r10 := sgs_turn2 S9.out (goes_size g10) (fun hne x hx hl => goes_block g10 hl (K9.out hne x hx))
            have r11 := r10.later b11 (Nat.le_refl _)
            have rf10 : ∀ x, a8 = some x → ¬ F10 x.block := fun x hx => by
              obtain ⟨b, off, e1, h2, _⟩ := S9.out 0 (by show 0 < 1; omega)
              rw [hx] at e1
              cases e1
              exact goes_not g10 h2 (K9.out (by simp [oneMf]) _ hx)
            have hzz := goes_size g10
            have B11 := Lib.hid (B9.out.trans (((goes_below R9.out g10).mono hb1z).trans (b11.mono (Nat.le_trans B9.out.size hzz))))
            have R11 := Lib.hid (g10.1.below b11)
            obtain ⟨sb, soff, rfl, hsl, s0, s1, s2⟩ := s11 0 (by show 0 < 1; omega)
            obtain ⟨rb, roff, rfl, hrl, t0', t1', t2'⟩ := r11 0 (by show 0 < 1; omega)
            simp only [oneMf, List.getElem_cons_zero, Nat.zero_mul, Nat.add_zero] at s0 s1 s2 t0' t1' t2'
            have tt := (B11.out.cell (p := ⟨tb, _, none⟩) htl).trans HTC.out
            have M11 := Lib.hid m11; have R11' := Lib.hid r11; have RF10 := Lib.hid rf10; have MF10 := Lib.hid mf10; have U11 := Lib.hid u11
            have km0 := cell_of_row _ mb 0 _ _ (0, 0) m11
            have ku0 := cell_of_row _ nb 0 _ _ (0, 0) u11
            have ku1 := cell_of_row _ nb 1 _ _ (0, 0) u11
            have kx0 := cell_of_row _ w10.heap.size 0 _ _ (0, 0) x11
            have kx1 := cell_of_row _ w10.heap.size 1 _ _ (0, 0) x11
            simp only [mfC, v1, v2, List.getElem?_toArray, List.getElem?_cons_succ, List.getElem?_cons_zero] at km0 ku0 ku1 kx0 kx1
            have hvb := MVER.out
            have w1' : IntKind.i64.wrap (m.ver + 1) = m.ver + 1 := IntWalk.i64_in _ ⟨by omega, by omega⟩
            have y1 : (m.ver + 1 == m.ver + 1) = true := by simp
            have y2 : ((i : Int) == (i : Int)) = true := by simp
            have y3 : (z == z) = true := by simp
            clear m10 mf10 m11 u10 u11 x11 s10 r10 r11 rf10 b11 g10 hl no10 hvb
            rw [v1, v2]
            go_wp2_with fail
            generalize hqq : w10.heap.size = xb at *
            unfold mfC at *
            generalize hW11 : w10.alloc _ = w11 at *
            clear hW11 hqq
            go_quiet (fail)
            have bq := below_drewN (Below.refl w11.heap.size w11) nq
            have OI := Lib.hid (OnceI.store (c' := c8) (m' := oneMf m ⟨i, z, 0⟩) (i := i + 1) (R11.out.below bq) (show Small (i + 1) (⟨S8.obs, [], S8.n + 2⟩ : Rs) from HSM.out.1) HN40.out HY.out HYV.out HYL.out HYF.out ((bq.block mb (Array.getElem?_eq_some_iff.1 M11.out).1).trans M11.out) (R11'.out.later bq (Nat.le_refl _)) MF10.out RF10.out)
            have BF := Lib.hid ((B11.out.trans (bq.mono B11.out.size)).trans ((turn2 (w11.drewN nq) mb (.int .i64 (m.ver + 1)) (.slice (some ⟨rb, roff, none⟩) 1 c8)).below (B := w.heap.size) (fun k hk => by have hk : k = mb := hk; omega) (by have := B11.out.size; have := bq.size; omega)))
            have m12 := (bq.block mb (Array.getElem?_eq_some_iff.1 M11.out).1).trans M11.out
            have u12 := (bq.block nb (Array.getElem?_eq_some_iff.1 U11.out).1).trans U11.out
            generalize w11.drewN nq = w12 at *
            obtain ⟨q0, q1, qf, _⟩ := set2_block m12 (.int .i64 (m.ver + 1)) (.slice (some ⟨rb, roff, none⟩) 1 c8)
            have kv0 := cell_of_row _ nb 0 _ _ (0, 0) u12
            have kv1 := cell_of_row _ nb 1 _ _ (0, 0) u12
            simp only [v1, v2, List.getElem?_toArray, List.getElem?_cons_succ, List.getElem?_cons_zero] at kv0 kv1
            clear m12 u12 bq
            go_wp2_with fail
            go_roundg (gk - 1)
            case measure => omega
            case rel => exact ⟨i + 1, F10, _, oneMf m ⟨i, z, 0⟩, some ⟨rb, roff, none⟩, c8, by omega, by go_num, OI.out, BF.out⟩
          · go_wp2_with fail
            refine hl.mono ?_
            rintro e w10 ⟨F10, a10, c10, rfl, s10, no10, g10⟩
            have b11 : Below w10.heap.size w10 (w10.alloc (.cells (mfC y.ver a10 y.segs.length c10) 33)) := (Below.refl _ _).alloc (Nat.le_refl _) _
            have m10 := (goes_block g10 hml9 FM9.out).trans M9.out
            have mf10 := goes_not g10 hml9 FM9.out
            have m11 := (b11.block mb (Array.getElem?_eq_some_iff.1 m10).1).trans m10
            have x11 := heap_alloc_new w10 (.cells (mfC y.ver a10 y.segs.length c10) 33)
            have s11 := s10.later b11 (Nat.le_refl _)
            have OI := Lib.hid (OnceI.store (c' := c10) (i := i + 1) (g10.1.below b11) (show Small (i + 1) (⟨S8.obs, [], S8.n + 2⟩ : Rs) from HSM.out.1) HN40.out HY.out HYV.out HYL.out HYF.out m11 s11 mf10 (fun x hx => (no10 x hx).2))
            have hzz := goes_size g10
            have BF := Lib.hid ((B9.out.trans (((goes_below R9.out g10).mono hb1z).trans (b11.mono (Nat.le_trans B9.out.size hzz)))).trans ((turn2 (w10.alloc (.cells (mfC y.ver a10 y.segs.length c10) 33)) mb (.int .i64 y.ver) (.slice a10 y.segs.length c10)).below (B := w.heap.size) (fun k hk => by have hk : k = mb := hk; omega) (by have := B9.out.size; simp; omega)))
            obtain ⟨q0, q1, qf, _⟩ := set2_block m11 (.int .i64 y.ver) (.slice a10 y.segs.length c10)
            have x0 := cell_of_row _ w10.heap.size 0 _ _ (0, 0) x11
            have x1 := cell_of_row _ w10.heap.size 1 _ _ (0, 0) x11
            simp only [mfC, List.getElem?_toArray, List.getElem?_cons_succ, List.getElem?_cons_zero] at x0 x1
            clear g10 b11 m10 mf10 m11 hl s10 s11 x11 no10
            go_wp2_with fail
            go_roundg (gk - 1)
            case measure => omega
            case rel => exact ⟨i + 1, F10, _, y, a10, c10, by omega, by go_num, OI.out, BF.out⟩
    · obtain rfl : i = L := by omega
      go_wp2_with fail
      go_ret
      exact ⟨rfl, BW.out⟩
end Go.Proofs.YtkdidinekoaobaaGreatDoor.P
