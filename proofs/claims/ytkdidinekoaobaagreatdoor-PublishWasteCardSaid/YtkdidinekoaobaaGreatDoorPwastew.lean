/- The document's Waste: the walk. -/
import Derived.Test.YtkdidinekoaobaaGreatDoorPwaste
import Derived.Deep.RegionHeld3
namespace Go.Proofs.YtkdidinekoaobaaGreatDoor.P
open Go.RowKit M J
set_option linter.unusedVariables false
set_option linter.unusedSimpArgs false

theorem old_false {m : Mf} {l : List UInt8} (h : ¬ old m l) (out : List (List UInt8)) : wstep m out l = out := by unfold wstep; rw [if_neg (fun e => h (isOld_iff.1 e))]
theorem old_true {m : Mf} {l : List UInt8} (h : old m l) (out : List (List UInt8)) : wstep m out l = if l ∈ out then out else ins id out l := by unfold wstep; rw [if_pos (isOld_iff.2 h)]
theorem src_new {P : Program} {W : World} {g : Nat} {t : TypeId} {X : ByteArray} {T : TypeId} (ht : P.underlying t = some (.slice 9)) (h : W.heap[g]? = some (.cells #[.string X] T (0, 0))) : Src P 1 t (.slice (some ⟨g, 0, none⟩) 1 1) 1 [.string X] W :=
  Src.ofSlice W ht ⟨g, 0, none⟩ 1 1 [.string X] rfl (fun j u hu => by
    rw [Addr.add_lit, cell_of_row W g _ _ _ (0, 0) h]
    simpa using hu) (fun v hv => by rw [List.mem_singleton.1 hv]; rfl)
theorem any_iff (m : Mf) (k : Int) : (m.segs.any fun s => s.n == k) = false ↔ ∀ s ∈ m.segs, s.n ≠ k := by
  rw [List.any_eq_false]
  exact ⟨fun h s hs => by simpa using h s hs, fun h s hs => by simpa using h s hs⟩

set_option maxRecDepth 100000 in
set_option maxHeartbeats 8000000 in
theorem refwaste_any (m : Mf) (ma na : Option Addr) (mc nc : Nat) (names : List (List UInt8)) (w : World) (hin : SgsIn w ma m.segs) (hn : Vals w na (strs names)) (hl : names.length ≤ 100) (hml : m.segs.length ≤ 100) (hns : ∀ n ∈ names, n.length ≤ 100) :
    Calls Tryz.prog 28 #[.slice na names.length nc, mfV m.ver ma m.segs.length mc] w fun e w' => ∃ oa oc, e = .returned (.slice oa (ws m names).length oc) ∧ w'.ownsRow w.heap.size 9 1 (.slice oa (ws m names).length oc) (ws m names).length (strs (ws m names)) ∧ Below w.heap.size w w' := by
  have hb0 : Below w.heap.size w (w.alloc (.cells #[.int .i64 m.ver, .slice ma m.segs.length mc] 41)) := (Below.refl _ _).alloc (Nat.le_refl _) _
  have hn0 := heap_alloc_new w (.cells #[.int .i64 m.ver, .slice ma m.segs.length mc] 41)
  obtain ⟨L, hL⟩ : ∃ L, L = names.length := ⟨_, rfl⟩
  rw [← hL] at hl ⊢
  have HL := Lib.hid hL; have HI := Lib.hid hin; have HB := Lib.hid hb0; have HN0 := Lib.hid hn0; have HV := Lib.hid hn; have HNS := Lib.hid hns
  clear hL hin hb0 hn0 hn hns
  unfold mfV
  go_enter Tryz.func28, Tryz.ntmps28
  go_wp2_with fail
  generalize w.alloc _ = w1 at *
  have hwl : w.heap.size < w1.heap.size := (Array.getElem?_eq_some_iff.1 HN0.out).1
  go_loopg [5, 6] L (fun g ov it wr => ∃ (i : Nat) (oa : Option Addr) (oc : Nat), i + g = L ∧ it = .int .i64 i ∧ ov = .slice oa (ws m (names.take i)).length oc ∧ wr.ownsRow w1.heap.size 9 1 (.slice oa (ws m (names.take i)).length oc) (ws m (names.take i)).length (strs (ws m (names.take i))) ∧ Below w1.heap.size w1 wr)
  case atStart => exact ⟨0, none, 0, by omega, rfl, rfl, World.ownsRow_nil _ _ _ _, Below.refl _ _⟩
  case round =>
    obtain ⟨i, oa, oc, hi, rfl, rfl, hown, hb⟩ := hrel
    have HO := Lib.hid hown; have HBR := Lib.hid hb
    have HBW := Lib.hid (HB.out.trans (hb.mono HB.out.size))
    have hbz := hb.size
    clear hown hb
    by_cases hlt : i < L
    · have hil : i < names.length := by have := HL.out; omega
      obtain ⟨tb, toff, rfl, htl, htc⟩ := HV.out i (by rw [strs_len]; exact hil)
      simp only [strs, List.getElem_map] at htc
      have HTK := Lib.hid (show ws m (names.take (i + 1)) = wstep m (ws m (names.take i)) names[i] by rw [List.take_succ_eq_append_getElem hil, ws_snoc])
      have hnl := HNS.out names[i] (List.getElem_mem hil)
      have HTC := Lib.hid htc
      have t0 := (HBW.out.cell (p := ⟨tb, _, none⟩) htl).trans htc
      have HOL := Lib.hid (Nat.le_trans (ws_len m (names.take i)) (List.length_take_le _ _))
      have HUP := Lib.hid (ws_up m (names.take i))
      clear htc
      generalize names[i] = x at *
      generalize ws m (names.take i) = out at *
      have HVR := Lib.hid (fun W => refversion_any (bs x) W (by rw [bs_size]; omega))
      have HNU := Lib.hid (fun W => refnumber_any (bs x) W (by rw [bs_size]; omega))
      rw [bs_list] at HVR HNU
      have HHAS := Lib.hid (fun W h => refhas_any m ma mc (onum x) W h (by omega))
      have hrg := on_range x
      have hvr : 0 ≤ (vr x).1 ∧ (vr x).1 ≤ 999999 := by
        by_cases hx : ∃ v, isVer x v
        · obtain ⟨v, hv⟩ := hx
          rw [vr_yes hv]; have := hv.1; exact ⟨by show 0 ≤ v; omega, by show v ≤ 999999; omega⟩
        · rw [vr_no (fun v hv => hx ⟨v, hv⟩)]; exact ⟨by show (0 : Int) ≤ 0; omega, by show (0 : Int) ≤ 999999; omega⟩
      have HOLD := Lib.hid (old_iff m x)
      have hwr : IntKind.i64.wrap ((vr x).1 + 1) = (vr x).1 + 1 := IntWalk.i64_in _ ⟨by omega, by omega⟩
      generalize hv1 : (vr x).1 = v1 at *
      generalize hv2 : (vr x).2 = v2 at *
      generalize ho1 : onum x = o1 at *
      unfold mfV at HHAS
      go_wp2_with fail
      refine (HVR.out _).mono ?_
      rintro e w2 ⟨rfl, b2⟩
      have B2 := Lib.hid (HBW.out.trans (b2.mono HBW.out.size)); have C2 := Lib.hid (HBR.out.trans (b2.mono hbz))
      have O2 := Lib.hid b2
      have t2 := (B2.out.cell (p := ⟨tb, _, none⟩) htl).trans HTC.out
      clear b2
      go_wp2_with fail
      refine (HNU.out _).mono ?_
      rintro e w3 ⟨rfl, b3⟩
      have B3 := Lib.hid (B2.out.trans (b3.mono B2.out.size)); have C3 := Lib.hid (C2.out.trans (b3.mono C2.out.size))
      have O3 := Lib.hid (O2.out.trans (b3.mono O2.out.size))
      clear b3 t2
      have n3 := (C3.out.block w.heap.size hwl).trans HN0.out
      have q0 := cell_of_row _ w.heap.size 0 _ _ (0, 0) n3
      have q1 := cell_of_row _ w.heap.size 1 _ _ (0, 0) n3
      simp only [List.getElem?_toArray, List.getElem?_cons_succ, List.getElem?_cons_zero] at q0 q1
      have hz13 : w1.heap.size ≤ w3.heap.size := C3.out.size
      go_upto_region 7 with fail
      go_cut [49] (fun bv wc => bv = .bool (!(isOld m x)) ∧ Below w3.heap.size w3 wc)
      case first =>
        have hcase : (isOld m x = true ∧ v2 = true ∧ v1 + 1 < m.ver) ∨ (¬ (v2 = true ∧ v1 + 1 < m.ver) ∧ ((0 ≤ o1 ∧ (m.segs.any fun s => s.n == o1) = false ∧ isOld m x = true) ∨ (0 ≤ o1 ∧ (m.segs.any fun s => s.n == o1) = true ∧ isOld m x = false) ∨ (o1 < 0 ∧ isOld m x = false))) := by
          have hof : ∀ h : ¬ old m x, isOld m x = false := fun h => by
            cases hh : isOld m x
            · rfl
            · exact absurd (isOld_iff.1 hh) h
          by_cases hP : v2 = true ∧ v1 + 1 < m.ver
          · exact Or.inl ⟨isOld_iff.2 (HOLD.out.2 (Or.inl hP)), hP.1, hP.2⟩
          · refine Or.inr ⟨hP, ?_⟩
            by_cases ho : 0 ≤ o1
            · cases hh : (m.segs.any fun s => s.n == o1)
              · exact Or.inl ⟨ho, rfl, isOld_iff.2 (HOLD.out.2 (Or.inr ⟨ho, (any_iff m o1).1 hh⟩))⟩
              · refine Or.inr (Or.inl ⟨ho, rfl, hof (fun h => ?_)⟩)
                rcases HOLD.out.1 h with h | ⟨_, h⟩
                · exact hP h
                · rw [(any_iff m o1).2 h] at hh; cases hh
            · refine Or.inr (Or.inr ⟨by omega, hof (fun h => ?_)⟩)
              rcases HOLD.out.1 h with h | ⟨h, _⟩
              · exact hP h
              · exact ho h
        have HS3 := Lib.hid (HI.out.later B3.out (Nat.le_refl _))
        generalize (m.segs.any fun s => s.n == o1) = hb at *
        rcases hcase with ⟨g1, g2, g3⟩ | ⟨g0, ⟨g1, g2, g3⟩ | ⟨g1, g2, g3⟩ | ⟨g1, g3⟩⟩
        · have G := Lib.hid g1
          clear g1
          subst g2
          go_wp2_with fail
          go_meet
          exact ⟨by rw [G.out]; rfl, Below.refl _ _⟩
        · have G := Lib.hid g3
          clear g3
          subst g2
          by_cases g4 : v2 = true
          · subst g4
            have g5 : ¬ v1 + 1 < m.ver := fun h => g0 ⟨rfl, h⟩
            clear g0
            go_wp2_with fail
            refine (HHAS.out _ HS3.out).mono ?_
            rintro e w4 ⟨rfl, b4⟩
            go_wp2_with fail
            go_meet
            exact ⟨by rw [G.out]; rfl, b4⟩
          · have g4 : v2 = false := by simpa using g4
            subst g4
            clear g0
            go_wp2_with fail
            refine (HHAS.out _ HS3.out).mono ?_
            rintro e w4 ⟨rfl, b4⟩
            go_wp2_with fail
            go_meet
            exact ⟨by rw [G.out]; rfl, b4⟩
        · have G := Lib.hid g3
          clear g3
          subst g2
          by_cases g4 : v2 = true
          · subst g4
            have g5 : ¬ v1 + 1 < m.ver := fun h => g0 ⟨rfl, h⟩
            clear g0
            go_wp2_with fail
            refine (HHAS.out _ HS3.out).mono ?_
            rintro e w4 ⟨rfl, b4⟩
            go_wp2_with fail
            go_meet
            exact ⟨by rw [G.out]; rfl, b4⟩
          · have g4 : v2 = false := by simpa using g4
            subst g4
            clear g0
            go_wp2_with fail
            refine (HHAS.out _ HS3.out).mono ?_
            rintro e w4 ⟨rfl, b4⟩
            go_wp2_with fail
            go_meet
            exact ⟨by rw [G.out]; rfl, b4⟩
        · have G := Lib.hid g3
          clear g3
          by_cases g4 : v2 = true
          · subst g4
            have g5 : ¬ v1 + 1 < m.ver := fun h => g0 ⟨rfl, h⟩
            clear g0
            go_wp2_with fail
            go_meet
            exact ⟨by rw [G.out]; rfl, Below.refl _ _⟩
          · have g4 : v2 = false := by simpa using g4
            subst g4
            clear g0
            go_wp2_with fail
            go_meet
            exact ⟨by rw [G.out]; rfl, Below.refl _ _⟩
      case rest =>
        obtain ⟨rfl, b4⟩ := hcut
        have B4 := Lib.hid (B3.out.trans (b4.mono B3.out.size)); have C4 := Lib.hid (C3.out.trans (b4.mono hz13))
        have O4 := Lib.hid (O3.out.trans (b4.mono O3.out.size))
        clear b4 q0 q1 n3
        cases hold : isOld m x
        · have HST : Hid (wstep m out x = out) := Lib.hid (old_false (fun h => by rw [isOld_iff.2 h] at hold; cases hold) out)
          go_wp2_with fail
          have hro := owns_kept HO.out (fun q hq => O4.out.block q (HO.out.lt q hq).2)
          go_roundg (gk - 1)
          case measure => omega
          case rel => exact ⟨i + 1, oa, oc, by omega, by go_num, by rw [HTK.out, HST.out], by rw [HTK.out, HST.out]; exact hro, C4.out⟩
        · have HST := Lib.hid (old_true (isOld_iff.1 hold) out)
          have HRO := Lib.hid (owns_kept HO.out (fun q hq => O4.out.block q (HO.out.lt q hq).2))
          have t4 := (B4.out.cell (p := ⟨tb, _, none⟩) htl).trans HTC.out
          have htl4 : tb < wc.heap.size := Nat.lt_of_lt_of_le htl B4.out.size
          obtain ⟨n, hn⟩ : ∃ n, n = out.length := ⟨_, rfl⟩
          have hpn := pos_le (k := id) out x
          rw [← hn] at HRO hpn ⊢
          have HNN := Lib.hid hn
          have hn100 : n ≤ 100 := by have := HOL.out; omega
          clear hn hold
          obtain ⟨P, hP⟩ : ∃ P, P = pos id out x := ⟨_, rfl⟩
          rw [← hP] at hpn
          have HPP := Lib.hid hP
          clear hP
          go_wp2_with fail
          go_loopg [10] n (fun g kv wk => ∃ k : Nat, k + g = n ∧ kv = .int .i64 k ∧ k ≤ P ∧ Below wc.heap.size wc wk)
          case atStart => exact ⟨0, by omega, rfl, Nat.zero_le _, Below.refl _ _⟩
          case round =>
            obtain ⟨k, hkg, rfl, hkP, bk⟩ := hrel
            have BK := Lib.hid bk
            have tk := (bk.cell (p := ⟨tb, _, none⟩) htl4).trans t4
            have hrk := owns_kept HRO.out (fun q hq => bk.block q (HRO.out.lt q hq).2)
            have HRK := Lib.hid hrk
            have hbkz := bk.size
            clear bk hrk
            by_cases hlt2 : k < P
            · have hkn : k < out.length := by have := HNN.out; omega
              obtain ⟨y, hy⟩ : ∃ y, out[k]? = some y := ⟨_, List.getElem?_eq_getElem hkn⟩
              have hlty := pos_before (k := id) (n := x) (by rw [← HPP.out]; exact hlt2) hy
              have hlt3 : Op.bytesLess (bs y).toList (bs x).toList = true := by rw [bs_toList, bs_toList]; exact hlty
              obtain ⟨oa', rfl⟩ : ∃ g, oa = some ⟨g, 0, none⟩ := by
                rcases HRO.out.2 with ⟨_, h0⟩ | ⟨g, cap, cur, hv, _⟩
                · omega
                · cases hv; exact ⟨g, rfl⟩
              obtain ⟨_, hgl, _, _, hgc⟩ := row_cell HRK.out hy
              have hkn2 : k < n := by omega
              clear hy hlty hkn
              generalize bs y = Y at *
              generalize bs x = X at *
              go_wp2_with fail
              go_quiet (fail)
              have bq := BK.out.trans ((below_drewN (Below.refl wr.heap.size wr) nq).mono BK.out.size)
              generalize wr.drewN nq = wk2 at *
              go_wp2_with fail
              go_roundg (gk - 1)
              case measure => omega
              case rel => exact ⟨k + 1, by omega, by go_num, by omega, bq⟩
            · obtain rfl : k = P := by omega
              have BC := Lib.hid (C4.out.trans (BK.out.mono (by have := C4.out.size; omega)))
              have BW4 := Lib.hid (B4.out.trans (BK.out.mono B4.out.size))
              have hzc : wc.heap.size ≤ wr.heap.size := hbkz
              have HIN := Lib.hid (ins_at (k := id) out x)
              have HMA := Lib.hid (mem_at HUP.out x)
              by_cases hkn : k < n
              · have hkn2 : k < out.length := by have := HNN.out; omega
                obtain ⟨y, hy⟩ : ∃ y, out[k]? = some y := ⟨_, List.getElem?_eq_getElem hkn2⟩
                have hlty := pos_behind (k := id) (n := x) HUP.out (by rw [← HPP.out]; exact Nat.le_refl _) hy
                have hlt3 : Op.bytesLess (bs y).toList (bs x).toList = false := by rw [bs_toList, bs_toList]; exact hlty
                obtain ⟨oa', rfl⟩ : ∃ g, oa = some ⟨g, 0, none⟩ := by
                  rcases HRO.out.2 with ⟨_, h0⟩ | ⟨g, cap, cur, hv, _⟩
                  · omega
                  · cases hv; exact ⟨g, rfl⟩
                obtain ⟨_, hgl, _, hcap, hgc⟩ := row_cell HRK.out hy
                by_cases hyx : y = x
                · subst hyx
                  have hmem : y ∈ out := List.mem_of_getElem? hy
                  have HST2 := Lib.hid (HST.out.trans (if_pos hmem))
                  have heq : ((bs y).toList == (bs y).toList) = true := by simp
                  clear hy hlty hkn2 hmem
                  generalize bs y = X at *
                  go_wp2_with fail
                  go_quiet (fail)
                  have bq := below_drewN (Below.refl wr.heap.size wr) nq
                  have tk2 := (bq.cell (p := ⟨tb, _, none⟩) (by show tb < wr.heap.size; omega)).trans tk
                  have hg2 := (bq.cell (p := ⟨oa', _, none⟩) hgl).trans hgc
                  have BQ := Lib.hid bq
                  clear bq
                  generalize wr.drewN nq = wq at *
                  go_wp2_with fail
                  go_quiet (fail)
                  have bq2 := BQ.out.trans ((below_drewN (Below.refl wq.heap.size wq) nq).mono BQ.out.size)
                  have hrf := owns_kept HRK.out (fun q hq => bq2.block q (HRK.out.lt q hq).2)
                  have HRF := Lib.hid hrf
                  have BF := Lib.hid (BC.out.trans (bq2.mono BC.out.size))
                  clear bq2 hrf
                  generalize wq.drewN nq = wq2 at *
                  go_wp2_with fail
                  go_roundg (L - i - 1)
                  case measure => omega
                  case rel => exact ⟨i + 1, some ⟨oa', 0, none⟩, oc, by omega, by go_num, by rw [HTK.out, HST2.out, HNN.out], by rw [HTK.out, HST2.out, ← HNN.out]; exact HRF.out, BF.out⟩
                · have hnm : x ∉ out := fun h => by
                    have := HMA.out.1 h
                    rw [← HPP.out, hy] at this
                    exact hyx (Option.some.inj this)
                  have HST2 := Lib.hid (HST.out.trans (if_neg hnm))
                  have heq : ((bs y).toList == (bs x).toList) = false := by rw [bs_toList, bs_toList]; simpa using hyx
                  clear hy hlty hkn2 hnm hyx
                  generalize bs y = Y at *
                  generalize hX : bs x = X at *
                  go_wp2_with fail
                  go_quiet (fail)
                  have bq := below_drewN (Below.refl wr.heap.size wr) nq
                  have tk2 := (bq.cell (p := ⟨tb, _, none⟩) (by show tb < wr.heap.size; omega)).trans tk
                  have hg2 := (bq.cell (p := ⟨oa', _, none⟩) hgl).trans hgc
                  have BQ := Lib.hid bq
                  clear bq
                  generalize wr.drewN nq = wq at *
                  go_wp2_with fail
                  go_quiet (fail)
                  have bq2 := BQ.out.trans ((below_drewN (Below.refl wq.heap.size wq) nq).mono BQ.out.size)
                  have hrf := owns_kept HRK.out (fun q hq => bq2.block q (HRK.out.lt q hq).2)
                  have tv := (bq2.cell (p := ⟨tb, _, none⟩) (by show tb < wr.heap.size; omega)).trans tk
                  have HRF := Lib.hid hrf
                  have BF := Lib.hid (BC.out.trans (bq2.mono BC.out.size))
                  clear bq2 hrf tk tk2 hg2 hgc hgl t4 htl4
                  generalize wq.drewN nq = v at *
                  have K0 := Old.refl v
                  have m0 : ∀ W, Old v W → W.cell? ⟨tb, toff + i, none⟩ = some (.string X) := fun W hW => (Below.cell (p := ⟨tb, _, none⟩) hW (by show tb < v.heap.size; exact World.block_lt_of_cell? _ _ tv)).trans tv
                  have hk0 : (0 : Int) ≤ (k : Int) := by omega
                  have hk1 : (k : Int) ≤ (n : Int) := by omega
                  have hk2 : (n : Int) ≤ (oc : Int) := by omega
                  have hk3 : (k : Int) ≤ (oc : Int) := by omega
                  have hk4 : ¬ (oc = k) := by omega
                  have HTAKE : Hid (v.ownsRow w1.heap.size 9 1 (.slice (some ⟨oa', 0, none⟩) k oc) k (strs (out.take k))) := Lib.hid (by
                    have := row_take HRF.out (m := k) (by omega)
                    rwa [Nat.mul_one, show (strs out).take k = strs (out.take k) by simp [strs, List.map_take]] at this)
                  obtain ⟨i0, hi1, hz0, hz1, hz2⟩ := info_parts infoStr
                  have HINF := Lib.hid (And.intro hi1 (And.intro hz0 (And.intro hz1 hz2)))
                  clear hi1 hz0 hz1 hz2
                  go_upto_region 12 with fail
                  go_region_held3 (fun W => Old v W) (first | assumption | exact K0 | exact K0.drew | exact Old.drew ‹_› | exact Old.alloc ‹_› _ | exact (K0.alloc _).drew | exact K0.alloc _ | exact ((K0.alloc _).alloc _).drew | exact (Old.alloc ‹_› _).drew)
                    (first
                      | (refine step_append_row rfl (.tmp 82) (.tmp 85) 65 (by rfl) v.heap.size 9 i0 _ 1 16 Tryz.underlying65 HINF.out.1 HINF.out.2.1 HINF.out.2.2.1 HINF.out.2.2.2 (by omega) rfl _ 0 [] (by rfl)
                           (by first | exact empty_row (Nat.le_refl _) (heap_alloc_new v _) | exact empty_row (Nat.le_refl _) (heap_alloc2_old v _ _) | exact empty_row (Nat.le_succ _) (heap_alloc2_new v _ _)) _ k (strs (out.take k)) (by rfl)
                           (src_row Tryz.underlying65 HTAKE.out (strs_one _) (fun g hg => Below.block (B := v.heap.size) (w := v) (by (first | assumption | exact K0 | exact K0.drew | exact Old.drew ‹_› | exact Old.alloc ‹_› _ | exact (K0.alloc _).drew | exact K0.alloc _ | exact ((K0.alloc _).alloc _).drew | exact (Old.alloc ‹_› _).drew)) g (HTAKE.out.lt g hg).2)) (by omega) (Below.size (B := v.heap.size) (w := v) (by (first | assumption | exact K0 | exact K0.drew | exact Old.drew ‹_› | exact Old.alloc ‹_› _ | exact (K0.alloc _).drew | exact K0.alloc _ | exact ((K0.alloc _).alloc _).drew | exact (Old.alloc ‹_› _).drew))) ?_
                         intro a1 c1 u1 r1 hb1 hg1
                         simp only [Nat.zero_add, List.nil_append] at r1 ⊢
                         have K1 : Old v u1 := Below.trans (a := v) (by (first | assumption | exact K0 | exact K0.drew | exact Old.drew ‹_› | exact Old.alloc ‹_› _ | exact (K0.alloc _).drew | exact K0.alloc _ | exact ((K0.alloc _).alloc _).drew | exact (Old.alloc ‹_› _).drew)) hb1)
                      | (refine step_append_row rfl (.tmp 86) (.tmp 91) 65 (by rfl) v.heap.size 9 i0 _ 1 16 Tryz.underlying65 HINF.out.1 HINF.out.2.1 HINF.out.2.2.1 HINF.out.2.2.2 (by omega) rfl (.slice a1 k c1) k (strs (out.take k)) (by rfl)
                           (by first | exact r1 | exact owns_kept r1 (fun q hq => ((Below.refl u1.heap.size u1).alloc (Nat.le_refl _) _).block q (r1.lt q hq).2)) _ 1 [.string X] (by rfl)
                           (by first
                             | exact src_new Tryz.underlying65 (heap_alloc_new u1 _)
                             | exact src_new Tryz.underlying65 ((hg1.block (v.heap.size + 1) (by simp) (fun h => by have h2 : some (v.heap.size + 1) = some v.heap.size := h; simp at h2)).trans (heap_alloc2_new v _ _))
                             | exact src_new Tryz.underlying65 ((hg1.block v.heap.size (by simp; omega) (fun h => by have h2 : some v.heap.size = some (v.heap.size + 1) := h; simp at h2)).trans (heap_alloc2_old v _ _))) (by omega) (Below.size (B := v.heap.size) (w := v) (by (first | assumption | exact K0 | exact K0.drew | exact Old.drew ‹_› | exact Old.alloc ‹_› _ | exact (K0.alloc _).drew | exact K0.alloc _ | exact ((K0.alloc _).alloc _).drew | exact (Old.alloc ‹_› _).drew))) ?_
                         intro a2 c2 u2 r2 hb2 hg2
                         have K2 : Old v u2 := Below.trans (a := v) (by (first | assumption | exact K0 | exact K0.drew | exact Old.drew ‹_› | exact Old.alloc ‹_› _ | exact (K0.alloc _).drew | exact K0.alloc _ | exact ((K0.alloc _).alloc _).drew | exact (Old.alloc ‹_› _).drew)) hb2)
                      | (refine step_append_row rfl (.tmp 92) (.tmp 95) 65 (by rfl) v.heap.size 9 i0 _ 1 16 Tryz.underlying65 HINF.out.1 HINF.out.2.1 HINF.out.2.2.1 HINF.out.2.2.2 (by omega) rfl (.slice a2 (k + 1) c2) (k + 1) (strs (out.take k) ++ [.string X]) (by rfl)
                           r2 _ (n - k) (strs (out.drop k)) (by rfl)
                           (src_rest Tryz.underlying65 HRF.out (by omega) _ (Below.block (B := v.heap.size) (w := v) (by (first | assumption | exact K0 | exact K0.drew | exact Old.drew ‹_› | exact Old.alloc ‹_› _ | exact (K0.alloc _).drew | exact K0.alloc _ | exact ((K0.alloc _).alloc _).drew | exact (Old.alloc ‹_› _).drew)) oa' (HRF.out.lt oa' rfl).2)) (by omega) (Below.size (B := v.heap.size) (w := v) (by (first | assumption | exact K0 | exact K0.drew | exact Old.drew ‹_› | exact Old.alloc ‹_› _ | exact (K0.alloc _).drew | exact K0.alloc _ | exact ((K0.alloc _).alloc _).drew | exact (Old.alloc ‹_› _).drew))) ?_
                         intro a3 c3 u3 r3 hb3 hg3
                         have K3 : Old v u3 := Below.trans (a := v) (by (first | assumption | exact K0 | exact K0.drew | exact Old.drew ‹_› | exact Old.alloc ‹_› _ | exact (K0.alloc _).drew | exact K0.alloc _ | exact ((K0.alloc _).alloc _).drew | exact (Old.alloc ‹_› _).drew)) hb3))
                  all_goals
                    have e : ins id out x = out.take k ++ [x] ++ out.drop k := by
                      have e := HIN.out
                      rwa [show pos id out (id x) = k from HPP.out.symm] at e
                    have hlen : (ins id out x).length = k + 1 + (n - k) := by
                      rw [e]; simp only [List.length_append, List.length_take, List.length_drop, List.length_cons, List.length_nil]; have := HNN.out; omega
                    have hst : strs (ins id out x) = strs (out.take k) ++ [.string X] ++ strs (out.drop k) := by
                      rw [e, strs_app, strs_app]; simp [strs, hX]
                    have R := World.ownsRow.mono r3 (show w1.heap.size ≤ v.heap.size from BF.out.size)
                    rw [← hlen, ← hst] at R
                    have RR := Lib.hid R
                    have BV := Lib.hid (BF.out.trans (Below.mono K3 BF.out.size))
                    clear R e hst K0 K1 K2 K3 m0 r1 r2 r3 hg1 hg2 hg3 hb1 hb2 hb3
                    go_wp2_with fail
                    go_roundg (L - i - 1)
                    case measure => omega
                    case rel => exact ⟨i + 1, a3, c3, by omega, by go_num, by rw [HTK.out, HST2.out, hlen], by rw [HTK.out, HST2.out]; exact RR.out, BV.out⟩
              · obtain rfl : k = n := by omega
                have hnm : x ∉ out := fun h => by
                  have := HMA.out.1 h
                  rw [← HPP.out, HNN.out, List.getElem?_eq_none (Nat.le_refl _)] at this
                  cases this
                have HST2 := Lib.hid (HST.out.trans (if_neg hnm))
                have hins : ins id out x = out ++ [x] := by
                  have e := HIN.out
                  rwa [show pos id out (id x) = out.length from HPP.out.symm.trans HNN.out, List.take_length, List.drop_length, List.append_nil] at e
                clear hnm
                generalize hX : bs x = X at *
                rcases HRK.out.2 with ⟨h0, hk00⟩ | ⟨oa', cap, cur, h0, _, hoa, hcap, _⟩
                · subst hk00
                  cases h0
                  go_wp2_with fail
                  go_quiet (fail)
                  have bq := below_drewN (Below.refl wr.heap.size wr) nq
                  have tk2 := (bq.cell (p := ⟨tb, _, none⟩) (by show tb < wr.heap.size; omega)).trans tk
                  have BQ := Lib.hid bq
                  clear bq
                  generalize wr.drewN nq = wq at *
                  go_wp2_with fail
                  go_quiet (fail)
                  have bq2 := BQ.out.trans ((below_drewN (Below.refl wq.heap.size wq) nq).mono BQ.out.size)
                  have hrf := owns_kept HRK.out (fun q hq => bq2.block q (HRK.out.lt q hq).2)
                  have tv := (bq2.cell (p := ⟨tb, _, none⟩) (by show tb < wr.heap.size; omega)).trans tk
                  have HRF := Lib.hid hrf
                  have BF := Lib.hid (BC.out.trans (bq2.mono BC.out.size))
                  clear bq2 hrf tk tk2 t4 htl4
                  generalize wq.drewN nq = v at *
                  have K0 := Old.refl v
                  have m0 : ∀ W, Old v W → W.cell? ⟨tb, toff + i, none⟩ = some (.string X) := fun W hW => (Below.cell (p := ⟨tb, _, none⟩) hW (by show tb < v.heap.size; exact World.block_lt_of_cell? _ _ tv)).trans tv
                  obtain ⟨i0, hi1, hz0, hz1, hz2⟩ := info_parts infoStr
                  have HINF := Lib.hid (And.intro hi1 (And.intro hz0 (And.intro hz1 hz2)))
                  clear hi1 hz0 hz1 hz2
                  go_upto_region 12 with fail
                  go_region_held3 (fun W => Old v W) (first | assumption | exact K0 | exact K0.drew | exact Old.drew ‹_› | exact Old.alloc ‹_› _ | exact (K0.alloc _).drew | exact K0.alloc _ | exact ((K0.alloc _).alloc _).drew | exact (Old.alloc ‹_› _).drew)
                    (first
                      | (refine step_append_row rfl (.tmp 82) (.tmp 85) 65 (by rfl) v.heap.size 9 i0 _ 1 16 Tryz.underlying65 HINF.out.1 HINF.out.2.1 HINF.out.2.2.1 HINF.out.2.2.2 (by omega) rfl _ 0 [] (by rfl)
                           (by first | exact empty_row (Nat.le_refl _) (heap_alloc_new v _) | exact empty_row (Nat.le_refl _) (heap_alloc2_old v _ _) | exact empty_row (Nat.le_succ _) (heap_alloc2_new v _ _)) _ 0 [] (by rfl)
                           (Src.ofNil _ Tryz.underlying65 _) (by omega) (Below.size (B := v.heap.size) (w := v) (by (first | assumption | exact K0 | exact K0.drew | exact Old.drew ‹_› | exact Old.alloc ‹_› _ | exact (K0.alloc _).drew | exact K0.alloc _ | exact ((K0.alloc _).alloc _).drew | exact (Old.alloc ‹_› _).drew))) ?_
                         intro a1 c1 u1 r1 hb1 hg1
                         simp only [Nat.zero_add, List.nil_append] at r1 ⊢
                         have K1 : Old v u1 := Below.trans (a := v) (by (first | assumption | exact K0 | exact K0.drew | exact Old.drew ‹_› | exact Old.alloc ‹_› _ | exact (K0.alloc _).drew | exact K0.alloc _ | exact ((K0.alloc _).alloc _).drew | exact (Old.alloc ‹_› _).drew)) hb1)
                      | (refine step_append_row rfl (.tmp 86) (.tmp 91) 65 (by rfl) v.heap.size 9 i0 _ 1 16 Tryz.underlying65 HINF.out.1 HINF.out.2.1 HINF.out.2.2.1 HINF.out.2.2.2 (by omega) rfl (.slice a1 0 c1) 0 [] (by rfl)
                           (by first | exact r1 | exact owns_kept r1 (fun q hq => ((Below.refl u1.heap.size u1).alloc (Nat.le_refl _) _).block q (r1.lt q hq).2)) _ 1 [.string X] (by rfl)
                           (by first
                             | exact src_new Tryz.underlying65 (heap_alloc_new u1 _)
                             | exact src_new Tryz.underlying65 ((hg1.block (v.heap.size + 1) (by simp) (fun h => by have h2 : some (v.heap.size + 1) = some v.heap.size := h; simp at h2)).trans (heap_alloc2_new v _ _))
                             | exact src_new Tryz.underlying65 ((hg1.block v.heap.size (by simp; omega) (fun h => by have h2 : some v.heap.size = some (v.heap.size + 1) := h; simp at h2)).trans (heap_alloc2_old v _ _))) (by omega) (Below.size (B := v.heap.size) (w := v) (by (first | assumption | exact K0 | exact K0.drew | exact Old.drew ‹_› | exact Old.alloc ‹_› _ | exact (K0.alloc _).drew | exact K0.alloc _ | exact ((K0.alloc _).alloc _).drew | exact (Old.alloc ‹_› _).drew))) ?_
                         intro a2 c2 u2 r2 hb2 hg2
                         simp only [Nat.zero_add, List.nil_append] at r2 ⊢
                         have K2 : Old v u2 := Below.trans (a := v) (by (first | assumption | exact K0 | exact K0.drew | exact Old.drew ‹_› | exact Old.alloc ‹_› _ | exact (K0.alloc _).drew | exact K0.alloc _ | exact ((K0.alloc _).alloc _).drew | exact (Old.alloc ‹_› _).drew)) hb2)
                      | (refine step_append_row rfl (.tmp 92) (.tmp 95) 65 (by rfl) v.heap.size 9 i0 _ 1 16 Tryz.underlying65 HINF.out.1 HINF.out.2.1 HINF.out.2.2.1 HINF.out.2.2.2 (by omega) rfl (.slice a2 1 c2) 1 [.string X] (by rfl)
                           r2 _ 0 [] (by rfl)
                           (Src.ofNil _ Tryz.underlying65 _) (by omega) (Below.size (B := v.heap.size) (w := v) (by (first | assumption | exact K0 | exact K0.drew | exact Old.drew ‹_› | exact Old.alloc ‹_› _ | exact (K0.alloc _).drew | exact K0.alloc _ | exact ((K0.alloc _).alloc _).drew | exact (Old.alloc ‹_› _).drew))) ?_
                         intro a3 c3 u3 r3 hb3 hg3
                         simp only [Nat.add_zero, List.append_nil] at r3 ⊢
                         have K3 : Old v u3 := Below.trans (a := v) (by (first | assumption | exact K0 | exact K0.drew | exact Old.drew ‹_› | exact Old.alloc ‹_› _ | exact (K0.alloc _).drew | exact K0.alloc _ | exact ((K0.alloc _).alloc _).drew | exact (Old.alloc ‹_› _).drew)) hb3))
                  all_goals
                    have hlen : (ins id out x).length = 1 := by rw [hins]; simp only [List.length_append, List.length_cons, List.length_nil]; have := HNN.out; omega
                    have hst : strs (ins id out x) = [.string X] := by rw [hins, show out = [] from List.length_eq_zero_iff.1 HNN.out.symm]; simp [strs, hX]
                    have R := World.ownsRow.mono r3 (show w1.heap.size ≤ v.heap.size from BF.out.size)
                    rw [← hlen, ← hst] at R
                    have RR := Lib.hid R
                    have BV := Lib.hid (BF.out.trans (Below.mono K3 BF.out.size))
                    clear R hst K0 K1 K2 K3 m0 r1 r2 r3 hg1 hg2 hg3 hb1 hb2 hb3
                    go_wp2_with fail
                    go_roundg (L - i - 1)
                    case measure => omega
                    case rel => exact ⟨i + 1, a3, c3, by omega, by go_num, by rw [HTK.out, HST2.out, hlen], by rw [HTK.out, HST2.out]; have q := RR.out; rw [hlen] at q ⊢; exact q, BV.out⟩
                · cases h0
                  go_wp2_with fail
                  go_quiet (fail)
                  have bq := below_drewN (Below.refl wr.heap.size wr) nq
                  have tk2 := (bq.cell (p := ⟨tb, _, none⟩) (by show tb < wr.heap.size; omega)).trans tk
                  have BQ := Lib.hid bq
                  clear bq
                  generalize wr.drewN nq = wq at *
                  go_wp2_with fail
                  go_quiet (fail)
                  have bq2 := BQ.out.trans ((below_drewN (Below.refl wq.heap.size wq) nq).mono BQ.out.size)
                  have hrf := owns_kept HRK.out (fun q hq => bq2.block q (HRK.out.lt q hq).2)
                  have tv := (bq2.cell (p := ⟨tb, _, none⟩) (by show tb < wr.heap.size; omega)).trans tk
                  have HRF := Lib.hid hrf
                  have BF := Lib.hid (BC.out.trans (bq2.mono BC.out.size))
                  clear bq2 hrf tk tk2 t4 htl4
                  generalize wq.drewN nq = v at *
                  have K0 := Old.refl v
                  have m0 : ∀ W, Old v W → W.cell? ⟨tb, toff + i, none⟩ = some (.string X) := fun W hW => (Below.cell (p := ⟨tb, _, none⟩) hW (by show tb < v.heap.size; exact World.block_lt_of_cell? _ _ tv)).trans tv
                  obtain ⟨i0, hi1, hz0, hz1, hz2⟩ := info_parts infoStr
                  have HINF := Lib.hid (And.intro hi1 (And.intro hz0 (And.intro hz1 hz2)))
                  clear hi1 hz0 hz1 hz2
                  have hk0 : (0 : Int) ≤ (k : Int) := by omega
                  have hk3 : (k : Int) ≤ (oc : Int) := by omega
                  by_cases hk4 : oc = k
                  · obtain rfl : k = oc := hk4.symm
                    go_upto_region 12 with fail
                    go_region_held3 (fun W => Old v W) (first | assumption | exact K0 | exact K0.drew | exact Old.drew ‹_› | exact Old.alloc ‹_› _ | exact (K0.alloc _).drew | exact K0.alloc _ | exact ((K0.alloc _).alloc _).drew | exact (Old.alloc ‹_› _).drew)
                      (first
                        | (refine step_append_row rfl (.tmp 82) (.tmp 85) 65 (by rfl) v.heap.size 9 i0 _ 1 16 Tryz.underlying65 HINF.out.1 HINF.out.2.1 HINF.out.2.2.1 HINF.out.2.2.2 (by omega) rfl _ 0 [] (by rfl)
                             (by first | exact empty_row (Nat.le_refl _) (heap_alloc_new v _) | exact empty_row (Nat.le_refl _) (heap_alloc2_old v _ _) | exact empty_row (Nat.le_succ _) (heap_alloc2_new v _ _)) _ k (strs out) (by rfl)
                             (src_row Tryz.underlying65 HRF.out (strs_one _) (fun g hg => Below.block (B := v.heap.size) (w := v) (by (first | assumption | exact K0 | exact K0.drew | exact Old.drew ‹_› | exact Old.alloc ‹_› _ | exact (K0.alloc _).drew | exact K0.alloc _ | exact ((K0.alloc _).alloc _).drew | exact (Old.alloc ‹_› _).drew)) g (HRF.out.lt g hg).2)) (by omega) (Below.size (B := v.heap.size) (w := v) (by (first | assumption | exact K0 | exact K0.drew | exact Old.drew ‹_› | exact Old.alloc ‹_› _ | exact (K0.alloc _).drew | exact K0.alloc _ | exact ((K0.alloc _).alloc _).drew | exact (Old.alloc ‹_› _).drew))) ?_
                           intro a1 c1 u1 r1 hb1 hg1
                           simp only [Nat.zero_add, List.nil_append] at r1 ⊢
                           have K1 : Old v u1 := Below.trans (a := v) (by (first | assumption | exact K0 | exact K0.drew | exact Old.drew ‹_› | exact Old.alloc ‹_› _ | exact (K0.alloc _).drew | exact K0.alloc _ | exact ((K0.alloc _).alloc _).drew | exact (Old.alloc ‹_› _).drew)) hb1)
                        | (refine step_append_row rfl (.tmp 86) (.tmp 91) 65 (by rfl) v.heap.size 9 i0 _ 1 16 Tryz.underlying65 HINF.out.1 HINF.out.2.1 HINF.out.2.2.1 HINF.out.2.2.2 (by omega) rfl (.slice a1 k c1) k (strs out) (by rfl)
                             (by first | exact r1 | exact owns_kept r1 (fun q hq => ((Below.refl u1.heap.size u1).alloc (Nat.le_refl _) _).block q (r1.lt q hq).2)) _ 1 [.string X] (by rfl)
                             (by first
                               | exact src_new Tryz.underlying65 (heap_alloc_new u1 _)
                               | exact src_new Tryz.underlying65 ((hg1.block (v.heap.size + 1) (by simp) (fun h => by have h2 : some (v.heap.size + 1) = some v.heap.size := h; simp at h2)).trans (heap_alloc2_new v _ _))
                               | exact src_new Tryz.underlying65 ((hg1.block v.heap.size (by simp; omega) (fun h => by have h2 : some v.heap.size = some (v.heap.size + 1) := h; simp at h2)).trans (heap_alloc2_old v _ _))) (by omega) (Below.size (B := v.heap.size) (w := v) (by (first | assumption | exact K0 | exact K0.drew | exact Old.drew ‹_› | exact Old.alloc ‹_› _ | exact (K0.alloc _).drew | exact K0.alloc _ | exact ((K0.alloc _).alloc _).drew | exact (Old.alloc ‹_› _).drew))) ?_
                           intro a2 c2 u2 r2 hb2 hg2
                           have K2 : Old v u2 := Below.trans (a := v) (by (first | assumption | exact K0 | exact K0.drew | exact Old.drew ‹_› | exact Old.alloc ‹_› _ | exact (K0.alloc _).drew | exact K0.alloc _ | exact ((K0.alloc _).alloc _).drew | exact (Old.alloc ‹_› _).drew)) hb2)
                        | (refine step_append_row rfl (.tmp 92) (.tmp 95) 65 (by rfl) v.heap.size 9 i0 _ 1 16 Tryz.underlying65 HINF.out.1 HINF.out.2.1 HINF.out.2.2.1 HINF.out.2.2.2 (by omega) rfl (.slice a2 (k + 1) c2) (k + 1) ((strs out) ++ [.string X]) (by rfl)
                             r2 _ 0 [] (by rfl)
                             (by first | exact Src.ofSlice _ Tryz.underlying65 ⟨oa', _, none⟩ 0 _ [] rfl (fun j u hu => by simp at hu) (fun v hv => by cases hv) | exact Src.ofSlice Tryz.underlying65 ⟨oa', _, none⟩ 0 _ [] rfl (fun j u hu => by simp at hu) (fun v hv => by cases hv)) (by omega) (Below.size (B := v.heap.size) (w := v) (by (first | assumption | exact K0 | exact K0.drew | exact Old.drew ‹_› | exact Old.alloc ‹_› _ | exact (K0.alloc _).drew | exact K0.alloc _ | exact ((K0.alloc _).alloc _).drew | exact (Old.alloc ‹_› _).drew))) ?_
                           intro a3 c3 u3 r3 hb3 hg3
                           simp only [Nat.add_zero, List.append_nil] at r3 ⊢
                           have K3 : Old v u3 := Below.trans (a := v) (by (first | assumption | exact K0 | exact K0.drew | exact Old.drew ‹_› | exact Old.alloc ‹_› _ | exact (K0.alloc _).drew | exact K0.alloc _ | exact ((K0.alloc _).alloc _).drew | exact (Old.alloc ‹_› _).drew)) hb3))
                    all_goals
                      have hlen : (ins id out x).length = k + 1 := by rw [hins]; simp only [List.length_append, List.length_cons, List.length_nil]; have := HNN.out; omega
                      have hst : strs (ins id out x) = strs out ++ [.string X] := by rw [hins, strs_app]; simp [strs, hX]
                      have R := World.ownsRow.mono r3 (show w1.heap.size ≤ v.heap.size from BF.out.size)
                      rw [← hlen, ← hst] at R
                      have RR := Lib.hid R
                      have BV := Lib.hid (BF.out.trans (Below.mono K3 BF.out.size))
                      clear R hst K0 K1 K2 K3 m0 r1 r2 r3 hg1 hg2 hg3 hb1 hb2 hb3
                      go_wp2_with fail
                      go_roundg (L - i - 1)
                      case measure => omega
                      case rel => exact ⟨i + 1, a3, c3, by omega, by go_num, by rw [HTK.out, HST2.out, hlen], by rw [HTK.out, HST2.out]; exact RR.out, BV.out⟩
                  · have hk5 : (k : Int) ≤ (k : Int) := Int.le_refl _
                    go_upto_region 12 with fail
                    go_region_held3 (fun W => Old v W) (first | assumption | exact K0 | exact K0.drew | exact Old.drew ‹_› | exact Old.alloc ‹_› _ | exact (K0.alloc _).drew | exact K0.alloc _ | exact ((K0.alloc _).alloc _).drew | exact (Old.alloc ‹_› _).drew)
                      (first
                        | (refine step_append_row rfl (.tmp 82) (.tmp 85) 65 (by rfl) v.heap.size 9 i0 _ 1 16 Tryz.underlying65 HINF.out.1 HINF.out.2.1 HINF.out.2.2.1 HINF.out.2.2.2 (by omega) rfl _ 0 [] (by rfl)
                             (by first | exact empty_row (Nat.le_refl _) (heap_alloc_new v _) | exact empty_row (Nat.le_refl _) (heap_alloc2_old v _ _) | exact empty_row (Nat.le_succ _) (heap_alloc2_new v _ _)) _ k (strs out) (by rfl)
                             (src_row Tryz.underlying65 HRF.out (strs_one _) (fun g hg => Below.block (B := v.heap.size) (w := v) (by (first | assumption | exact K0 | exact K0.drew | exact Old.drew ‹_› | exact Old.alloc ‹_› _ | exact (K0.alloc _).drew | exact K0.alloc _ | exact ((K0.alloc _).alloc _).drew | exact (Old.alloc ‹_› _).drew)) g (HRF.out.lt g hg).2)) (by omega) (Below.size (B := v.heap.size) (w := v) (by (first | assumption | exact K0 | exact K0.drew | exact Old.drew ‹_› | exact Old.alloc ‹_› _ | exact (K0.alloc _).drew | exact K0.alloc _ | exact ((K0.alloc _).alloc _).drew | exact (Old.alloc ‹_› _).drew))) ?_
                           intro a1 c1 u1 r1 hb1 hg1
                           simp only [Nat.zero_add, List.nil_append] at r1 ⊢
                           have K1 : Old v u1 := Below.trans (a := v) (by (first | assumption | exact K0 | exact K0.drew | exact Old.drew ‹_› | exact Old.alloc ‹_› _ | exact (K0.alloc _).drew | exact K0.alloc _ | exact ((K0.alloc _).alloc _).drew | exact (Old.alloc ‹_› _).drew)) hb1)
                        | (refine step_append_row rfl (.tmp 86) (.tmp 91) 65 (by rfl) v.heap.size 9 i0 _ 1 16 Tryz.underlying65 HINF.out.1 HINF.out.2.1 HINF.out.2.2.1 HINF.out.2.2.2 (by omega) rfl (.slice a1 k c1) k (strs out) (by rfl)
                             (by first | exact r1 | exact owns_kept r1 (fun q hq => ((Below.refl u1.heap.size u1).alloc (Nat.le_refl _) _).block q (r1.lt q hq).2)) _ 1 [.string X] (by rfl)
                             (by first
                               | exact src_new Tryz.underlying65 (heap_alloc_new u1 _)
                               | exact src_new Tryz.underlying65 ((hg1.block (v.heap.size + 1) (by simp) (fun h => by have h2 : some (v.heap.size + 1) = some v.heap.size := h; simp at h2)).trans (heap_alloc2_new v _ _))
                               | exact src_new Tryz.underlying65 ((hg1.block v.heap.size (by simp; omega) (fun h => by have h2 : some v.heap.size = some (v.heap.size + 1) := h; simp at h2)).trans (heap_alloc2_old v _ _))) (by omega) (Below.size (B := v.heap.size) (w := v) (by (first | assumption | exact K0 | exact K0.drew | exact Old.drew ‹_› | exact Old.alloc ‹_› _ | exact (K0.alloc _).drew | exact K0.alloc _ | exact ((K0.alloc _).alloc _).drew | exact (Old.alloc ‹_› _).drew))) ?_
                           intro a2 c2 u2 r2 hb2 hg2
                           have K2 : Old v u2 := Below.trans (a := v) (by (first | assumption | exact K0 | exact K0.drew | exact Old.drew ‹_› | exact Old.alloc ‹_› _ | exact (K0.alloc _).drew | exact K0.alloc _ | exact ((K0.alloc _).alloc _).drew | exact (Old.alloc ‹_› _).drew)) hb2)
                        | (refine step_append_row rfl (.tmp 92) (.tmp 95) 65 (by rfl) v.heap.size 9 i0 _ 1 16 Tryz.underlying65 HINF.out.1 HINF.out.2.1 HINF.out.2.2.1 HINF.out.2.2.2 (by omega) rfl (.slice a2 (k + 1) c2) (k + 1) ((strs out) ++ [.string X]) (by rfl)
                             r2 _ 0 [] (by rfl)
                             (by first | exact Src.ofSlice _ Tryz.underlying65 ⟨oa', _, none⟩ 0 _ [] rfl (fun j u hu => by simp at hu) (fun v hv => by cases hv) | exact Src.ofSlice Tryz.underlying65 ⟨oa', _, none⟩ 0 _ [] rfl (fun j u hu => by simp at hu) (fun v hv => by cases hv)) (by omega) (Below.size (B := v.heap.size) (w := v) (by (first | assumption | exact K0 | exact K0.drew | exact Old.drew ‹_› | exact Old.alloc ‹_› _ | exact (K0.alloc _).drew | exact K0.alloc _ | exact ((K0.alloc _).alloc _).drew | exact (Old.alloc ‹_› _).drew))) ?_
                           intro a3 c3 u3 r3 hb3 hg3
                           simp only [Nat.add_zero, List.append_nil] at r3 ⊢
                           have K3 : Old v u3 := Below.trans (a := v) (by (first | assumption | exact K0 | exact K0.drew | exact Old.drew ‹_› | exact Old.alloc ‹_› _ | exact (K0.alloc _).drew | exact K0.alloc _ | exact ((K0.alloc _).alloc _).drew | exact (Old.alloc ‹_› _).drew)) hb3))
                    all_goals
                      have hlen : (ins id out x).length = k + 1 := by rw [hins]; simp only [List.length_append, List.length_cons, List.length_nil]; have := HNN.out; omega
                      have hst : strs (ins id out x) = strs out ++ [.string X] := by rw [hins, strs_app]; simp [strs, hX]
                      have R := World.ownsRow.mono r3 (show w1.heap.size ≤ v.heap.size from BF.out.size)
                      rw [← hlen, ← hst] at R
                      have RR := Lib.hid R
                      have BV := Lib.hid (BF.out.trans (Below.mono K3 BF.out.size))
                      clear R hst K0 K1 K2 K3 m0 r1 r2 r3 hg1 hg2 hg3 hb1 hb2 hb3
                      go_wp2_with fail
                      go_roundg (L - i - 1)
                      case measure => omega
                      case rel => exact ⟨i + 1, a3, c3, by omega, by go_num, by rw [HTK.out, HST2.out, hlen], by rw [HTK.out, HST2.out]; exact RR.out, BV.out⟩
    · obtain rfl : i = L := by omega
      have HTL := Lib.hid (show names.take i = names by rw [HL.out, List.take_length])
      go_wp2_with fail
      go_ret
      refine ⟨oa, oc, by rw [HTL.out]; rfl, ?_, HBW.out⟩
      have := HO.out
      rw [HTL.out] at this
      obtain ⟨h1, h2⟩ := this
      exact ⟨h1, h2.imp id (fun ⟨g, cap, cur, a1, a2, a3⟩ => ⟨g, cap, cur, a1, by omega, a3⟩)⟩
end Go.Proofs.YtkdidinekoaobaaGreatDoor.P
