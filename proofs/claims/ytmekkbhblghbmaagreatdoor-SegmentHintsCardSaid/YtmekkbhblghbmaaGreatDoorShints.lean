/- SegmentHints, walked. -/
import Derived.Test.YtmekkbhblghbmaaGreatDoorSsegC
import Derived.Test.YtmekkbhblghbmaaGreatDoorSawake
import Derived.Test.YtmekkbhblghbmaaGreatDoorShmath
import Derived.Test.YtmekkbhblghbmaaGreatDoorFb
import Derived.Test.YtmekkbhblghbmaaGreatDoorFopens
import Derived.Test.YtmekkbhblghbmaaGreatDoorSto
namespace Go.Proofs.YtmekkbhblghbmaaGreatDoor
open Go.RowKit
set_option linter.unusedVariables false

set_option maxRecDepth 100000 in
set_option maxHeartbeats 4000000 in
theorem hints_walk (ll : List (List Rc)) (a : Option Addr) (cap : Nat) (gone : Bool) (w : World) (hT : Tb w.heap.size w) (hl : ll.length ≤ 9223372036854775807) (hr : Bats w a ll) (hf : Fits2 ll) :
    Calls Tryz.prog 6 #[.slice a ll.length cap, .bool gone] w fun e w' => e = .returned (.bool true) ∧ Below w.heap.size w w' := by
  have h5 : segOk 5 := by unfold segOk; omega
  have HA := Lib.hid (awake8_any segC w hT)
  have HLT := Lib.hid (fun (W : World) (hW : Below w.heap.size w W) => light2_any ll a cap W hl (hr.later hW (Nat.le_refl _)) hf)
  have HT := Lib.hid hT; have HR := Lib.hid hr; have HF := Lib.hid hf
  clear hT hr hf
  obtain ⟨L, hL⟩ : ∃ L, L = ll.length := ⟨_, rfl⟩
  have HL := Lib.hid hL
  rw [← hL] at hl HLT ⊢
  clear hL
  go_enter Tryz.func6, Tryz.ntmps6
  go_wp2_with fail
  refine HA.out.mono ?_
  rintro e w1 ⟨rfl, hb1⟩
  have B1 := Lib.hid hb1; clear hb1
  have HTB := Lib.hid (fun (W : World) (hW : Below w1.heap.size w1 W) => ((HT.out.below B1.out).mono B1.out.size).below hW)
  go_wp2_with fail
  refine (D.new_yes 262144 w1 (by omega) (by omega)).mono ?_
  rintro e w2 ⟨pb, F0, rfl, h2, _, hb2⟩
  have B2 := Lib.hid hb2; have H2 := Lib.hid h2
  clear hb2 h2
  go_wp2_with fail
  unfold Light2Post at HLT
  rw [← HL.out] at HLT
  refine (HLT.out _ (B1.out.trans (B2.out.mono B1.out.size))).mono ?_
  rintro e w3 ⟨ok, rfl, hok, hb3⟩
  have B3 := Lib.hid (B2.out.trans (hb3.mono B2.out.size)); have H3 := Lib.hid (dkB H2.out hb3)
  clear hb3
  cases ok
  · go_wp2_with fail
    go_ret
    exact ⟨rfl, B1.out.trans (B3.out.mono B1.out.size)⟩
  · have h20 : L ≤ 20 := (hok rfl).1
    clear hok hl
    go_wp2_with fail
    go_loopg [9] L (fun g it wr => ∃ (i : Nat) (F : Nat → Prop), i + g = L ∧ it = .int .i64 i ∧ D.DkS w1.heap.size wr pb F (wSt 5 (ll.take i)) ∧ Below w1.heap.size w1 wr ∧ ∀ b ∈ ll.take i, good b = true)
    case atStart => exact ⟨0, F0, by omega, rfl, H3.out, B3.out, by simp⟩
    case round =>
      obtain ⟨i, F, hi, rfl, hd, hbw, hgd⟩ := hrel
      have HD := Lib.hid hd; have HB := Lib.hid hbw; have HG := Lib.hid hgd
      clear hd hbw hgd
      by_cases hlt : i < L
      · have hil : i < ll.length := by rw [← HL.out]; exact hlt
        obtain ⟨b, off, a', cap', rfl, hbl, hc, hrec⟩ := bat_of HR.out i hil
        obtain ⟨hfi, hle⟩ := HF.out _ (List.getElem_mem hil)
        have hww : Below w.heap.size w wr := B1.out.trans (HB.out.mono B1.out.size)
        rw [← hww.cell (p := ⟨b, _, none⟩) hbl] at hc
        have hcl := cat_le (ll.take i) HG.out
        rw [List.length_take] at hcl
        have HW := Lib.hid (segC.write HD.out (HTB.out _ HB.out) 5 ll[i] a' cap' (by omega) (by omega) hle (hrec.later hww (Nat.le_refl _)) hfi (by have := wSt_few 5 (ll.take i); omega))
        have HTK := Lib.hid (show ll.take (i + 1) = ll.take i ++ [ll[i]] from List.take_succ_eq_append_getElem hil)
        clear hrec hfi hww
        obtain ⟨K, hK⟩ : ∃ K, K = ll[i].length := ⟨_, rfl⟩
        rw [← hK] at hc HW
        clear hK
        by_cases hg : good ll[i] = true
        · obtain ⟨e1, e2⟩ := wr_step h5 (l := ll.take i) hg (by have := (fbs_len hg).2; omega)
          rw [e1, e2] at HW
          have HG2 := Lib.hid (show ∀ b ∈ ll.take i ++ [ll[i]], good b = true from fun b hb => by
            rcases List.mem_append.1 hb with hb | hb
            · exact HG.out b hb
            · rw [List.mem_singleton] at hb; subst hb; exact hg)
          generalize ll[i] = bt at *
          clear e1 e2 hg hle hcl
          go_wp2_with fail
          refine HW.out.mono ?_
          rintro e w4 ⟨F4, ⟨ea, ecap, rfl, _⟩, hd4, hF4, t4⟩
          have HD4 := Lib.hid hd4; have HB4 := Lib.hid (HB.out.trans (t4.below (fun k hk => (HD.out.lt hk).1) HB.out.size))
          clear hd4 hF4 t4
          generalize (wrL (wSt 5 (ll.take i)) 5 bt).length = M
          go_wp2_with fail
          go_roundg (gk - 1)
          case measure => omega
          case rel => exact ⟨i + 1, F4, by omega, by go_num, by rw [HTK.out]; exact HD4.out, HB4.out, by rw [HTK.out]; exact HG2.out⟩
        · obtain ⟨e1, e2⟩ := wr_bad (S := wSt 5 (ll.take i)) (n := 5) hg
          rw [e1, e2] at HW
          generalize ll[i] = bt at *
          clear e1 e2 hg hle hcl
          go_wp2_with fail
          refine HW.out.mono ?_
          rintro e w4 ⟨F4, ⟨ea, ecap, rfl, _⟩, hd4, hF4, t4⟩
          have HB4 := Lib.hid (HB.out.trans (t4.below (fun k hk => (HD.out.lt hk).1) HB.out.size))
          clear hd4 hF4 t4
          generalize (wrL (wSt 5 (ll.take i)) 5 bt).length = M
          go_wp2_with fail
          go_ret
          exact ⟨rfl, B1.out.trans (HB4.out.mono B1.out.size)⟩
      · obtain rfl : i = L := by omega
        have HTL := Lib.hid (show ll.take i = ll by rw [HL.out, List.take_length])
        rw [HTL.out] at HD HG
        have HSE := Lib.hid (segC.sealed HD.out (HTB.out _ HB.out) 5 (by omega) (by omega) (by have := wSt_few 5 ll; omega))
        by_cases h0 : i = 0
        · subst h0
          have hnil : ll = [] := List.eq_nil_of_length_eq_zero HL.out.symm
          rw [hnil, wSt_nil] at HSE
          have e0 := (ld_none (S := ⟨262144, [], -1, false⟩) (n := 5) h5 rfl)
          have e1 : seE ⟨262144, [], -1, false⟩ 5 = 5 := by unfold seE; rw [e0.1, if_neg (by omega)]
          rw [e1] at HSE
          clear e0 e1 hnil
          go_wp2_with fail
          refine HSE.out.mono ?_
          rintro e w4 ⟨F4, rfl, hd4, hF4, t4⟩
          have HB4 := Lib.hid (HB.out.trans (t4.below (fun k hk => (HD.out.lt hk).1) HB.out.size))
          clear hd4 hF4 t4
          go_wp2_with fail
          go_ret
          exact ⟨rfl, B1.out.trans (HB4.out.mono B1.out.size)⟩
        · have hne : ll ≠ [] := fun e => h0 (by rw [HL.out, e]; rfl)
          have hcl := cat_le ll HG.out
          obtain ⟨x, hx, hxl⟩ := hof_hbs HG.out (by rw [← HL.out]; exact h20)
          obtain ⟨s1, l1, l2, l3⟩ := ld_t (s := 0) h5 (fs_whole HG.out)
          obtain ⟨i1, i2⟩ := hi_t (s := s1) (bt := cat ll) h5 hx (by rw [← HL.out] at hcl; omega)
          have e1 : seE (wSt 5 ll) 5 = 0 := by rw [wSt_some 5 hne]; unfold seE; rw [if_pos l1, l2, l3]; exact i1
          have e2 : seS (wSt 5 ll) 5 = hSt 5 (cat ll) s1 x x.length := by rw [wSt_some 5 hne]; unfold seS; rw [if_pos l1, l2, l3]; exact i2
          rw [e1, e2] at HSE
          have hi0 : ((i : Int) == 0) = false := by simp; omega
          have HGX := Lib.hid (ix_hSt (bt := cat ll) (s := s1) (k := x.length) h5 hx)
          have HGL := Lib.hid (ld_hSt (s := s1) (x := x) (k := x.length) h5 HG.out)
          have HRMX := Lib.hid (rm_hSt (bt := cat ll) (s := s1) (x := x) (k := x.length) h5)
          have HIT := Lib.hid (fun s => ix_tSt (s := s) h5 HG.out)
          have HLTT := Lib.hid (fun s => ld_t (n := 5) (s := s) h5 (fs_whole HG.out))
          have hEc : (hof 0 ll).length ≤ 1000 := by have := flat_le ll HG.out; rw [hof_len]; rw [← HL.out] at this; omega
          obtain ⟨E, hE⟩ : ∃ E, E = hof 0 ll := ⟨_, rfl⟩
          rw [← hE] at HGX HGL HIT HLTT hEc
          clear e1 e2 i1 i2 l1 l2 l3 hcl hne hx hxl hE
          obtain ⟨S1, hS1⟩ : ∃ S1, S1 = hSt 5 (cat ll) s1 x x.length := ⟨_, rfl⟩
          have hf1 : S1.fs.length ≤ 2 := by rw [hS1]; simp [hSt]
          rw [← hS1] at HSE HGX HGL HRMX
          have HT5 := Lib.hid (fun s => show (tSt (sN 5) (cat ll) s).fs.length ≤ 1 by simp [tSt])
          clear hS1
          go_wp2_with fail
          refine HSE.out.mono ?_
          rintro e w4 ⟨F4, rfl, hd4, hF4, t4⟩
          have HD4 := Lib.hid hd4; have HB4 := Lib.hid (HB.out.trans (t4.below (fun k hk => (HD.out.lt hk).1) HB.out.size))
          clear hd4 hF4 t4
          obtain ⟨N, hN⟩ : ∃ N, N = E.length := ⟨_, rfl⟩
          have HN := Lib.hid hN
          clear hN
          cases gone
          · obtain ⟨x1, x2, x3⟩ := HGX.out
            obtain ⟨y1, y2, y3⟩ := HGL.out
            have HD5 := HD4; have HB5 := HB4
            have HIX := Lib.hid (segC.index HD5.out (HTB.out _ HB5.out) 5 (by omega) (by omega) (by omega))
            rw [x1, x2, x3] at HIX
            go_wp2_with fail
            refine HIX.out.mono ?_
            rintro e w6 ⟨F6, ⟨a6, cap6, rfl, hen6, _, hap6⟩, hd6, hF6, t6⟩
            have HLD := Lib.hid (segC.load hd6 (HTB.out _ (HB5.out.trans (t6.below (fun k hk => (HD5.out.lt hk).1) HB5.out.size))) 5 (by omega) (by omega) (by omega))
            rw [y1, y3] at HLD
            have HB6 := Lib.hid (HB5.out.trans (t6.below (fun k hk => (HD5.out.lt hk).1) HB5.out.size))
            have HE6 := Lib.hid hen6; have HP6 := Lib.hid hap6; have HD6 := Lib.hid hd6
            clear hen6 hap6 hd6 hF6 t6
            rw [← HN.out]
            go_wp2_with fail
            refine HLD.out.mono ?_
            rintro e w7 ⟨F7, ⟨a7, cap7, rfl, hen7, _, hap7⟩, hd7, hF7, t7⟩
            have HB7 := Lib.hid (HB6.out.trans (t7.below (fun k hk => (HD6.out.lt hk).1) HB6.out.size))
            have HE7 := Lib.hid hen7
            have HE67 := Lib.hid (HE6.out.away t7.size (fun A hA hl => t7.block _ hl (HP6.out A hA)))
            clear hen7 hap7 hd7 hF7 t7
            have HTO1 := Lib.hid (to8_any E a6 cap6 w7 (by omega) HE67.out)
            rw [← HN.out] at HTO1 ⊢
            go_wp2_with fail
            refine HTO1.out.mono ?_
            rintro e w8 ⟨a8, cap8, rfl, hen8, hb8⟩
            have HE8 := Lib.hid hen8
            have HTO2 := Lib.hid (to8_any E a7 cap7 w8 (by omega) (HE7.out.later hb8 (Nat.le_refl _)))
            have HB8 := Lib.hid (HB7.out.trans (hb8.mono HB7.out.size))
            clear hen8 hb8
            rw [← HN.out] at HTO2 ⊢
            go_wp2_with fail
            refine HTO2.out.mono ?_
            rintro e w9 ⟨a9, cap9, rfl, hen9, hb9⟩
            have HSM := Lib.hid (esame_yes E a8 a9 cap8 cap9 w9 (by omega) (HE8.out.later hb9 (Nat.le_refl _)) hen9)
            have HB9 := Lib.hid (HB8.out.trans (hb9.mono HB8.out.size))
            clear hen9 hb9
            rw [← HN.out] at HSM ⊢
            go_wp2_with fail
            refine HSM.out.mono ?_
            rintro e w10 ⟨rfl, hb10⟩
            have HB10 := Lib.hid (HB9.out.trans (hb10.mono HB9.out.size))
            clear hb10
            go_wp2_with fail
            go_ret
            exact ⟨rfl, B1.out.trans (HB10.out.mono B1.out.size)⟩
          · have HHN := Lib.hid (nmC.hints 5 w4 (HTB.out _ HB4.out) (by omega) (by omega))
            rw [show nameOf 104 5 = hN 5 from rfl] at HHN
            obtain ⟨r1, r2⟩ := HRMX.out
            have hlm : (hN 5).length ≤ maxLen := by have := hN_len 5; unfold maxLen; omega
            have HRM := Lib.hid (fun (W : World) (hW : Below w4.heap.size w4 W) => D.remove_any (n := hN 5) (dkB HD4.out hW) hlm (by omega))
            rw [r1, r2] at HRM
            unfold D.DkPost at HRM
            obtain ⟨x1, ⟨s2, x2⟩, x3⟩ := HIT.out s1
            obtain ⟨s3, y1, y2, y3⟩ := HLTT.out s2
            have ht1 := HT5.out s1; have ht2 := HT5.out s2
            generalize bs (hN 5) = Hn at *
            clear r1 r2 hlm
            go_wp2_with fail
            refine HHN.out.mono ?_
            rintro e w45 ⟨rfl, hb45⟩
            have HB45 := Lib.hid (HB4.out.trans (hb45.mono HB4.out.size))
            have HRM2 := Lib.hid (HRM.out _ hb45)
            clear hb45
            go_wp2_with fail
            refine HRM2.out.mono ?_
            rintro e w5 ⟨rfl, F5, hd5, hF5, t5⟩
            have HD5 := Lib.hid hd5
            have HB5 := Lib.hid (HB45.out.trans (t5.below (fun k hk => (HD4.out.lt hk).1) HB45.out.size))
            clear hd5 hF5 t5
            have HIX := Lib.hid (segC.index HD5.out (HTB.out _ HB5.out) 5 (by omega) (by omega) (by omega))
            rw [x1, x2, x3] at HIX
            go_wp2_with fail
            refine HIX.out.mono ?_
            rintro e w6 ⟨F6, ⟨a6, cap6, rfl, hen6, _, hap6⟩, hd6, hF6, t6⟩
            have HLD := Lib.hid (segC.load hd6 (HTB.out _ (HB5.out.trans (t6.below (fun k hk => (HD5.out.lt hk).1) HB5.out.size))) 5 (by omega) (by omega) (by omega))
            rw [y1, y3] at HLD
            have HB6 := Lib.hid (HB5.out.trans (t6.below (fun k hk => (HD5.out.lt hk).1) HB5.out.size))
            have HE6 := Lib.hid hen6; have HP6 := Lib.hid hap6; have HD6 := Lib.hid hd6
            clear hen6 hap6 hd6 hF6 t6
            rw [← HN.out]
            go_wp2_with fail
            refine HLD.out.mono ?_
            rintro e w7 ⟨F7, ⟨a7, cap7, rfl, hen7, _, hap7⟩, hd7, hF7, t7⟩
            have HB7 := Lib.hid (HB6.out.trans (t7.below (fun k hk => (HD6.out.lt hk).1) HB6.out.size))
            have HE7 := Lib.hid hen7
            have HE67 := Lib.hid (HE6.out.away t7.size (fun A hA hl => t7.block _ hl (HP6.out A hA)))
            clear hen7 hap7 hd7 hF7 t7
            have HTO1 := Lib.hid (to8_any E a6 cap6 w7 (by omega) HE67.out)
            rw [← HN.out] at HTO1 ⊢
            go_wp2_with fail
            refine HTO1.out.mono ?_
            rintro e w8 ⟨a8, cap8, rfl, hen8, hb8⟩
            have HE8 := Lib.hid hen8
            have HTO2 := Lib.hid (to8_any E a7 cap7 w8 (by omega) (HE7.out.later hb8 (Nat.le_refl _)))
            have HB8 := Lib.hid (HB7.out.trans (hb8.mono HB7.out.size))
            clear hen8 hb8
            rw [← HN.out] at HTO2 ⊢
            go_wp2_with fail
            refine HTO2.out.mono ?_
            rintro e w9 ⟨a9, cap9, rfl, hen9, hb9⟩
            have HSM := Lib.hid (esame_yes E a8 a9 cap8 cap9 w9 (by omega) (HE8.out.later hb9 (Nat.le_refl _)) hen9)
            have HB9 := Lib.hid (HB8.out.trans (hb9.mono HB8.out.size))
            clear hen9 hb9
            rw [← HN.out] at HSM ⊢
            go_wp2_with fail
            refine HSM.out.mono ?_
            rintro e w10 ⟨rfl, hb10⟩
            have HB10 := Lib.hid (HB9.out.trans (hb10.mono HB9.out.size))
            clear hb10
            go_wp2_with fail
            go_ret
            exact ⟨rfl, B1.out.trans (HB10.out.mono B1.out.size)⟩

theorem hints_law (ll : List (List Rc)) (a : Option Addr) (cap : Nat) (gone : Bool) (w : World) (hT : Tb w.heap.size w) (hl : ll.length ≤ 9223372036854775807) (hr : BatsIn w a cap ll) (hf : Came2 ll) :
    Calls Tryz.prog 6 #[.slice a ll.length cap, .bool gone] w fun e w' => e = .returned (.bool true) ∧ Below w.heap.size w w' := hints_walk ll a cap gone w hT hl hr.1 hf.fits
end Go.Proofs.YtmekkbhblghbmaaGreatDoor
