/- SegmentTorn, walked. -/
import Derived.Test.YtmekkbhblghbmaaGreatDoorSsegC
import Derived.Test.YtmekkbhblghbmaaGreatDoorSawake
import Derived.Test.YtmekkbhblghbmaaGreatDoorStmath
import Derived.Test.YtmekkbhblghbmaaGreatDoorStnmem
import Derived.Test.YtmekkbhblghbmaaGreatDoorFb
import Derived.Test.YtmekkbhblghbmaaGreatDoorFopens
import Derived.Maps.AppendAt
import Derived.Deep.QuietTactic
import Derived.BigQuiet
namespace Go.Proofs.YtmekkbhblghbmaaGreatDoor
open Go.RowKit
set_option linter.unusedVariables false

theorem sN1 : sN 1 = [115, 48, 48, 48, 48, 48, 49] := by decide +kernel
theorem sN1b : bs (sN 1) = ⟨#[115, 48, 48, 48, 48, 48, 49]⟩ := by rw [sN1]; rfl
theorem wSt_size (l : List (List Rc)) : D.szN (wSt 1 l) (sN 1) = (cat l).length := by
  unfold wSt
  split
  · rename_i h; subst h; rfl
  · rw [szN_some (tSt_find _ _ _)]

def oLast : Obj := .cells #[.int .u64 9, .string ⟨#[108, 97, 115, 116]⟩, .string ⟨#[]⟩, .bool false] 47 (0, 0)
theorem recs_rL (W : World) : Recs (W.alloc (.cells #[.int .u64 9, .string ⟨#[108, 97, 115, 116]⟩, .string ⟨#[]⟩, .bool false] 47)) (some ⟨W.heap.size, 0, none⟩) [rL] := by
  intro _
  refine ⟨W.heap.size, 0, rfl, by simp, fun i hi => ?_⟩
  obtain rfl : i = 0 := by simp at hi; omega
  simp only [World.cell?_alloc_mark]
  exact ⟨rfl, rfl, rfl, rfl⟩
theorem last_cells {w : World} {b : Nat} (h : w.heap[b]? = some oLast) : w.cell? ⟨b, 0, none⟩ = some (.int .u64 9) ∧ w.cell? ⟨b, 1, none⟩ = some (.string ⟨#[108, 97, 115, 116]⟩) ∧ w.cell? ⟨b, 2, none⟩ = some (.string ⟨#[]⟩) ∧ w.cell? ⟨b, 3, none⟩ = some (.bool false) := by
  unfold oLast at h
  have hc : ∀ j, w.cell? ⟨b, j, none⟩ = (#[Value.int .u64 9, .string ⟨#[108, 97, 115, 116]⟩, .string ⟨#[]⟩, .bool false])[j]? := fun j => cell_of_row w b j _ _ (0, 0) h
  exact ⟨by rw [hc]; rfl, by rw [hc]; rfl, by rw [hc]; rfl, by rw [hc]; rfl⟩

set_option maxRecDepth 100000 in
set_option maxHeartbeats 4000000 in
theorem torn_walk (ll : List (List Rc)) (a : Option Addr) (cap : Nat) (kept : Int) (w : World) (hT : Tb w.heap.size w) (hl : ll.length ≤ 9223372036854775807) (hr : Bats w a ll) (hf : Fits2 ll) (hk1 : -9223372036854775808 ≤ kept) (hk2 : kept ≤ 9223372036854775807) :
    Calls Tryz.prog 5 #[.slice a ll.length cap, .int .i64 kept] w fun e w' => e = .returned (.bool true) ∧ Below w.heap.size w w' := by
  obtain ⟨i0, hi0, hz0, hz1, hz2⟩ := info_parts infoInt8
  have HI := Lib.hid (And.intro hi0 (And.intro hz0 (And.intro hz1 hz2)))
  clear hi0 hz0 hz1 hz2
  obtain ⟨i1, hi1, hy0, hy1, hy2⟩ := info_parts infoRec
  have HJ := Lib.hid (And.intro hi1 (And.intro hy0 (And.intro hy1 hy2)))
  clear hi1 hy0 hy1 hy2
  have h5 : Hid (segOk 1) := Lib.hid (by unfold segOk; omega)
  have HA := Lib.hid (awake8_any segC w hT)
  have HLT := Lib.hid (fun (W : World) (hW : Below w.heap.size w W) => light2_any ll a cap W hl (hr.later hW (Nat.le_refl _)) hf)
  have HT := Lib.hid hT; have HR := Lib.hid hr; have HF := Lib.hid hf
  clear hT hr hf
  obtain ⟨L, hL⟩ : ∃ L, L = ll.length := ⟨_, rfl⟩
  have HL := Lib.hid hL
  rw [← hL] at hl HLT ⊢
  clear hL
  go_enter Tryz.func5, Tryz.ntmps5
  go_wp2_with fail
  refine HA.out.mono ?_
  rintro e w1 ⟨rfl, hb1⟩
  have B1 := Lib.hid hb1; clear hb1
  have HTB := Lib.hid (fun (W : World) (hW : Below w1.heap.size w1 W) => ((HT.out.below B1.out).mono B1.out.size).below hW)
  go_wp2_with fail
  refine (D.new_yes 262144 w1 (by omega) (by omega)).mono ?_
  rintro e w2 ⟨pb, F0, rfl, h2, _, hb2⟩
  have B2 := Lib.hid hb2; have H2 := Lib.hid h2
  clear hb2 h2
  go_wp2_with fail
  unfold Light2Post at HLT
  rw [← HL.out] at HLT
  refine (HLT.out _ (B1.out.trans (B2.out.mono B1.out.size))).mono ?_
  rintro e w3 ⟨ok, rfl, hok, hb3⟩
  have B3 := Lib.hid (B2.out.trans (hb3.mono B2.out.size)); have H3 := Lib.hid (dkB H2.out hb3)
  clear hb3
  cases ok
  · go_wp2_with fail
    go_ret
    exact ⟨rfl, B1.out.trans (B3.out.mono B1.out.size)⟩
  · have h20 : L ≤ 20 := (hok rfl).1
    clear hok hl
    have T0 : Hid (Tn w1.heap.size pb (w3.alloc (.cells #[.int .i64 0] 3)) F0 (wSt 1 []) (.slice none 0 0) (.slice none 0 0) (.slice (some ⟨w3.heap.size, 0, none⟩) 1 1) [] [] [0]) := Lib.hid (by
      have hd := H3.out.kept (Turn.of_below (fun _ => False) ((Below.refl w3.heap.size w3).alloc (Nat.le_refl _) (.cells #[.int .i64 0] 3)) (Nat.le_refl _)) (fun _ _ _ f => f)
      exact {
        dk := hd
        be := World.ownsRow_nil _ _ _ _
        ba := World.ownsRow_nil _ _ _ _
        bm := ⟨rfl, Or.inr ⟨w3.heap.size, 1, #[.int .i64 0], rfl, B3.out.size, heap_alloc_new w3 _, Nat.le_refl _, by unfold maxLen; omega, rfl, rfl⟩⟩
        fe := fun g hg => by cases hg
        fa := fun g hg => by cases hg
        fm := fun g hg hf => by
          have : w3.heap.size = g := Option.some.inj hg
          have := (H3.out.lt hf).2
          omega })
    go_wp2_with fail
    go_loopg [9, 10, 11, 12] L (fun g ve va vm it wr => ∃ (i m : Nat) (F : Nat → Prop) (ue ua um : Value), i + g = L ∧ ue = ve ∧ ua = va ∧ um = vm ∧ it = .int .i64 i ∧ Tn w1.heap.size pb wr F (wSt 1 (ll.take i)) ue ua um (endsL ll i) (ll.take i).flatten (manyL ll i) ∧ Below w1.heap.size w1 wr ∧ ∀ b ∈ ll.take i, good b = true)
    case atStart => exact ⟨0, 0, F0, _, _, _, by omega, rfl, rfl, rfl, rfl, T0.out, B3.out.alloc B3.out.size _, by simp⟩
    case round =>
      obtain ⟨i, m, F, ue, ua, um, hi, rfl, rfl, rfl, rfl, ht, hbw, hgd⟩ := hrel
      have HX := Lib.hid ht; have HB := Lib.hid hbw; have HG := Lib.hid hgd
      clear ht hbw hgd
      by_cases hlt : i < L
      · have hil : i < ll.length := by rw [← HL.out]; exact hlt
        obtain ⟨b, off, a', cap', rfl, hbl, hc, hrec⟩ := bat_of HR.out i hil
        obtain ⟨hfi, hle⟩ := HF.out _ (List.getElem_mem hil)
        have hww : Below w.heap.size w wr := B1.out.trans (HB.out.mono B1.out.size)
        have HC0 := Lib.hid hc
        rw [← hww.cell (p := ⟨b, _, none⟩) hbl] at hc
        have hcl := cat_le (ll.take i) HG.out
        rw [List.length_take] at hcl
        have HW := Lib.hid (segC.write HX.out.dk (HTB.out _ HB.out) 1 ll[i] a' cap' (by omega) (by omega) hle (hrec.later hww (Nat.le_refl _)) hfi (by have := wSt_few 1 (ll.take i); omega))
        have HTK := Lib.hid (show ll.take (i + 1) = ll.take i ++ [ll[i]] from List.take_succ_eq_append_getElem hil)
        have HRC := Lib.hid hrec
        clear hrec hfi hww
        obtain ⟨K, hK⟩ : ∃ K, K = ll[i].length := ⟨_, rfl⟩
        have HK := Lib.hid hK
        rw [← hK] at hc HW HC0
        by_cases hg : good ll[i] = true
        · obtain ⟨e1, e2⟩ := wr_step h5.out (l := ll.take i) hg (by have := (fbs_len hg).2; omega)
          rw [e1, e2] at HW
          have HG2 := Lib.hid (show ∀ b ∈ ll.take i ++ [ll[i]], good b = true from fun b hb => by
            rcases List.mem_append.1 hb with hb | hb
            · exact HG.out b hb
            · rw [List.mem_singleton] at hb; subst hb; exact hg)
          have hK16 := ((good_iff _).1 hg).1
          rw [← hK] at hK16
          obtain ⟨hK1, hK2⟩ := hK16
          generalize hbt : ll[i] = bt at *
          have hfl := flat_le _ HG.out
          rw [List.length_take] at hfl
          obtain ⟨g2, off2, rfl, hbl2, hcells⟩ := HRC.out (by omega)
          have HNW := Lib.hid (fun (W : World) (hW : Below w.heap.size w W) => recs_news fun i (hi : i < bt.length) => by
            obtain ⟨x0, x1, x2, x3⟩ := hcells i hi
            exact ⟨(hW.cell (p := ⟨g2, _, none⟩) hbl2).trans x0, (hW.cell (p := ⟨g2, _, none⟩) hbl2).trans x1, (hW.cell (p := ⟨g2, _, none⟩) hbl2).trans x2, (hW.cell (p := ⟨g2, _, none⟩) hbl2).trans x3⟩)
          have HFT : Hid ((ll.take (i + 1)).flatten = (ll.take i).flatten ++ bt) := Lib.hid (by rw [HTK.out]; simp)
          have HEN := Lib.hid (endsL_next ll i)
          have HMN := Lib.hid (manyL_next ll i)
          have hfl2 : (ll.take i).flatten.length ≤ 400 := by omega
          clear e1 e2 hg hle hcl hK hcells hfl
          go_wp2_with fail
          refine HW.out.mono ?_
          rintro e w4 ⟨F4, ⟨ea, ecap, rfl, _⟩, hd4, hF4, t4⟩
          have HX4 := Lib.hid (HX.out.step hd4 hF4 t4)
          have HB4 := Lib.hid (HB.out.trans (t4.below (fun k hk => (HX.out.dk.lt hk).1) HB.out.size))
          clear hd4 hF4 t4
          generalize (wrL (wSt 1 (ll.take i)) 1 bt).length = MM
          have HSZ := Lib.hid (D.size_any (n := sN 1) HX4.out.dk (by have := sN_len 1; unfold maxLen; omega))
          unfold D.szPost at HSZ
          rw [wSt_size, sN1b, ← HTK.out] at HSZ
          generalize hze : D.szE (wSt 1 (ll.take (i + 1))) (sN 1) = ze at HSZ
          clear hze
          go_wp2_with fail
          refine HSZ.out.mono ?_
          rintro e w5 ⟨rfl, hb5⟩
          have HX5 := Lib.hid (HX4.out.below hb5)
          have HB5 := Lib.hid (HB4.out.trans (hb5.mono HB4.out.size))
          have hz5 := HB5.out.size
          clear hb5
          obtain ⟨C, hC⟩ : ∃ C : Int, C = ((cat (ll.take (i + 1))).length : Int) := ⟨_, rfl⟩
          rw [← hC] at HEN ⊢
          have hcl5 := endsL_len ll i
          have hml5 := manyL_len ll i
          clear hC
          go_wp2_with (at_builtin; refine wpList_append_own_at _ rfl _ _ 32 rfl w1.heap.size 3 i0 (.int .i64 0) 1 8 Tryz.underlying32 HI.out.1 HI.out.2.1 HI.out.2.2.1 HI.out.2.2.2 rfl (by decide) _ _ _ rfl (HX5.out.be.alloc _) ⟨w5.heap.size, 0, none⟩ 1 1 [.int .i64 C] rfl rfl (cell_one_new _ _ _) (fun x hx => by simp at hx; rcases hx with rfl; rfl) (by rw [hcl5]; unfold maxLen; omega) (by rw [hcl5]; omega) (by simp; omega) ?_)
          intro v6 w6 hown6 hgrow6 _ hloc6
          have HX6 := Lib.hid ((HX5.out.alloc _).appE (by rw [endsL_len]; exact hown6) hgrow6 (hloc6.imp id (fun e => by rw [World.size_alloc]; exact e)))
          have HB6 := Lib.hid (Below.grown (HB5.out.alloc hz5 (.cells #[.int .i64 C] 3)) hgrow6 (by simp; omega) (fun j hj => (HX5.out.be.lt _ hj).1))
          clear hown6 hgrow6 hloc6
          have hw6 : Below w.heap.size w w6 := B1.out.trans (HB6.out.mono B1.out.size)
          have hc6 := HC0.out
          rw [← hw6.cell (p := ⟨b, _, none⟩) hbl] at hc6
          have HNW6 := Lib.hid (HNW.out _ hw6)
          have hz6 := HB6.out.size
          obtain ⟨NQ, hNQ⟩ : ∃ NQ, NQ = (ll.take i).flatten.length := ⟨_, rfl⟩
          have HNQ := Lib.hid hNQ
          have hba6 := HX6.out.ba
          rw [← hNQ] at hba6 hfl2
          have HBA6 := Lib.hid hba6
          clear hc hw6 hNQ hba6
          go_wp2_with (at_builtin; refine wpList_append_own_at _ rfl _ _ 31 rfl w1.heap.size 47 i1 (.agg #[.int .u64 0, .string ⟨#[]⟩, .string ⟨#[]⟩, .bool false]) 4 48 Tryz.underlying31 HJ.out.1 HJ.out.2.1 HJ.out.2.2.1 HJ.out.2.2.2 rfl (by decide) _ _ _ rfl HBA6.out ⟨g2, off2, none⟩ K cap' (flat bt) rfl (by rw [flat_len, Nat.mul_comm, ← HK.out]) HNW6.out (flat_one bt) (by unfold maxLen; omega) (by omega) hz6 ?_)
          intro v7 w7 hown7 hgrow7 _ hloc7
          have HX7 := Lib.hid (HX6.out.appA (l := bt) (by rw [← HNQ.out, ← HK.out]; exact hown7) hgrow7 hloc7)
          have HB7 := Lib.hid (Below.grown HB6.out hgrow7 hz6 (fun j hj => (HX6.out.ba.lt _ hj).1))
          obtain ⟨a7, cap7, rfl⟩ := slice_of hown7
          clear hown7 hgrow7 hloc7 hc6
          obtain ⟨Q, hQ⟩ : ∃ Q, Q = NQ + K := ⟨_, rfl⟩
          have HQ := Lib.hid (show ((ll.take (i + 1)).flatten.length : Int) = (Q : Int) by rw [HFT.out, List.length_append, hQ, HNQ.out, HK.out])
          rw [← hQ] at HX7 ⊢
          rw [HQ.out] at HMN
          have hz7 := HB7.out.size
          clear hQ
          go_wp2_with (at_builtin; refine wpList_append_own_at _ rfl _ _ 32 rfl w1.heap.size 3 i0 (.int .i64 0) 1 8 Tryz.underlying32 HI.out.1 HI.out.2.1 HI.out.2.2.1 HI.out.2.2.2 rfl (by decide) _ _ _ rfl (HX7.out.bm.alloc _) ⟨w7.heap.size, 0, none⟩ 1 1 [.int .i64 (Q : Int)] rfl rfl (cell_one_new _ _ _) (fun x hx => by simp at hx; rcases hx with rfl; rfl) (by rw [hml5]; unfold maxLen; omega) (by rw [hml5]; omega) (by simp; omega) ?_)
          intro v8 w8 hown8 hgrow8 _ hloc8
          have HX8 := Lib.hid ((HX7.out.alloc _).appM (by rw [manyL_len]; exact hown8) hgrow8 (hloc8.imp id (fun e => by rw [World.size_alloc]; exact e)))
          have HB8 := Lib.hid (Below.grown (HB7.out.alloc hz7 (.cells #[.int .i64 (Q : Int)] 3)) hgrow8 (by simp; omega) (fun j hj => (HX7.out.bm.lt _ hj).1))
          clear hown8 hgrow8 hloc8
          go_wp2_with fail
          go_roundg (gk - 1)
          case measure => omega
          case rel => exact ⟨i + 1, 0, F4, _, _, _, by omega, rfl, rfl, rfl, by go_num, by rw [HTK.out, ← HTK.out, HEN.out, HFT.out, HMN.out, HTK.out]; exact HX8.out, HB8.out, by rw [HTK.out]; exact HG2.out⟩
        · obtain ⟨e1, e2⟩ := wr_bad (S := wSt 1 (ll.take i)) (n := 1) hg
          rw [e1, e2] at HW
          generalize ll[i] = bt at *
          clear e1 e2 hg hle hcl hK
          go_wp2_with fail
          refine HW.out.mono ?_
          rintro e w4 ⟨F4, ⟨ea, ecap, rfl, _⟩, hd4, hF4, t4⟩
          have HB4 := Lib.hid (HB.out.trans (t4.below (fun k hk => (HX.out.dk.lt hk).1) HB.out.size))
          clear hd4 hF4 t4
          generalize (wrL (wSt 1 (ll.take i)) 1 bt).length = MM
          go_wp2_with fail
          go_ret
          exact ⟨rfl, B1.out.trans (HB4.out.mono B1.out.size)⟩
      · obtain rfl : i = L := by omega
        have HTL := Lib.hid (show ll.take i = ll by rw [HL.out, List.take_length])
        rw [HTL.out] at HX HG
        by_cases h0 : i = 0
        · subst h0
          go_wp2_with fail
          go_ret
          exact ⟨rfl, B1.out.trans (HB.out.mono B1.out.size)⟩
        · have hne : ll ≠ [] := fun e => h0 (by rw [HL.out, e]; rfl)
          rw [wSt_some 1 hne] at HX
          have hi0 : ((i : Int) == 0) = false := by simp; omega
          have hbe := HX.out.be
          have hbm := HX.out.bm
          rw [endsL_len] at hbe
          rw [manyL_len] at hbm
          obtain ⟨ae, cape, rfl⟩ := slice_of hbe
          obtain ⟨am, capm, rfl⟩ := slice_of hbm
          have hba := HX.out.ba
          obtain ⟨aa, capa, rfl⟩ := slice_of hba
          clear hbe hbm hba hne h0
          have HXA := Lib.hid (HX.out.alloc (.cells #[.int .i64 kept] 3))
          have HCR := Lib.hid (D.crash_any (ka := some ⟨wr.heap.size, 0, none⟩) (kc := 1) (kept := [kept]) HXA.out.dk (fun j hj => by
            have hj0 : j = 0 := by simp at hj; omega
            subst hj0
            refine ⟨wr.heap.size, 0, rfl, ?_, by simp, fun hf => by have := (HX.out.dk.lt hf).2; omega, hk1, hk2⟩
            rw [cell_of_row _ _ 0 #[.int .i64 kept] _ (0, 0) (heap_alloc_new wr _)]
            rfl) (by simp [maxLen]) (by simp [tSt]))
          unfold D.DkPost at HCR
          rw [cr_t] at HCR
          obtain ⟨c, hc⟩ : ∃ c, c = min kept.toNat (cat ll).length := ⟨_, rfl⟩
          rw [← hc] at HCR
          have hcl : c ≤ (cat ll).length := by omega
          rw [show ([kept] : List Int).length = 1 from rfl] at HCR
          clear hc
          obtain ⟨NA, hNA⟩ : ∃ NA, NA = ll.flatten.length := ⟨_, rfl⟩
          have HNA := Lib.hid hNA
          rw [← hNA]
          have HXN : Hid (Tn w1.heap.size pb wr F (tSt (sN 1) (cat ll) 0) (.slice ae i cape) (.slice aa NA capa) (.slice am (i + 1) capm) (endsL ll i) ll.flatten (manyL ll i)) := Lib.hid (by rw [hNA]; exact HX.out)
          clear hNA HX
          go_wp2_with fail
          refine HCR.out.mono ?_
          rintro e w4 ⟨rfl, F4, hd4, hF4, t4⟩
          have HX4 := Lib.hid ((HXN.out.alloc _).step hd4 hF4 t4)
          have HB4 := Lib.hid ((HB.out.alloc HB.out.size (.cells #[.int .i64 kept] 3)).trans (t4.below (fun k hk => (HXA.out.dk.lt hk).1) (by have := HB.out.size; simp; omega)))
          clear hd4 hF4 t4
          have HSZ := Lib.hid (D.size_any (n := sN 1) HX4.out.dk (by have := sN_len 1; unfold maxLen; omega))
          unfold D.szPost at HSZ
          rw [szN_some (tSt_find _ _ _), szE_some (tSt_find _ _ _), sN1b] at HSZ
          dsimp only at HSZ
          rw [List.length_take, Nat.min_eq_left hcl] at HSZ
          go_wp2_with fail
          refine HSZ.out.mono ?_
          rintro e w5 ⟨rfl, hb5⟩
          have HX5 := Lib.hid (HX4.out.below hb5)
          have HB5 := Lib.hid (HB4.out.trans (hb5.mono HB4.out.size))
          clear hb5
          go_wp2_with fail
          go_loopg [19] i (fun g it wk => ∃ j : Nat, j + g = i ∧ it = .int .i64 j ∧ (∀ k, k < j → (cat (ll.take (k + 1))).length ≤ c) ∧ w5 = wk)
          case atStart => exact ⟨0, by omega, rfl, fun k hk => by omega, rfl⟩
          case round =>
            obtain ⟨j, hj, rfl, hlo, rfl⟩ := hrel
            have HLO := Lib.hid hlo
            have hm0 : j ≤ i := by omega
            -- how many there are
            obtain ⟨gm, rfl, hgm, hcm⟩ := ints_at (i := j) HX5.out.bm (by rw [manyL_len]; omega)
            rw [manyL_at] at hcm
            have HCM := Lib.hid hcm
            clear hlo hcm
            by_cases hji : j < i
            · obtain ⟨ge, rfl, hge, hce⟩ := ints_at (i := j) HX5.out.be (by rw [endsL_len]; exact hji)
              rw [endsL_at] at hce
              obtain ⟨C, hC⟩ : ∃ C, C = (cat (ll.take (j + 1))).length := ⟨_, rfl⟩
              rw [← hC] at hce
              by_cases hCc : C ≤ c
              · have HN2 := Lib.hid (show ∀ k, k < j + 1 → (cat (ll.take (k + 1))).length ≤ c from fun k hk => by
                  by_cases e : k = j
                  · subst e; omega
                  · exact HLO.out k (by omega))
                clear hC
                go_wp2_with fail
                go_roundg (gk - 1)
                case measure => omega
                case rel => exact ⟨j + 1, by omega, by go_num, HN2.out, rfl⟩
              · have hCc' : c < C := by omega
                have hhi : j < ll.length → c < (cat (ll.take (j + 1))).length := fun _ => by omega
                have HHI := Lib.hid hhi
                clear hC hhi
                go_wp2_with fail
                have hjl : j ≤ ll.length := by rw [← HL.out]; omega
                have hlo' : (cat (ll.take j)).length ≤ c := by
                  cases j with
                  | zero => simp [cat]
                  | succ q => exact HLO.out q (by omega)
                obtain ⟨s1, s2, LL, x0, ⟨l1, l2, l3⟩, ⟨v1, v2, v3⟩, ⟨k1, k2, k3⟩, hgt, hgx, hef, hlen, h320⟩ := torn_end HG.out (by rw [← HL.out]; exact h20) hjl hlo' HHI.out hcl
                have hcm := HCM.out
                rw [← hlen] at hcm
                obtain ⟨E0, hE0⟩ : ∃ E0, E0 = hof 0 (ll.take j) := ⟨_, rfl⟩
                rw [← hE0] at l3 k3 hef h320 hcm
                have HGT := Lib.hid hgt
                rw [← hE0] at HGT
                obtain ⟨N0, hN0⟩ : ∃ N0, N0 = E0.length := ⟨_, rfl⟩
                have HN0 := Lib.hid hN0
                rw [← hN0] at hcm h320
                have HLD1 := Lib.hid (segC.load HX5.out.dk (HTB.out _ HB5.out) 1 (by omega) (by omega) (by simp [tSt]))
                rw [l1, l2, l3] at HLD1
                have HV := Lib.hid (And.intro v1 (And.intro v2 v3)); have HK := Lib.hid (And.intro k1 (And.intro k2 k3)); have HEF := Lib.hid hef; have HGX := Lib.hid hgx
                have HFEW := Lib.hid (fun (bt : List UInt8) (s : Nat) => show (tSt (sN 1) bt s).fs.length < 1000000000 by simp [tSt])
                clear l1 l2 l3 v1 v2 v3 k1 k2 k3 hgt hgx hef hlen hE0 hN0 hjl hlo'
                refine HLD1.out.mono ?_
                rintro e w6 ⟨F6, ⟨am6, capm6, rfl, _, _, _⟩, hd6, hF6, t6⟩
                have HX6 := Lib.hid (HX5.out.step hd6 hF6 t6)
                have HB6 := Lib.hid (HB5.out.trans (t6.below (fun k hk => (HX5.out.dk.lt hk).1) HB5.out.size))
                have hcm6 : w6.cell? ⟨gm, j, none⟩ = some (.int .i64 (N0 : Int)) := by
                  rw [World.cell?_of_block (w := w5) (t6.block gm hgm (HX5.out.fm gm rfl))]
                  exact hcm
                rw [← HN0.out]
                clear hd6 hF6 t6 hcm
                have hb7 : Below w6.heap.size w6 ((w6.alloc (.cells #[.int .u64 9, .string ⟨#[108, 97, 115, 116]⟩, .string ⟨#[]⟩, .bool false] 47)).alloc (.cells #[.int .u64 9, .string ⟨#[108, 97, 115, 116]⟩, .string ⟨#[]⟩, .bool false] 47)) := ((Below.refl _ _).alloc (Nat.le_refl _) _).alloc (by simp) _
                have hX7 := (HX6.out.alloc (.cells #[.int .u64 9, .string ⟨#[108, 97, 115, 116]⟩, .string ⟨#[]⟩, .bool false] 47)).alloc (.cells #[.int .u64 9, .string ⟨#[108, 97, 115, 116]⟩, .string ⟨#[]⟩, .bool false] 47)
                have hrec := recs_rL (w6.alloc (.cells #[.int .u64 9, .string ⟨#[108, 97, 115, 116]⟩, .string ⟨#[]⟩, .bool false] 47))
                have hb7' := HB6.out.trans (hb7.mono HB6.out.size)
                have hwr := segC.write hX7.dk (HTB.out _ hb7') 1 [rL] _ 1 (by omega) (by omega) (by simp) hrec fits_rL (HFEW.out _ _)
                rw [HV.out.1, HV.out.2.1, HV.out.2.2] at hwr
                have hla : ((w6.alloc (.cells #[.int .u64 9, .string ⟨#[108, 97, 115, 116]⟩, .string ⟨#[]⟩, .bool false] 47)).alloc (.cells #[.int .u64 9, .string ⟨#[108, 97, 115, 116]⟩, .string ⟨#[]⟩, .bool false] 47)).heap[w6.heap.size]? = some oLast := heap_alloc2_old w6 _ _
                simp only [World.size_alloc, show ([rL] : List Rc).length = 1 from rfl] at hwr
                go_wp2_with fail
                generalize hW7 : (w6.alloc _).alloc _ = W7 at hb7 hX7 hb7' hwr hla ⊢
                obtain ⟨lb, hlb⟩ : ∃ lb, lb = w6.heap.size := ⟨_, rfl⟩
                have hnl6 : ¬ F6 lb := fun hf => by have := (HX6.out.dk.lt hf).2; omega
                rw [← hlb] at hla hwr ⊢
                have HX7 := Lib.hid hX7; have HB7 := Lib.hid hb7'
                have hll := lt_of_block hla
                clear hb7 hX7 hb7' hrec hW7 hlb hcm6
                refine hwr.mono ?_
                rintro e w8 ⟨F8, ⟨ax, capx, rfl, henx, _, hapx⟩, hd8, hF8, t8⟩
                rw [show ([x0] : List Et).length = 1 from rfl]
                have HX8 := Lib.hid (HX7.out.step hd8 hF8 t8)
                have HB8 := Lib.hid (HB7.out.trans (t8.below (fun k hk => (HX7.out.dk.lt hk).1) HB7.out.size))
                have hla8 : w8.heap[lb]? = some oLast := by rw [t8.block lb hll hnl6]; exact hla
                have hnl8 : ¬ F8 lb := fun hf => by
                  rcases hF8 _ hf with hf | hf
                  · exact hnl6 hf
                  · omega
                have HLD2 := Lib.hid (segC.load hd8 (HTB.out _ HB8.out) 1 (by omega) (by omega) (HFEW.out _ _))
                rw [HK.out.1, HK.out.2.1, HK.out.2.2] at HLD2
                have HEX := Lib.hid henx; have HAX := Lib.hid hapx; have HLA := Lib.hid (And.intro hla8 hnl8)
                clear hwr henx hapx hd8 hF8 t8 hla hnl6 hll hla8 hnl8
                go_wp2_with fail
                refine HLD2.out.mono ?_
                rintro e w9 ⟨F9, ⟨ak, capk, rfl, henk, _, hapk⟩, hd9, hF9, t9⟩
                have HX9 := Lib.hid (HX8.out.step hd9 hF9 t9)
                have HB9 := Lib.hid (HB8.out.trans (t9.below (fun k hk => (HX8.out.dk.lt hk).1) HB8.out.size))
                have HLA9 := Lib.hid (show w9.heap[lb]? = some oLast by rw [t9.block lb (lt_of_block HLA.out.1) HLA.out.2]; exact HLA.out.1)
                have HEX9 := Lib.hid (HEX.out.away t9.size (fun A hA hl => t9.block _ hl (HAX.out A hA)))
                have HEK := Lib.hid henk
                rw [show (E0 ++ [x0]).length = N0 + 1 by rw [List.length_append, HN0.out]; rfl]
                clear henk hapk hd9 hF9 t9
                obtain ⟨gq, offq, rfl, hgq, p0, p1, p2, p3, p4⟩ := ents_of_mem HEK.out N0 (by rw [List.length_append, ← HN0.out]; simp)
                obtain ⟨gx, offx, rfl, hgx, r0, r1, r2, r3, r4⟩ := ents_of_mem HEX9.out 0 (by simp)
                have hx0 : (E0 ++ [x0])[N0]'(by rw [List.length_append, ← HN0.out]; simp) = x0 := by
                  rw [List.getElem_append_right (by rw [← HN0.out]; exact Nat.le_refl _)]
                  simp
                rw [hx0] at p0 p1 p2 p3 p4
                rw [show ([x0] : List Et)[0] = x0 from rfl] at r0 r1 r2 r3 r4
                have HX0 := Lib.hid (And.intro r0 (And.intro r1 (And.intro r2 (And.intro r3 r4))))
                clear hx0
                simp only [Nat.zero_mul, Nat.add_zero] at r0 r1 r2 r3 r4
                have qN : IntKind.i64.wrap ((N0 : Int) + 1) = (N0 : Int) + 1 := IntWalk.i64_in _ ⟨by omega, by omega⟩
                have HGL := Lib.hid (fun (W : World) (hW : Below w9.heap.size w9 W) => segC.get (dkB HX9.out.dk hW) (HTB.out _ (HB9.out.trans (hW.mono HB9.out.size))) 1 x0 (by omega) (by omega) (HEF.out x0 (by simp)) (HFEW.out _ _))
                rw [HGX.out] at HGL
                simp only [ev, gtV, rv, rL, show bs [108, 97, 115, 116] = ⟨#[108, 97, 115, 116]⟩ from rfl, show bs [] = ⟨#[]⟩ from rfl, show ((9 : Nat) : Int) = 9 from rfl] at HGL
                have HRA := Lib.hid (show Recs w9 aa ll.flatten by
                  obtain ⟨a', c', e, hrr⟩ := owns_recs HX9.out.ba
                  injection e with e1 e2 e3
                  subst e1
                  exact hrr.1)
                generalize bs x0.k = Kx at *
                generalize x0.o = Ox at *
                generalize x0.l = Lx at *
                generalize ((x0.q : Nat) : Int) = Qx at *
                generalize x0.g = Gx at *
                go_wp2_with fail
                go_quiet (fail)
                go_wp2_with fail
                generalize hWd : World.drewN _ _ = wd
                have HBd := Lib.hid (show Below w9.heap.size w9 wd by rw [← hWd]; exact ((Turn.refl (fun _ => False) w9).drew _).below (fun _ f => f.elim) (Nat.le_refl _))
                clear hWd p0 p1 p2 p3 p4 qN
                go_loopg [27] N0 (fun g it wk => ∃ i2 : Nat, i2 + g = N0 ∧ it = .int .i64 i2 ∧ Below w9.heap.size w9 wk)
                case atStart => exact ⟨0, by omega, rfl, HBd.out⟩
                case round =>
                  obtain ⟨i2, hi2, rfl, hbk⟩ := hrel
                  have HBK := Lib.hid hbk
                  clear hbk
                  by_cases hlt2 : i2 < N0
                  · have hie : i2 < E0.length := by rw [← HN0.out]; exact hlt2
                    obtain ⟨gq', offq', eq', hgq', p0, p1, p2, p3, p4⟩ := ents_of_mem HEK.out i2 (by rw [List.length_append]; omega)
                    cases eq'
                    have hx2 : (E0 ++ [x0])[i2]'(by rw [List.length_append]; omega) = E0[i2] := List.getElem_append_left hie
                    rw [hx2] at p0 p1 p2 p3 p4
                    rw [← HBK.out.cell (p := ⟨gq, _, none⟩) hgq'] at p0 p1 p2 p3 p4
                    obtain ⟨hif, hgt2⟩ := HGT.out i2 hie
                    have HG2 := Lib.hid (segC.get (dkB HX9.out.dk HBK.out) (HTB.out _ (HB9.out.trans (HBK.out.mono HB9.out.size))) 1 E0[i2] (by omega) (by omega) (HEF.out _ (by simp)) (HFEW.out _ _))
                    rw [hgt2] at HG2
                    simp only [ev, gtV, rv] at HG2
                    obtain ⟨ga, offa, rfl, hga, hca⟩ := HRA.out (by omega)
                    obtain ⟨q0, q1, q2, q3⟩ := hca i2 hif
                    have HQ := Lib.hid (And.intro q0 (And.intro q1 (And.intro q2 q3)))
                    have hNA : i2 < NA := by rw [HNA.out]; exact hif
                    clear hgt2 hx2 hca q0 q1 q2 q3
                    generalize ll.flatten[i2] = rr at *
                    generalize E0[i2] = ee at *
                    generalize bs ee.k = Ke at *
                    generalize ee.o = Oe at *
                    generalize ee.l = Le at *
                    generalize ((ee.q : Nat) : Int) = Qe at *
                    generalize ee.g = Ge at *
                    generalize ((rr.q : Nat) : Int) = Qr at *
                    generalize bs rr.k = Kr at *
                    generalize bs rr.v = Vr at *
                    generalize rr.g = Gr at *
                    go_wp2_with fail
                    refine HG2.out.mono ?_
                    rintro e w10 ⟨rfl, hb10⟩
                    have HB10 := Lib.hid (HBK.out.trans (hb10.mono HBK.out.size))
                    clear p0 p1 p2 p3 p4 hb10
                    go_wp2_with fail
                    generalize hWA : w10.alloc _ = wa
                    have hxa : wa.heap[w10.heap.size]? = some (.cells #[.int .u64 Qr, .string Kr, .string Vr, .bool Gr] 47 (0, 0)) := by rw [← hWA]; exact heap_alloc_new w10 _
                    have HBA := Lib.hid (show Below w9.heap.size w9 wa by rw [← hWA]; exact HB10.out.alloc HB10.out.size _)
                    have hxc : ∀ t, wa.cell? ⟨w10.heap.size, t, none⟩ = (#[Value.int .u64 Qr, .string Kr, .string Vr, .bool Gr])[t]? := fun t => cell_of_row wa _ t _ _ (0, 0) hxa
                    have y0 : wa.cell? ⟨w10.heap.size, 0, none⟩ = some (.int .u64 Qr) := by rw [hxc]; rfl
                    have y1 : wa.cell? ⟨w10.heap.size, 1, none⟩ = some (.string Kr) := by rw [hxc]; rfl
                    have y2 : wa.cell? ⟨w10.heap.size, 2, none⟩ = some (.string Vr) := by rw [hxc]; rfl
                    have y3 : wa.cell? ⟨w10.heap.size, 3, none⟩ = some (.bool Gr) := by rw [hxc]; rfl
                    obtain ⟨q0, q1, q2, q3⟩ := HQ.out
                    rw [← HBA.out.cell (p := ⟨ga, _, none⟩) hga] at q0 q1 q2 q3
                    obtain ⟨rb, hrb⟩ : ∃ rb, rb = w10.heap.size := ⟨_, rfl⟩
                    rw [← hrb] at y0 y1 y2 y3 ⊢
                    clear hWA hxa hxc hrb
                    go_quiet (fail)
                    go_wp2_with fail
                    go_roundg (gk - 1)
                    case measure => omega
                    case rel => exact ⟨i2 + 1, by omega, by go_num, by exact ((Turn.refl (fun _ => False) wa).drew _).below (fun _ f => f.elim) (Nat.le_refl _) |> fun h => HBA.out.trans (h.mono HBA.out.size)⟩
                  · obtain rfl : i2 = N0 := by omega
                    obtain ⟨r0, r1, r2, r3, r4⟩ := HX0.out
                    simp only [Nat.zero_mul, Nat.add_zero] at r0 r1 r2 r3 r4
                    have HG3 := Lib.hid (HGL.out _ HBK.out)
                    rw [← HBK.out.cell (p := ⟨gx, _, none⟩) hgx] at r0 r1 r2 r3 r4
                    go_wp2_with fail
                    refine HG3.out.mono ?_
                    rintro e w10 ⟨rfl, hb10⟩
                    have HB10 := Lib.hid (HBK.out.trans (hb10.mono HBK.out.size))
                    clear r0 r1 r2 r3 r4 hb10
                    obtain ⟨y0, y1, y2, y3⟩ := last_cells (w := w10.alloc (.cells #[.int .u64 9, .string ⟨#[108, 97, 115, 116]⟩, .string ⟨#[]⟩, .bool false] 47)) (b := lb) (by
                      rw [(HB10.out.alloc HB10.out.size _).block _ (lt_of_block HLA9.out)]
                      exact HLA9.out)
                    have hbe : Below w1.heap.size w1 (w10.alloc (.cells #[.int .u64 9, .string ⟨#[108, 97, 115, 116]⟩, .string ⟨#[]⟩, .bool false] 47)) := HB9.out.trans ((HB10.out.alloc HB10.out.size _).mono HB9.out.size)
                    have HBE := Lib.hid hbe
                    clear hbe
                    go_wp2_with fail
                    go_ret
                    exact ⟨rfl, B1.out.trans (HBE.out.mono B1.out.size)⟩
            · obtain rfl : j = i := by omega
              have HHI : Hid (j < ll.length → c < (cat (ll.take (j + 1))).length) := Lib.hid (fun h => by rw [← HL.out] at h; omega)
              go_wp2_with fail
              have hjl : j ≤ ll.length := by rw [← HL.out]; omega
              have hlo' : (cat (ll.take j)).length ≤ c := by
                cases j with
                | zero => simp [cat]
                | succ q => exact HLO.out q (by omega)
              obtain ⟨s1, s2, LL, x0, ⟨l1, l2, l3⟩, ⟨v1, v2, v3⟩, ⟨k1, k2, k3⟩, hgt, hgx, hef, hlen, h320⟩ := torn_end HG.out (by rw [← HL.out]; exact h20) hjl hlo' HHI.out hcl
              have hcm := HCM.out
              rw [← hlen] at hcm
              obtain ⟨E0, hE0⟩ : ∃ E0, E0 = hof 0 (ll.take j) := ⟨_, rfl⟩
              rw [← hE0] at l3 k3 hef h320 hcm
              have HGT := Lib.hid hgt
              rw [← hE0] at HGT
              obtain ⟨N0, hN0⟩ : ∃ N0, N0 = E0.length := ⟨_, rfl⟩
              have HN0 := Lib.hid hN0
              rw [← hN0] at hcm h320
              have HLD1 := Lib.hid (segC.load HX5.out.dk (HTB.out _ HB5.out) 1 (by omega) (by omega) (by simp [tSt]))
              rw [l1, l2, l3] at HLD1
              have HV := Lib.hid (And.intro v1 (And.intro v2 v3)); have HK := Lib.hid (And.intro k1 (And.intro k2 k3)); have HEF := Lib.hid hef; have HGX := Lib.hid hgx
              have HFEW := Lib.hid (fun (bt : List UInt8) (s : Nat) => show (tSt (sN 1) bt s).fs.length < 1000000000 by simp [tSt])
              clear l1 l2 l3 v1 v2 v3 k1 k2 k3 hgt hgx hef hlen hE0 hN0 hjl hlo'
              refine HLD1.out.mono ?_
              rintro e w6 ⟨F6, ⟨am6, capm6, rfl, _, _, _⟩, hd6, hF6, t6⟩
              have HX6 := Lib.hid (HX5.out.step hd6 hF6 t6)
              have HB6 := Lib.hid (HB5.out.trans (t6.below (fun k hk => (HX5.out.dk.lt hk).1) HB5.out.size))
              have hcm6 : w6.cell? ⟨gm, j, none⟩ = some (.int .i64 (N0 : Int)) := by
                rw [World.cell?_of_block (w := w5) (t6.block gm hgm (HX5.out.fm gm rfl))]
                exact hcm
              rw [← HN0.out]
              clear hd6 hF6 t6 hcm
              have hb7 : Below w6.heap.size w6 ((w6.alloc (.cells #[.int .u64 9, .string ⟨#[108, 97, 115, 116]⟩, .string ⟨#[]⟩, .bool false] 47)).alloc (.cells #[.int .u64 9, .string ⟨#[108, 97, 115, 116]⟩, .string ⟨#[]⟩, .bool false] 47)) := ((Below.refl _ _).alloc (Nat.le_refl _) _).alloc (by simp) _
              have hX7 := (HX6.out.alloc (.cells #[.int .u64 9, .string ⟨#[108, 97, 115, 116]⟩, .string ⟨#[]⟩, .bool false] 47)).alloc (.cells #[.int .u64 9, .string ⟨#[108, 97, 115, 116]⟩, .string ⟨#[]⟩, .bool false] 47)
              have hrec := recs_rL (w6.alloc (.cells #[.int .u64 9, .string ⟨#[108, 97, 115, 116]⟩, .string ⟨#[]⟩, .bool false] 47))
              have hb7' := HB6.out.trans (hb7.mono HB6.out.size)
              have hwr := segC.write hX7.dk (HTB.out _ hb7') 1 [rL] _ 1 (by omega) (by omega) (by simp) hrec fits_rL (HFEW.out _ _)
              rw [HV.out.1, HV.out.2.1, HV.out.2.2] at hwr
              have hla : ((w6.alloc (.cells #[.int .u64 9, .string ⟨#[108, 97, 115, 116]⟩, .string ⟨#[]⟩, .bool false] 47)).alloc (.cells #[.int .u64 9, .string ⟨#[108, 97, 115, 116]⟩, .string ⟨#[]⟩, .bool false] 47)).heap[w6.heap.size]? = some oLast := heap_alloc2_old w6 _ _
              simp only [World.size_alloc, show ([rL] : List Rc).length = 1 from rfl] at hwr
              go_wp2_with fail
              generalize hW7 : (w6.alloc _).alloc _ = W7 at hb7 hX7 hb7' hwr hla ⊢
              obtain ⟨lb, hlb⟩ : ∃ lb, lb = w6.heap.size := ⟨_, rfl⟩
              have hnl6 : ¬ F6 lb := fun hf => by have := (HX6.out.dk.lt hf).2; omega
              rw [← hlb] at hla hwr ⊢
              have HX7 := Lib.hid hX7; have HB7 := Lib.hid hb7'
              have hll := lt_of_block hla
              clear hb7 hX7 hb7' hrec hW7 hlb hcm6
              refine hwr.mono ?_
              rintro e w8 ⟨F8, ⟨ax, capx, rfl, henx, _, hapx⟩, hd8, hF8, t8⟩
              rw [show ([x0] : List Et).length = 1 from rfl]
              have HX8 := Lib.hid (HX7.out.step hd8 hF8 t8)
              have HB8 := Lib.hid (HB7.out.trans (t8.below (fun k hk => (HX7.out.dk.lt hk).1) HB7.out.size))
              have hla8 : w8.heap[lb]? = some oLast := by rw [t8.block lb hll hnl6]; exact hla
              have hnl8 : ¬ F8 lb := fun hf => by
                rcases hF8 _ hf with hf | hf
                · exact hnl6 hf
                · omega
              have HLD2 := Lib.hid (segC.load hd8 (HTB.out _ HB8.out) 1 (by omega) (by omega) (HFEW.out _ _))
              rw [HK.out.1, HK.out.2.1, HK.out.2.2] at HLD2
              have HEX := Lib.hid henx; have HAX := Lib.hid hapx; have HLA := Lib.hid (And.intro hla8 hnl8)
              clear hwr henx hapx hd8 hF8 t8 hla hnl6 hll hla8 hnl8
              go_wp2_with fail
              refine HLD2.out.mono ?_
              rintro e w9 ⟨F9, ⟨ak, capk, rfl, henk, _, hapk⟩, hd9, hF9, t9⟩
              have HX9 := Lib.hid (HX8.out.step hd9 hF9 t9)
              have HB9 := Lib.hid (HB8.out.trans (t9.below (fun k hk => (HX8.out.dk.lt hk).1) HB8.out.size))
              have HLA9 := Lib.hid (show w9.heap[lb]? = some oLast by rw [t9.block lb (lt_of_block HLA.out.1) HLA.out.2]; exact HLA.out.1)
              have HEX9 := Lib.hid (HEX.out.away t9.size (fun A hA hl => t9.block _ hl (HAX.out A hA)))
              have HEK := Lib.hid henk
              rw [show (E0 ++ [x0]).length = N0 + 1 by rw [List.length_append, HN0.out]; rfl]
              clear henk hapk hd9 hF9 t9
              obtain ⟨gq, offq, rfl, hgq, p0, p1, p2, p3, p4⟩ := ents_of_mem HEK.out N0 (by rw [List.length_append, ← HN0.out]; simp)
              obtain ⟨gx, offx, rfl, hgx, r0, r1, r2, r3, r4⟩ := ents_of_mem HEX9.out 0 (by simp)
              have hx0 : (E0 ++ [x0])[N0]'(by rw [List.length_append, ← HN0.out]; simp) = x0 := by
                rw [List.getElem_append_right (by rw [← HN0.out]; exact Nat.le_refl _)]
                simp
              rw [hx0] at p0 p1 p2 p3 p4
              rw [show ([x0] : List Et)[0] = x0 from rfl] at r0 r1 r2 r3 r4
              have HX0 := Lib.hid (And.intro r0 (And.intro r1 (And.intro r2 (And.intro r3 r4))))
              clear hx0
              simp only [Nat.zero_mul, Nat.add_zero] at r0 r1 r2 r3 r4
              have qN : IntKind.i64.wrap ((N0 : Int) + 1) = (N0 : Int) + 1 := IntWalk.i64_in _ ⟨by omega, by omega⟩
              have HGL := Lib.hid (fun (W : World) (hW : Below w9.heap.size w9 W) => segC.get (dkB HX9.out.dk hW) (HTB.out _ (HB9.out.trans (hW.mono HB9.out.size))) 1 x0 (by omega) (by omega) (HEF.out x0 (by simp)) (HFEW.out _ _))
              rw [HGX.out] at HGL
              simp only [ev, gtV, rv, rL, show bs [108, 97, 115, 116] = ⟨#[108, 97, 115, 116]⟩ from rfl, show bs [] = ⟨#[]⟩ from rfl, show ((9 : Nat) : Int) = 9 from rfl] at HGL
              have HRA := Lib.hid (show Recs w9 aa ll.flatten by
                obtain ⟨a', c', e, hrr⟩ := owns_recs HX9.out.ba
                injection e with e1 e2 e3
                subst e1
                exact hrr.1)
              generalize bs x0.k = Kx at *
              generalize x0.o = Ox at *
              generalize x0.l = Lx at *
              generalize ((x0.q : Nat) : Int) = Qx at *
              generalize x0.g = Gx at *
              go_wp2_with fail
              go_quiet (fail)
              go_wp2_with fail
              generalize hWd : World.drewN _ _ = wd
              have HBd := Lib.hid (show Below w9.heap.size w9 wd by rw [← hWd]; exact ((Turn.refl (fun _ => False) w9).drew _).below (fun _ f => f.elim) (Nat.le_refl _))
              clear hWd p0 p1 p2 p3 p4 qN
              go_loopg [27] N0 (fun g it wk => ∃ i2 : Nat, i2 + g = N0 ∧ it = .int .i64 i2 ∧ Below w9.heap.size w9 wk)
              case atStart => exact ⟨0, by omega, rfl, HBd.out⟩
              case round =>
                obtain ⟨i2, hi2, rfl, hbk⟩ := hrel
                have HBK := Lib.hid hbk
                clear hbk
                by_cases hlt2 : i2 < N0
                · have hie : i2 < E0.length := by rw [← HN0.out]; exact hlt2
                  obtain ⟨gq', offq', eq', hgq', p0, p1, p2, p3, p4⟩ := ents_of_mem HEK.out i2 (by rw [List.length_append]; omega)
                  cases eq'
                  have hx2 : (E0 ++ [x0])[i2]'(by rw [List.length_append]; omega) = E0[i2] := List.getElem_append_left hie
                  rw [hx2] at p0 p1 p2 p3 p4
                  rw [← HBK.out.cell (p := ⟨gq, _, none⟩) hgq'] at p0 p1 p2 p3 p4
                  obtain ⟨hif, hgt2⟩ := HGT.out i2 hie
                  have HG2 := Lib.hid (segC.get (dkB HX9.out.dk HBK.out) (HTB.out _ (HB9.out.trans (HBK.out.mono HB9.out.size))) 1 E0[i2] (by omega) (by omega) (HEF.out _ (by simp)) (HFEW.out _ _))
                  rw [hgt2] at HG2
                  simp only [ev, gtV, rv] at HG2
                  obtain ⟨ga, offa, rfl, hga, hca⟩ := HRA.out (by omega)
                  obtain ⟨q0, q1, q2, q3⟩ := hca i2 hif
                  have HQ := Lib.hid (And.intro q0 (And.intro q1 (And.intro q2 q3)))
                  have hNA : i2 < NA := by rw [HNA.out]; exact hif
                  clear hgt2 hx2 hca q0 q1 q2 q3
                  generalize ll.flatten[i2] = rr at *
                  generalize E0[i2] = ee at *
                  generalize bs ee.k = Ke at *
                  generalize ee.o = Oe at *
                  generalize ee.l = Le at *
                  generalize ((ee.q : Nat) : Int) = Qe at *
                  generalize ee.g = Ge at *
                  generalize ((rr.q : Nat) : Int) = Qr at *
                  generalize bs rr.k = Kr at *
                  generalize bs rr.v = Vr at *
                  generalize rr.g = Gr at *
                  go_wp2_with fail
                  refine HG2.out.mono ?_
                  rintro e w10 ⟨rfl, hb10⟩
                  have HB10 := Lib.hid (HBK.out.trans (hb10.mono HBK.out.size))
                  clear p0 p1 p2 p3 p4 hb10
                  go_wp2_with fail
                  generalize hWA : w10.alloc _ = wa
                  have hxa : wa.heap[w10.heap.size]? = some (.cells #[.int .u64 Qr, .string Kr, .string Vr, .bool Gr] 47 (0, 0)) := by rw [← hWA]; exact heap_alloc_new w10 _
                  have HBA := Lib.hid (show Below w9.heap.size w9 wa by rw [← hWA]; exact HB10.out.alloc HB10.out.size _)
                  have hxc : ∀ t, wa.cell? ⟨w10.heap.size, t, none⟩ = (#[Value.int .u64 Qr, .string Kr, .string Vr, .bool Gr])[t]? := fun t => cell_of_row wa _ t _ _ (0, 0) hxa
                  have y0 : wa.cell? ⟨w10.heap.size, 0, none⟩ = some (.int .u64 Qr) := by rw [hxc]; rfl
                  have y1 : wa.cell? ⟨w10.heap.size, 1, none⟩ = some (.string Kr) := by rw [hxc]; rfl
                  have y2 : wa.cell? ⟨w10.heap.size, 2, none⟩ = some (.string Vr) := by rw [hxc]; rfl
                  have y3 : wa.cell? ⟨w10.heap.size, 3, none⟩ = some (.bool Gr) := by rw [hxc]; rfl
                  obtain ⟨q0, q1, q2, q3⟩ := HQ.out
                  rw [← HBA.out.cell (p := ⟨ga, _, none⟩) hga] at q0 q1 q2 q3
                  obtain ⟨rb, hrb⟩ : ∃ rb, rb = w10.heap.size := ⟨_, rfl⟩
                  rw [← hrb] at y0 y1 y2 y3 ⊢
                  clear hWA hxa hxc hrb
                  go_quiet (fail)
                  go_wp2_with fail
                  go_roundg (gk - 1)
                  case measure => omega
                  case rel => exact ⟨i2 + 1, by omega, by go_num, by exact ((Turn.refl (fun _ => False) wa).drew _).below (fun _ f => f.elim) (Nat.le_refl _) |> fun h => HBA.out.trans (h.mono HBA.out.size)⟩
                · obtain rfl : i2 = N0 := by omega
                  obtain ⟨r0, r1, r2, r3, r4⟩ := HX0.out
                  simp only [Nat.zero_mul, Nat.add_zero] at r0 r1 r2 r3 r4
                  have HG3 := Lib.hid (HGL.out _ HBK.out)
                  rw [← HBK.out.cell (p := ⟨gx, _, none⟩) hgx] at r0 r1 r2 r3 r4
                  go_wp2_with fail
                  refine HG3.out.mono ?_
                  rintro e w10 ⟨rfl, hb10⟩
                  have HB10 := Lib.hid (HBK.out.trans (hb10.mono HBK.out.size))
                  clear r0 r1 r2 r3 r4 hb10
                  obtain ⟨y0, y1, y2, y3⟩ := last_cells (w := w10.alloc (.cells #[.int .u64 9, .string ⟨#[108, 97, 115, 116]⟩, .string ⟨#[]⟩, .bool false] 47)) (b := lb) (by
                    rw [(HB10.out.alloc HB10.out.size _).block _ (lt_of_block HLA9.out)]
                    exact HLA9.out)
                  have hbe : Below w1.heap.size w1 (w10.alloc (.cells #[.int .u64 9, .string ⟨#[108, 97, 115, 116]⟩, .string ⟨#[]⟩, .bool false] 47)) := HB9.out.trans ((HB10.out.alloc HB10.out.size _).mono HB9.out.size)
                  have HBE := Lib.hid hbe
                  clear hbe
                  go_wp2_with fail
                  go_ret
                  exact ⟨rfl, B1.out.trans (HBE.out.mono B1.out.size)⟩

theorem torn_law (ll : List (List Rc)) (a : Option Addr) (cap : Nat) (kept : Int) (w : World) (hT : Tb w.heap.size w) (hl : ll.length ≤ 9223372036854775807) (hr : BatsIn w a cap ll) (hf : Came2 ll) (hk : (Lit.int .i64 kept).wf = true) :
    Calls Tryz.prog 5 #[.slice a ll.length cap, .int .i64 kept] w fun e w' => e = .returned (.bool true) ∧ Below w.heap.size w w' := torn_walk ll a cap kept w hT hl hr.1 hf.fits (wf_i64 hk).1 (wf_i64 hk).2
end Go.Proofs.YtmekkbhblghbmaaGreatDoor
