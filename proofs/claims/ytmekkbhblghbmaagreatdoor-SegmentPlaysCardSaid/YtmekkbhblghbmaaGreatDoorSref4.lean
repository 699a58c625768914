/- The document's segments, on the document's disk: Hint, Seal. -/
import Derived.Test.YtmekkbhblghbmaaGreatDoorSref3
import Derived.Test.YtmekkbhblghbmaaGreatDoorDr
namespace Go.Proofs.YtmekkbhblghbmaaGreatDoor
open Go.RowKit
set_option linter.unusedVariables false

theorem encs_count : ∀ l : List Rc, rights l = true → l.length ≤ (encs l).length
  | [], _ => by simp
  | r :: l, h => by
    simp only [rights, List.all_cons, Bool.and_eq_true] at h
    have := enc_len h.1
    have := encs_count l h.2
    rw [encs_cons, List.length_append, List.length_cons]; omega
theorem cat_count : ∀ ll : List (List Rc), (∀ l ∈ ll, good l = true) → ll.flatten.length ≤ (cat ll).length
  | [], _ => by simp
  | l :: ll, h => by
    have h1 := encs_count l ((good_iff l).1 (h l (by simp))).2
    have h2 := head_le l
    have h3 := cat_count ll (fun x hx => h x (by simp [hx]))
    rw [List.flatten_cons, cat_cons, List.length_append, List.length_append]; omega
theorem hof_count (b : List UInt8) : (hof 0 (fs b).1).length ≤ b.length := by
  obtain ⟨ll, k, h⟩ : ∃ ll k, fs b = (ll, k) := ⟨_, _, rfl⟩
  obtain ⟨h1, h2, h3⟩ := fs_ok h
  rw [h, hof_len]
  have := cat_count ll h1
  have h4 : b.length = (cat ll ++ b.drop k).length := congrArg List.length h3
  rw [List.length_append] at h4
  dsimp only
  omega
theorem ent_fit {off : Nat} {r : Rc} (h : right r = true) (ho : off ≤ 9223372036854775807) : EFit (ent off r) := by
  obtain ⟨h1, h2, h3, h4, h5, h6⟩ := (right_iff r).1 h
  have h7 := enc_len h
  refine ⟨show r.k.length ≤ _ by omega, ⟨show (-9223372036854775808 : Int) ≤ (off : Int) by omega, show (off : Int) ≤ _ by omega⟩, ⟨show (-9223372036854775808 : Int) ≤ ((enc r).length : Int) by omega, show ((enc r).length : Int) ≤ _ by omega⟩, show r.q ≤ _ by omega⟩
theorem hof_fit (b : List UInt8) (hb : b.length ≤ 2000000) : EFits (hof 0 (fs b).1) := by
  obtain ⟨ll, k, h⟩ : ∃ ll k, fs b = (ll, k) := ⟨_, _, rfl⟩
  obtain ⟨h1, h2, h3⟩ := fs_ok h
  rw [h]
  intro e he
  obtain ⟨off, r, rfl, hr, ho⟩ := hof_le ll 0 h1 e he
  have h4 : b.length = (cat ll ++ b.drop k).length := congrArg List.length h3
  rw [List.length_append] at h4
  exact ent_fit hr (by omega)
theorem hbs_small (l : List Et) : (hbs l).1.length ≤ 200000 := by
  by_cases h : l.length ≤ 2000 ∧ erights l = true
  · rw [hbs_yes h.1 h.2]
    have h1 := eencs_len l h.2
    have h2 := put_ten (n := l.length) (by have := h.1; unfold M64; omega)
    have h3 := h.1
    show (seal4 (put l.length ++ eencs l)).length ≤ _
    rw [seal_len, List.length_append]; omega
  · unfold hbs
    rw [if_neg h]
    simp
theorem hbs_err (l : List Et) : (hbs l).2 = 0 ∨ (hbs l).2 = 1 := by
  unfold hbs
  split
  · exact Or.inl rfl
  · exact Or.inr rfl

/-- A step behind a step, of the very slice that the first one left. -/
theorem SfStep.on {B qb : Nat} {lv lw : Value} {S' S'' : D.St} {w w' w'' : World} (h : D.Rf B w' qb lw S' ∧ Turn (fun k => k = qb) w w' ∧ ∀ g, lw.ownBlock = some g → lv.ownBlock = some g ∨ w.heap.size ≤ g) (k : SfStep B qb lw S'' w' w'') : SfStep B qb lv S'' w w'' := by
  obtain ⟨h1, t1, g1⟩ := h
  obtain ⟨lv2, h2, t2, g2⟩ := k
  refine ⟨lv2, h2, t1.trans t2, fun g hg => ?_⟩
  rcases g2 g hg with hg | hg
  · exact g1 g hg
  · exact Or.inr (Nat.le_trans t1.size hg)

def IntR (x : Int) (e : Ending) (_ : World) : Prop := e = .returned (.int .i64 x)

set_option maxHeartbeats 4000000 in
theorem refHint_any {B qb : Nat} {lv : Value} {S : D.St} {w : World} (h : D.Rf B w qb lv S) (n : Int) (l : List Et) (a : Option Addr) (cap : Nat) (hl : l.length ≤ 2000000) (he : EntsIn w a l) (hf : EFits l) (hcs : S.fs.length + 3 < 1000000000) :
    Calls Tryz.prog 24 #[.pointer (some ⟨qb, 0, none⟩), .int .i64 n, .slice a l.length cap] w (SfPost B qb lv (hiS S n l) (IntR (hiE S n l)) w) := by
  by_cases hn : segOk n
  · have HNM := Lib.hid (refHints_any n)
    have HR := Lib.hid (right_yes hn w)
    have HBT := Lib.hid (refhbytes_any l a cap w hl he hf)
    have hsm := hbs_small l
    have hE : hiE S n l = if (hbs l).2 = 0 then (if hrE S n = 0 then (if D.apE (hrS S n) (hN n) (hbs l).1 = 0 then D.syE (D.apS (hrS S n) (hN n) (hbs l).1) (hN n) else D.apE (hrS S n) (hN n) (hbs l).1) else hrE S n) else ((hbs l).2 : Int) := by unfold hiE; rw [if_pos hn]
    have hS : hiS S n l = if (hbs l).2 = 0 then (if hrE S n = 0 then (if D.apE (hrS S n) (hN n) (hbs l).1 = 0 then D.syS (D.apS (hrS S n) (hN n) (hbs l).1) (hN n) else D.apS (hrS S n) (hN n) (hbs l).1) else hrS S n) else S := by unfold hiS; rw [if_pos hn]
    rw [hE, hS]
    have herr := hbs_err l
    obtain ⟨x, hx⟩ : ∃ x, hbs l = x := ⟨_, rfl⟩
    unfold hbV at HBT
    rw [hx] at HBT hsm herr ⊢
    obtain ⟨b, e⟩ := x
    dsimp only at HBT hsm herr ⊢
    have hlm : (hN n).length ≤ maxLen := by have := hN_len n; unfold maxLen; omega
    have hbm : b.length ≤ maxLen := by unfold maxLen; omega
    clear hE hS hx hl he hf hsm
    obtain ⟨L, hL⟩ : ∃ L, L = l.length := ⟨_, rfl⟩
    rw [← hL] at HBT ⊢
    clear hL
    rcases herr with rfl | rfl
    · rw [if_pos rfl, if_pos rfl]
      have HSZ := Lib.hid (fun (W : World) (hW : Below w.heap.size w W) => D.refsize_any (n := hN n) (h.below hW) (by omega))
      have HH := Lib.hid h
      -- what is done behind the elder hints
      have HAP := Lib.hid (fun (W : World) (lw : Value) (hW : D.Rf B W qb lw (hrS S n)) (hc2 : (hrS S n).fs.length + 2 < 1000000000) => D.refappend_any (n := hN n) (b := b) hW hlm hbm (by omega))
      have HSY := Lib.hid (fun (W : World) (lw : Value) (hW : D.Rf B W qb lw (D.apS (hrS S n) (hN n) b)) (hc2 : (D.apS (hrS S n) (hN n) b).fs.length < 1000000000) => D.refsync_any (n := hN n) hW hc2)
      have HC2 := Lib.hid (D.ap_room (hrS S n) (hN n) b).2
      cases hff : D.find S.fs (hN n) with
      | none =>
        have hs0 : hrS S n = S := by unfold hrS; rw [hff]
        have he0 : hrE S n = 0 := by unfold hrE; rw [hff]
        rw [szE_none hff] at HSZ
        rw [hs0] at HAP HSY HC2 ⊢
        rw [he0, if_pos rfl, if_pos rfl]
        generalize D.szN S (hN n) = z at *
        have H1 : Hid (∀ W, Below w.heap.size w W → SfStep B qb lv S w W) := Lib.hid (fun W hW => SfStep.same HH.out hW)
        have hfl1 : S.fs.length + 2 < 1000000000 := by omega
        have HFL := Lib.hid hfl1
        clear hff hs0 he0 hn h hlm hbm hcs hfl1
        obtain ⟨x1, hx1⟩ : ∃ x1, x1 = D.apE S (hN n) b := ⟨_, rfl⟩
        rw [← hx1] at HAP ⊢
        obtain ⟨x2, hx2⟩ : ∃ x2, x2 = D.syE (D.apS S (hN n) b) (hN n) := ⟨_, rfl⟩
        rw [← hx2] at HSY ⊢
        clear hx1 hx2
        by_cases h1 : x1 = 0
        · rw [if_pos h1, if_pos h1]
          subst h1
          go_enter Tryz.func24, Tryz.ntmps24
          go_wp2_with fail
          refine HR.out.mono ?_
          rintro e w1 ⟨rfl, rfl⟩
          go_wp2_with fail
          refine HBT.out.mono ?_
          rintro e w1 ⟨rfl, hb1⟩
          have HB1 := Lib.hid hb1
          clear hb1
          go_wp2_with fail
          refine (HNM.out _).mono ?_
          rintro e w2 ⟨rfl, hb2⟩
          have HB2 := Lib.hid (HB1.out.trans (hb2.mono HB1.out.size))
          clear hb2
          go_wp2_with fail
          refine (HSZ.out _ HB2.out).mono ?_
          rintro e w3 ⟨rfl, rfl⟩
          have HS3 := Lib.hid (H1.out _ HB2.out)
          go_wp2_with fail
          refine (HNM.out _).mono ?_
          rintro e w4 ⟨rfl, hb4⟩
          have HS4 := Lib.hid (HS3.out.later hb4)
          clear hb4
          obtain ⟨lw, hrf, ht, hg⟩ := HS4.out
          go_wp2_with fail
          refine (HAP.out _ lw hrf HFL.out).mono ?_
          rintro e w5 ⟨rfl, hs5⟩
          have HS5 := Lib.hid (SfStep.on ⟨hrf, ht, hg⟩ hs5)
          clear hs5 hrf ht hg
          go_wp2_with fail
          refine (HNM.out _).mono ?_
          rintro e w6 ⟨rfl, hb6⟩
          have HS6 := Lib.hid (HS5.out.later hb6)
          clear hb6
          obtain ⟨lw2, hrf, ht, hg⟩ := HS6.out
          go_wp2_with fail
          refine (HSY.out _ lw2 hrf (by have := HFL.out; have := HC2.out; omega)).mono ?_
          rintro e w7 ⟨rfl, hs7⟩
          have HS7 := Lib.hid (SfStep.on ⟨hrf, ht, hg⟩ hs7)
          clear hs7 hrf ht hg
          go_wp2_with fail
          go_ret
          exact ⟨rfl, HS7.out⟩
        · rw [if_neg h1, if_neg h1]
          go_enter Tryz.func24, Tryz.ntmps24
          go_wp2_with fail
          refine HR.out.mono ?_
          rintro e w1 ⟨rfl, rfl⟩
          go_wp2_with fail
          refine HBT.out.mono ?_
          rintro e w1 ⟨rfl, hb1⟩
          have HB1 := Lib.hid hb1
          clear hb1
          go_wp2_with fail
          refine (HNM.out _).mono ?_
          rintro e w2 ⟨rfl, hb2⟩
          have HB2 := Lib.hid (HB1.out.trans (hb2.mono HB1.out.size))
          clear hb2
          go_wp2_with fail
          refine (HSZ.out _ HB2.out).mono ?_
          rintro e w3 ⟨rfl, rfl⟩
          have HS3 := Lib.hid (H1.out _ HB2.out)
          go_wp2_with fail
          refine (HNM.out _).mono ?_
          rintro e w4 ⟨rfl, hb4⟩
          have HS4 := Lib.hid (HS3.out.later hb4)
          clear hb4
          obtain ⟨lw, hrf, ht, hg⟩ := HS4.out
          go_wp2_with fail
          refine (HAP.out _ lw hrf HFL.out).mono ?_
          rintro e w5 ⟨rfl, hs5⟩
          have HS5 := Lib.hid (SfStep.on ⟨hrf, ht, hg⟩ hs5)
          clear hs5 hrf ht hg
          go_wp2_with fail
          go_ret
          exact ⟨rfl, HS5.out⟩
      | some f =>
        have hs0 : hrS S n = D.rmS S (hN n) := by unfold hrS; rw [hff]
        have he0 : hrE S n = D.rmE S (hN n) := by unfold hrE; rw [hff]
        rw [szE_some hff] at HSZ
        have HRM := Lib.hid (fun (W : World) (lw : Value) (hW : D.Rf B W qb lw S) => D.refremove_any (n := hN n) hW (by omega))
        have HC1 := (D.rm_room S (hN n)).2
        rw [hs0] at HAP HSY HC2 ⊢
        rw [he0]
        generalize D.szN S (hN n) = z at *
        obtain ⟨S1, hS1⟩ : ∃ S1, S1 = D.rmS S (hN n) := ⟨_, rfl⟩
        rw [← hS1] at HRM HC1 HAP HSY HC2 ⊢
        have HFL := Lib.hid (show S1.fs.length + 2 < 1000000000 by omega)
        obtain ⟨x0, hx0⟩ : ∃ x0, x0 = D.rmE S (hN n) := ⟨_, rfl⟩
        rw [← hx0] at HRM ⊢
        clear hff hs0 he0 hn h hlm hbm hcs HC1 hS1 hx0
        obtain ⟨x1, hx1⟩ : ∃ x1, x1 = D.apE S1 (hN n) b := ⟨_, rfl⟩
        rw [← hx1] at HAP ⊢
        obtain ⟨x2, hx2⟩ : ∃ x2, x2 = D.syE (D.apS S1 (hN n) b) (hN n) := ⟨_, rfl⟩
        rw [← hx2] at HSY ⊢
        clear hx1 hx2
        by_cases h0 : x0 = 0
        · rw [if_pos h0, if_pos h0]
          subst h0
          by_cases h1 : x1 = 0
          · rw [if_pos h1, if_pos h1]
            subst h1
            go_enter Tryz.func24, Tryz.ntmps24
            go_wp2_with fail
            refine HR.out.mono ?_
            rintro e w1 ⟨rfl, rfl⟩
            go_wp2_with fail
            refine HBT.out.mono ?_
            rintro e w1 ⟨rfl, hb1⟩
            have HB1 := Lib.hid hb1
            clear hb1
            go_wp2_with fail
            refine (HNM.out _).mono ?_
            rintro e w2 ⟨rfl, hb2⟩
            have HB2 := Lib.hid (HB1.out.trans (hb2.mono HB1.out.size))
            clear hb2
            go_wp2_with fail
            refine (HSZ.out _ HB2.out).mono ?_
            rintro e w3 ⟨rfl, rfl⟩
            go_wp2_with fail
            refine (HNM.out _).mono ?_
            rintro e w3 ⟨rfl, hb3⟩
            have HB3 := Lib.hid (HB2.out.trans (hb3.mono HB2.out.size))
            clear hb3
            go_wp2_with fail
            refine (HRM.out _ _ (HH.out.below HB3.out)).mono ?_
            rintro e w2 ⟨rfl, hs3⟩
            have HS3 := Lib.hid (SfStep.ahead HH.out HB3.out (show SfStep B qb lv S1 w3 w2 from hs3))
            clear hs3
            go_wp2_with fail
            refine (HNM.out _).mono ?_
            rintro e w4 ⟨rfl, hb4⟩
            have HS4 := Lib.hid (HS3.out.later hb4)
            clear hb4
            obtain ⟨lw, hrf, ht, hg⟩ := HS4.out
            go_wp2_with fail
            refine (HAP.out _ lw hrf HFL.out).mono ?_
            rintro e w5 ⟨rfl, hs5⟩
            have HS5 := Lib.hid (SfStep.on ⟨hrf, ht, hg⟩ hs5)
            clear hs5 hrf ht hg
            go_wp2_with fail
            refine (HNM.out _).mono ?_
            rintro e w6 ⟨rfl, hb6⟩
            have HS6 := Lib.hid (HS5.out.later hb6)
            clear hb6
            obtain ⟨lw2, hrf, ht, hg⟩ := HS6.out
            go_wp2_with fail
            refine (HSY.out _ lw2 hrf (by have := HFL.out; have := HC2.out; omega)).mono ?_
            rintro e w7 ⟨rfl, hs7⟩
            have HS7 := Lib.hid (SfStep.on ⟨hrf, ht, hg⟩ hs7)
            clear hs7 hrf ht hg
            go_wp2_with fail
            go_ret
            exact ⟨rfl, HS7.out⟩
          · rw [if_neg h1, if_neg h1]
            go_enter Tryz.func24, Tryz.ntmps24
            go_wp2_with fail
            refine HR.out.mono ?_
            rintro e w1 ⟨rfl, rfl⟩
            go_wp2_with fail
            refine HBT.out.mono ?_
            rintro e w1 ⟨rfl, hb1⟩
            have HB1 := Lib.hid hb1
            clear hb1
            go_wp2_with fail
            refine (HNM.out _).mono ?_
            rintro e w2 ⟨rfl, hb2⟩
            have HB2 := Lib.hid (HB1.out.trans (hb2.mono HB1.out.size))
            clear hb2
            go_wp2_with fail
            refine (HSZ.out _ HB2.out).mono ?_
            rintro e w3 ⟨rfl, rfl⟩
            go_wp2_with fail
            refine (HNM.out _).mono ?_
            rintro e w3 ⟨rfl, hb3⟩
            have HB3 := Lib.hid (HB2.out.trans (hb3.mono HB2.out.size))
            clear hb3
            go_wp2_with fail
            refine (HRM.out _ _ (HH.out.below HB3.out)).mono ?_
            rintro e w2 ⟨rfl, hs3⟩
            have HS3 := Lib.hid (SfStep.ahead HH.out HB3.out (show SfStep B qb lv S1 w3 w2 from hs3))
            clear hs3
            go_wp2_with fail
            refine (HNM.out _).mono ?_
            rintro e w4 ⟨rfl, hb4⟩
            have HS4 := Lib.hid (HS3.out.later hb4)
            clear hb4
            obtain ⟨lw, hrf, ht, hg⟩ := HS4.out
            go_wp2_with fail
            refine (HAP.out _ lw hrf HFL.out).mono ?_
            rintro e w5 ⟨rfl, hs5⟩
            have HS5 := Lib.hid (SfStep.on ⟨hrf, ht, hg⟩ hs5)
            clear hs5 hrf ht hg
            go_wp2_with fail
            go_ret
            exact ⟨rfl, HS5.out⟩
        · rw [if_neg h0, if_neg h0]
          go_enter Tryz.func24, Tryz.ntmps24
          go_wp2_with fail
          refine HR.out.mono ?_
          rintro e w1 ⟨rfl, rfl⟩
          go_wp2_with fail
          refine HBT.out.mono ?_
          rintro e w1 ⟨rfl, hb1⟩
          have HB1 := Lib.hid hb1
          clear hb1
          go_wp2_with fail
          refine (HNM.out _).mono ?_
          rintro e w2 ⟨rfl, hb2⟩
          have HB2 := Lib.hid (HB1.out.trans (hb2.mono HB1.out.size))
          clear hb2
          go_wp2_with fail
          refine (HSZ.out _ HB2.out).mono ?_
          rintro e w3 ⟨rfl, rfl⟩
          go_wp2_with fail
          refine (HNM.out _).mono ?_
          rintro e w3 ⟨rfl, hb3⟩
          have HB3 := Lib.hid (HB2.out.trans (hb3.mono HB2.out.size))
          clear hb3
          go_wp2_with fail
          refine (HRM.out _ _ (HH.out.below HB3.out)).mono ?_
          rintro e w2 ⟨rfl, hs3⟩
          have HS3 := Lib.hid (SfStep.ahead HH.out HB3.out (show SfStep B qb lv S1 w3 w2 from hs3))
          clear hs3
          go_wp2_with fail
          go_ret
          exact ⟨rfl, HS3.out⟩
    · rw [if_neg (by omega), if_neg (by omega)]
      have HH := Lib.hid h
      clear hn h hlm hbm hcs
      go_enter Tryz.func24, Tryz.ntmps24
      go_wp2_with fail
      refine HR.out.mono ?_
      rintro e w1 ⟨rfl, rfl⟩
      go_wp2_with fail
      refine HBT.out.mono ?_
      rintro e w1 ⟨rfl, hb1⟩
      go_wp2_with fail
      go_ret
      exact ⟨rfl, SfStep.same HH.out hb1⟩
  · have hE : hiE S n l = 1 ∧ hiS S n l = S := ⟨by unfold hiE; rw [if_neg hn], by unfold hiS; rw [if_neg hn]⟩
    rw [hE.1, hE.2]
    have HR := Lib.hid (right_no hn w)
    clear hE hn he hf hcs
    go_enter Tryz.func24, Tryz.ntmps24
    go_wp2_with fail
    refine HR.out.mono ?_
    rintro e w1 ⟨rfl, rfl⟩
    go_wp2_with fail
    go_ret
    exact ⟨rfl, SfStep.same h (Below.refl _ _)⟩

/-! ### Seal -/
theorem ldL_count {S : D.St} (h : D.Good S) (n : Int) : (ldL S n).length ≤ 1048576 := by
  unfold ldL
  split
  · exact Nat.le_trans (hof_count _) (fileB_len h _)
  · simp
theorem ldL_fit {S : D.St} (h : D.Good S) (n : Int) : EFits (ldL S n) := by
  unfold ldL
  split
  · exact hof_fit _ (Nat.le_trans (fileB_len h _) (by omega))
  · intro e he; cases he
theorem ld_room (S : D.St) (n : Int) : (ldS S n).fs.length ≤ S.fs.length + 1 := by
  unfold ldS
  split
  · split
    · omega
    · split
      · exact (D.ct_room S _ _).2
      · omega
  · omega

set_option maxHeartbeats 1000000 in
theorem refSeal_any {B qb : Nat} {lv : Value} {S : D.St} {w : World} (h : D.Rf B w qb lv S) (n : Int) (hcs : S.fs.length + 4 < 1000000000) :
    Calls Tryz.prog 20 #[.pointer (some ⟨qb, 0, none⟩), .int .i64 n] w (SfPost B qb lv (seS S n) (IntR (seE S n)) w) := by
  have HLD := Lib.hid (refLoad_any h n (by omega))
  have hlc := ldL_count h.good n
  have HFT := Lib.hid (ldL_fit h.good n)
  have hrm := ld_room S n
  have hE : seE S n = if ldE S n = 0 then hiE (ldS S n) n (ldL S n) else ldE S n := rfl
  have hS : seS S n = if ldE S n = 0 then hiS (ldS S n) n (ldL S n) else ldS S n := rfl
  rw [hE, hS]
  clear hE hS h
  generalize ldE S n = x at *
  generalize ldS S n = S1 at *
  generalize ldL S n = l at *
  by_cases hx : x = 0
  · rw [if_pos hx, if_pos hx]
    subst hx
    go_enter Tryz.func20, Tryz.ntmps20
    go_wp2_with fail
    refine HLD.out.mono ?_
    rintro e w1 ⟨⟨a, cap, rfl, hen, hnw⟩, lw, hrf, ht, hg⟩
    have HHI := Lib.hid (refHint_any hrf n l a cap (by omega) hen HFT.out (by omega))
    have HS1 := Lib.hid (And.intro hrf (And.intro ht hg))
    clear hrf ht hg hen hnw hrm hlc
    obtain ⟨L, hL⟩ : ∃ L, L = l.length := ⟨_, rfl⟩
    rw [← hL] at HHI ⊢
    clear hL
    go_wp2_with fail
    refine HHI.out.mono ?_
    rintro e w2 ⟨rfl, hs⟩
    have HS2 := Lib.hid hs
    clear hs
    go_wp2_with fail
    go_ret
    exact ⟨rfl, SfStep.on HS1.out HS2.out⟩
  · rw [if_neg hx, if_neg hx]
    clear hrm hlc
    go_enter Tryz.func20, Tryz.ntmps20
    go_wp2_with fail
    refine HLD.out.mono ?_
    rintro e w1 ⟨⟨a, cap, rfl, hen, hnw⟩, hs⟩
    have HS2 := Lib.hid hs
    clear hs hen hnw
    go_wp2_with fail
    go_ret
    exact ⟨rfl, HS2.out⟩
end Go.Proofs.YtmekkbhblghbmaaGreatDoor
