/- The program's segments, on the program's disk: Index, Hint, Seal. -/
import Derived.Test.YtmekkbhblghbmaaGreatDoorScode
import Derived.Test.YtmekkbhblghbmaaGreatDoorSref4
namespace Go.Proofs.YtmekkbhblghbmaaGreatDoor
open Go.RowKit
set_option linter.unusedVariables false

/-- A call behind a call: what it tells is new behind the first one, too. -/
theorem dsp_on {B pb : Nat} {F F1 : Nat → Prop} {S1 S2 : D.St} {l : List Et} {x : Int} {w w1 w2 : World} {e : Ending} (h : D.DkS B w1 pb F1 S1 ∧ (∀ k, F1 k → F k ∨ w.heap.size ≤ k) ∧ Turn F w w1) (k : DsPost B pb F1 S2 (EntD w1 l x) w1 e w2) : DsPost B pb F S2 (EntD w l x) w e w2 := by
  obtain ⟨h1, g1, t1⟩ := h
  obtain ⟨F2, ⟨a, cap, he, hen, hnw, hap⟩, h2, g2, t2⟩ := k
  refine ⟨F2, ⟨a, cap, he, hen, hnw.mono t1.size, hap⟩, h2, fun i hi => ?_, t1.then t2 g1⟩
  rcases g2 i hi with hi | hi
  · exact g1 i hi
  · exact Or.inr (Nat.le_trans t1.size hi)
theorem dss_of {B pb : Nat} {F : Nat → Prop} {S' : D.St} {x : Int} {w : World} {e : Ending} {w' : World} (h : e = .returned (.int .i64 x)) (k : DsStep B pb F S' w w') : DsPost B pb F S' (fun _ => IntR x) w e w' := by
  obtain ⟨F', h1, h2, h3⟩ := k
  exact ⟨F', h, h1, h2, h3⟩

/-! ### Index -/
set_option maxHeartbeats 1000000 in
theorem index_any (C : NmC) {B pb : Nat} {S : D.St} {w : World} {F : Nat → Prop} (h : D.DkS B w pb F S) (hT : Tb B w) (n : Int) (hn1 : -9223372036854775808 ≤ n) (hn2 : n ≤ 9223372036854775807) (hcs : S.fs.length < 1000000000) :
    Calls Tryz.prog 21 #[.pointer (some ⟨pb, 0, none⟩), .int .i64 n] w (DsPost B pb F (ixS S n) (EntD w (ixL S n) (ixE S n)) w) := by
  have HTD := Lib.hid (told_any C h hT n hn1 hn2 hcs)
  have HLD := Lib.hid (fun (W : World) (F1 : Nat → Prop) (hd : D.DkS B W pb F1 S) (hb : Tb B W) => load_any C hd hb n hn1 hn2 hcs)
  have HT := Lib.hid hT
  have HF := Lib.hid (fun k (hk : F k) => (h.lt hk).1)
  have hpart : (tdE S n = 0 ∧ ixE S n = 0 ∧ ixS S n = S ∧ ixL S n = tdL S n) ∨ (tdE S n ≠ 0 ∧ ixE S n = ldE S n ∧ ixS S n = ldS S n ∧ ixL S n = ldL S n) := by
    by_cases hn : segOk n
    · unfold ixE ixS ixL
      rw [if_pos hn, if_pos hn, if_pos hn]
      by_cases h0 : tdE S n = 0
      · rw [if_pos h0, if_pos h0, if_pos h0]; exact Or.inl ⟨h0, rfl, rfl, rfl⟩
      · rw [if_neg h0, if_neg h0, if_neg h0]; exact Or.inr ⟨h0, rfl, rfl, rfl⟩
    · obtain ⟨e1, e2⟩ := td_arg (S := S) hn
      obtain ⟨f1, f2, f3⟩ := ld_arg (S := S) hn
      refine Or.inr ⟨by rw [e1]; omega, ?_, ?_, ?_⟩
      · unfold ixE; rw [if_neg hn, f1]
      · unfold ixS; rw [if_neg hn, f2]
      · unfold ixL; rw [if_neg hn, f3]
  clear h hT
  rcases hpart with ⟨t0, e1, e2, e3⟩ | ⟨t0, e1, e2, e3⟩
  · rw [e1, e2, e3]
    rw [t0] at HTD
    clear e1 e2 e3 t0 HLD
    generalize tdL S n = l at *
    obtain ⟨L, hL⟩ : ∃ L, L = l.length := ⟨_, rfl⟩
    have HL := Lib.hid hL
    go_enter Tryz.func21, Tryz.ntmps21
    go_wp2_with fail
    refine HTD.out.mono ?_
    rintro e w1 ⟨F1, ⟨a, cap, rfl, hen, hnw, hap⟩, hd, hF, t⟩
    have HP := Lib.hid (And.intro hen (And.intro hnw (And.intro hap (And.intro hd (And.intro hF t)))))
    clear hen hnw hap hd hF t
    rw [← hL]
    clear hL
    go_wp2_with fail
    go_ret2
    obtain ⟨hen, hnw, hap, hd, hF, t⟩ := HP.out
    exact ⟨F1, ⟨a, cap, by rw [HL.out]; rfl, hen, hnw, hap⟩, hd, hF, t⟩
  · rw [e1, e2, e3]
    clear e1 e2 e3
    generalize tdL S n = l at *
    generalize tdE S n = x at *
    have x1 : (x == 0) = false := by simpa using t0
    obtain ⟨L, hL⟩ : ∃ L, L = l.length := ⟨_, rfl⟩
    go_enter Tryz.func21, Tryz.ntmps21
    go_wp2_with fail
    refine HTD.out.mono ?_
    rintro e w1 ⟨F1, ⟨a, cap, rfl, hen, hnw, hap⟩, hd, hF, t⟩
    have HP := Lib.hid (And.intro hd (And.intro hF t))
    have HL1 := Lib.hid (HLD.out _ F1 hd (HT.out.turn t HF.out))
    clear hen hnw hap hd hF t
    rw [← hL]
    clear hL
    go_wp2_with fail
    refine HL1.out.mono ?_
    rintro e w2 hk
    have HK := Lib.hid hk
    obtain ⟨F2, ⟨a2, cap2, rfl, _⟩, _⟩ := hk
    generalize hM : (ldL S n).length = M at *
    have HM := Lib.hid hM; clear hM
    go_wp2_with fail
    go_ret2
    have := dsp_on HP.out HK.out
    try rw [HM.out] at this
    exact this

/-! ### Hint -/
set_option maxHeartbeats 4000000 in
theorem hint_any (C : NmC) {B pb : Nat} {S : D.St} {w : World} {F : Nat → Prop} (h : D.DkS B w pb F S) (hT : Tb B w) (n : Int) (l : List Et) (a : Option Addr) (cap : Nat) (hn1 : -9223372036854775808 ≤ n) (hn2 : n ≤ 9223372036854775807) (hl : l.length ≤ 2000000) (he : EntsIn w a l) (hf : EFits l) (hcs : S.fs.length + 3 < 1000000000) :
    Calls Tryz.prog 23 #[.pointer (some ⟨pb, 0, none⟩), .int .i64 n, .slice a l.length cap] w (DsPost B pb F (hiS S n l) (fun _ => IntR (hiE S n l)) w) := by
  by_cases hn : segOk n
  · have HNM := Lib.hid (fun (W : World) (hW : Below w.heap.size w W) => C.hints n W (hT.new hW) hn1 hn2)
    rw [show nameOf 104 n = hN n from rfl] at HNM
    have HR := Lib.hid (sgv_yes hn w)
    have HBT := Lib.hid (hbytes_any l a cap w (by omega) he hf)
    have hsm := hbs_small l
    have hE : hiE S n l = if (hbs l).2 = 0 then (if hrE S n = 0 then (if D.apE (hrS S n) (hN n) (hbs l).1 = 0 then D.syE (D.apS (hrS S n) (hN n) (hbs l).1) (hN n) else D.apE (hrS S n) (hN n) (hbs l).1) else hrE S n) else ((hbs l).2 : Int) := by unfold hiE; rw [if_pos hn]
    have hS : hiS S n l = if (hbs l).2 = 0 then (if hrE S n = 0 then (if D.apE (hrS S n) (hN n) (hbs l).1 = 0 then D.syS (D.apS (hrS S n) (hN n) (hbs l).1) (hN n) else D.apS (hrS S n) (hN n) (hbs l).1) else hrS S n) else S := by unfold hiS; rw [if_pos hn]
    rw [hE, hS]
    have herr := hbs_err l
    obtain ⟨x, hx⟩ : ∃ x, hbs l = x := ⟨_, rfl⟩
    unfold hbV at HBT
    rw [hx] at HBT hsm herr ⊢
    obtain ⟨b, e⟩ := x
    dsimp only at HBT hsm herr ⊢
    have hlm : (hN n).length ≤ maxLen := by have := hN_len n; unfold maxLen; omega
    have hbm : b.length ≤ maxLen := by unfold maxLen; omega
    clear hE hS hx hl he hf hsm
    obtain ⟨L, hL⟩ : ∃ L, L = l.length := ⟨_, rfl⟩
    rw [← hL] at HBT ⊢
    clear hL
    have HH := Lib.hid h
    rcases herr with rfl | rfl
    · rw [if_pos rfl, if_pos rfl]
      -- what the removal of the elder hints comes to
      have hrp : hrS S n = D.rmS S (hN n) ∧ ((D.rmE S (hN n) = 5 ∧ hrE S n = 0) ∨ (D.rmE S (hN n) = 0 ∧ hrE S n = 0) ∨ (D.rmE S (hN n) = 8 ∧ hrE S n = 8)) := by
        unfold hrS hrE D.rmS D.rmE
        cases D.find S.fs (hN n) with
        | none => exact ⟨rfl, Or.inl ⟨rfl, rfl⟩⟩
        | some f =>
          refine ⟨rfl, ?_⟩
          dsimp only
          split
          · exact Or.inr (Or.inl ⟨rfl, rfl⟩)
          · exact Or.inr (Or.inr ⟨rfl, rfl⟩)
      obtain ⟨hs0, hr0⟩ := hrp
      have HRM := Lib.hid (fun (W : World) (hW : Below w.heap.size w W) => D.remove_any (n := hN n) (dkB h hW) hlm (by omega))
      have HC1 := (D.rm_room S (hN n)).2
      rw [← hs0] at HRM HC1
      clear hs0
      have HAP := Lib.hid (fun (W : World) (F1 : Nat → Prop) (hW : D.DkS B W pb F1 (hrS S n)) (hc2 : (hrS S n).fs.length + 2 < 1000000000) => D.append_any (n := hN n) (b := b) hW hlm hbm (by omega))
      have HSY := Lib.hid (fun (W : World) (F1 : Nat → Prop) (hW : D.DkS B W pb F1 (D.apS (hrS S n) (hN n) b)) (hc2 : (D.apS (hrS S n) (hN n) b).fs.length < 1000000000) => D.sync_any (n := hN n) hW hlm hc2)
      have HC2 := Lib.hid (D.ap_room (hrS S n) (hN n) b).2
      generalize hrS S n = S1 at *
      generalize hrE S n = x0 at *
      generalize D.rmE S (hN n) = y0 at *
      have HFL := Lib.hid (show S1.fs.length + 2 < 1000000000 by omega)
      clear hn h hlm hbm hcs HC1 hT
      obtain ⟨x1, hx1⟩ : ∃ x1, x1 = D.apE S1 (hN n) b := ⟨_, rfl⟩
      rw [← hx1] at HAP ⊢
      obtain ⟨x2, hx2⟩ : ∃ x2, x2 = D.syE (D.apS S1 (hN n) b) (hN n) := ⟨_, rfl⟩
      rw [← hx2] at HSY ⊢
      clear hx1 hx2
      generalize bs b = X at *
      generalize hNm : bs (hN n) = Nm at *
      clear hNm
      rcases hr0 with ⟨rfl, rfl⟩ | ⟨rfl, rfl⟩ | ⟨rfl, rfl⟩
      · rw [if_pos rfl, if_pos rfl]
        by_cases h1 : x1 = 0
        · rw [if_pos h1, if_pos h1]
          subst h1
          go_enter Tryz.func23, Tryz.ntmps23
          go_wp2_with fail
          refine HR.out.mono ?_
          rintro e w1 ⟨rfl, rfl⟩
          go_wp2_with fail
          refine HBT.out.mono ?_
          rintro e w1 ⟨rfl, hb1⟩
          have HB1 := Lib.hid hb1
          clear hb1
          go_wp2_with fail
          refine (HNM.out _ HB1.out).mono ?_
          rintro e w2 ⟨rfl, hb2⟩
          have HB2 := Lib.hid (HB1.out.trans (hb2.mono HB1.out.size))
          clear hb2
          go_wp2_with fail
          refine (HRM.out _ HB2.out).mono ?_
          rintro e w3 ⟨rfl, hs3⟩
          have HS3 := Lib.hid (DsStep.ahead HH.out HB2.out (show DsStep B pb F S1 w2 w3 from hs3))
          clear hs3
          obtain ⟨F1, hd, hF, t⟩ := HS3.out
          go_wp2_with fail
          refine (HAP.out _ F1 hd HFL.out).mono ?_
          rintro e w4 ⟨rfl, hs4⟩
          have HS4 := Lib.hid (DsStep.on ⟨hd, hF, t⟩ hs4)
          clear hs4 hd hF t
          obtain ⟨F2, hd, hF, t⟩ := HS4.out
          go_wp2_with fail
          refine (HSY.out _ F2 hd (by have := HFL.out; have := HC2.out; omega)).mono ?_
          rintro e w5 ⟨rfl, hs5⟩
          have HS5 := Lib.hid (DsStep.on ⟨hd, hF, t⟩ hs5)
          clear hs5 hd hF t
          go_wp2_with fail
          go_ret
          exact dss_of rfl HS5.out
        · rw [if_neg h1, if_neg h1]
          go_enter Tryz.func23, Tryz.ntmps23
          go_wp2_with fail
          refine HR.out.mono ?_
          rintro e w1 ⟨rfl, rfl⟩
          go_wp2_with fail
          refine HBT.out.mono ?_
          rintro e w1 ⟨rfl, hb1⟩
          have HB1 := Lib.hid hb1
          clear hb1
          go_wp2_with fail
          refine (HNM.out _ HB1.out).mono ?_
          rintro e w2 ⟨rfl, hb2⟩
          have HB2 := Lib.hid (HB1.out.trans (hb2.mono HB1.out.size))
          clear hb2
          go_wp2_with fail
          refine (HRM.out _ HB2.out).mono ?_
          rintro e w3 ⟨rfl, hs3⟩
          have HS3 := Lib.hid (DsStep.ahead HH.out HB2.out (show DsStep B pb F S1 w2 w3 from hs3))
          clear hs3
          obtain ⟨F1, hd, hF, t⟩ := HS3.out
          go_wp2_with fail
          refine (HAP.out _ F1 hd HFL.out).mono ?_
          rintro e w4 ⟨rfl, hs4⟩
          have HS4 := Lib.hid (DsStep.on ⟨hd, hF, t⟩ hs4)
          clear hs4 hd hF t
          go_wp2_with fail
          go_ret
          exact dss_of rfl HS4.out
      · rw [if_pos rfl, if_pos rfl]
        by_cases h1 : x1 = 0
        · rw [if_pos h1, if_pos h1]
          subst h1
          go_enter Tryz.func23, Tryz.ntmps23
          go_wp2_with fail
          refine HR.out.mono ?_
          rintro e w1 ⟨rfl, rfl⟩
          go_wp2_with fail
          refine HBT.out.mono ?_
          rintro e w1 ⟨rfl, hb1⟩
          have HB1 := Lib.hid hb1
          clear hb1
          go_wp2_with fail
          refine (HNM.out _ HB1.out).mono ?_
          rintro e w2 ⟨rfl, hb2⟩
          have HB2 := Lib.hid (HB1.out.trans (hb2.mono HB1.out.size))
          clear hb2
          go_wp2_with fail
          refine (HRM.out _ HB2.out).mono ?_
          rintro e w3 ⟨rfl, hs3⟩
          have HS3 := Lib.hid (DsStep.ahead HH.out HB2.out (show DsStep B pb F S1 w2 w3 from hs3))
          clear hs3
          obtain ⟨F1, hd, hF, t⟩ := HS3.out
          go_wp2_with fail
          refine (HAP.out _ F1 hd HFL.out).mono ?_
          rintro e w4 ⟨rfl, hs4⟩
          have HS4 := Lib.hid (DsStep.on ⟨hd, hF, t⟩ hs4)
          clear hs4 hd hF t
          obtain ⟨F2, hd, hF, t⟩ := HS4.out
          go_wp2_with fail
          refine (HSY.out _ F2 hd (by have := HFL.out; have := HC2.out; omega)).mono ?_
          rintro e w5 ⟨rfl, hs5⟩
          have HS5 := Lib.hid (DsStep.on ⟨hd, hF, t⟩ hs5)
          clear hs5 hd hF t
          go_wp2_with fail
          go_ret
          exact dss_of rfl HS5.out
        · rw [if_neg h1, if_neg h1]
          go_enter Tryz.func23, Tryz.ntmps23
          go_wp2_with fail
          refine HR.out.mono ?_
          rintro e w1 ⟨rfl, rfl⟩
          go_wp2_with fail
          refine HBT.out.mono ?_
          rintro e w1 ⟨rfl, hb1⟩
          have HB1 := Lib.hid hb1
          clear hb1
          go_wp2_with fail
          refine (HNM.out _ HB1.out).mono ?_
          rintro e w2 ⟨rfl, hb2⟩
          have HB2 := Lib.hid (HB1.out.trans (hb2.mono HB1.out.size))
          clear hb2
          go_wp2_with fail
          refine (HRM.out _ HB2.out).mono ?_
          rintro e w3 ⟨rfl, hs3⟩
          have HS3 := Lib.hid (DsStep.ahead HH.out HB2.out (show DsStep B pb F S1 w2 w3 from hs3))
          clear hs3
          obtain ⟨F1, hd, hF, t⟩ := HS3.out
          go_wp2_with fail
          refine (HAP.out _ F1 hd HFL.out).mono ?_
          rintro e w4 ⟨rfl, hs4⟩
          have HS4 := Lib.hid (DsStep.on ⟨hd, hF, t⟩ hs4)
          clear hs4 hd hF t
          go_wp2_with fail
          go_ret
          exact dss_of rfl HS4.out
      · rw [if_neg (by omega), if_neg (by omega)]
        go_enter Tryz.func23, Tryz.ntmps23
        go_wp2_with fail
        refine HR.out.mono ?_
        rintro e w1 ⟨rfl, rfl⟩
        go_wp2_with fail
        refine HBT.out.mono ?_
        rintro e w1 ⟨rfl, hb1⟩
        have HB1 := Lib.hid hb1
        clear hb1
        go_wp2_with fail
        refine (HNM.out _ HB1.out).mono ?_
        rintro e w2 ⟨rfl, hb2⟩
        have HB2 := Lib.hid (HB1.out.trans (hb2.mono HB1.out.size))
        clear hb2
        go_wp2_with fail
        refine (HRM.out _ HB2.out).mono ?_
        rintro e w3 ⟨rfl, hs3⟩
        have HS3 := Lib.hid (DsStep.ahead HH.out HB2.out (show DsStep B pb F S1 w2 w3 from hs3))
        clear hs3
        go_wp2_with fail
        go_ret
        exact dss_of rfl HS3.out
    · rw [if_neg (by omega), if_neg (by omega)]
      go_enter Tryz.func23, Tryz.ntmps23
      go_wp2_with fail
      refine HR.out.mono ?_
      rintro e w1 ⟨rfl, rfl⟩
      go_wp2_with fail
      refine HBT.out.mono ?_
      rintro e w1 ⟨rfl, hb1⟩
      have HB1 := Lib.hid hb1
      clear hb1
      go_wp2_with fail
      go_ret
      exact dss_of rfl (DsStep.same HH.out HB1.out)
  · have hE : hiE S n l = 1 := by unfold hiE; rw [if_neg hn]
    have hS : hiS S n l = S := by unfold hiS; rw [if_neg hn]
    rw [hE, hS]
    have HR := Lib.hid (sgv_no hn w)
    have HH := Lib.hid h
    obtain ⟨L, hL⟩ : ∃ L, L = l.length := ⟨_, rfl⟩
    rw [← hL]
    clear hE hS hn hl he hf hL h hT
    go_enter Tryz.func23, Tryz.ntmps23
    go_wp2_with fail
    refine HR.out.mono ?_
    rintro e w1 ⟨rfl, rfl⟩
    go_wp2_with fail
    go_ret
    exact dss_of rfl (DsStep.same HH.out (Below.refl _ _))

/-! ### Seal -/
set_option maxHeartbeats 1000000 in
theorem sseal_any (C : NmC) {B pb : Nat} {S : D.St} {w : World} {F : Nat → Prop} (h : D.DkS B w pb F S) (hT : Tb B w) (n : Int) (hn1 : -9223372036854775808 ≤ n) (hn2 : n ≤ 9223372036854775807) (hcs : S.fs.length + 4 < 1000000000) :
    Calls Tryz.prog 19 #[.pointer (some ⟨pb, 0, none⟩), .int .i64 n] w (DsPost B pb F (seS S n) (fun _ => IntR (seE S n)) w) := by
  have HLD := Lib.hid (load_any C h hT n hn1 hn2 (by omega))
  have HT := Lib.hid hT
  have HF := Lib.hid (fun k (hk : F k) => (h.lt hk).1)
  have hlc := ldL_count h.good n
  have HFT := Lib.hid (ldL_fit h.good n)
  have hrm := ld_room S n
  have hE : seE S n = if ldE S n = 0 then hiE (ldS S n) n (ldL S n) else ldE S n := rfl
  have hS : seS S n = if ldE S n = 0 then hiS (ldS S n) n (ldL S n) else ldS S n := rfl
  rw [hE, hS]
  clear hE hS h hT
  generalize ldE S n = x at *
  generalize ldS S n = S1 at *
  generalize ldL S n = l at *
  by_cases hx : x = 0
  · rw [if_pos hx, if_pos hx]
    subst hx
    go_enter Tryz.func19, Tryz.ntmps19
    go_wp2_with fail
    refine HLD.out.mono ?_
    rintro e w1 ⟨F1, ⟨a, cap, rfl, hen, hnw, hap⟩, hd, hF, t⟩
    have HHI := Lib.hid (hint_any C hd (HT.out.turn t HF.out) n l a cap hn1 hn2 (by omega) hen HFT.out (by omega))
    have HS1 := Lib.hid (And.intro hd (And.intro hF t))
    clear hd hF t hen hnw hap hrm hlc
    obtain ⟨L, hL⟩ : ∃ L, L = l.length := ⟨_, rfl⟩
    rw [← hL] at HHI ⊢
    clear hL
    go_wp2_with fail
    refine HHI.out.mono ?_
    rintro e w2 ⟨F2, rfl, hs⟩
    have HS2 := Lib.hid hs
    clear hs
    go_wp2_with fail
    go_ret
    exact dss_of rfl (DsStep.on HS1.out ⟨F2, HS2.out⟩)
  · rw [if_neg hx, if_neg hx]
    have x1 : (x == 0) = false := by simpa using hx
    clear hrm hlc
    obtain ⟨L, hL⟩ : ∃ L, L = l.length := ⟨_, rfl⟩
    go_enter Tryz.func19, Tryz.ntmps19
    go_wp2_with fail
    refine HLD.out.mono ?_
    rintro e w1 ⟨F1, ⟨a, cap, rfl, hen, hnw, hap⟩, hs⟩
    have HS2 := Lib.hid hs
    clear hs hen hnw hap
    rw [← hL]
    clear hL
    go_wp2_with fail
    go_ret
    exact dss_of rfl ⟨F1, HS2.out⟩
end Go.Proofs.YtmekkbhblghbmaaGreatDoor
