/- The document's segments, on the document's disk: Index, Hint, Seal. -/
import Derived.Test.YtmekkbhblghbmaaGreatDoorSref2
import Derived.Test.YtmekkbhblghbmaaGreatDoorHb
namespace Go.Proofs.YtmekkbhblghbmaaGreatDoor
open Go.RowKit
set_option linter.unusedVariables false

theorem tdE_zero {S : D.St} {n : Int} (h : segOk n) (ht : tdE S n = 0) : ∃ f, D.find S.fs (hN n) = some f ∧ (hrd f.bt).2 = 0 ∧ tdL S n = (hrd f.bt).1 := by
  cases hf : D.find S.fs (hN n) with
  | none => rw [(td_none h hf).1] at ht; omega
  | some f =>
    obtain ⟨e1, e2⟩ := td_some h hf
    rw [e1] at ht
    exact ⟨f, rfl, by omega, e2⟩

set_option maxHeartbeats 2000000 in
theorem refIndex_any {B qb : Nat} {lv : Value} {S : D.St} {w : World} (h : D.Rf B w qb lv S) (n : Int) (hcs : S.fs.length < 1000000000) :
    Calls Tryz.prog 22 #[.pointer (some ⟨qb, 0, none⟩), .int .i64 n] w (SfPost B qb lv (ixS S n) (EntR w (ixL S n) (ixE S n)) w) := by
  by_cases hn : segOk n
  · have HNM := Lib.hid (refHints_any n)
    have HR := Lib.hid (right_yes hn w)
    have HSZ := Lib.hid (fun (W : World) (hW : Below w.heap.size w W) => D.refsize_any (n := hN n) (h.below hW) hcs)
    have HBY := Lib.hid (fun (W : World) (hW : Below w.heap.size w W) => refbytes8_any (n := hN n) (h.below hW) hcs)
    have hfl := fileB_len h.good (hN n)
    have HRD := Lib.hid (fun (W : World) => refhreadN_any (fileB S (hN n)) W (by omega))
    have HLD := Lib.hid (fun (W : World) (hW : Below w.heap.size w W) => refLoad_any (h.below hW) n hcs)
    have hE : ixE S n = if tdE S n = 0 then 0 else ldE S n := by unfold ixE; rw [if_pos hn]
    have hS : ixS S n = if tdE S n = 0 then S else ldS S n := by unfold ixS; rw [if_pos hn]
    have hL : ixL S n = if tdE S n = 0 then tdL S n else ldL S n := by unfold ixL; rw [if_pos hn]
    have hpart : (tdE S n = 0 ∧ D.szE S (hN n) = 0 ∧ (hrd (fileB S (hN n))).2 = 0 ∧ tdL S n = (hrd (fileB S (hN n))).1) ∨ (tdE S n ≠ 0 ∧ ¬ (D.szE S (hN n) = 0 ∧ (hrd (fileB S (hN n))).2 = 0)) := by
      cases hf : D.find S.fs (hN n) with
      | none =>
        refine Or.inr ⟨by rw [(td_none hn hf).1]; omega, fun hh => ?_⟩
        rw [szE_none hf] at hh; omega
      | some f =>
        obtain ⟨e1, e2⟩ := td_some hn hf
        rw [szE_some hf, fileB_some hf]
        by_cases h0 : (hrd f.bt).2 = 0
        · exact Or.inl ⟨by rw [e1]; omega, rfl, h0, e2⟩
        · exact Or.inr ⟨by rw [e1]; omega, fun hh => h0 hh.2⟩
    obtain ⟨z, hz⟩ : ∃ z, z = D.szN S (hN n) := ⟨_, rfl⟩
    obtain ⟨ez, hez⟩ : ∃ ez, ez = D.szE S (hN n) := ⟨_, rfl⟩
    rw [← hz, ← hez] at HSZ
    rw [← hez] at hpart
    obtain ⟨x, hx⟩ : ∃ x, hrd (fileB S (hN n)) = x := ⟨_, rfl⟩
    rw [hx] at HRD hpart
    have HH := Lib.hid h
    clear hz hez hx hfl h
    rw [hE, hS, hL]
    clear hE hS hL
    rcases hpart with ⟨t0, z0, r0, l0⟩ | ⟨t0, hno⟩
    · rw [if_pos t0, if_pos t0, if_pos t0, l0]
      obtain ⟨xl, xe⟩ := x
      dsimp only at r0 l0 HRD ⊢
      subst z0 r0
      clear t0 l0
      go_enter Tryz.func22, Tryz.ntmps22
      go_wp2_with fail
      refine HR.out.mono ?_
      rintro e w1 ⟨rfl, rfl⟩
      go_wp2_with fail
      refine (HNM.out _).mono ?_
      rintro e w1 ⟨rfl, hb1⟩
      have HB1 := Lib.hid hb1
      clear hb1
      go_wp2_with fail
      refine (HSZ.out _ HB1.out).mono ?_
      rintro e w2 ⟨rfl, rfl⟩
      go_wp2_with fail
      refine (HNM.out _).mono ?_
      rintro e w2 ⟨rfl, hb2⟩
      have HB2 := Lib.hid (HB1.out.trans (hb2.mono HB1.out.size))
      clear hb2
      go_wp2_with fail
      refine (HBY.out _ HB2.out).mono ?_
      rintro e w3 ⟨rfl, rfl⟩
      go_wp2_with fail
      refine (HRD.out _).mono ?_
      rintro e w3 ⟨a, cap, rfl, hen, hnw, hb3⟩
      have HE := Lib.hid hen; have HN := Lib.hid hnw; have HB3 := Lib.hid hb3
      clear hen hnw hb3
      go_wp2_with fail
      go_ret2
      exact ⟨⟨a, cap, rfl, HE.out, HN.out.mono HB2.out.size⟩, SfStep.same HH.out (HB2.out.trans (HB3.out.mono HB2.out.size))⟩
    · rw [if_neg t0, if_neg t0, if_neg t0]
      obtain ⟨xl, xe⟩ := x
      dsimp only at hno HRD
      clear t0
      by_cases z0 : ez = 0
      · have x0 : ¬ ((xe : Int) = 0) := fun hh => hno ⟨z0, by omega⟩
        have x1 : ((xe : Int) == 0) = false := by simpa using x0
        subst z0
        clear hno
        go_enter Tryz.func22, Tryz.ntmps22
        go_wp2_with fail
        refine HR.out.mono ?_
        rintro e w1 ⟨rfl, rfl⟩
        go_wp2_with fail
        refine (HNM.out _).mono ?_
        rintro e w1 ⟨rfl, hb1⟩
        have HB1 := Lib.hid hb1
        clear hb1
        go_wp2_with fail
        refine (HSZ.out _ HB1.out).mono ?_
        rintro e w2 ⟨rfl, rfl⟩
        go_wp2_with fail
        refine (HNM.out _).mono ?_
        rintro e w2 ⟨rfl, hb2⟩
        have HB2 := Lib.hid (HB1.out.trans (hb2.mono HB1.out.size))
        clear hb2
        go_wp2_with fail
        refine (HBY.out _ HB2.out).mono ?_
        rintro e w3 ⟨rfl, rfl⟩
        go_wp2_with fail
        refine (HRD.out _).mono ?_
        rintro e w3 ⟨a, cap, rfl, _, _, hb3⟩
        have HB3 := Lib.hid (HB2.out.trans (hb3.mono HB2.out.size))
        clear hb3
        go_wp2_with fail
        refine (HLD.out _ HB3.out).mono ?_
        rintro e w4 ⟨⟨a4, cap4, rfl, hen, hnw⟩, hs⟩
        have HE := Lib.hid hen; have HN := Lib.hid hnw; have HS := Lib.hid hs
        clear hen hnw hs
        go_wp2_with fail
        go_ret2
        exact ⟨⟨a4, cap4, rfl, HE.out, HN.out.mono HB3.out.size⟩, SfStep.ahead HH.out HB3.out HS.out⟩
      · have z1 : (ez == 0) = false := by simpa using z0
        clear hno
        go_enter Tryz.func22, Tryz.ntmps22
        go_wp2_with fail
        refine HR.out.mono ?_
        rintro e w1 ⟨rfl, rfl⟩
        go_wp2_with fail
        refine (HNM.out _).mono ?_
        rintro e w1 ⟨rfl, hb1⟩
        have HB1 := Lib.hid hb1
        clear hb1
        go_wp2_with fail
        refine (HSZ.out _ HB1.out).mono ?_
        rintro e w2 ⟨rfl, rfl⟩
        go_wp2_with fail
        refine (HNM.out _).mono ?_
        rintro e w2 ⟨rfl, hb2⟩
        have HB2 := Lib.hid (HB1.out.trans (hb2.mono HB1.out.size))
        clear hb2
        go_wp2_with fail
        refine (HBY.out _ HB2.out).mono ?_
        rintro e w3 ⟨rfl, rfl⟩
        go_wp2_with fail
        refine (HRD.out _).mono ?_
        rintro e w3 ⟨a, cap, rfl, _, _, hb3⟩
        have HB3 := Lib.hid (HB2.out.trans (hb3.mono HB2.out.size))
        clear hb3
        go_wp2_with fail
        refine (HLD.out _ HB3.out).mono ?_
        rintro e w4 ⟨⟨a4, cap4, rfl, hen, hnw⟩, hs⟩
        have HE := Lib.hid hen; have HN := Lib.hid hnw; have HS := Lib.hid hs
        clear hen hnw hs
        go_wp2_with fail
        go_ret2
        exact ⟨⟨a4, cap4, rfl, HE.out, HN.out.mono HB3.out.size⟩, SfStep.ahead HH.out HB3.out HS.out⟩
  · have hE : ixE S n = 1 ∧ ixS S n = S ∧ ixL S n = [] := ⟨by unfold ixE; rw [if_neg hn], by unfold ixS; rw [if_neg hn], by unfold ixL; rw [if_neg hn]⟩
    rw [hE.1, hE.2.1, hE.2.2]
    have HR := Lib.hid (right_no hn w)
    clear hE hn
    go_enter Tryz.func22, Tryz.ntmps22
    go_wp2_with fail
    refine HR.out.mono ?_
    rintro e w1 ⟨rfl, rfl⟩
    go_wp2_with fail
    go_ret2
    exact ⟨entR_nil rfl rfl, SfStep.same h (Below.refl _ _)⟩
end Go.Proofs.YtmekkbhblghbmaaGreatDoor
