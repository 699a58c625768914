/- ManifestBack, over what is asked of the program's manifests. -/
import Derived.Test.YtbefhnpmilcffaaDoorNwreads
namespace Go.Proofs.YtbefhnpmilcffaaDoor.J
open Go.RowKit
set_option linter.unusedVariables false
set_option linter.unusedSimpArgs false

theorem mbs_len {m : Mf} (hf : m.fit) (hl : m.segs.length ≤ 300) : (mbs m).1.length ≤ 5000 := by
  by_cases hr : Right m
  · rw [mbs_yes hr]
    have := pre_len hr hf.wf m.segs.length (Nat.le_refl _)
    rw [pre_all] at this
    simp only [seal4, List.length_append, four_length]
    omega
  · rw [mbs_no hr]; simp
theorem back_facts {m : Mf} (hf : m.fit) : ((mbs m).2 = 0 ∧ mrd (mbs m).1 = (m, 0)) ∨ (mbs m).2 = 1 := by
  by_cases hr : Right m
  · rw [mbs_yes hr]
    exact Or.inl ⟨rfl, mrd_yes ⟨hr, hf.wf, rfl⟩⟩
  · rw [mbs_no hr]; exact Or.inr rfl
theorem there_facts (b : List UInt8) : (mrd b).2 ≠ 0 ∨ ((mrd b).2 = 0 ∧ mbs (mrd b).1 = (b, 0)) := by
  rcases mrd_cases b with ⟨m, hm, e⟩ | ⟨e, _⟩ | ⟨e, _⟩
  · rw [e]; exact Or.inr ⟨rfl, by rw [mbs_yes hm.1, hm.2.2]⟩
  · rw [e]; exact Or.inl (by simp)
  · rw [e]; exact Or.inl (by simp)

set_option maxRecDepth 100000 in
set_option maxHeartbeats 4000000 in
theorem back_walk (C : ManC) (m : Mf) (a : Option Addr) (cap : Nat) (b : List UInt8) (w : World) (hV : Vt w) (hin : SgsIn w a m.segs) (hl : m.segs.length ≤ 9223372036854775807) (hfit : m.fit) (hb : b.length ≤ 9223372036854775807) :
    Calls Tryd.prog 5 #[mfV m.ver a m.segs.length cap, .string (bs b)] w fun e w' => e = .returned (.bool true) ∧ Below w.heap.size w w' := by
  obtain ⟨L, hL⟩ : ∃ L, L = m.segs.length := ⟨_, rfl⟩
  have hb0 : Below w.heap.size w (w.alloc (.cells #[.int .i64 m.ver, .slice a L cap] 24)) := (Below.refl _ _).alloc (Nat.le_refl _) _
  have HBX := Lib.hid (mf_box (w := w) (ver := m.ver) (a := a) (L := L) (cap := cap) (t := 24))
  have HAW := Lib.hid (awake_any C (w.alloc (.cells #[.int .i64 m.ver, .slice a L cap] 24)) (hV.later hb0)); clear hV
  have z1 : ((bs b).size : Int) = (b.length : Int) := by rw [bs_size]
  rw [← hL] at hl ⊢
  have HC := Lib.hid C; have HI := Lib.hid hin; have HFT := Lib.hid hfit; have HL := Lib.hid hL; have HB0 := Lib.hid hb0
  clear C hin hfit hL hb0
  unfold mfV
  go_enter Tryd.func5, Tryd.ntmps5
  go_wp2_with fail
  refine HAW.out.mono ?_
  rintro e w1 ⟨rfl, b1⟩
  obtain ⟨c0, c1⟩ := HBX.out w1 b1
  have HB1 : Hid (Below w.heap.size w w1) := Lib.hid (HB0.out.trans (b1.mono HB0.out.size))
  have HBX1 : Hid (∀ W, Old w1 W → W.cell? ⟨w.heap.size, 0, none⟩ = some (.int .i64 m.ver) ∧ W.cell? ⟨w.heap.size, 1, none⟩ = some (.slice a L cap)) := Lib.hid (fun W hW => HBX.out W (b1.trans (hW.mono b1.size)))
  clear b1 HBX HAW
  by_cases h1 : 300 < L
  · have g1 : (300 : Int) < (L : Int) := by omega
    clear h1 hl z1
    generalize bs b = Y at *
    go_wp2_with fail
    go_ret
    exact ⟨rfl, HB1.out⟩
  · have g1 : ¬ (300 : Int) < (L : Int) := by omega
    by_cases h2 : 3000 < b.length
    · have g2 : (3000 : Int) < ((bs b).size : Int) := by omega
      clear h1 h2 hl z1
      generalize bs b = Y at *
      go_wp2_with fail
      go_ret
      exact ⟨rfl, HB1.out⟩
    · have g2 : ¬ (3000 : Int) < ((bs b).size : Int) := by omega
      have h5 : b.length ≤ 5000 := by omega
      have HI1 := Lib.hid (HI.out.later HB1.out (Nat.le_refl _))
      have hby := HC.out.bytes (w := w1) (cap := cap) HI1.out (by rw [← HL.out]; omega) HFT.out
      have hto : ∀ W, Old w1 W → Calls Tryd.prog 10 #[mfV m.ver a L cap] W fun e w' => ∃ a2 cap2, e = .returned (mfV m.ver a2 L cap2) ∧ SgsIn w' a2 m.segs ∧ Below W.heap.size W w' := fun W hW => by
        have := to_any m a cap W (HI1.out.later hW (Nat.le_refl _)) (by rw [← HL.out]; omega)
        rw [← HL.out] at this; exact this
      rw [← HL.out] at hby
      unfold mfV at hby hto
      have HBY := Lib.hid hby; have HTO := Lib.hid hto
      have hxl := mbs_len HFT.out (by rw [← HL.out]; omega)
      have hbf := back_facts HFT.out
      obtain ⟨X, hX⟩ : ∃ X, X = (mbs m).1 := ⟨_, rfl⟩
      rw [← hX] at hxl hbf
      have HRX := Lib.hid (fun W => HC.out.read (b := X) (w := W) hxl)
      have HRD := Lib.hid (fun W => HC.out.read (b := b) (w := W) h5)
      have hm0 := mrd_len X
      obtain ⟨M0, hM0⟩ : ∃ M0, M0 = (mrd X).1 := ⟨_, rfl⟩
      obtain ⟨N0, hN0⟩ : ∃ N0, N0 = M0.segs.length := ⟨_, rfl⟩
      obtain ⟨E0, hE0⟩ : ∃ E0 : Int, E0 = ((mrd X).2 : Nat) := ⟨_, rfl⟩
      obtain ⟨e1, he1⟩ : ∃ e1 : Int, e1 = ((mbs m).2 : Nat) := ⟨_, rfl⟩
      have hfc : (e1 = 0 ∧ E0 = 0 ∧ decide (m = M0) = true) ∨ e1 = 1 := by
        rcases hbf with ⟨f1, f2⟩ | f1
        · exact Or.inl ⟨by rw [he1, f1]; rfl, by rw [hE0, f2]; rfl, by rw [hM0, f2]; exact decide_eq_true rfl⟩
        · exact Or.inr (by rw [he1, f1]; rfl)
      rw [← hM0, ← hN0] at hm0
      have HM0 := Lib.hid hM0; have HN0 := Lib.hid hN0; have HE0 := Lib.hid hE0; have HFC := Lib.hid hfc; have HM9 := Lib.hid hm0
      rw [← he1, ← hX] at HBY
      clear h1 h2 hl z1 hby hto h5 hxl hbf hfc hM0 hN0 hE0 he1 hX
      go_wp2_with fail
      refine HBY.out.mono ?_
      rintro e w2 ⟨rfl, b2⟩
      have K2 : Hid (Old w1 w2) := Lib.hid b2
      clear b2 c0 c1
      go_wp2_with fail
      refine (HRX.out _).mono ?_
      rintro e w3 ⟨a3, p3, rfl, hs3, b3⟩
      have K3 := Lib.hid (K2.out.below b3)
      rw [← HM0.out] at hs3 ⊢
      rw [← HE0.out, ← HN0.out]
      unfold mfV
      have HS3 := Lib.hid hs3
      have hbx3 := mf_box (w := w3) (ver := M0.ver) (a := a3) (L := N0) (cap := p3) (t := 24)
      have K3a : Hid (Old w3 (w3.alloc (.cells #[.int .i64 M0.ver, .slice a3 N0 p3] 24))) := Lib.hid ((Old.refl _).alloc _)
      clear b3 hs3
      go_wp2_with fail
      obtain ⟨w4, hw4⟩ : ∃ w4, w4 = w3.alloc (.cells #[.int .i64 M0.ver, .slice a3 N0 p3] 24) := ⟨_, rfl⟩
      rw [← hw4] at hbx3 K3a ⊢
      have HB3 := Lib.hid hbx3
      have K4 : Hid (Old w1 w4) := Lib.hid (Old.below K3.out K3a.out)
      have HS4 := Lib.hid (HS3.out.later K3a.out (Nat.le_refl _))
      have HT3 : Hid (∀ W, Old w4 W → Calls Tryd.prog 10 #[.agg #[.int .i64 M0.ver, .slice a3 N0 p3]] W fun e w' => ∃ a2 cap2, e = .returned (.agg #[.int .i64 M0.ver, .slice a2 N0 cap2]) ∧ SgsIn w' a2 M0.segs ∧ Below W.heap.size W w') := Lib.hid (fun W hW => by
        have := to_any M0 a3 p3 W (HS4.out.later hW (Nat.le_refl _)) (by rw [← HN0.out]; have := HM9.out; omega)
        rw [← HN0.out] at this
        unfold mfV at this; exact this)
      have HT4 := Lib.hid (fun W (hW : Old w4 W) => HTO.out W (K4.out.trans (hW.mono K4.out.size)))
      have HSA : Hid (∀ W a2 cap2 a4 cap4, SgsIn W a2 m.segs → SgsIn W a4 M0.segs → Calls Tryd.prog 13 #[.agg #[.int .i64 m.ver, .slice a2 L cap2], .agg #[.int .i64 M0.ver, .slice a4 N0 cap4]] W fun e w' => e = .returned (.bool (decide (m = M0))) ∧ Below W.heap.size W w') := Lib.hid (fun W a2 cap2 a4 cap4 h2 h4 => by
        have := refsame_any m M0 a2 a4 cap2 cap4 W h2 h4 (by rw [← HL.out]; omega) (by rw [← HN0.out]; have := HM9.out; omega)
        rw [← HN0.out, ← HL.out] at this
        unfold mfV at this; exact this)
      have m0 : ∀ W, Old w4 W → W.cell? ⟨w.heap.size, 0, none⟩ = some (.int .i64 m.ver) := fun W hW => (HBX1.out W (K4.out.trans (hW.mono K4.out.size))).1
      have m1 : ∀ W, Old w4 W → W.cell? ⟨w.heap.size, 1, none⟩ = some (.slice a L cap) := fun W hW => (HBX1.out W (K4.out.trans (hW.mono K4.out.size))).2
      have m2 : ∀ W, Old w4 W → W.cell? ⟨w3.heap.size, 0, none⟩ = some (.int .i64 M0.ver) := fun W hW => (HB3.out W hW).1
      have m3 : ∀ W, Old w4 W → W.cell? ⟨w3.heap.size, 1, none⟩ = some (.slice a3 N0 p3) := fun W hW => (HB3.out W hW).2
      clear hbx3 hw4
      generalize w3.heap.size = q3 at *
      have HB3' := HB3
      generalize decide (m = M0) = sm at *
      have K0 := Old.refl w4
      go_region_held3 (fun W => Old w4 W) (first | assumption | exact K0 | exact K0.drew | exact Old.drew ‹_›)
        (first
          | (go_at_call 10
             (with_reducible refine (HT4.out _ (by first | assumption | exact K0 | exact K0.drew | exact Old.drew ‹_›)).mono ?_)
             rintro e8 w8 ⟨a8, p8, rfl, hs8, hb8⟩
             have hO8 : Old w4 w8 := Old.below (by first | assumption | exact K0 | exact K0.drew | exact Old.drew ‹_›) hb8)
          | (go_at_call 10
             (with_reducible refine (HT3.out _ (by first | assumption | exact K0 | exact K0.drew | exact Old.drew ‹_›)).mono ?_)
             rintro e9 w9 ⟨a9, p9, rfl, hs9, hb9⟩
             have hO9 : Old w4 w9 := Old.below (by first | assumption | exact K0 | exact K0.drew | exact Old.drew ‹_›) hb9)
          | (go_at_call 13
             (with_reducible refine (HSA.out _ _ _ _ _ (by first | exact hs8 | exact hs8.later hb9 (Nat.le_refl _)) (by first | exact hs9 | exact hs9.later hb8 (Nat.le_refl _))).mono ?_)
             rintro e10 w10 ⟨rfl, hb10⟩
             have hO10 : Old w4 w10 := Old.below (by first | assumption | exact Old.drew ‹_›) hb10))
      have K110 : Hid (Old w1 w10) := Lib.hid (K4.out.trans (hO10.mono K4.out.size))
      have hff : (e1 == 0) = false ∨ ((e1 == 0) = true ∧ (E0 != 0) = false ∧ sm = true) := by
        rcases HFC.out with ⟨f1, f2, f3⟩ | f1
        · exact Or.inr ⟨by rw [f1]; rfl, by rw [f2]; rfl, f3⟩
        · exact Or.inl (by rw [f1]; rfl)
      clear m0 m1 m2 m3 K0 hO8 hO9 hO10
      -- the end: the manifest of whatever bytes
      have hth := there_facts b
      have hml := mrd_len b
      have hfit5 := mrd_fit b
      obtain ⟨M, hM⟩ : ∃ M, M = (mrd b).1 := ⟨_, rfl⟩
      rw [← hM] at hth hml hfit5
      obtain ⟨N, hN⟩ : ∃ N, N = M.segs.length := ⟨_, rfl⟩
      rw [← hN] at hml
      obtain ⟨E5, hE5⟩ : ∃ E5 : Int, E5 = ((mrd b).2 : Nat) := ⟨_, rfl⟩
      obtain ⟨Z, hZ⟩ : ∃ Z, Z = bs (mbs M).1 := ⟨_, rfl⟩
      obtain ⟨E6, hE6⟩ : ∃ E6 : Int, E6 = ((mbs M).2 : Nat) := ⟨_, rfl⟩
      have hgg : (E5 != 0) = true ∨ ((E5 != 0) = false ∧ (E6 == 0) = true ∧ (Z.toList == (bs b).toList) = true) := by
        rcases hth with f | ⟨f1, f2⟩
        · exact Or.inl (by rw [hE5, bne_iff_ne]; omega)
        · exact Or.inr ⟨by rw [hE5, f1]; rfl, by rw [hE6, f2]; rfl, by rw [hZ, f2]; simp⟩
      have HM := Lib.hid hM; have HN := Lib.hid hN; have HE5 := Lib.hid hE5; have HZ := Lib.hid hZ; have HE6 := Lib.hid hE6; have HFI := Lib.hid hfit5
      clear hM hN hE5 hZ hE6 hth hfit5
      have fin : ∀ (w11 : World) (a5 : Option Addr) (p5 : Nat), SgsIn w11 a5 M.segs → Calls Tryd.prog 8 #[.agg #[.int .i64 M.ver, .slice a5 N p5]] w11 fun e w' => e = .returned (.tuple #[.string Z, .int .i64 E6]) ∧ Below w11.heap.size w11 w' := fun w11 a5 p5 h => by
        have := HC.out.bytes (cap := p5) h (by rw [← HN.out]; omega) HFI.out
        rw [← HN.out, ← HZ.out, ← HE6.out] at this
        unfold mfV at this; exact this
      have FIN := Lib.hid fin
      clear fin
      rcases hff with f1 | ⟨f1, f2, rfl⟩
      all_goals
        go_wp2_with fail
        refine (HRD.out _).mono ?_
        rintro e w11 ⟨a5, p5, rfl, hs5, b11⟩
        rw [← HM.out] at hs5 ⊢
        rw [← HN.out, ← HE5.out]
        unfold mfV
        have K11 := Lib.hid (K110.out.below b11)
        have hbx5 := mf_box (w := w11) (ver := M.ver) (a := a5) (L := N) (cap := p5) (t := 24)
        have K12 : Hid (Old w11 (w11.alloc (.cells #[.int .i64 M.ver, .slice a5 N p5] 24))) := Lib.hid ((Old.refl _).alloc _)
        have HF5 := Lib.hid (FIN.out _ a5 p5 (hs5.later K12.out (Nat.le_refl _)))
        obtain ⟨c0, c1⟩ := hbx5 _ (Old.refl _)
        clear b11 hs5 hbx5
        go_wp2_with fail
        refine HF5.out.mono ?_
        rintro e w13 ⟨rfl, b13⟩
        have HEND : Hid (Below w.heap.size w w13) := Lib.hid (by
          have h1 := HB1.out.trans ((K11.out.below K12.out).mono HB1.out.size)
          exact h1.trans (b13.mono h1.size))
        clear b13 c0 c1
        rcases hgg with g1 | ⟨g1, g2, g3⟩
        · go_wp2_with fail
          go_ret
          exact ⟨rfl, HEND.out⟩
        · go_wp2_with fail
          go_ret
          exact ⟨rfl, HEND.out⟩
end Go.Proofs.YtbefhnpmilcffaaDoor.J
