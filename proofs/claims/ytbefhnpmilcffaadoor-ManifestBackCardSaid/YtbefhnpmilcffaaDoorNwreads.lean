/- ManifestReads, over what is asked of the program's manifests. -/
import Derived.Test.YtbefhnpmilcffaaDoorNwant
namespace Go.Proofs.YtbefhnpmilcffaaDoor.J
open Go.RowKit
set_option linter.unusedVariables false
set_option linter.unusedSimpArgs false

/-- What comes in is too long: nothing is tried. -/
theorem mf_box {w : World} {ver : Int} {a : Option Addr} {L cap : Nat} {t : TypeId} : ∀ W, Old (w.alloc (.cells #[.int .i64 ver, .slice a L cap] t)) W → W.cell? ⟨w.heap.size, 0, none⟩ = some (.int .i64 ver) ∧ W.cell? ⟨w.heap.size, 1, none⟩ = some (.slice a L cap) := fun W hW => by
  have h := hW.block w.heap.size (by simp)
  rw [heap_alloc_new] at h
  exact ⟨by rw [cell_of_row W w.heap.size 0 _ _ (0, 0) h]; rfl, by rw [cell_of_row W w.heap.size 1 _ _ (0, 0) h]; rfl⟩

set_option maxRecDepth 100000 in
set_option maxHeartbeats 4000000 in
theorem reads_walk (C : ManC) (m : Mf) (a : Option Addr) (cap : Nat) (b : List UInt8) (w : World) (hV : Vt w) (hin : SgsIn w a m.segs) (hl : m.segs.length ≤ 9223372036854775807) (hfit : m.fit) (hb : b.length ≤ 9223372036854775807) :
    Calls Tryd.prog 3 #[mfV m.ver a m.segs.length cap, .string (bs b)] w fun e w' => e = .returned (.bool true) ∧ Below w.heap.size w w' := by
  obtain ⟨L, hL⟩ : ∃ L, L = m.segs.length := ⟨_, rfl⟩
  have hb0 : Below w.heap.size w (w.alloc (.cells #[.int .i64 m.ver, .slice a L cap] 24)) := (Below.refl _ _).alloc (Nat.le_refl _) _
  have HBX := Lib.hid (mf_box (w := w) (ver := m.ver) (a := a) (L := L) (cap := cap) (t := 24))
  have HAW := Lib.hid (awake_any C (w.alloc (.cells #[.int .i64 m.ver, .slice a L cap] 24)) (hV.later hb0)); clear hV
  have z1 : ((bs b).size : Int) = (b.length : Int) := by rw [bs_size]
  rw [← hL] at hl ⊢
  have HC := Lib.hid C; have HI := Lib.hid hin; have HFT := Lib.hid hfit; have HL := Lib.hid hL; have HB0 := Lib.hid hb0
  clear C hin hfit hL hb0
  unfold mfV
  go_enter Tryd.func3, Tryd.ntmps3
  go_wp2_with fail
  refine HAW.out.mono ?_
  rintro e w1 ⟨rfl, b1⟩
  obtain ⟨c0, c1⟩ := HBX.out w1 b1
  have HB1 : Hid (Below w.heap.size w w1) := Lib.hid (HB0.out.trans (b1.mono HB0.out.size))
  have HBX1 : Hid (∀ W, Old w1 W → W.cell? ⟨w.heap.size, 0, none⟩ = some (.int .i64 m.ver) ∧ W.cell? ⟨w.heap.size, 1, none⟩ = some (.slice a L cap)) := Lib.hid (fun W hW => HBX.out W (b1.trans (hW.mono b1.size)))
  clear b1 HBX HAW
  by_cases h1 : 300 < L
  · have g1 : (300 : Int) < (L : Int) := by omega
    clear h1 hl z1
    generalize bs b = Y at *
    go_wp2_with fail
    go_ret
    exact ⟨rfl, HB1.out⟩
  · have g1 : ¬ (300 : Int) < (L : Int) := by omega
    by_cases h2 : 3000 < b.length
    · have g2 : (3000 : Int) < ((bs b).size : Int) := by omega
      clear h1 h2 hl z1
      generalize bs b = Y at *
      go_wp2_with fail
      go_ret
      exact ⟨rfl, HB1.out⟩
    · have g2 : ¬ (3000 : Int) < ((bs b).size : Int) := by omega
      have h5 : b.length ≤ 5000 := by omega
      have HI1 := Lib.hid (HI.out.later HB1.out (Nat.le_refl _))
      have hby := HC.out.bytes (w := w1) (cap := cap) HI1.out (by rw [← HL.out]; omega) HFT.out
      have hto : ∀ W, Old w1 W → Calls Tryd.prog 10 #[mfV m.ver a L cap] W fun e w' => ∃ a2 cap2, e = .returned (mfV m.ver a2 L cap2) ∧ SgsIn w' a2 m.segs ∧ Below W.heap.size W w' := fun W hW => by
        have := to_any m a cap W (HI1.out.later hW (Nat.le_refl _)) (by rw [← HL.out]; omega)
        rw [← HL.out] at this; exact this
      rw [← HL.out] at hby
      unfold mfV at hby hto
      have HBY := Lib.hid hby; have HTO := Lib.hid hto
      have hrb : ∀ W a2 cap2, SgsIn W a2 m.segs → Calls Tryd.prog 9 #[.agg #[.int .i64 m.ver, .slice a2 L cap2]] W fun e w' => e = .returned (.tuple #[.string (bs (mbs m).1), .int .i64 ((mbs m).2 : Nat)]) ∧ Below W.heap.size W w' := fun W a2 cap2 h => by
        have := refbytes_any m a2 cap2 W h (by rw [← HL.out]; omega) HFT.out.wf
        rw [← HL.out] at this; exact this
      have hrr : ∀ W a2 cap2, SgsIn W a2 m.segs → Calls Tryd.prog 15 #[.agg #[.int .i64 m.ver, .slice a2 L cap2]] W fun e w' => e = .returned (.bool (right m)) ∧ Below W.heap.size W w' := fun W a2 cap2 h => by
        have := refright_any m a2 cap2 W h (by rw [← HL.out]; omega)
        rw [← HL.out] at this; exact this
      have hri : ∀ W, Old w1 W → Calls Tryd.prog 14 #[.agg #[.int .i64 m.ver, .slice a L cap]] W fun e w' => e = .returned (.bool (right m)) ∧ Below W.heap.size W w' := fun W hW => by
        have := HC.out.right (w := W) (cap := cap) (HI1.out.later hW (Nat.le_refl _)) (by rw [← HL.out]; omega) HFT.out
        rw [← HL.out] at this; exact this
      have HRB := Lib.hid hrb; have HRR := Lib.hid hrr; have HRI := Lib.hid hri
      have HRD := Lib.hid (fun W => HC.out.read (b := b) (w := W) h5)
      have HRF := Lib.hid (fun W => refread_any b W h5)
      have hml := mrd_len b
      clear h1 h2 hl z1 hby hto hrb hrr hri h5
      generalize ((mbs m).2 : Int) = e1 at *
      generalize bs (mbs m).1 = X1 at *
      generalize right m = rm at *
      go_wp2_with fail
      refine HBY.out.mono ?_
      rintro e w2 ⟨rfl, b2⟩
      have O2 : Old w1 w2 := b2
      have K2 := Lib.hid O2
      obtain ⟨c0, c1⟩ := HBX1.out _ O2
      clear b2 O2
      go_wp2_with fail
      refine (HTO.out _ K2.out).mono ?_
      rintro e w3 ⟨a3, p3, rfl, hs3, b3⟩
      have K3 := Lib.hid (K2.out.below b3)
      have HRB3 := Lib.hid (HRB.out w3 a3 p3 hs3)
      clear b3 hs3 c0 c1
      go_wp2_with fail
      refine HRB3.out.mono ?_
      rintro e w4 ⟨rfl, b4⟩
      have K4 := Lib.hid (K3.out.below b4)
      clear b4
      go_wp2_with fail
      refine (HRD.out _).mono ?_
      rintro e w5 ⟨a5, p5, rfl, hs5, b5⟩
      have K5 := Lib.hid (K4.out.below b5)
      have hf5 := mrd_fit b
      obtain ⟨M, hM⟩ : ∃ M, M = (mrd b).1 := ⟨_, rfl⟩
      rw [← hM] at hs5 hf5 hml ⊢
      obtain ⟨N, hN⟩ : ∃ N, N = M.segs.length := ⟨_, rfl⟩
      obtain ⟨E5, hE5⟩ : ∃ E5 : Int, E5 = ((mrd b).2 : Nat) := ⟨_, rfl⟩
      rw [← hE5]
      rw [← hN] at hml ⊢
      have HS5 := Lib.hid hs5; have HM := Lib.hid hM; have HN := Lib.hid hN; have HE5 := Lib.hid hE5; have HF5 := Lib.hid hf5
      clear b5 hs5 hM hN hE5 hf5
      unfold mfV
      have hbx5 := mf_box (w := w5) (ver := M.ver) (a := a5) (L := N) (cap := p5) (t := 24)
      have K5a : Hid (Old w5 (w5.alloc (.cells #[.int .i64 M.ver, .slice a5 N p5] 24))) := Lib.hid ((Old.refl _).alloc _)
      have HB5 := Lib.hid hbx5
      clear hbx5
      go_wp2_with fail
      refine (HRF.out _).mono ?_
      rintro e w6 ⟨a6, p6, rfl, hs6, b6⟩
      rw [← HM.out, ← HE5.out, ← HN.out]
      rw [← HM.out] at hs6
      have K6 : Hid (Old (w5.alloc (.cells #[.int .i64 M.ver, .slice a5 N p5] 24)) w6) := Lib.hid b6
      have HS6 := Lib.hid hs6
      clear b6 hs6
      unfold mfV
      have hbx6 := mf_box (w := w6) (ver := M.ver) (a := a6) (L := N) (cap := p6) (t := 32)
      have K6a : Hid (Old w6 (w6.alloc (.cells #[.int .i64 M.ver, .slice a6 N p6] 32))) := Lib.hid ((Old.refl _).alloc _)
      go_wp2_with fail
      -- the two boxes, in the world that the drawn regions begin with
      obtain ⟨w7, hw7⟩ : ∃ w7, w7 = w6.alloc (.cells #[.int .i64 M.ver, .slice a6 N p6] 32) := ⟨_, rfl⟩
      rw [← hw7] at hbx6 K6a ⊢
      have HB57 : Hid (∀ W, Old w7 W → W.cell? ⟨w5.heap.size, 0, none⟩ = some (.int .i64 M.ver) ∧ W.cell? ⟨w5.heap.size, 1, none⟩ = some (.slice a5 N p5)) := Lib.hid (fun W hW => HB5.out W (K6.out.below (Old.below K6a.out hW)))
      have HB67 := Lib.hid hbx6
      have K57 : Hid (Old w5 w7) := Lib.hid (Old.below K5a.out (Old.below K6.out K6a.out))
      have K17 : Hid (Old w1 w7) := Lib.hid (Old.below K5.out K57.out)
      have HS57 := Lib.hid (HS5.out.later K57.out (Nat.le_refl _))
      have HS67 := Lib.hid (HS6.out.later K6a.out (Nat.le_refl _))
      have HT5 : Hid (∀ W, Old w7 W → Calls Tryd.prog 10 #[.agg #[.int .i64 M.ver, .slice a5 N p5]] W fun e w' => ∃ a2 cap2, e = .returned (.agg #[.int .i64 M.ver, .slice a2 N cap2]) ∧ SgsIn w' a2 M.segs ∧ Below W.heap.size W w') := Lib.hid (fun W hW => by
        have := to_any M a5 p5 W (HS57.out.later hW (Nat.le_refl _)) (by rw [← HN.out]; omega)
        rw [← HN.out] at this
        unfold mfV at this; exact this)
      have HSA : Hid (∀ W a2 cap2, Old w7 W → SgsIn W a2 M.segs → Calls Tryd.prog 13 #[.agg #[.int .i64 M.ver, .slice a2 N cap2], .agg #[.int .i64 M.ver, .slice a6 N p6]] W fun e w' => e = .returned (.bool true) ∧ Below W.heap.size W w') := Lib.hid (fun W a2 cap2 hW h2 => by
        have := refsame_any M M a2 a6 cap2 p6 W h2 (HS67.out.later hW (Nat.le_refl _)) (by rw [← HN.out]; omega) (by rw [← HN.out]; omega)
        rw [← HN.out, decide_eq_true rfl] at this
        unfold mfV at this; exact this)
      clear hbx6 hw7
      generalize w5.heap.size = q5 at *
      generalize w6.heap.size = q6 at *
      have m0 : ∀ W, Old w7 W → W.cell? ⟨q5, 0, none⟩ = some (.int .i64 M.ver) := fun W hW => (HB57.out W hW).1
      have m1 : ∀ W, Old w7 W → W.cell? ⟨q5, 1, none⟩ = some (.slice a5 N p5) := fun W hW => (HB57.out W hW).2
      have m2 : ∀ W, Old w7 W → W.cell? ⟨q6, 0, none⟩ = some (.int .i64 M.ver) := fun W hW => (HB67.out W hW).1
      have m3 : ∀ W, Old w7 W → W.cell? ⟨q6, 1, none⟩ = some (.slice a6 N p6) := fun W hW => (HB67.out W hW).2
      have K0 := Old.refl w7
      go_region_held3 (fun W => Old w7 W) (first | assumption | exact K0 | exact K0.drew | exact Old.drew ‹_›)
        (first
          | (go_at_call 10
             (with_reducible refine (HT5.out _ (by first | assumption | exact K0 | exact K0.drew | exact Old.drew ‹_›)).mono ?_)
             rintro e8 w8 ⟨a8, p8, rfl, hs8, hb8⟩
             have hO8 : Old w7 w8 := Old.below (by first | assumption | exact K0 | exact K0.drew | exact Old.drew ‹_›) hb8)
          | (go_at_call 13
             (with_reducible refine (HSA.out _ _ _ (by first | assumption | exact Old.drew ‹_›) (by first | exact hs8 | exact (hs8.later (Old.refl _).drew (Nat.le_refl _)))).mono ?_)
             rintro e9 w9 ⟨rfl, hb9⟩
             have hO9 : Old w7 w9 := Old.below (by first | assumption | exact Old.drew ‹_›) hb9))
      have K19 : Hid (Old w1 w9) := Lib.hid (K17.out.trans (hO9.mono K17.out.size))
      have HF9 := Lib.hid (HB1.out.trans (K19.out.mono HB1.out.size))
      have y1 : (X1.toList == X1.toList) = true := by simp
      have y2 : (e1 == e1) = true := by simp
      have y3 : (E5 == E5) = true := by simp
      have y4 : (rm == rm) = true := by simp
      clear m0 m1 m2 m3 K0 hO8 hO9
      go_wp2_with fail
      have m0 : ∀ W, Old w9 W → W.cell? ⟨w.heap.size, 0, none⟩ = some (.int .i64 m.ver) := fun W hW => (HBX1.out W (K19.out.trans (hW.mono K19.out.size))).1
      have m1 : ∀ W, Old w9 W → W.cell? ⟨w.heap.size, 1, none⟩ = some (.slice a L cap) := fun W hW => (HBX1.out W (K19.out.trans (hW.mono K19.out.size))).2
      have HTO9 := Lib.hid (fun W (hW : Old w9 W) => HTO.out W (K19.out.trans (hW.mono K19.out.size)))
      have HRI9 := Lib.hid (fun W (hW : Old w9 W) => HRI.out W (K19.out.trans (hW.mono K19.out.size)))
      have K0 := Old.refl w9
      go_region_held3 (fun W => Old w9 W) (first | assumption | exact K0 | exact K0.drew | exact Old.drew ‹_›)
        (first
          | (go_at_call 14
             (with_reducible refine (HRI9.out _ (by first | assumption | exact K0 | exact K0.drew | exact Old.drew ‹_›)).mono ?_)
             rintro e10 w10 ⟨rfl, hb10⟩
             have hO10 : Old w9 w10 := Old.below (by first | assumption | exact K0 | exact K0.drew | exact Old.drew ‹_›) hb10)
          | (go_at_call 10
             (with_reducible refine (HTO9.out _ (by first | assumption | exact K0 | exact K0.drew | exact Old.drew ‹_›)).mono ?_)
             rintro e11 w11 ⟨a11, p11, rfl, hs11, hb11⟩
             have hO11 : Old w9 w11 := Old.below (by first | assumption | exact K0 | exact K0.drew | exact Old.drew ‹_›) hb11)
          | (go_at_call 15
             (with_reducible refine (HRR.out _ _ _ (by first | exact hs11 | exact (hs11.later (Old.refl _).drew (Nat.le_refl _)) | exact (hs11.later hb10 (Nat.le_refl _)))).mono ?_)
             rintro e12 w12 ⟨rfl, hb12⟩
             have hO12 : Old w9 w12 := Old.below (by first | assumption | exact Old.drew ‹_›) hb12))
      all_goals
        have HF := Lib.hid (HF9.out.trans (hO12.mono HF9.out.size))
        clear m0 m1 K0 hO12
        go_wp2_with fail
        go_ret
        exact ⟨rfl, HF.out⟩
end Go.Proofs.YtbefhnpmilcffaaDoor.J
