/- The first, small test of every law of layer 8 returns true, if the program's segments do as is asked of them. -/
import Derived.Test.YtmekkbhblghbmaaGreatDoorSboth
import Derived.Test.YtmekkbhblghbmaaGreatDoorSawmath
import Derived.Deep.RegionHeld3
import Derived.Deep.QuietTactic
import Derived.BigQuiet
namespace Go.Proofs.YtmekkbhblghbmaaGreatDoor
open Go.RowKit
set_option linter.unusedVariables false

/-- Entries whose block stays as it is. -/
theorem EntsIn.away {w w' : World} {a : Option Addr} {l : List Et} (h : EntsIn w a l) (hs : w.heap.size ≤ w'.heap.size) (hk : ∀ A, a = some A → A.block < w.heap.size → w'.heap[A.block]? = w.heap[A.block]?) : EntsIn w' a l := by
  intro h0
  obtain ⟨b, off, ha, hb, hc⟩ := h h0
  have he : ∀ j, w'.cell? ⟨b, j, none⟩ = w.cell? ⟨b, j, none⟩ := fun j => by simp only [World.cell?, show w'.heap[b]? = w.heap[b]? from hk _ ha hb]
  refine ⟨b, off, ha, Nat.lt_of_lt_of_le hb hs, fun i hi => ?_⟩
  rw [he, he, he, he, he]
  exact hc i hi

/-- What was there stays, but for what the disk turns. -/
def oRec : Obj := .cells #[.int .u64 3, .string ⟨#[107]⟩, .string ⟨#[118]⟩, .bool false] 47 (0, 0)
theorem rec_cells {w : World} {b : Nat} (h : w.heap[b]? = some oRec) : w.cell? ⟨b, 0, none⟩ = some (.int .u64 3) ∧ w.cell? ⟨b, 1, none⟩ = some (.string ⟨#[107]⟩) ∧ w.cell? ⟨b, 2, none⟩ = some (.string ⟨#[118]⟩) ∧ w.cell? ⟨b, 3, none⟩ = some (.bool false) := by
  unfold oRec at h
  have hc : ∀ j, w.cell? ⟨b, j, none⟩ = (#[Value.int .u64 3, .string ⟨#[107]⟩, .string ⟨#[118]⟩, .bool false])[j]? := fun j => cell_of_row w b j _ _ (0, 0) h
  exact ⟨by rw [hc]; rfl, by rw [hc]; rfl, by rw [hc]; rfl, by rw [hc]; rfl⟩

/-- All that was there is as it was. -/
def Still (w1 W : World) : Prop := Below w1.heap.size w1 W
theorem Still.refl (w1 : World) : Still w1 w1 := Below.refl _ _
theorem Still.drew {w1 W : World} (h : Still w1 W) : Still w1 W.drew := Below.drew h
theorem Still.call {w1 W W' : World} (h : Still w1 W) (k : Below W.heap.size W W') : Still w1 W' := Below.trans h (k.mono h.size)
theorem Still.cell {w1 W : World} (h : Still w1 W) {b o : Nat} {v : Value} (hc : w1.cell? ⟨b, o, none⟩ = some v) : W.cell? ⟨b, o, none⟩ = some v := by
  rw [Below.cell (p := ⟨b, o, none⟩) h (World.block_lt_of_cell? _ _ hc)]; exact hc

set_option maxRecDepth 100000 in
set_option maxHeartbeats 4000000 in
theorem awake8_any (C : SegC) (w : World) (hT : Tb w.heap.size w) : Calls Tryz.prog 7 #[] w fun e w' => e = .returned (.bool true) ∧ Below w.heap.size w w' := by
  have hC := Lib.hid C; have HT := Lib.hid hT
  clear C hT
  go_enter Tryz.func7, Tryz.ntmps7
  go_wp2_with fail
  refine (D.new_yes 1000 w (by omega) (by omega)).mono ?_
  rintro e w1 ⟨pb, F, rfl, h1, hF, b1⟩
  have H1 := Lib.hid h1; have B1 := Lib.hid b1
  obtain ⟨R, hR⟩ : ∃ R, R = w1.heap.size := ⟨_, rfl⟩
  have hz1 := b1.size
  clear h1 b1 hF
  go_wp2_with fail
  have hb2 : Below w1.heap.size w1 ((w1.alloc (.cells #[.int .u64 3, .string ⟨#[107]⟩, .string ⟨#[118]⟩, .bool false] 47)).alloc (.cells #[.int .u64 3, .string ⟨#[107]⟩, .string ⟨#[118]⟩, .bool false] 47)) := ((Below.refl _ _).alloc (Nat.le_refl _) _).alloc (by simp) _
  have hd2 := H1.out.kept (Turn.of_below (fun _ => False) hb2 (Nat.le_refl _)) (fun _ _ _ f => f)
  have hrec := recs_rA (w1.alloc (.cells #[.int .u64 3, .string ⟨#[107]⟩, .string ⟨#[118]⟩, .bool false] 47))
  have hw := hC.out.write hd2 (HT.out.below (B1.out.trans (hb2.mono hz1))) 7 [rA] _ 1 (by omega) (by omega) (by simp) hrec fits_rA (by simp)
  rw [show (⟨1000, [], -1, false⟩ : D.St) = wA0 from rfl, wA_write.1, wA_write.2.1, wA_write.2.2] at hw
  have hrb : ((w1.alloc (.cells #[.int .u64 3, .string ⟨#[107]⟩, .string ⟨#[118]⟩, .bool false] 47)).alloc (.cells #[.int .u64 3, .string ⟨#[107]⟩, .string ⟨#[118]⟩, .bool false] 47)).heap[w1.heap.size]? = some oRec := heap_alloc2_old w1 _ _
  simp only [World.size_alloc, show ([rA] : List Rc).length = 1 from rfl] at hw
  generalize hW2 : (w1.alloc _).alloc _ = W2 at hb2 hd2 hw hrb ⊢
  have hFl := fun k (hk : F k) => (H1.out.lt hk)
  have B2 := Lib.hid (B1.out.trans (hb2.mono hz1))
  have hz2 := hb2.size
  clear hW2 hrec hd2 hb2
  refine hw.mono ?_
  rintro e w2 ⟨F2, ⟨a1, cap1, rfl, hen1, hnw1, hap1⟩, h2, hF2, t2⟩
  rw [show ([eA] : List Et).length = 1 from rfl]
  have hrbl : w1.heap.size < W2.heap.size := lt_of_block hrb
  have hrb2 : w2.heap[w1.heap.size]? = some oRec := by rw [t2.block _ hrbl (fun hf => by have := (hFl _ hf).2; omega)]; exact hrb
  have hr2 : ¬ F2 w1.heap.size := fun hf => by
    rcases hF2 _ hf with hf | hf
    · have := (hFl _ hf).2; omega
    · omega
  have B3 := Lib.hid (B2.out.trans (t2.below (fun k hk => (hFl k hk).1) B2.out.size))
  have H2 := Lib.hid h2; have E1 := Lib.hid hen1; have A1 := Lib.hid hap1
  obtain ⟨rb, hrbe⟩ : ∃ rb, rb = w1.heap.size := ⟨_, rfl⟩
  rw [← hrbe] at hrb2 hr2 ⊢
  obtain ⟨g, off, rfl, hg, c0, c1, c2, c3, c4⟩ := ents_eA hen1
  have K2 := Lib.hid hrb2; have KN := Lib.hid hr2
  clear hw h2 hen1 hnw1 hap1 t2 hF2 hrb hFl hrbl hrb2 hr2 hrbe H1 hR hz1
  have hgt := hC.out.get H2.out (HT.out.below B3.out) 7 eA (by omega) (by omega) efit_eA (by simp [wA1])
  rw [wA_get] at hgt
  simp only [gtV, rv, ev, rA, eA, show bs [107] = ⟨#[107]⟩ from rfl, show bs [118] = ⟨#[118]⟩ from rfl, show ((3 : Nat) : Int) = 3 from rfl] at hgt
  go_wp2_with fail
  refine hgt.mono ?_
  rintro e w3 ⟨rfl, b3⟩
  have hz3 := b3.size
  have B4 := Lib.hid (B3.out.trans (b3.mono B3.out.size))
  have b4 : Below w3.heap.size w3 (w3.alloc (.cells #[.int .u64 3, .string ⟨#[107]⟩, .string ⟨#[118]⟩, .bool false] 47)) := (Below.refl _ _).alloc (Nat.le_refl _) _
  have h4 := H2.out.kept (Turn.of_below (fun _ => False) (b3.trans (b4.mono hz3)) (Nat.le_refl _)) (fun _ _ _ f => f)
  have e4 := (E1.out.later b3 (Nat.le_refl _)).later b4 (Nat.le_refl _)
  have k4 : (w3.alloc (.cells #[.int .u64 3, .string ⟨#[107]⟩, .string ⟨#[118]⟩, .bool false] 47)).heap[rb]? = some oRec := by
    have hl := lt_of_block K2.out
    rw [b4.block _ (by omega), b3.block _ hl]; exact K2.out
  have x4 : (w3.alloc (.cells #[.int .u64 3, .string ⟨#[107]⟩, .string ⟨#[118]⟩, .bool false] 47)).heap[w3.heap.size]? = some oRec := heap_alloc_new w3 _
  have B5 := Lib.hid (B4.out.trans (b4.mono B4.out.size))
  have hse := hC.out.sealed h4 (HT.out.below B5.out) 7 (by omega) (by omega) (by simp [wA1])
  rw [wA_seal.1, wA_seal.2] at hse
  have nx : ¬ F2 w3.heap.size := fun hf => by have := (H2.out.lt hf).2; omega
  have hF2l := fun k (hk : F2 k) => (H2.out.lt hk)
  have hzx : w3.heap.size < (w3.alloc (.cells #[.int .u64 3, .string ⟨#[107]⟩, .string ⟨#[118]⟩, .bool false] 47)).heap.size := by simp
  have HF2 := Lib.hid hF2l
  obtain ⟨xb, hxb⟩ : ∃ xb, xb = w3.heap.size := ⟨_, rfl⟩
  go_wp2_with fail
  generalize hW4 : w3.alloc _ = W4 at h4 e4 k4 x4 hse hzx B5 ⊢
  rw [← hxb] at x4 nx hzx ⊢
  have E4 := Lib.hid e4; have K4 := Lib.hid k4; have X4 := Lib.hid x4; have NX := Lib.hid nx
  clear hW4 b3 b4 h4 e4 k4 x4 hgt hz3 hz2 nx hxb hF2l c0 c1 c2 c3 c4
  refine hse.mono ?_
  rintro e w5 ⟨F5, rfl, h5, hF5, t5⟩
  have hrl := lt_of_block K4.out
  have k5 : w5.heap[rb]? = some oRec := by rw [t5.block _ hrl KN.out]; exact K4.out
  have x5 : w5.heap[xb]? = some oRec := by rw [t5.block _ hzx NX.out]; exact X4.out
  have e5 : EntsIn w5 (some ⟨g, off, none⟩) [eA] := E4.out.away t5.size (fun A hA hl => t5.block _ hl (A1.out A hA))
  have nr5 : ¬ F5 rb := fun hf => by
    rcases hF5 _ hf with hf | hf
    · exact KN.out hf
    · omega
  have nx5 : ¬ F5 xb := fun hf => by
    rcases hF5 _ hf with hf | hf
    · exact NX.out hf
    · omega
  have ng5 : ∀ A, some (⟨g, off, none⟩ : Addr) = some A → ¬ F5 A.block := fun A hA hf => by
    rcases hF5 _ hf with hf | hf
    · exact A1.out A hA hf
    · cases hA
      obtain ⟨_, _, e6, hgl, _⟩ := ents_eA E4.out
      cases e6
      dsimp only at hf
      omega
  have B6 := Lib.hid (B5.out.trans (t5.below (fun k hk => (HF2.out k hk).1) B5.out.size))
  have hix := hC.out.index h5 (HT.out.below B6.out) 7 (by omega) (by omega) (by simp [wA3])
  rw [wA_index.1, wA_index.2.1, wA_index.2.2] at hix
  have H5 := Lib.hid h5; have K5 := Lib.hid k5; have X5 := Lib.hid x5; have E5 := Lib.hid e5; have NR5 := Lib.hid nr5; have NX5 := Lib.hid nx5; have NG5 := Lib.hid ng5
  have hF5l := Lib.hid (fun k (hk : F5 k) => (h5.lt hk))
  clear h5 hF5 t5 hse k5 x5 e5 nr5 nx5 ng5 hrl hzx E4 K4 X4 NX
  go_wp2_with fail
  refine hix.mono ?_
  rintro e w6 ⟨F6, ⟨a2, cap2, rfl, hen2, hnw2, hap2⟩, h6, hF6, t6⟩
  rw [show ([eA] : List Et).length = 1 from rfl]
  have k6 : w6.heap[rb]? = some oRec := by rw [t6.block _ (lt_of_block K5.out) NR5.out]; exact K5.out
  have x6 : w6.heap[xb]? = some oRec := by rw [t6.block _ (lt_of_block X5.out) NX5.out]; exact X5.out
  have e6 : EntsIn w6 (some ⟨g, off, none⟩) [eA] := E5.out.away t6.size (fun A hA hl => t6.block _ hl (NG5.out A hA))
  have B7 := Lib.hid (B6.out.trans (t6.below (fun k hk => (hF5l.out k hk).1) B6.out.size))
  have hnu := hC.out.number [115, 48, 48, 48, 48, 48, 55] w6 (by simp)
  rw [num7.1, num7.2, show bs [115, 48, 48, 48, 48, 48, 55] = ⟨#[115, 48, 48, 48, 48, 48, 55]⟩ from rfl] at hnu
  have H6 := Lib.hid h6; have K6 := Lib.hid k6; have X6 := Lib.hid x6; have E6 := Lib.hid e6; have E62 := Lib.hid hen2
  clear h6 hF6 t6 hix k6 x6 e6 hen2 hnw2 hap2
  go_wp2_with fail
  refine hnu.mono ?_
  rintro e w7 ⟨rfl, b7⟩
  have hz7 := b7.size
  obtain ⟨r0, r1, r2, r3⟩ := rec_cells (w := w7) (b := rb) (by rw [b7.block _ (lt_of_block K6.out)]; exact K6.out)
  obtain ⟨x0, x1, x2, x3⟩ := rec_cells (w := w7) (b := xb) (by rw [b7.block _ (lt_of_block X6.out)]; exact X6.out)
  obtain ⟨g', off', e6, _, c0, c1, c2, c3, c4⟩ := ents_eA (E6.out.later b7 (Nat.le_refl _))
  cases e6
  obtain ⟨g2, off2, rfl, _, f0, f1, f2, f3, f4⟩ := ents_eA (E62.out.later b7 (Nat.le_refl _))
  have mr0 : ∀ W, Still w7 W → W.cell? ⟨rb, 0, none⟩ = some (.int .u64 3) := fun W hW => hW.cell r0
  have mr1 : ∀ W, Still w7 W → W.cell? ⟨rb, 1, none⟩ = some (.string ⟨#[107]⟩) := fun W hW => hW.cell r1
  have mr2 : ∀ W, Still w7 W → W.cell? ⟨rb, 2, none⟩ = some (.string ⟨#[118]⟩) := fun W hW => hW.cell r2
  have mr3 : ∀ W, Still w7 W → W.cell? ⟨rb, 3, none⟩ = some (.bool false) := fun W hW => hW.cell r3
  have mx0 : ∀ W, Still w7 W → W.cell? ⟨xb, 0, none⟩ = some (.int .u64 3) := fun W hW => hW.cell x0
  have mx1 : ∀ W, Still w7 W → W.cell? ⟨xb, 1, none⟩ = some (.string ⟨#[107]⟩) := fun W hW => hW.cell x1
  have mx2 : ∀ W, Still w7 W → W.cell? ⟨xb, 2, none⟩ = some (.string ⟨#[118]⟩) := fun W hW => hW.cell x2
  have mx3 : ∀ W, Still w7 W → W.cell? ⟨xb, 3, none⟩ = some (.bool false) := fun W hW => hW.cell x3
  have mc0 : ∀ W, Still w7 W → W.cell? ⟨g, off, none⟩ = some (.string ⟨#[107]⟩) := fun W hW => hW.cell c0
  have mc1 : ∀ W, Still w7 W → W.cell? ⟨g, off + 1, none⟩ = some (.int .i64 5) := fun W hW => hW.cell c1
  have mc2 : ∀ W, Still w7 W → W.cell? ⟨g, off + 2, none⟩ = some (.int .i64 5) := fun W hW => hW.cell c2
  have mc3 : ∀ W, Still w7 W → W.cell? ⟨g, off + 3, none⟩ = some (.int .u64 3) := fun W hW => hW.cell c3
  have mc4 : ∀ W, Still w7 W → W.cell? ⟨g, off + 4, none⟩ = some (.bool false) := fun W hW => hW.cell c4
  have mf0 : ∀ W, Still w7 W → W.cell? ⟨g2, off2, none⟩ = some (.string ⟨#[107]⟩) := fun W hW => hW.cell f0
  have mf1 : ∀ W, Still w7 W → W.cell? ⟨g2, off2 + 1, none⟩ = some (.int .i64 5) := fun W hW => hW.cell f1
  have mf2 : ∀ W, Still w7 W → W.cell? ⟨g2, off2 + 2, none⟩ = some (.int .i64 5) := fun W hW => hW.cell f2
  have mf3 : ∀ W, Still w7 W → W.cell? ⟨g2, off2 + 3, none⟩ = some (.int .u64 3) := fun W hW => hW.cell f3
  have mf4 : ∀ W, Still w7 W → W.cell? ⟨g2, off2 + 4, none⟩ = some (.bool false) := fun W hW => hW.cell f4
  have hal : Hid (∀ W, Still w7 W → _) := Lib.hid (fun W (hW : Still w7 W) => hC.out.all (H6.out.kept (Turn.of_below (fun _ => False) (b7.trans (Below.mono hW hz7)) (Nat.le_refl _)) (fun _ _ _ f => f)) (by simp [wA3]))
  rw [wA_all] at hal
  have K0 : Still w7 w7 := Still.refl _
  have B8 := Lib.hid (B7.out.trans (b7.mono B7.out.size))
  clear b7 hz7 r0 r1 r2 r3 x0 x1 x2 x3 c0 c1 c2 c3 c4 f0 f1 f2 f3 f4 hnu
  go_wp2_with fail
  go_region_held3 (fun W => Still w7 W) (first | assumption | exact K0 | exact K0.drew | exact Still.drew ‹_›)
    (first
      | (go_at_call 42
         refine (hal.out _ (by first | assumption | exact K0.drew | exact Still.drew ‹_›)).mono ?_
         rintro e8 w8 ⟨a8, cap8, rfl, _, b8⟩
         have hS8 := Still.call (W' := w8) (by first | assumption | exact K0.drew | exact Still.drew ‹_›) b8
         rw [show ([7] : List Int).length = 1 from rfl]))
  all_goals
    refine (‹∀ (a : Act) (w : World), Code.wp _ Code.ret _ a w → _›) _ _ ?_
    go_wp2_with fail
    go_ret
    exact ⟨rfl, B8.out.trans (Below.mono hS8 B8.out.size)⟩
end Go.Proofs.YtmekkbhblghbmaaGreatDoor
