/- The document's Put. -/
import Derived.Test.YtbndhhlekfdppaaLget
namespace Go.Proofs.Ytbndhhlekfdppaa.L
open Go.RowKit
set_option linter.unusedVariables false

/-- The items, one more than there may be room for. -/
structure Rf1 (B : Nat) (w : World) (qb most : Nat) (v : Value) (l : List It) : Prop where
  blk : w.heap[qb]? = some (.cells #[.int .i64 (most : Int), v] 44 (0, 0))
  row : Items w B v l
  base : B ≤ qb ∧ B ≤ w.heap.size
  ok : Ok most (l.take most)
  most : most ≤ 64
theorem ok_big {most : Nat} {l : List It} (h : Ok most l) (b : Bk) (s : List UInt8) : Ok most (((b, s) :: wo l b).take most) := ok_put h b s
theorem get_end' {B qb most : Nat} {v : Value} {l : List It} {w W1 w4 : World} {b : Bk} {x : It} {cs : List Value} {a4 : Option Addr} {k4 : Nat} (hb0 : Below w.heap.size w W1) (hR : Rf B W1 qb most v l) (h4o : Old W1 w4)
    (h4 : w4.ownsRow W1.heap.size 56 3 (.slice a4 (1 + (wo l b).length) k4) (1 + (wo l b).length) (cs ++ iflat (wo l b))) (hcs : iflat [x] = cs) (hok : Ok most ((x :: wo l b).take most)) :
    Rf1 B (w4.setCell ⟨qb, 1, none⟩ (.slice a4 (1 + (wo l b).length) k4)) qb most (.slice a4 (1 + (wo l b).length) k4) (x :: wo l b) ∧ (∀ k, foot qb (.slice a4 (1 + (wo l b).length) k4) k → foot qb v k ∨ w.heap.size ≤ k) ∧ Turn (foot qb v) w (w4.setCell ⟨qb, 1, none⟩ (.slice a4 (1 + (wo l b).length) k4)) := by
  have hz : w.heap.size ≤ W1.heap.size := hb0.size
  have hi : Items w4 B (.slice a4 (1 + (wo l b).length) k4) (x :: wo l b) := by
    have h5 := row_base h4 (show B ≤ W1.heap.size from hR.base.2)
    unfold Items
    rw [List.length_cons, Nat.add_comm (wo l b).length 1, show x :: wo l b = [x] ++ wo l b from rfl, iflat_append, hcs]
    exact h5
  have hR4 := hR.below h4o
  refine ⟨⟨heap_setCell_same w4 qb 1 _ _ _ hR4.blk, owns_kept hi (fun g hg => Below.heap_setCell _ _ _ _ (fun e => ?_)), ⟨hR4.base.1, by simpa using hR4.base.2⟩, hok, hR4.most⟩, fun k hk => ?_, ?_⟩
  · have h1 := (h4.lt g hg).1
    have h2 := (hR.lt (Or.inl rfl)).2
    have h3 : g = qb := e
    omega
  · rcases hk with rfl | hk
    · exact Or.inl (Or.inl rfl)
    · exact Or.inr (Nat.le_trans hz (h4.lt k hk).1)
  · exact (Turn.of_below _ (hb0.trans (h4o.mono hz)) (Nat.le_refl _)).setCell (p := ⟨qb, 1, none⟩) (Or.inl rfl) _
theorem Rf.drew' {B qb most : Nat} {v : Value} {l : List It} {w : World} (h : Rf B w qb most v l) : Rf B w.drew qb most v l := ⟨h.blk, h.row, h.base, h.ok, h.most⟩
theorem row_cap {w : World} {B : Nat} {e : TypeId} {size n c : Nat} {a : Option Addr} {xs : List Value} (h : w.ownsRow B e size (.slice a n c) n xs) (hn : 0 < n) : n ≤ c := by
  rcases h.2 with ⟨h0, h1⟩ | ⟨g, cap, cur, hv, _, _, hc, _⟩
  · omega
  · cases hv; exact hc
/-- Just those for which there is room are kept. -/
theorem put_end {B qb most : Nat} {v : Value} {l : List It} {w w5 : World} {b : Bk} {x : It} {a4 : Option Addr} {k4 : Nat} (h : Rf1 B w5 qb most (.slice a4 (1 + (wo l b).length) k4) (x :: wo l b) ∧ (∀ k, foot qb (.slice a4 (1 + (wo l b).length) k4) k → foot qb v k ∨ w.heap.size ≤ k) ∧ Turn (foot qb v) w w5) :
    ∀ m, m = min (1 + (wo l b).length) most → Rf B (w5.setCell ⟨qb, 1, none⟩ (.slice a4 m k4)) qb most (.slice a4 m k4) ((x :: wo l b).take most) ∧ (∀ k, foot qb (.slice a4 m k4) k → foot qb v k ∨ w.heap.size ≤ k) ∧ Turn (foot qb v) w (w5.setCell ⟨qb, 1, none⟩ (.slice a4 m k4)) := by
  rintro m rfl
  obtain ⟨h1, h2, h3⟩ := h
  have hlen : (x :: wo l b).length = 1 + (wo l b).length := by rw [List.length_cons]; omega
  have hr : w5.ownsRow B 56 3 (.slice a4 (1 + (wo l b).length) k4) (1 + (wo l b).length) (iflat (x :: wo l b)) := by rw [← hlen]; rw [← hlen] at h1; exact h1.row
  have hr2 := row_take hr (m := min (1 + (wo l b).length) most) (Nat.min_le_left _ _)
  have hi : Items w5 B (.slice a4 (min (1 + (wo l b).length) most) k4) ((x :: wo l b).take most) := by
    have e : (x :: wo l b).take most = (x :: wo l b).take (min (1 + (wo l b).length) most) := by
      rw [← hlen]
      by_cases hm : (x :: wo l b).length ≤ most
      · rw [Nat.min_eq_left hm, List.take_of_length_le hm, List.take_length]
      · rw [Nat.min_eq_right (by omega)]
    have e2 : ((x :: wo l b).take (min (1 + (wo l b).length) most)).length = min (1 + (wo l b).length) most := by rw [List.length_take, hlen]; omega
    unfold Items
    rw [e, iflat_take, e2]
    exact hr2
  refine ⟨⟨heap_setCell_same w5 qb 1 _ _ _ h1.blk, owns_kept hi (fun g hg => Below.heap_setCell _ _ _ _ (fun e => ?_)), ⟨h1.base.1, by simpa using h1.base.2⟩, h1.ok, h1.most⟩, fun k hk => ?_, h3.setCell (p := ⟨qb, 1, none⟩) (Or.inl rfl) _⟩
  · rcases hi.2 with ⟨hv0, _⟩ | ⟨g', cap, cur, hv0, _, hgb, _⟩
    · rw [hv0] at hg; simp [Value.ownBlock] at hg
    · rw [hv0] at hg
      obtain rfl : g' = g := by simpa [Value.ownBlock] using hg
      rw [show g' = qb from e, h1.blk] at hgb
      simp at hgb
  · refine h2 k ?_
    rcases hk with hk | hk
    · exact Or.inl hk
    · exact Or.inr (by cases a4 with
      | none => simp [Value.ownBlock] at hk
      | some A => simpa [Value.ownBlock] using hk)
set_option maxHeartbeats 2000000 in
theorem refput_any {B qb most : Nat} {v : Value} {l : List It} {w : World} (h : Rf B w qb most v l) (b : Bk) (s : List UInt8) :
    Calls Try.prog 11 #[.pointer (some ⟨qb, 0, none⟩), blkV b, .string (bs s)] w (RfPost B w qb most v (putS most l b s) (.tuple #[])) := by
  have hb0 : Below w.heap.size w (w.alloc (.cells #[.int .i64 b.seg, .int .i64 b.n] 32)) := (Below.refl _ _).alloc (Nat.le_refl _) _
  have h1 := h.below hb0
  have HH := Lib.hid h
  have hq0 := (h.lt (Or.inl rfl)).2
  have hfew : l.length ≤ 64 := by have := h.ok.few; have := h.most; omega
  have hm64 := h.most
  obtain ⟨i0, hi0, hz0, hz1, hz2⟩ := info_parts infoItem
  have HI := Lib.hid (And.intro hi0 (And.intro hz0 (And.intro hz1 hz2)))
  have hx1 : iflat [(b, s)] = [.int .i64 b.seg, .int .i64 b.n, .string (bs s)] := rfl
  have HX1 := Lib.hid hx1
  have y0 := heap_alloc_new w (.cells #[.int .i64 b.seg, .int .i64 b.n] 32)
  obtain ⟨bb, hbb⟩ : ∃ bb, bb = w.heap.size := ⟨_, rfl⟩
  have hbl : w.heap.size < (w.alloc (.cells #[.int .i64 b.seg, .int .i64 b.n] 32)).heap.size := by simp
  have hbq : bb ≠ qb := by omega
  have HB0 := Lib.hid hb0
  have HRF := Lib.hid h1
  obtain ⟨_, q1, qz⟩ := h1.cells
  have HQ1 := Lib.hid q1
  have HQZ := Lib.hid (qz 1)
  have HLW : Hid (1 + (wo l b).length ≤ 1099511627776) := Lib.hid (by have := wo_len l b; omega)
  have HW2 := Lib.hid (fun (W : World) (hW : Old (w.alloc (.cells #[.int .i64 b.seg, .int .i64 b.n] 32)) W) => refwithout_any (h1.below hW) b)
  have hzq1 : qb < (w.alloc (.cells #[.int .i64 b.seg, .int .i64 b.n] 32)).heap.size := by omega
  clear h h1 hb0 hi0 hz0 hz1 hz2 hx1 q1 qz
  unfold blkV at HW2 ⊢
  go_enter Try.func11, Try.ntmps11
  go_wp2
  generalize hW1 : World.alloc w _ = W1 at *
  rw [← hbb] at y0 hbl ⊢
  have K0 : Bt qb W1 W1 := Bt.refl _ _
  have n3 : ∀ W, Bt qb W1 W → W.cell? ⟨bb, 0, none⟩ = some (.int .i64 b.seg) := fun W hW => by rw [cell_of_row W bb 0 _ _ (0, 0) ((hW.block bb hbl hbq).trans y0)]; rfl
  have n4 : ∀ W, Bt qb W1 W → W.cell? ⟨bb, 1, none⟩ = some (.int .i64 b.n) := fun W hW => by rw [cell_of_row W bb 1 _ _ (0, 0) ((hW.block bb hbl hbq).trans y0)]; rfl
  clear hW1 y0 hbb
  generalize b.seg = ys at *
  generalize b.n = yn at *
  generalize bs s = xt at *
  go_region_held3 (fun W => Bt qb W1 W) (first | assumption | exact K0 | exact K0.drew | exact Bt.drew ‹_› | exact Bt.alloc ‹_› _ | exact Bt.set ‹_› _ _ | exact (K0.alloc _).drew | exact (K0.alloc _))
    (first
      | (go_at_call 17
         refine (HW2.out _ (by first | exact Old.refl _ | exact (Old.refl _).drew | exact ((Old.refl _).alloc _).drew | exact (Old.refl _).alloc _)).mono ?_
         rintro e w3 ⟨u, rfl, hu3, hb3⟩
         obtain ⟨ua, uc, rfl⟩ := slice_form hu3
         have O3 : Old W1 w3 := Old.below (by first | exact Old.refl _ | exact (Old.refl _).drew | exact ((Old.refl _).alloc _).drew | exact (Old.refl _).alloc _) (hb3.mono (by simp))
         have K3 : Bt qb W1 w3 := Bt.below (by first | assumption | exact K0 | exact K0.drew | exact (K0.alloc _).drew | exact (K0.alloc _)) (hb3.mono (by simp)))
      | (refine step_append_row rfl (.tmp 10) (.tmp 13) 42 (by rfl) W1.heap.size 56 i0 _ 3 32 Try.underlying42 HI.out.1 HI.out.2.1 HI.out.2.2.1 HI.out.2.2.2 (by omega) rfl _ 1 [.int .i64 ys, .int .i64 yn, .string xt] (by rfl)
           (by first
             | exact lit_row (Nat.le_refl _) ((hb3.block _ (by simp)).trans (heap_alloc_new _ _))
             | exact lit_row (by have := hb3.size; simp at this; omega) (heap_alloc_new _ _)) _ (wo l b).length (iflat (wo l b)) (by rfl)
           (src_row Try.underlying42 hu3 (iflat_one _) (fun g hg => by first | rfl | exact Below.heap_alloc _ _ _ (hu3.lt g hg).2)) HLW.out (by have := hb3.size; first | (simp at this ⊢; omega) | (simp; omega)) ?_
         intro a4 k4 w4 h4 hb4 hg4
         have K4 : Bt qb W1 w4 := Bt.below (by first | assumption | exact Bt.drew ‹_› | exact Bt.alloc ‹_› _ | exact (Bt.alloc ‹_› _).drew) hb4
         have O4 : Old W1 w4 := Old.below (by first | assumption | exact Old.drew ‹_› | exact Old.alloc ‹_› _ | exact (Old.alloc ‹_› _).drew) hb4
         have c4 := (O4.cell (p := ⟨qb, 1, none⟩) hzq1).trans HQ1.out
         have z4 := (O4.frozen (p := ⟨qb, 1, none⟩) hzq1).trans HQZ.out))
  all_goals
    have hend := get_end' HB0.out HRF.out O4 h4 HX1.out (ok_big HH.out.ok b s)
    clear n3 n4 K0 K3 K4 c4 z4
    generalize w4.setCell ⟨qb, 1, none⟩ (.slice a4 (1 + (wo l b).length) k4) = w5 at *
    have hcap : 1 + (wo l b).length ≤ k4 := row_cap h4 (by omega)
    have hrl : (wo l b).length ≤ 64 := Nat.le_trans (wo_len l b) hfew
    have HEND := Lib.hid hend
    obtain ⟨N, hN⟩ : ∃ N, N = 1 + (wo l b).length := ⟨_, rfl⟩
    have hc := fun t => cell_of_row w5 qb t _ _ (0, 0) hend.1.blk
    have d0 := hc 0; have d1 := hc 1
    simp only [List.getElem?_toArray, List.getElem?_cons_succ, List.getElem?_cons_zero] at d0 d1
    have dz : w5.frozen? ⟨qb, 1, none⟩ = false := by simp [World.frozen?, hend.1.blk]
    rw [← hN] at hcap d1 ⊢
    have hN2 : N ≤ 65 := by omega
    have HN := Lib.hid hN
    clear hend hc hN h4 hb4 hu3 hb3
    have HE2 := Lib.hid (put_end HEND.out)
    rw [← HN.out] at HE2
    go_wp2
    by_cases hNm : N ≤ most
    · have hmin : min (N : Int) (most : Int) = (N : Int) := by omega
      go_region
      all_goals
        have hfin := HE2.out N (by omega)
        go_end0
        exact ⟨rfl, _, Rf.drew' hfin.1, hfin.2.1, hfin.2.2.drew 1⟩
    · have hmin : min (N : Int) (most : Int) = (most : Int) := by omega
      go_region
      all_goals
        have hfin := HE2.out most (by omega)
        go_end0
        exact ⟨rfl, _, Rf.drew' hfin.1, hfin.2.1, hfin.2.2.drew 1⟩
end Go.Proofs.Ytbndhhlekfdppaa.L
