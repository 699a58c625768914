/- The document's Get. -/
import Derived.Test.YtbndhhlekfdppaaLref
namespace Go.Proofs.Ytbndhhlekfdppaa.L
open Go.RowKit
set_option linter.unusedVariables false

/-- What was there is as it was. -/
def Old (w1 W : World) : Prop := Below w1.heap.size w1 W
theorem Old.refl (w1 : World) : Old w1 w1 := Below.refl _ _
theorem Old.alloc {w1 W : World} (h : Old w1 W) (o : Obj) : Old w1 (W.alloc o) := Below.alloc h h.size o
theorem Old.drew {w1 W : World} (h : Old w1 W) : Old w1 W.drew := Below.drew h
theorem Old.drewN {w1 W : World} (h : Old w1 W) (q : Nat) : Old w1 (W.drewN q) := ⟨h.os, h.tape, h.output, h.size, h.block⟩
theorem Old.below {w1 W W' : World} (h : Old w1 W) (k : Below w1.heap.size W W') : Old w1 W' := Below.trans h k

/-- A struct is another. -/
theorem bk_ne {x b : Bk} (h : x ≠ b) : (x.seg == b.seg) = false ∨ ((x.seg == b.seg) = true ∧ (x.n == b.n) = false) := by
  obtain ⟨xs, xn⟩ := x
  obtain ⟨ys, yn⟩ := b
  by_cases h1 : xs = ys
  · exact Or.inr ⟨by simpa using h1, by simpa using fun h2 => h (by rw [h1, h2])⟩
  · exact Or.inl (by simpa using h1)

/-- The place of a block: p; l.length: it is not there. -/
theorem place_of (l : List It) (b : Bk) : (∃ p x, l[p]? = some x ∧ x.1 = b ∧ look l b = some x ∧ ∀ y ∈ l.take p, y.1 ≠ b) ∨ (look l b = none ∧ ∀ y ∈ l, y.1 ≠ b) := by
  induction l with
  | nil => exact Or.inr ⟨rfl, fun y hy => by cases hy⟩
  | cons z r ih =>
    by_cases hz : z.1 = b
    · exact Or.inl ⟨0, z, rfl, hz, by simp [look, hz], fun y hy => by simp at hy⟩
    · have hl : look (z :: r) b = look r b := by simp [look, hz]
      rcases ih with ⟨p, x, h1, h2, h3, h4⟩ | ⟨h1, h2⟩
      · refine Or.inl ⟨p + 1, x, h1, h2, hl.trans h3, fun y hy => ?_⟩
        rw [List.take_succ_cons] at hy
        rcases List.mem_cons.1 hy with rfl | hy
        · exact hz
        · exact h4 y hy
      · refine Or.inr ⟨hl.trans h1, fun y hy => ?_⟩
        rcases List.mem_cons.1 hy with rfl | hy
        · exact hz
        · exact h2 y hy

/-- All but block qb is as it was. -/
def Bt (qb : Nat) (w1 W : World) : Prop := Turn (fun k => k = qb) w1 W
theorem Bt.refl (qb : Nat) (w1 : World) : Bt qb w1 w1 := Turn.refl _ _
theorem Bt.drew {qb : Nat} {w1 W : World} (h : Bt qb w1 W) : Bt qb w1 W.drew := ⟨h.os, h.tape, h.output, h.size, h.block⟩
theorem Bt.below {qb : Nat} {w1 W W' : World} (h : Bt qb w1 W) (hb : Below w1.heap.size W W') : Bt qb w1 W' :=
  ⟨hb.os.trans h.os, hb.tape.trans h.tape, hb.output.trans h.output, Nat.le_trans h.size hb.size, fun k hk hn => (hb.block k hk).trans (h.block k hk hn)⟩
theorem Bt.alloc {qb : Nat} {w1 W : World} (h : Bt qb w1 W) (o : Obj) : Bt qb w1 (W.alloc o) := h.below ((Below.refl _ W).alloc h.size o)
theorem Bt.set {qb : Nat} {w1 W : World} (h : Bt qb w1 W) (j : Nat) (v : Value) : Bt qb w1 (W.setCell ⟨qb, j, none⟩ v) := Turn.setCell (p := ⟨qb, j, none⟩) h rfl v
theorem lit_row {W : World} {B lb : Nat} {x0 x1 x2 : Value} (hB : B ≤ lb) (h : W.heap[lb]? = some (.cells #[x0, x1, x2] 56 (0, 0))) : W.ownsRow B 56 3 (.slice (some ⟨lb, 0, none⟩) 1 1) 1 [x0, x1, x2] :=
  ⟨rfl, Or.inr ⟨lb, 1, _, rfl, hB, h, Nat.le_refl _, by unfold maxLen; omega, rfl, rfl⟩⟩

/-- Behind Get and Put: the new items are laid. -/
theorem get_end {B qb most : Nat} {v : Value} {l : List It} {w W0 W1 w4 : World} {b : Bk} {x : It} {cs : List Value} {a4 : Option Addr} {c4 : Nat} (hb0 : Below w.heap.size w W0) (hb3 : Below W0.heap.size W0 W1) (hR : Rf B W1 qb most v l) (h4o : Old W1 w4)
    (h4 : w4.ownsRow W1.heap.size 56 3 (.slice a4 (1 + (wo l b).length) c4) (1 + (wo l b).length) (cs ++ iflat (wo l b))) (hcs : iflat [x] = cs) (hok : Ok most (x :: wo l b)) :
    Rf B (w4.setCell ⟨qb, 1, none⟩ (.slice a4 (1 + (wo l b).length) c4)) qb most (.slice a4 (1 + (wo l b).length) c4) (x :: wo l b) ∧ (∀ k, foot qb (.slice a4 (1 + (wo l b).length) c4) k → foot qb v k ∨ w.heap.size ≤ k) ∧ Turn (foot qb v) w (w4.setCell ⟨qb, 1, none⟩ (.slice a4 (1 + (wo l b).length) c4)) := by
  have hz : w.heap.size ≤ W1.heap.size := Nat.le_trans hb0.size hb3.size
  have hi : Items w4 B (.slice a4 (1 + (wo l b).length) c4) (x :: wo l b) := by
    have h5 := row_base h4 (show B ≤ W1.heap.size from hR.base.2)
    unfold Items
    rw [List.length_cons, Nat.add_comm (wo l b).length 1, show x :: wo l b = [x] ++ wo l b from rfl, iflat_append, hcs]
    exact h5
  refine ⟨(hR.below h4o).set hi hok, fun k hk => ?_, ?_⟩
  · rcases hk with rfl | hk
    · exact Or.inl (Or.inl rfl)
    · exact Or.inr (Nat.le_trans hz (h4.lt k hk).1)
  · exact (Turn.of_below _ ((hb0.trans (hb3.mono hb0.size)).trans (h4o.mono hz)) (Nat.le_refl _)).setCell (p := ⟨qb, 1, none⟩) (Or.inl rfl) _
set_option maxHeartbeats 2000000 in
theorem refget_any {B qb most : Nat} {v : Value} {l : List It} {w : World} (h : Rf B w qb most v l) (b : Bk) :
    Calls Try.prog 9 #[.pointer (some ⟨qb, 0, none⟩), blkV b] w (RfPost B w qb most v (getS l b) (.tuple #[.string (bs (textOf l b)), .bool (hasB l b)])) := by
  have hb0 : Below w.heap.size w (w.alloc (.cells #[.int .i64 b.seg, .int .i64 b.n] 32)) := (Below.refl _ _).alloc (Nat.le_refl _) _
  have h1 := h.below hb0
  have HH := Lib.hid h
  have H1 := Lib.hid h1
  obtain ⟨c0, c1, fz⟩ := h1.cells
  clear fz c0
  obtain ⟨a, cap, rfl⟩ := slice_form h1.row
  obtain ⟨L, hL⟩ : ∃ L, L = l.length := ⟨_, rfl⟩
  have hq := (h1.lt (Or.inl rfl)).2
  have hfew : L ≤ 64 := by have := h.ok.few; have := h.most; omega
  have HR := Lib.hid h1.row
  rw [← hL] at c1 HR
  have HL := Lib.hid hL
  have y0 := heap_alloc_new w (.cells #[.int .i64 b.seg, .int .i64 b.n] 32)
  obtain ⟨bb, hbb⟩ : ∃ bb, bb = w.heap.size := ⟨_, rfl⟩
  have hbl : w.heap.size < (w.alloc (.cells #[.int .i64 b.seg, .int .i64 b.n] 32)).heap.size := by simp
  have HB0 := Lib.hid hb0
  have HBQ : Hid (bb ≠ qb) := Lib.hid (by have := (h.lt (Or.inl rfl)).2; omega)
  have HP := Lib.hid (place_of l b)
  obtain ⟨i0, hi0, hz0, hz1, hz2⟩ := info_parts infoItem
  have HI := Lib.hid (And.intro hi0 (And.intro hz0 (And.intro hz1 hz2)))
  clear hi0 hz0 hz1 hz2
  clear hL h h1 hb0
  unfold blkV
  go_enter Try.func9, Try.ntmps9
  go_wp2
  generalize hW0 : World.alloc w _ = W0 at *
  rw [← hbb] at y0 hbl ⊢
  have hcl := fun t => cell_of_row W0 bb t _ _ (0, 0) y0
  have f0 := hcl 0; have f1 := hcl 1
  simp only [List.getElem?_toArray, List.getElem?_cons_succ, List.getElem?_cons_zero] at f0 f1
  clear hcl hW0 y0 hbb
  obtain ⟨p, hpL, hpn, hpy, hpe⟩ : ∃ p, p ≤ L ∧ (∀ i y, i < p → l[i]? = some y → y.1 ≠ b) ∧ (p < L → ∃ x, l[p]? = some x ∧ x.1 = b ∧ look l b = some x) ∧ (p = L → look l b = none) := by
    rcases HP.out with ⟨p, x, h1, h2, h3, h4⟩ | ⟨h1, h2⟩
    · have hp := (List.getElem?_eq_some_iff.1 h1).1
      refine ⟨p, by rw [HL.out]; omega, fun i y hi hy => h4 y ?_, fun _ => ⟨x, h1, h2, h3⟩, fun e => by rw [HL.out] at e; omega⟩
      exact List.mem_of_getElem? (i := i) (by rw [List.getElem?_take, if_pos hi]; exact hy)
    · exact ⟨L, Nat.le_refl _, fun i y _ hy => h2 y (List.mem_of_getElem? hy), fun e => by omega, fun _ => h1⟩
  have HPN := Lib.hid hpn; have HPY := Lib.hid hpy; have HPE := Lib.hid hpe
  clear hpn hpy hpe HP
  go_loopg [6] p (fun g it wr => ∃ i : Nat, i + g = p ∧ it = .int .i64 i ∧ Below W0.heap.size W0 wr)
  case atStart => exact ⟨0, by omega, rfl, Below.refl _ _⟩
  case round =>
    obtain ⟨i, hi, rfl, hbw⟩ := hrel
    have c1w := (hbw.cell (p := ⟨qb, 1, none⟩) hq).trans c1
    have k0 := (hbw.cell (p := ⟨bb, 0, none⟩) hbl).trans f0
    have k1 := (hbw.cell (p := ⟨bb, 1, none⟩) hbl).trans f1
    by_cases hiL : i < L
    · obtain ⟨x, hx⟩ : ∃ x, l[i]? = some x := ⟨l[i]'(by have := HL.out; omega), List.getElem?_eq_getElem _⟩
      obtain ⟨g, hg, _, hgl, d0, d1, d2⟩ := items_at HR.out HL.out hx
      subst hg
      have e0 := (hbw.cell (p := ⟨g, _, none⟩) hgl).trans d0
      have e1 := (hbw.cell (p := ⟨g, _, none⟩) hgl).trans d1
      have e2 := (hbw.cell (p := ⟨g, _, none⟩) hgl).trans d2
      have HBW := Lib.hid hbw
      clear d0 d1 d2 c1 f0 f1 hbw
      by_cases hip : i < p
      · have hne := bk_ne (HPN.out i x hip hx)
        clear hx
        generalize x.1.seg = xs at *
        generalize x.1.n = xn at *
        generalize b.seg = ys at *
        generalize b.n = yn at *
        clear e2
        rcases hne with b1 | ⟨b1, b2⟩
        all_goals
          go_wp2
          go_quiet (fail)
          have HB2 := Lib.hid (HBW.out.trans ((below_drewN (Below.refl wr.heap.size wr) nq).mono HBW.out.size))
          generalize wr.drewN nq = w2 at *
          go_wp2
          go_roundg (gk - 1)
          case measure => omega
          case rel => exact ⟨i + 1, by omega, by go_num, HB2.out⟩
      · obtain rfl : i = p := by omega
        obtain ⟨x', hx', hxb, hlk⟩ := HPY.out hiL
        obtain rfl : x = x' := Option.some.inj (hx.symm.trans hx')
        have b1 : (x.1.seg == b.seg) = true := by rw [hxb]; simp
        have b2 : (x.1.n == b.n) = true := by rw [hxb]; simp
        have HOKg := Lib.hid (ok_get HH.out.ok b)
        have hgs : getS l b = x :: wo l b := by unfold getS; rw [hlk]
        have hts : textOf l b = x.2 := by unfold textOf; rw [hlk]; rfl
        have hhs : hasB l b = true := by unfold hasB; rw [hlk]; rfl
        have hx1 : iflat [x] = [.int .i64 x.1.seg, .int .i64 x.1.n, .string (bs x.2)] := rfl
        have HW2 := Lib.hid (fun (W : World) (hW : Below W0.heap.size W0 W) => refwithout_any (H1.out.below hW) b)
        unfold blkV at HW2
        rw [hgs] at HOKg
        have HGS := Lib.hid hgs; have HX1 := Lib.hid hx1
        rw [hts, hhs]
        clear hx hx' hxb hlk hgs hx1 hts hhs HPY HPN HPE
        generalize x.1.seg = xs at *
        generalize x.1.n = xn at *
        generalize bs x.2 = xt at *
        generalize b.seg = ys at *
        generalize b.n = yn at *
        go_wp2
        go_quiet (fail)
        have HB2 := Lib.hid (HBW.out.trans ((below_drewN (Below.refl wr.heap.size wr) nq).mono HBW.out.size))
        have e0q : (wr.drewN nq).cell? ⟨g, i * 3, none⟩ = some (.int .i64 xs) := e0
        have e1q : (wr.drewN nq).cell? ⟨g, i * 3 + 1, none⟩ = some (.int .i64 xn) := e1
        have e2q : (wr.drewN nq).cell? ⟨g, i * 3 + 2, none⟩ = some (.string xt) := e2
        have c1q : (wr.drewN nq).cell? ⟨qb, 1, none⟩ = some (.slice (some ⟨g, 0, none⟩) L cap) := c1w
        have k0q : (wr.drewN nq).cell? ⟨bb, 0, none⟩ = some (.int .i64 ys) := k0
        have k1q : (wr.drewN nq).cell? ⟨bb, 1, none⟩ = some (.int .i64 yn) := k1
        generalize wr.drewN nq = w2 at *
        clear e0 e1 e2 c1w k0 k1
        go_wp2
        have y1 := heap_alloc_new w2 (.cells #[.int .i64 xs, .int .i64 xn, .string xt] 56)
        have hO1 : Old w2 (w2.alloc (.cells #[.int .i64 xs, .int .i64 xn, .string xt] 56)) := (Old.refl _).alloc _
        have HB3 := Lib.hid (HB2.out.trans (hO1.mono HB2.out.size))
        obtain ⟨xb, hxb⟩ : ∃ xb, xb = w2.heap.size := ⟨_, rfl⟩
        have hxl : w2.heap.size < (w2.alloc (.cells #[.int .i64 xs, .int .i64 xn, .string xt] 56)).heap.size := by simp
        have hzq : qb < w2.heap.size := Nat.lt_of_lt_of_le hq HB2.out.size
        have hzb : bb < w2.heap.size := Nat.lt_of_lt_of_le hbl HB2.out.size
        have k0r := (hO1.cell (p := ⟨bb, 0, none⟩) hzb).trans k0q
        have k1r := (hO1.cell (p := ⟨bb, 1, none⟩) hzb).trans k1q
        generalize hW1 : World.alloc w2 _ = W1 at *
        rw [← hxb] at y1 hxl ⊢
        have hxq : xb ≠ qb := by omega
        have hbq : bb ≠ qb := HBQ.out
        have K0 : Bt qb W1 W1 := Bt.refl _ _
        have n0 : ∀ W, Bt qb W1 W → W.cell? ⟨xb, 0, none⟩ = some (.int .i64 xs) := fun W hW => by rw [cell_of_row W xb 0 _ _ (0, 0) ((hW.block xb hxl hxq).trans y1)]; rfl
        have n1 : ∀ W, Bt qb W1 W → W.cell? ⟨xb, 1, none⟩ = some (.int .i64 xn) := fun W hW => by rw [cell_of_row W xb 1 _ _ (0, 0) ((hW.block xb hxl hxq).trans y1)]; rfl
        have n2 : ∀ W, Bt qb W1 W → W.cell? ⟨xb, 2, none⟩ = some (.string xt) := fun W hW => by rw [cell_of_row W xb 2 _ _ (0, 0) ((hW.block xb hxl hxq).trans y1)]; rfl
        have hbl1 : bb < W1.heap.size := by omega
        have n3 : ∀ W, Bt qb W1 W → W.cell? ⟨bb, 0, none⟩ = some (.int .i64 ys) := fun W hW => by rw [World.cell?_of_block (w := W1) (a := ⟨bb, 0, none⟩) (hW.block bb hbl1 hbq)]; exact k0r
        have n4 : ∀ W, Bt qb W1 W → W.cell? ⟨bb, 1, none⟩ = some (.int .i64 yn) := fun W hW => by rw [World.cell?_of_block (w := W1) (a := ⟨bb, 1, none⟩) (hW.block bb hbl1 hbq)]; exact k1r
        have hRf := H1.out.below HB3.out
        obtain ⟨_, q1, qz⟩ := hRf.cells
        have HQ1 := Lib.hid q1
        have HQZ := Lib.hid (qz 1)
        have HRF := Lib.hid hRf
        have hzq1 : qb < W1.heap.size := by omega
        clear q1 qz hRf
        have HLW : Hid (1 + (wo l b).length ≤ 1099511627776) := Lib.hid (by have := wo_len l b; have := HL.out; omega)
        have HW3 := Lib.hid (fun (W : World) (hW : Old W1 W) => HW2.out W (HB3.out.trans (hW.mono HB3.out.size)))
        clear hxb k0r k1r k0q k1q e0q e1q e2q c1q y1 hO1 hW1 HW2
        go_region_held3 (fun W => Bt qb W1 W) (first | assumption | exact K0 | exact K0.drew | exact Bt.drew ‹_› | exact Bt.alloc ‹_› _ | exact Bt.set ‹_› _ _ | exact (K0.alloc _).drew | exact (K0.alloc _))
          (first
            | (go_at_call 17
               refine (HW3.out _ (by first | exact Old.refl _ | exact (Old.refl _).drew | exact ((Old.refl _).alloc _).drew | exact (Old.refl _).alloc _)).mono ?_
               rintro e w3 ⟨u, rfl, hu3, hb3⟩
               obtain ⟨ua, uc, rfl⟩ := slice_form hu3
               have O3 : Old W1 w3 := Old.below (by first | exact Old.refl _ | exact (Old.refl _).drew | exact ((Old.refl _).alloc _).drew | exact (Old.refl _).alloc _) (hb3.mono (by simp))
               have K3 : Bt qb W1 w3 := Bt.below (by first | assumption | exact K0 | exact K0.drew | exact (K0.alloc _).drew | exact (K0.alloc _)) (hb3.mono (by simp)))
            | (refine step_append_row rfl (.tmp 36) (.tmp 39) 42 (by rfl) W1.heap.size 56 i0 _ 3 32 Try.underlying42 HI.out.1 HI.out.2.1 HI.out.2.2.1 HI.out.2.2.2 (by omega) rfl _ 1 [.int .i64 xs, .int .i64 xn, .string xt] (by rfl)
                 (by first
                   | exact lit_row (Nat.le_refl _) ((hb3.block _ (by simp)).trans (heap_alloc_new _ _))
                   | exact lit_row (by have := hb3.size; simp at this; omega) (heap_alloc_new _ _)) _ (wo l b).length (iflat (wo l b)) (by rfl)
                 (src_row Try.underlying42 hu3 (iflat_one _) (fun g hg => by first | rfl | exact Below.heap_alloc _ _ _ (hu3.lt g hg).2)) HLW.out (by have := hb3.size; first | (simp at this ⊢; omega) | (simp; omega)) ?_
               intro a4 k4 w4 h4 hb4 hg4
               have K4 : Bt qb W1 w4 := Bt.below (by first | assumption | exact Bt.drew ‹_› | exact Bt.alloc ‹_› _ | exact (Bt.alloc ‹_› _).drew) hb4
               have O4 : Old W1 w4 := Old.below (by first | assumption | exact Old.drew ‹_› | exact Old.alloc ‹_› _ | exact (Old.alloc ‹_› _).drew) hb4
               have c4 := (O4.cell (p := ⟨qb, 1, none⟩) hzq1).trans HQ1.out
               have z4 := (O4.frozen (p := ⟨qb, 1, none⟩) hzq1).trans HQZ.out))
        all_goals
          have K5 := K4.set 1 (.slice a4 (1 + (wo l b).length) k4)
          have hend := get_end HB0.out HB3.out HRF.out O4 h4 HX1.out HOKg.out
          have e2r := n2 _ K5
          clear n0 n1 n2 n3 n4 K0 K3 K4 K5 c4 z4
          generalize w4.setCell ⟨qb, 1, none⟩ (.slice a4 (1 + (wo l b).length) k4) = w5 at *
          rw [← HGS.out] at hend
          go_wp2
          go_ret2
          exact ⟨rfl, _, hend⟩
    · obtain rfl : i = p := by omega
      obtain rfl : i = L := by omega
      have hlk := HPE.out rfl
      have hgs : getS l b = l := by unfold getS; rw [hlk]
      have hts : textOf l b = [] := by unfold textOf; rw [hlk]; rfl
      have hhs : hasB l b = false := by unfold hasB; rw [hlk]; rfl
      have HTS := Lib.hid hts; have HHS := Lib.hid hhs
      have hend : Rf B wr qb most (.slice a l.length cap) (getS l b) := by rw [hgs]; exact H1.out.below hbw
      have HE := Lib.hid hend
      have HB2 := Lib.hid (HB0.out.trans (hbw.mono HB0.out.size))
      clear hlk hgs hts hhs hend hbw
      go_wp2
      go_ret2
      exact ⟨by rw [HTS.out, HHS.out]; rfl, _, HE.out, fun k hk => Or.inl hk, Turn.of_below _ HB2.out (Nat.le_refl _)⟩
end Go.Proofs.Ytbndhhlekfdppaa.L
