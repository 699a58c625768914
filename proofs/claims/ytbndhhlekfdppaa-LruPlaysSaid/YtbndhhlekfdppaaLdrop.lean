/- The document's Drop. -/
import Derived.Test.YtbndhhlekfdppaaLput
namespace Go.Proofs.Ytbndhhlekfdppaa.L
open Go.RowKit
set_option linter.unusedVariables false

set_option maxHeartbeats 1000000 in
theorem refdrop_any {B qb most : Nat} {v : Value} {l : List It} {w : World} (h : Rf B w qb most v l) (b : Int) :
    Calls Try.prog 13 #[.pointer (some ⟨qb, 0, none⟩), .int .i64 b] w (RfPost B w qb most v (dropS l b) (.int .i64 ((l.length : Int) - ((dropS l b).length : Int)))) := by
  obtain ⟨c0, c1, fz⟩ := h.cells
  have HFZ := Lib.hid (fz 1)
  clear fz c0
  obtain ⟨a, cap, rfl⟩ := slice_form h.row
  obtain ⟨L, hL⟩ : ∃ L, L = l.length := ⟨_, rfl⟩
  have hq := (h.lt (Or.inl rfl)).2
  have hfew : L ≤ 64 := by have := h.ok.few; have := h.most; omega
  have HR := Lib.hid h.row
  rw [← hL] at c1 HR
  have HL := Lib.hid hL
  have HH := Lib.hid h
  obtain ⟨i0, hi0, hz0, hz1, hz2⟩ := info_parts infoItem
  have HI := Lib.hid (And.intro hi0 (And.intro hz0 (And.intro hz1 hz2)))
  clear hL h hi0 hz0 hz1 hz2
  go_enter Try.func13, Try.ntmps13
  go_wp2
  go_loopg [5, 6] L (fun g s it wr => ∃ (i : Nat) (u : Value), i + g = L ∧ it = .int .i64 i ∧ u = s ∧ Items wr w.heap.size u (dropS (l.take i) b) ∧ Below w.heap.size w wr)
  case atStart => exact ⟨0, _, by omega, rfl, rfl, World.ownsRow_nil _ _ _ _, Below.refl _ _⟩
  case round =>
    obtain ⟨i, u, hi, rfl, rfl, hown, hbw⟩ := hrel
    have c1w := (hbw.cell (p := ⟨qb, 1, none⟩) hq).trans c1
    by_cases hlt : i < L
    · obtain ⟨x, hx⟩ : ∃ x, l[i]? = some x := ⟨l[i]'(by have := HL.out; omega), List.getElem?_eq_getElem _⟩
      obtain ⟨g, hg, _, hgl, d0, d1, d2⟩ := items_at HR.out HL.out hx
      subst hg
      have e0 := (hbw.cell (p := ⟨g, _, none⟩) hgl).trans d0
      have e1 := (hbw.cell (p := ⟨g, _, none⟩) hgl).trans d1
      have e2 := (hbw.cell (p := ⟨g, _, none⟩) hgl).trans d2
      have htk : dropS (l.take (i + 1)) b = if x.1.seg = b then dropS (l.take i) b else dropS (l.take i) b ++ [x] := by rw [List.take_add_one, hx]; exact drop_snoc _ _ _
      have hml : (dropS (l.take i) b).length ≤ i := Nat.le_trans (drop_len _ _) (List.length_take_le _ _)
      have hbz := hbw.size
      have HBW := Lib.hid hbw; have HO := Lib.hid hown
      have hx1 : iflat [x] = [.int .i64 x.1.seg, .int .i64 x.1.n, .string (bs x.2)] := rfl
      have HX1 := Lib.hid hx1
      have HLN := Lib.hid (show (dropS (l.take i) b).length + 1 ≤ 1099511627776 by omega)
      clear hx d0 d1 d2 hown hbw hx1
      by_cases hb : x.1.seg = b
      · have b1 : (x.1.seg == b) = true := by rw [hb]; simp
        rw [if_pos hb] at htk
        have HT := Lib.hid htk
        clear htk hb
        generalize x.1.seg = xs at *
        generalize x.1.n = xn at *
        go_wp2
        go_roundg (gk - 1)
        case measure => omega
        case rel => exact ⟨i + 1, _, by omega, by go_num, rfl, by rw [HT.out]; exact HO.out, HBW.out⟩
      · have b1 : (x.1.seg == b) = false := by simpa using hb
        rw [if_neg hb] at htk
        have HT := Lib.hid htk
        clear htk hb
        generalize x.1.seg = xs at *
        generalize x.1.n = xn at *
        generalize bs x.2 = xt at *
        go_wp2_with (at_builtin; refine wpList_append_row _ rfl _ _ 42 rfl w.heap.size 56 i0 _ 3 32 Try.underlying42 HI.out.1 HI.out.2.1 HI.out.2.2.1 HI.out.2.2.2 (by omega) rfl u _ _ rfl (World.ownsRow.alloc HO.out _) (.slice (some ⟨wr.heap.size, 0, none⟩) 1 1) 1 [.int .i64 xs, .int .i64 xn, .string xt] rfl (src_one3 wr xs xn xt) HLN.out (by rw [World.size_alloc]; omega) ?_; intro a' c' w3 h3 hg3 _; have H3 := Lib.hid h3; have HG3 := Lib.hid hg3; clear h3 hg3)
        go_roundg (gk - 1)
        case measure => omega
        case rel =>
          refine ⟨i + 1, _, by omega, by go_num, rfl, ?_, Below.grown (HBW.out.alloc hbz _) HG3.out (by rw [World.size_alloc]; omega) (fun j hj => (HO.out.lt j hj).1)⟩
          rw [HT.out]
          unfold Items
          rw [iflat_append, HX1.out, List.length_append]
          exact H3.out
    · obtain rfl : i = L := by omega
      have hall : l.take i = l := List.take_of_length_le (by rw [HL.out]; exact Nat.le_refl _)
      rw [hall] at hown
      obtain ⟨ua, uc, hu⟩ := slice_form hown
      obtain ⟨M, hM⟩ : ∃ M, M = (dropS l b).length := ⟨_, rfl⟩
      have hML : M ≤ i := by rw [hM, HL.out]; exact drop_len _ _
      rw [← hM] at hu
      subst hu
      have HO := Lib.hid hown
      have HM := Lib.hid hM
      have fr : wr.frozen? ⟨qb, 1, none⟩ = false := (hbw.frozen (p := ⟨qb, 1, none⟩) hq).trans HFZ.out
      have HBW := Lib.hid hbw
      clear hown hM hall hbw
      go_wp2
      go_ret
      have hR := (HH.out.below HBW.out).set (v' := .slice ua M uc) (l' := dropS l b) (row_base HO.out HH.out.base.2) (ok_drop HH.out.ok b)
      refine ⟨by rw [← HM.out, ← HL.out]; rfl, _, hR, fun k hk => ?_, (Turn.of_below _ HBW.out (Nat.le_refl _)).setCell (p := ⟨qb, 1, none⟩) (Or.inl rfl) _⟩
      rcases hk with rfl | hk
      · exact Or.inl (Or.inl rfl)
      · exact Or.inr (HO.out.lt k hk).1
end Go.Proofs.Ytbndhhlekfdppaa.L
