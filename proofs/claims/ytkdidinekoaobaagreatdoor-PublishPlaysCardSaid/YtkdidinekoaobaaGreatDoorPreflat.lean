/- The document's Latest. -/
import Derived.Test.YtkdidinekoaobaaGreatDoorPa
import Derived.Test.YtkdidinekoaobaaGreatDoorPoncew
import Derived.Test.YtkdidinekoaobaaGreatDoorPb
import Derived.Test.YtkdidinekoaobaaGreatDoorPplatest
namespace Go.Proofs.YtkdidinekoaobaaGreatDoor.P
open Go.RowKit M J
set_option linter.unusedVariables false
set_option linter.unusedSimpArgs false

theorem lat_9 {S : Rs} {n : List UInt8} {r : List (List UInt8)} (h : (vr n).2 = true) (h9 : gE S n = 9) : lat S (n :: r) = (used S, noMf, 9) := by rw [lat, if_neg (by rw [h]; simp), if_pos h9]
theorem lat_ok {S : Rs} {n : List UInt8} {r : List (List UInt8)} (h : (vr n).2 = true) (h0 : gE S n = 0) (h1 : (mrd (gB S n)).2 = 0) (h2 : (mrd (gB S n)).1.ver = (vr n).1) : lat S (n :: r) = (used S, (mrd (gB S n)).1, 0) := by
  rw [lat, if_neg (by rw [h]; simp), if_neg (by omega), if_pos ⟨h0, Prod.ext rfl h1, h2⟩]
theorem lat_go {S : Rs} {n : List UInt8} {r : List (List UInt8)} (h : (vr n).2 = true) (h9 : gE S n ≠ 9) (hn : ¬ (gE S n = 0 ∧ (mrd (gB S n)).2 = 0 ∧ (mrd (gB S n)).1.ver = (vr n).1)) : lat S (n :: r) = lat (used S) r := by
  rw [lat, if_neg (by rw [h]; simp), if_neg h9, if_neg (fun hh => hn ⟨hh.1, by rw [hh.2.1], hh.2.2⟩)]
theorem refver_any (s : List UInt8) (w : World) (hs : s.length ≤ 1000) : Calls Tryz.prog 34 #[.string (bs s)] w fun e w' => e = .returned (.tuple #[.int .i64 (vr s).1, .bool (vr s).2]) ∧ Below w.heap.size w w' := by
  have := refversion_any (bs s) w (by rw [bs_size]; omega)
  rw [bs_list] at this
  exact this
def RLatP (B qb : Nat) (lv sv : Value) (Z : Rs × Mf × Int) (w : World) (e : Ending) (w' : World) : Prop :=
  (∃ a' cap, e = .returned (.tuple #[mfV Z.2.1.ver a' Z.2.1.segs.length cap, .int .i64 Z.2.2]) ∧ SgsIn w' a' Z.2.1.segs) ∧ RfStep B qb lv sv w Z.1 w'

set_option maxRecDepth 100000 in
set_option maxHeartbeats 4000000 in
theorem reflatest_any {B qb : Nat} {lv sv : Value} {S : Rs} {w : World} (h : Rf B w qb lv sv S) (hS : Room S) : Calls Tryz.prog 10 #[.pointer (some ⟨qb, 0, none⟩)] w (RLatP B qb lv sv (latest S) w) := by
  have hql := (h.lt (Or.inl rfl)).2
  have hb0 : Below w.heap.size w (w.alloc (.cells #[.int .i64 0, .slice none 0 0] 41)) := (Below.refl _ _).alloc (Nat.le_refl _) _
  have HN := Lib.hid (heap_alloc_new w (.cells #[.int .i64 0, .slice none 0 0] 41))
  have HLS := Lib.hid (q_list (q_start h hb0) (by have := hS.1; omega) (by have := hS.2.2; omega))
  have HB0 := Lib.hid hb0
  have HR := Lib.hid h
  have hlt : w.heap.size < (w.alloc (.cells #[.int .i64 0, .slice none 0 0] 41)).heap.size := by simp
  have hne : qb ≠ w.heap.size := by omega
  unfold latest
  by_cases hfar : far S
  · rw [if_pos hfar]
    have hnm : namesIf S = [] := by unfold namesIf; rw [if_pos hfar]
    rw [err_far _ hfar, hnm] at HLS
    clear hfar hnm hb0 h hS
    go_enter Tryz.func10, Tryz.ntmps10
    go_wp2_with fail
    generalize w.alloc _ = w1 at *
    refine HLS.out.mono ?_
    rintro e w2 ⟨⟨va, vc, rfl, _⟩, q2, _⟩
    have h7 : w2.heap[w.heap.size]? = _ := (q_block q2 hlt hne.symm).trans HN.out
    obtain ⟨k0, k1, kf, k2⟩ := two_set h7 (.int .i64 0) (.slice none 0 0)
    obtain ⟨j0, j1⟩ := two_cells k2
    have HE := Lib.hid (q_end HR.out HB0.out q2 (two_turn (q := w.heap.size) ⟨Nat.le_refl _, hlt⟩ (.int .i64 0) (.slice none 0 0)))
    clear h7 k2 q2
    go_wp2_with fail
    generalize (w2.setCell _ _).setCell _ _ = wf at *
    exact bodyPost_ret (v := .tuple #[mfV 0 none 0 0, .int .i64 9]) (by simp [results, Tryz.results10, go_sem, j0, j1, mfV]) rfl ⟨⟨none, 0, rfl, SgsIn.nil _ _⟩, HE.out⟩
  · rw [if_neg hfar]
    have hnm : namesIf S = S.obs.map Ob.nm := by unfold namesIf; rw [if_neg hfar]
    rw [err_fine _ hfar, hnm] at HLS
    have hns : ∀ n ∈ S.obs.map Ob.nm, n.length ≤ 100 := fun n hn => by
      obtain ⟨o, ho, rfl⟩ := List.mem_map.1 hn
      exact (hS.2.1 o ho).1
    have hnl : (S.obs.map Ob.nm).length ≤ 1000 := by rw [List.length_map]; exact hS.2.2
    generalize S.obs.map Ob.nm = ns at *
    obtain ⟨S1, hS1⟩ : ∃ S1, S1 = used S := ⟨_, rfl⟩
    rw [← hS1] at HLS ⊢
    have hn1 : S1.n ≤ 900000000000 := by rw [hS1]; have := hS.1; show S.n + 1 ≤ _; omega
    have hs1 : Small 1000 S1 := by rw [hS1]; exact hS.2
    have HNS := Lib.hid hns; have HS1 := Lib.hid hs1
    clear hfar hnm hb0 h hS hns hs1 hS1
    obtain ⟨L, hL⟩ : ∃ L, L = ns.length := ⟨_, rfl⟩
    have HL := Lib.hid hL
    rw [← hL] at hnl HLS
    clear hL
    go_enter Tryz.func10, Tryz.ntmps10
    go_wp2_with fail
    generalize w.alloc _ = w1 at *
    refine HLS.out.mono ?_
    rintro e w2 ⟨⟨va, vc, rfl, hnms⟩, q2, _⟩
    have h7 : w2.heap[w.heap.size]? = _ := (q_block q2 hlt hne.symm).trans HN.out
    have hz2 := q_size q2
    obtain ⟨lv2, sv2, r2, f2, t2⟩ := q2
    have hql2 := (r2.lt (Or.inl rfl)).2
    have hrow : ∀ j n, ns[j]? = some n → ∃ g, va = some ⟨g, 0, none⟩ ∧ g ≠ qb ∧ g < w2.heap.size ∧ w2.cell? ⟨g, j, none⟩ = some (.string (bs n)) := fun j n hj => by
      have hjl : j < ns.length := (List.getElem?_eq_some_iff.1 hj).1
      rw [HL.out] at hnms
      rcases hnms.2 with ⟨e, h0⟩ | ⟨g, cap, cur, e, hB, hg, hcap, hcm, hsz, htake⟩
      · omega
      · have hva : va = some ⟨g, 0, none⟩ := by injection e
        subst hva
        exact ⟨g, rfl, by omega, (Array.getElem?_eq_some_iff.1 hg).1, by rw [World.ownsRow.cellAt hnms j (by omega)]; simp [strs, hj]⟩
    have HROW := Lib.hid hrow; have H7 := Lib.hid h7
    have HJ : Hid (∀ S' W, RfStep B qb lv2 sv2 w2 S' W → RfStep B qb lv sv w1 S' W) := Lib.hid (fun S' W ⟨lv', sv', r', f', t'⟩ => ⟨lv', sv', r', fun k hk => by
      rcases f' k hk with e | e
      · exact f2 k e
      · exact Or.inr (Nat.le_trans hz2 e), t2.trans t'⟩)
    have H2 := Lib.hid (RfStep.same r2)
    clear hrow h7 hnms r2 f2 t2 HLS
    go_wp2_with fail
    go_loopg [6] L (fun g it wr => ∃ (S' : Rs), it = .int .i64 ((g : Int) - 1) ∧ g ≤ L ∧ lat S1 ns.reverse = lat S' ((ns.take g).reverse) ∧ S'.obs = S1.obs ∧ S'.n ≤ S1.n + ((L : Int) - g) ∧ RfStep B qb lv2 sv2 w2 S' wr)
    case atStart => exact ⟨S1, by first | rfl | go_num, Nat.le_refl _, by rw [HL.out, List.take_length], rfl, by omega, H2.out⟩
    case round =>
      obtain ⟨S', rfl, hgl, hlat, hob, hn, hq⟩ := hrel
      rcases gk with _ | j
      · rw [show (((0 : Nat) : Int) - 1) = -1 from rfl]
        rw [List.take_zero, List.reverse_nil, lat] at hlat
        have q3 := HJ.out _ _ hq
        have h9 : wr.heap[w.heap.size]? = _ := (q_block hq (by omega) hne.symm).trans H7.out
        obtain ⟨k0, k1, kf, k2⟩ := two_set h9 (.int .i64 0) (.slice none 0 0)
        obtain ⟨j0, j1⟩ := two_cells k2
        have HE := Lib.hid (q_end HR.out HB0.out q3 (two_turn (q := w.heap.size) ⟨Nat.le_refl _, hlt⟩ (.int .i64 0) (.slice none 0 0)))
        have HLAT := Lib.hid hlat
        clear h9 k2 q3 hq hlat
        go_wp2_with fail
        generalize (wr.setCell _ _).setCell _ _ = wf at *
        exact bodyPost_ret (v := .tuple #[mfV 0 none 0 0, .int .i64 5]) (by simp [results, Tryz.results10, go_sem, j0, j1, mfV]) rfl (by rw [HLAT.out]; exact ⟨⟨none, 0, rfl, SgsIn.nil _ _⟩, HE.out⟩)
      · rw [show (((j + 1 : Nat) : Int) - 1) = (j : Int) by omega]
        obtain ⟨x, hx⟩ : ∃ x, ns[j]? = some x := ⟨ns[j]'(by rw [← HL.out]; omega), List.getElem?_eq_getElem _⟩
        obtain ⟨g, rfl, hgq, hg2, hgc⟩ := HROW.out j x hx
        have hxl := HNS.out x (List.mem_of_getElem? hx)
        have c0 : wr.cell? ⟨g, j, none⟩ = some (.string (bs x)) := by
          rw [← hgc]
          simp only [World.cell?, q_block hq hg2 hgq]
        have htk : (ns.take (j + 1)).reverse = x :: (ns.take j).reverse := by rw [List.take_add_one, hx]; simp
        rw [htk] at hlat
        have HVER := Lib.hid (refver_any x wr (by omega))
        have hzq := q_size hq
        clear htk hx hgc
        by_cases hv : (vr x).2 = true
        · rw [hv] at HVER
          have HV2 := Lib.hid hv
          have hGET := fun W h => q_get (S := S') (n := x) (W := W) (B := B) (qb := qb) (lv := lv2) (sv := sv2) (w1 := w2) h (by omega) (by rw [hob]; have := HS1.out.2; omega)
          have hgl2 := gB_len (S := S') (by rw [Small, hob]; exact HS1.out) x
          have HRD := Lib.hid (fun W => refread_any (gB S' x) W (by omega))
          unfold RdPost at HRD
          have HGET := Lib.hid hGET; have HLAT := Lib.hid hlat; have HOB := Lib.hid hob; have HNN := Lib.hid hn; have HQ := Lib.hid hq
          clear hGET hgl2 hv hlat hob hn hq
          have L9 := Lib.hid (fun h9 => HLAT.out.trans (lat_9 (S := S') (r := (ns.take j).reverse) HV2.out h9))
          have LOK := Lib.hid (fun h0 h1 h2 => HLAT.out.trans (lat_ok (S := S') (r := (ns.take j).reverse) HV2.out h0 h1 h2))
          have LGO := Lib.hid (fun h9 h => HLAT.out.trans (lat_go (S := S') (r := (ns.take j).reverse) HV2.out h9 h))
          generalize (vr x).1 = v at *
          generalize hge : gE S' x = ge at *
          generalize hmr : mrd (gB S' x) = M at *
          obtain ⟨m, y⟩ := M
          simp only at HRD LOK LGO
          generalize bs (gB S' x) = Bx at *
          generalize bs x = X at *
          clear hge hmr
          by_cases h9 : ge = 9
          · subst h9
            go_wp2_with fail
            refine HVER.out.mono ?_
            rintro e w3 ⟨rfl, b3⟩
            have q3 := q_below HQ.out b3
            have c3 := (b3.cell (p := ⟨g, j, none⟩) (by show g < wr.heap.size; omega)).trans c0
            clear b3 c0
            go_wp2_with fail
            refine (HGET.out _ q3).mono ?_
            rintro e w4 ⟨rfl, q4, _⟩
            clear q3 c3
            have q5 := HJ.out _ _ q4
            have h9 : w4.heap[w.heap.size]? = _ := (q_block q4 (by omega) hne.symm).trans H7.out
            obtain ⟨k0, k1, kf, k2⟩ := two_set h9 (.int .i64 0) (.slice none 0 0)
            obtain ⟨j0, j1⟩ := two_cells k2
            have HE := Lib.hid (q_end HR.out HB0.out q5 (two_turn (q := w.heap.size) ⟨Nat.le_refl _, hlt⟩ (.int .i64 0) (.slice none 0 0)))
            have HLL := Lib.hid (L9.out (by first | rfl | trivial))
            clear h9 k2 q5 q4
            go_wp2_with fail
            generalize (w4.setCell _ _).setCell _ _ = wf at *
            exact bodyPost_ret (v := .tuple #[mfV 0 none 0 0, .int .i64 9]) (by simp [results, Tryz.results10, go_sem, j0, j1, mfV]) rfl (by rw [HLL.out]; exact ⟨⟨none, 0, rfl, SgsIn.nil _ _⟩, HE.out⟩)
          · have y9 : (ge == 9) = false := by simpa using h9
            by_cases h0 : ge = 0
            · subst h0
              by_cases hy : y = 0
              · subst hy
                by_cases hvv : m.ver = v
                · have HVV := Lib.hid hvv
                  have z0 : (m.ver == v) = true := by simpa using hvv
                  clear hvv h9
                  go_wp2_with fail
                  refine HVER.out.mono ?_
                  rintro e w3 ⟨rfl, b3⟩
                  have q3 := q_below HQ.out b3
                  have c3 := (b3.cell (p := ⟨g, j, none⟩) (by show g < wr.heap.size; omega)).trans c0
                  clear b3 c0
                  go_wp2_with fail
                  refine (HGET.out _ q3).mono ?_
                  rintro e w4 ⟨rfl, q4, _⟩
                  clear q3 c3
                  go_wp2_with fail
                  refine (HRD.out _).mono ?_
                  rintro e w5 ⟨a, cap, rfl, hin, b5⟩
                  have n6 := heap_alloc_new w5 (.cells #[.int .i64 m.ver, .slice a m.segs.length cap] 41)
                  have b6 : Below w5.heap.size w5 (w5.alloc (.cells #[.int .i64 m.ver, .slice a m.segs.length cap] 41)) := (Below.refl _ _).alloc (Nat.le_refl _) _
                  obtain ⟨d0, d1⟩ := two_cells n6
                  have q6 := q_below (q_below q4 b5) b6
                  have hin6 := hin.later b6 (Nat.le_refl _)
                  clear n6 b6 b5 hin q4
                  unfold mfV
                  have q7 := HJ.out _ _ q6
                  have h9 : (w5.alloc (.cells #[.int .i64 m.ver, .slice a m.segs.length cap] 41)).heap[w.heap.size]? = _ := (q_block q6 (by omega) hne.symm).trans H7.out
                  obtain ⟨k0, k1, kf, k2⟩ := two_set h9 (.int .i64 m.ver) (.slice a m.segs.length cap)
                  obtain ⟨j0, j1⟩ := two_cells k2
                  have HE := Lib.hid (q_end HR.out HB0.out q7 (two_turn (q := w.heap.size) ⟨Nat.le_refl _, hlt⟩ (.int .i64 m.ver) (.slice a m.segs.length cap)))
                  have HI := Lib.hid (sgs_set2 hin6 h9 (.int .i64 m.ver) (.slice a m.segs.length cap))
                  have HLL := Lib.hid (LOK.out (by first | rfl | trivial) (by first | rfl | trivial) HVV.out)
                  clear h9 k2 q7 q6 hin6
                  go_wp2_with fail
                  generalize (w5.alloc _).setCell _ _ = w8 at *
                  generalize w8.setCell _ _ = wf at *
                  exact bodyPost_ret (v := .tuple #[mfV m.ver a m.segs.length cap, .int .i64 0]) (by simp [results, Tryz.results10, go_sem, j0, j1, mfV]) rfl (by rw [HLL.out]; exact ⟨⟨a, cap, rfl, HI.out⟩, HE.out⟩)
                · have z0 : (m.ver == v) = false := by simpa using hvv
                  have HLL := Lib.hid (LGO.out (by decide) (fun hh => hvv hh.2.2))
                  clear hvv h9
                  go_wp2_with fail
                  refine HVER.out.mono ?_
                  rintro e w3 ⟨rfl, b3⟩
                  have q3 := q_below HQ.out b3
                  have c3 := (b3.cell (p := ⟨g, j, none⟩) (by show g < wr.heap.size; omega)).trans c0
                  clear b3 c0
                  go_wp2_with fail
                  refine (HGET.out _ q3).mono ?_
                  rintro e w4 ⟨rfl, q4, _⟩
                  clear q3 c3
                  go_wp2_with fail
                  refine (HRD.out _).mono ?_
                  rintro e w5 ⟨a, cap, rfl, hin, b5⟩
                  have n6 := heap_alloc_new w5 (.cells #[.int .i64 m.ver, .slice a m.segs.length cap] 41)
                  have b6 : Below w5.heap.size w5 (w5.alloc (.cells #[.int .i64 m.ver, .slice a m.segs.length cap] 41)) := (Below.refl _ _).alloc (Nat.le_refl _) _
                  obtain ⟨d0, d1⟩ := two_cells n6
                  have q6 := q_below (q_below q4 b5) b6
                  have hin6 := hin.later b6 (Nat.le_refl _)
                  clear n6 b6 b5 hin q4
                  unfold mfV
                  have Q6 := Lib.hid q6
                  clear q6 hin6
                  go_wp2_with fail
                  go_roundg j
                  case measure => omega
                  case rel => exact ⟨used S', by go_num, by omega, HLL.out, HOB.out, by have := HNN.out; show S'.n + 1 ≤ _; omega, Q6.out⟩
              · have z1 : (((y : Nat) : Int) == 0) = false := by simpa using hy
                have HLL := Lib.hid (LGO.out (by decide) (fun hh => hy hh.2.1))
                clear hy h9
                go_wp2_with fail
                refine HVER.out.mono ?_
                rintro e w3 ⟨rfl, b3⟩
                have q3 := q_below HQ.out b3
                have c3 := (b3.cell (p := ⟨g, j, none⟩) (by show g < wr.heap.size; omega)).trans c0
                clear b3 c0
                go_wp2_with fail
                refine (HGET.out _ q3).mono ?_
                rintro e w4 ⟨rfl, q4, _⟩
                clear q3 c3
                go_wp2_with fail
                refine (HRD.out _).mono ?_
                rintro e w5 ⟨a, cap, rfl, hin, b5⟩
                have n6 := heap_alloc_new w5 (.cells #[.int .i64 m.ver, .slice a m.segs.length cap] 41)
                have b6 : Below w5.heap.size w5 (w5.alloc (.cells #[.int .i64 m.ver, .slice a m.segs.length cap] 41)) := (Below.refl _ _).alloc (Nat.le_refl _) _
                obtain ⟨d0, d1⟩ := two_cells n6
                have q6 := q_below (q_below q4 b5) b6
                have hin6 := hin.later b6 (Nat.le_refl _)
                clear n6 b6 b5 hin q4
                unfold mfV
                have Q6 := Lib.hid q6
                clear q6 hin6
                go_wp2_with fail
                go_roundg j
                case measure => omega
                case rel => exact ⟨used S', by go_num, by omega, HLL.out, HOB.out, by have := HNN.out; show S'.n + 1 ≤ _; omega, Q6.out⟩
            · have z2 : (ge == 0) = false := by simpa using h0
              have HLL := Lib.hid (LGO.out h9 (fun hh => h0 hh.1))
              clear h0 h9
              go_wp2_with fail
              refine HVER.out.mono ?_
              rintro e w3 ⟨rfl, b3⟩
              have q3 := q_below HQ.out b3
              have c3 := (b3.cell (p := ⟨g, j, none⟩) (by show g < wr.heap.size; omega)).trans c0
              clear b3 c0
              go_wp2_with fail
              refine (HGET.out _ q3).mono ?_
              rintro e w4 ⟨rfl, q4, _⟩
              clear q3 c3
              go_wp2_with fail
              refine (HRD.out _).mono ?_
              rintro e w5 ⟨a, cap, rfl, hin, b5⟩
              have n6 := heap_alloc_new w5 (.cells #[.int .i64 m.ver, .slice a m.segs.length cap] 41)
              have b6 : Below w5.heap.size w5 (w5.alloc (.cells #[.int .i64 m.ver, .slice a m.segs.length cap] 41)) := (Below.refl _ _).alloc (Nat.le_refl _) _
              obtain ⟨d0, d1⟩ := two_cells n6
              have q6 := q_below (q_below q4 b5) b6
              have hin6 := hin.later b6 (Nat.le_refl _)
              clear n6 b6 b5 hin q4
              unfold mfV
              have Q6 := Lib.hid q6
              clear q6 hin6
              go_wp2_with fail
              go_roundg j
              case measure => omega
              case rel => exact ⟨used S', by go_num, by omega, HLL.out, HOB.out, by have := HNN.out; show S'.n + 1 ≤ _; omega, Q6.out⟩
        · have hv : (vr x).2 = false := by simpa using hv
          rw [hv] at HVER
          have HLAT := Lib.hid (hlat.trans (lat_no hv)); have HOB := Lib.hid hob; have HNN := Lib.hid hn; have HQ := Lib.hid hq
          clear hv hlat hob hn hq
          generalize (vr x).1 = v at *
          generalize bs x = X at *
          go_wp2_with fail
          refine HVER.out.mono ?_
          rintro e w3 ⟨rfl, b3⟩
          have q3 := q_below HQ.out b3
          clear b3
          go_wp2_with fail
          go_roundg j
          case measure => omega
          case rel => exact ⟨S', by go_num, by omega, HLAT.out, HOB.out, by have := HNN.out; omega, q3⟩
end Go.Proofs.YtkdidinekoaobaaGreatDoor.P
