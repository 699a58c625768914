/- The law PublishWaste, over what is asked of the program's publish. -/
import Derived.Test.YtkdidinekoaobaaGreatDoorPsegs
import Derived.Test.YtkdidinekoaobaaGreatDoorPback
import Derived.Test.YtkdidinekoaobaaGreatDoorPpwaste
import Derived.Test.YtkdidinekoaobaaGreatDoorPwastew
namespace Go.Proofs.YtkdidinekoaobaaGreatDoor.P
open Go.RowKit M J
set_option linter.unusedVariables false
set_option linter.unusedSimpArgs false

/-- Two lists of the same names. -/
theorem strings_eq {w : World} {a b : Option Addr} {ca cb : Nat} {ns : List (List UInt8)} (ha : Vals w a (strs ns)) (hb : Vals w b (strs ns)) (hn : ns.length < 1000000000) :
    Calls Tryz.prog 26 #[.slice a ns.length ca, .slice b ns.length cb] w fun e w' => e = .returned (.bool true) ∧ Below w.heap.size w w' := by
  obtain ⟨L, hL⟩ : ∃ L, L = ns.length := ⟨_, rfl⟩
  rw [← hL] at hn ⊢
  have HL := Lib.hid hL; have HA := Lib.hid ha; have HB := Lib.hid hb
  clear hL ha hb
  go_enter Tryz.func26, Tryz.ntmps26
  go_wp2
  go_loopg [5] L (fun g it wr => ∃ (i q : Nat), i + g = L ∧ it = .int .i64 i ∧ wr = w.drewN q)
  case atStart => exact ⟨0, 0, by omega, rfl, rfl⟩
  case round =>
    obtain ⟨i, q, hi, rfl, rfl⟩ := hrel
    by_cases hlt : i < L
    · obtain ⟨n, hn'⟩ : ∃ n, ns[i]? = some n := ⟨ns[i]'(by have := HL.out; omega), List.getElem?_eq_getElem _⟩
      have hcell : ∀ {a : Option Addr}, Vals w a (strs ns) → ∃ g off, a = some ⟨g, off, none⟩ ∧ w.cell? ⟨g, off + i, none⟩ = some (.string (bs n)) := by
        intro a h
        obtain ⟨g, off, h1, h2⟩ := h.at (Below.refl w.heap.size w) (Nat.le_refl _) i (.string (bs n)) (by simp [strs, hn'])
        exact ⟨g, off, h1, h2⟩
      obtain ⟨ga, oa, hga, da⟩ := hcell HA.out
      obtain ⟨gb, ob, hgb, db⟩ := hcell HB.out
      subst hga hgb
      clear hcell hn'
      go_wp2
      go_quiet (fail)
      go_wp2
      go_roundg (gk - 1)
      case measure => omega
      case rel => exact ⟨i + 1, _, by omega, by go_num, rfl⟩
    · obtain rfl : i = L := by omega
      go_wp2
      go_ret
      exact ⟨rfl, ⟨rfl, rfl, rfl, Nat.le_refl _, fun _ _ => rfl⟩⟩

set_option maxRecDepth 100000 in
set_option maxHeartbeats 4000000 in
theorem waste_walk (C : PubC) (names : List (List UInt8)) (na : Option Addr) (nc : Nat) (m : Mf) (ma : Option Addr) (mc : Nat) (w : World) (hV : Vt w) (hnl : names.length ≤ 9223372036854775807) (hn : Vals w na (strs names)) (hnb : ∀ b ∈ names, b.length ≤ 9223372036854775807)
    (hin : SgsIn w ma m.segs) (hml : m.segs.length ≤ 9223372036854775807) (hf : m.fit) :
    Calls Tryz.prog 4 #[.slice na names.length nc, mfV m.ver ma m.segs.length mc] w fun e w' => e = .returned (.bool true) ∧ Below w.heap.size w w' := by
  obtain ⟨N, hN⟩ : ∃ N, N = names.length := ⟨_, rfl⟩
  obtain ⟨L, hL⟩ : ∃ L, L = m.segs.length := ⟨_, rfl⟩
  have hb1 : Below w.heap.size w (w.alloc (.cells #[.int .i64 m.ver, .slice ma m.segs.length mc] 33)) := (Below.refl _ _).alloc (Nat.le_refl _) _
  have n1 := heap_alloc_new w (.cells #[.int .i64 m.ver, .slice ma m.segs.length mc] 33)
  have HAW := Lib.hid (awake_any C (w.alloc (.cells #[.int .i64 m.ver, .slice ma m.segs.length mc] 33)) (hV.later hb1))
  rw [← hL] at hb1 n1 HAW hml
  rw [← hN] at hnl
  unfold mfV
  rw [← hL, ← hN]
  have HC := Lib.hid C; have HV := Lib.hid hV; have HN := Lib.hid hn; have HNB := Lib.hid hnb; have HIN := Lib.hid hin; have HF := Lib.hid hf; have HB1 := Lib.hid hb1; have HN1 := Lib.hid n1; have HNN := Lib.hid hN; have HLL := Lib.hid hL
  have hlt : w.heap.size < (w.alloc (.cells #[.int .i64 m.ver, .slice ma L mc] 33)).heap.size := by simp
  clear C hV hn hnb hin hf hb1 n1 hN hL
  go_enter Tryz.func4, Tryz.ntmps4
  go_wp2_with fail
  generalize w.alloc _ = w1 at *
  refine HAW.out.mono ?_
  rintro e w2 ⟨rfl, b2⟩
  have hp := (b2.block _ hlt).trans HN1.out
  obtain ⟨c0, c1⟩ := two_cells hp
  have HB := Lib.hid (HB1.out.trans (b2.mono HB1.out.size))
  have hlt2 : w.heap.size < w2.heap.size := Nat.lt_of_lt_of_le hlt b2.size
  clear hp b2 hlt
  by_cases h60 : 60 < N
  · go_wp2_with fail
    go_ret
    exact ⟨rfl, HB.out⟩
  by_cases hl60 : 60 < L
  · go_wp2_with fail
    go_ret
    exact ⟨rfl, HB.out⟩
  go_wp2_with fail
  go_loopg [6] N (fun g it wr => ∃ i : Nat, i + g = N ∧ it = .int .i64 i ∧ (∀ j x, j < i → names[j]? = some x → x.length ≤ 100) ∧ wr = w2)
  case atStart => exact ⟨0, by omega, rfl, fun j x hj => by omega, rfl⟩
  case round =>
    obtain ⟨i, hi, rfl, hall, rfl⟩ := hrel
    by_cases hlti : i < N
    · obtain ⟨x, hx⟩ : ∃ x, names[i]? = some x := ⟨names[i]'(by rw [← HNN.out]; exact hlti), List.getElem?_eq_getElem _⟩
      obtain ⟨b, off, hab, hc⟩ := HN.out.at HB.out (Nat.le_refl _) i (.string (bs x)) (by simp [strs, hx])
      have hxl := HNB.out x (List.mem_of_getElem? hx)
      have hsz : (bs x).size = x.length := bs_size _
      subst hab
      by_cases hx100 : 100 < x.length
      · have HALL := Lib.hid hall
        clear hall hx
        generalize bs x = X at *
        go_wp2_with fail
        go_ret
        exact ⟨rfl, HB.out⟩
      · have HALL2 : Hid (∀ j y, j < i + 1 → names[j]? = some y → y.length ≤ 100) := Lib.hid (fun j y hj hy => by
          by_cases e : j = i
          · subst e; rw [hx] at hy; cases hy; omega
          · exact hall j y (by omega) hy)
        clear hall hx
        generalize bs x = X at *
        go_wp2_with fail
        go_roundg (gk - 1)
        case measure => omega
        case rel => exact ⟨i + 1, by omega, by go_num, HALL2.out, rfl⟩
    · obtain rfl : i = N := by omega
      have h100 : ∀ x ∈ names, x.length ≤ 100 := fun x hx => by
        obtain ⟨j, hj, e⟩ := List.mem_iff_getElem.1 hx
        exact hall j x (by rw [HNN.out]; exact hj) (by rw [List.getElem?_eq_getElem hj, e])
      have hout : (ws m names).length ≤ 100 := Nat.le_trans (ws_len m names) (by rw [← HNN.out]; omega)
      have HWA : Hid (∀ W, Old wr W → Calls Tryz.prog 27 #[.slice na i nc, .agg #[.int .i64 m.ver, .slice ma L mc]] W fun e w' => ∃ oa oc, e = .returned (.slice oa (ws m names).length oc) ∧ Vals w' oa (strs (ws m names)) ∧ Below W.heap.size W w') := Lib.hid (fun W hW => by
        have hbW := HB.out.trans (hW.mono HB.out.size)
        have := HC.out.waste (w := W) (na := na) (nc := nc) (names := names) (m := m) (ma := ma) (mc := mc) (HV.out.later hbW) (vals_below HN.out hbW (Nat.le_refl _)) (HIN.out.later hbW (Nat.le_refl _)) HF.out (by rw [← HNN.out]; omega) h100 (by rw [← HLL.out]; omega)
        rw [← HNN.out, ← HLL.out] at this
        exact this)
      have HTO : Hid (∀ W, Old wr W → Calls Tryz.prog 12 #[.agg #[.int .i64 m.ver, .slice ma L mc]] W fun e w' => ∃ a2 c2, e = .returned (.agg #[.int .i64 m.ver, .slice a2 L c2]) ∧ SgsIn w' a2 m.segs ∧ Below W.heap.size W w') := Lib.hid (fun W hW => by
        have := to_any m ma mc W (HIN.out.later (HB.out.trans (hW.mono HB.out.size)) (Nat.le_refl _)) (by rw [← HLL.out]; omega)
        rw [← HLL.out] at this
        unfold mfV at this
        exact this.mono fun e w' ⟨a2, c2, h1, h2, _, h3⟩ => ⟨a2, c2, h1, h2, h3⟩)
      have HRW : Hid (∀ W a2 c2, Old wr W → SgsIn W a2 m.segs → Calls Tryz.prog 28 #[.slice na i nc, .agg #[.int .i64 m.ver, .slice a2 L c2]] W fun e w' => ∃ oa oc, e = .returned (.slice oa (ws m names).length oc) ∧ Vals w' oa (strs (ws m names)) ∧ Below W.heap.size W w') := Lib.hid (fun W a2 c2 hW hs => by
        have hbW := HB.out.trans (hW.mono HB.out.size)
        have := refwaste_any m a2 na c2 nc names W hs (vals_below HN.out hbW (Nat.le_refl _)) (by rw [← HNN.out]; omega) (by rw [← HLL.out]; omega) h100
        rw [← HNN.out, ← HLL.out] at this
        unfold mfV at this
        exact this.mono fun e w' ⟨oa, oc, h1, h2, h3⟩ => ⟨oa, oc, h1, vals_of_row h2, h3⟩)
      have HSS : Hid (∀ W oa oc ob od, Vals W oa (strs (ws m names)) → Vals W ob (strs (ws m names)) → Calls Tryz.prog 26 #[.slice oa (ws m names).length oc, .slice ob (ws m names).length od] W fun e w' => e = .returned (.bool true) ∧ Below W.heap.size W w') := Lib.hid (fun W oa oc ob od h1 h2 => strings_eq h1 h2 (by omega))
      have m0 : ∀ W, Old wr W → W.cell? ⟨w.heap.size, 0, none⟩ = some (.int .i64 m.ver) := fun W hW => (Below.cell (p := ⟨w.heap.size, 0, none⟩) hW hlt2).trans c0
      have m1 : ∀ W, Old wr W → W.cell? ⟨w.heap.size, 1, none⟩ = some (.slice ma L mc) := fun W hW => (Below.cell (p := ⟨w.heap.size, 1, none⟩) hW hlt2).trans c1
      have K0 := Old.refl wr
      clear c0 c1 hall h100 hout HC HV HN HNB HIN HF HAW HB1 HN1
      generalize ws m names = out at *
      generalize out.length = K at *
      go_wp2_with fail
      go_region_held3 (fun W => Old wr W) (first | assumption | exact K0 | exact K0.drew | exact Old.drew ‹_›)
        (first
          | (go_at_call 27
             (with_reducible refine (HWA.out _ (by first | assumption | exact K0 | exact K0.drew | exact Old.drew ‹_›)).mono ?_)
             rintro e8 w8 ⟨oa, oc, rfl, v8, hb8⟩
             have hO8 : Old wr w8 := Old.below (by first | assumption | exact K0 | exact K0.drew | exact Old.drew ‹_›) hb8)
          | (go_at_call 12
             (with_reducible refine (HTO.out _ (by first | assumption | exact K0 | exact K0.drew | exact Old.drew ‹_›)).mono ?_)
             rintro e9 w9 ⟨a9, c9, rfl, hs9, hb9⟩
             have hO9 : Old wr w9 := Old.below (by first | assumption | exact K0 | exact K0.drew | exact Old.drew ‹_›) hb9)
          | (go_at_call 28
             (with_reducible refine (HRW.out _ _ _ (by first | assumption | exact Old.drew ‹_›) (by first | exact hs9 | exact (hs9.later hb8 (Nat.le_refl _)))).mono ?_)
             rintro e10 w10 ⟨ob, od, rfl, v10, hb10⟩
             have hO10 : Old wr w10 := Old.below (by first | assumption | exact Old.drew ‹_›) hb10)
          | (go_at_call 26
             (with_reducible refine (HSS.out _ _ _ _ _ (by first | exact v8 | exact vals_below v8 hb10 (Nat.le_refl _) | exact vals_below (vals_below v8 hb9 (Nat.le_refl _)) hb10 (Nat.le_refl _)) (by first | exact v10 | exact vals_below v10 hb8 (Nat.le_refl _))).mono ?_)
             rintro e11 w11 ⟨rfl, hb11⟩
             have hO11 : Old wr w11 := Old.below (by first | assumption | exact Old.drew ‹_›) hb11))
      all_goals
        have HFF := Lib.hid (HB.out.trans (hO11.mono HB.out.size))
        clear m0 m1 K0 hO11
        go_wp2_with fail
        go_ret
        exact ⟨rfl, HFF.out⟩
end Go.Proofs.YtkdidinekoaobaaGreatDoor.P
