/- The document's Newest. -/
import Derived.Test.YtfcfleeiffmjdaaGrow
import Derived.Test.YtfcfleeiffmjdaaGput
import Derived.Deep.DeepCutAuto
import Derived.Deep.RegionHeld3
import Derived.Deep.QuietTactic
import Derived.BigQuiet
namespace Go.Proofs.Ytfcfleeiffmjdaa.G
open Go.RowKit
set_option linter.unusedVariables false
set_option linter.unusedSimpArgs false

def Old (w1 W : World) : Prop := Below w1.heap.size w1 W
theorem Old.refl (w1 : World) : Old w1 w1 := Below.refl _ _
theorem Old.drew {w1 W : World} (h : Old w1 W) : Old w1 W.drew := Below.drew h
theorem Old.alloc {w1 W : World} (h : Old w1 W) (o : Obj) : Old w1 (W.alloc o) := Below.alloc h (Below.size h) o
theorem Old.below {w1 W W' : World} (h : Old w1 W) (k : Below W.heap.size W W') : Old w1 W' := Below.trans h (k.mono (Below.size h))

/-- How much may be gone through. -/
def Room (ll : List (List Rc)) : Prop := ll.length ≤ 100000 ∧ (∀ l ∈ ll, l.length ≤ 100000) ∧ ll.flatten.length ≤ 1000000
theorem flat_take_row {ll : List (List Rc)} {i : Nat} (h : i < ll.length) : (ll.take (i + 1)).flatten = (ll.take i).flatten ++ ll[i] := by
  rw [List.take_add_one, List.getElem?_eq_getElem h, Option.toList_some, List.flatten_append, List.flatten_cons, List.flatten_nil, List.append_nil]
theorem part_len {ll : List (List Rc)} {i k : Nat} (h : i < ll.length) : ((ll.take i).flatten ++ ll[i].take k).length ≤ ll.flatten.length := by
  have e : ll = ll.take i ++ ll[i] :: ll.drop (i + 1) := by rw [List.getElem_cons_drop, List.take_append_drop]
  have e2 : ll.flatten.length = (ll.take i).flatten.length + (ll[i].length + (ll.drop (i + 1)).flatten.length) := by
    conv => lhs; rw [e]
    rw [List.flatten_append, List.flatten_cons, List.length_append, List.length_append]
  rw [List.length_append, List.length_take]
  omega
theorem nw_up (l : List Rc) : Up Rc.k (nw l) := (nw_is l).1
theorem nw_more {l : List Rc} {i : Nat} {a : List Rc} (h : i < l.length) : nw (a ++ l.take (i + 1)) = put1 (nw (a ++ l.take i)) l[i] := by
  rw [List.take_add_one, List.getElem?_eq_getElem h, Option.toList_some, ← List.append_assoc, nw_snoc]

set_option maxRecDepth 100000 in
set_option maxHeartbeats 4000000 in
theorem refnewest_any {ll : List (List Rc)} {a : Option Addr} {cap : Nat} {w : World} (hb : Bats w a ll) (hr : Room ll) (hf : Fits2 ll) :
    Calls Try.prog 10 #[.slice a ll.length cap] w fun e w' => ∃ v, e = .returned v ∧ Rw w' w.heap.size v (nw ll.flatten) ∧ Below w.heap.size w w' := by
  have HB := Lib.hid hb; have HRM := Lib.hid hr; have HF := Lib.hid hf
  obtain ⟨i0, hi, hz0, hz1, hz2⟩ := info_parts infoRec
  have HI := Lib.hid (And.intro hi (And.intro hz0 (And.intro hz1 hz2)))
  obtain ⟨n, hn⟩ : ∃ n, ll.length = n := ⟨_, rfl⟩
  have hn1 : n ≤ 100000 := by rw [← hn]; exact hr.1
  have HN := Lib.hid hn
  rw [hn]
  clear hb hr hf hi hz0 hz1 hz2 hn
  go_enter Try.func10, Try.ntmps10
  go_wp2_with fail
  go_loopg [3, 4] n (fun g ov iv wr => ∃ i : Nat, i + g = n ∧ iv = .int .i64 i ∧ Rw wr w.heap.size ov (nw (ll.take i).flatten) ∧ Old w wr)
  case atStart => exact ⟨0, by omega, rfl, Rw.nil _ _, Old.refl w⟩
  case round =>
    obtain ⟨i, hi, rfl, how, hold⟩ := hrel
    have HW := Lib.hid how; have HO := Lib.hid hold
    clear how hold
    by_cases hlt : i < n
    · have hil : i < ll.length := by rw [HN.out]; exact hlt
      obtain ⟨b1, off1, a1, cap1, rfl, hbl1, c1, r1⟩ := bat_of HB.out i hil
      have HR1 := Lib.hid r1
      have HLL := Lib.hid (HRM.out.2.1 _ (List.getElem_mem hil))
      have HPL := Lib.hid (fun k => Nat.le_trans (part_len (k := k) hil) HRM.out.2.2)
      have HFR := Lib.hid (flat_take_row hil)
      have HFI := Lib.hid (HF.out _ (List.getElem_mem hil)).1
      obtain ⟨L, hL⟩ : ∃ L, ll[i].length = L := ⟨_, rfl⟩
      rw [hL] at c1 HLL
      have HLE := Lib.hid hL
      have hL1 : L ≤ 100000 := HLL.out
      generalize hlr : ll[i] = lr at *
      have hC1 : ∀ W, Old w W → W.cell? ⟨b1, off1 + i, none⟩ = some (.slice a1 L cap1) := fun W hW => (Below.cell (p := ⟨b1, off1 + i, none⟩) hW hbl1).trans c1
      have HC1 := Lib.hid hC1
      have HB1 := Lib.hid hbl1
      clear r1 c1 hL hlr hC1 hbl1
      go_wp2_with fail
      generalize hwr : wr = w3 at *
      clear hwr
      generalize hgk : gk = G at *
      clear hgk
      go_loopg [3, 5] L (fun g ov kv wr => ∃ k : Nat, k + g = L ∧ kv = .int .i64 k ∧ Rw wr w.heap.size ov (nw ((ll.take i).flatten ++ lr.take k)) ∧ Old w wr)
      case atStart => exact ⟨0, by omega, rfl, by simpa using HW.out, HO.out⟩
      case round =>
        obtain ⟨k, hk, rfl, how, hold⟩ := hrel
        have HW4 := Lib.hid how; have HO4 := Lib.hid hold
        have c1 := HC1.out _ hold
        clear how hold
        by_cases hltk : k < L
        · have hkl : k < lr.length := by rw [HLE.out]; exact hltk
          obtain ⟨b2, off2, rfl, hbl2, d0, d1, d2, d3⟩ := cells_of (HR1.out.later HO4.out (Nat.le_refl _)) k hkl
          have HNM := Lib.hid (nw_more (a := (ll.take i).flatten) hkl)
          have HLN := Lib.hid (Nat.le_trans (nw_length _) (HPL.out k))
          have hfr := HFI.out _ (List.getElem_mem hkl)
          generalize lr[k] = r at *
          generalize hout : nw ((ll.take i).flatten ++ lr.take k) = out at *
          have HUP : Hid (Up Rc.k out) := Lib.hid (by rw [← hout]; exact nw_up _)
          clear hout
          obtain ⟨oa, oc, rfl, hoc, hom⟩ := rw_form HW4.out
          have hlen : out.length ≤ 1000000 := HLN.out
          have HFR2 := Lib.hid hfr
          have hnew := heap_alloc_new wr (.cells #[.int .u64 ((r.q : Nat) : Int), .string (bs r.k), .string (bs r.v), .bool r.g] 35)
          have HNW := Lib.hid hnew
          have HO5 := Lib.hid ((Old.refl wr).alloc (.cells #[.int .u64 ((r.q : Nat) : Int), .string (bs r.k), .string (bs r.v), .bool r.g] 35))
          clear hfr hnew
          obtain ⟨p, hp⟩ : ∃ p, pos Rc.k out r.k = p := ⟨_, rfl⟩
          have hpl : p ≤ out.length := by rw [← hp]; exact pos_le _ _
          have HP := Lib.hid hp
          obtain ⟨M, hM⟩ : ∃ M, out.length = M := ⟨_, rfl⟩
          have HM := Lib.hid hM
          have HW5 := Lib.hid (HW4.out.later HO5.out)
          rw [hM] at HW5 hoc hlen hpl ⊢
          have HBL := Lib.hid (show wr.heap.size < (wr.alloc (.cells #[.int .u64 ((r.q : Nat) : Int), .string (bs r.k), .string (bs r.v), .bool r.g] 35)).heap.size by simp)
          clear hp hM
          go_wp2_with fail
          generalize wr.heap.size = gb at *
          generalize hw8 : World.alloc wr _ = w8 at *
          clear hw8
          generalize hwr2 : wr = w4 at *
          clear hwr2
          generalize hgk2 : gk = G2 at *
          clear hgk2
          have HO8 := Lib.hid (HO4.out.below HO5.out)
          obtain ⟨b0, b1', b2', b3'⟩ : w8.cell? ⟨gb, 0, none⟩ = some (.int .u64 ((r.q : Nat) : Int)) ∧ w8.cell? ⟨gb, 1, none⟩ = some (.string (bs r.k)) ∧ w8.cell? ⟨gb, 2, none⟩ = some (.string (bs r.v)) ∧ w8.cell? ⟨gb, 3, none⟩ = some (.bool r.g) :=
            ⟨by simpa using cell_of_row w8 gb 0 _ _ (0, 0) HNW.out, by simpa using cell_of_row w8 gb 1 _ _ (0, 0) HNW.out, by simpa using cell_of_row w8 gb 2 _ _ (0, 0) HNW.out, by simpa using cell_of_row w8 gb 3 _ _ (0, 0) HNW.out⟩
          clear d0 d1 d2 d3 c1
          go_loopg [7] p (fun g tv wr => ∃ at' d : Nat, at' + g = p ∧ tv = .int .i64 at' ∧ wr = w8.drewN d)
          case atStart => exact ⟨0, 0, by omega, rfl, rfl⟩
          case round =>
            obtain ⟨t, d, ht, rfl, rfl⟩ := hrel
            have z1 : (bs r.k).size ≤ 9223372036854775807 := by rw [bs_size]; exact HFR2.out.2.1
            by_cases htM : t < M
            · obtain ⟨x, hx⟩ : ∃ x, out[t]? = some x := ⟨out[t]'(by rw [HM.out]; exact htM), List.getElem?_eq_getElem _⟩
              obtain ⟨g, hg, hBg, hgl, d0, d1, d2, d3, dz⟩ := rw_at HW5.out hx
              subst hg
              by_cases htp : t < p
              · have hlt : lt x.k r.k = true := pos_before (k := Rc.k) (by rw [HP.out]; exact htp) hx
                have hbl : Op.bytesLess (bs x.k).toList (bs r.k).toList = true := by rw [bs_toList, bs_toList]; exact hlt
                clear hlt hx d0 d2 d3 dz
                generalize bs x.k = kx at *
                generalize bs r.k = kr at *
                go_wp2_with fail
                go_quiet (fail)
                go_wp2_with fail
                go_roundg (gk - 1)
                case measure => omega
                case rel => exact ⟨t + 1, d + nq, by omega, by go_num, rfl⟩
              · obtain rfl : t = p := by omega
                have hlt : lt x.k r.k = false := pos_behind (k := Rc.k) HUP.out (by rw [HP.out]; exact Nat.le_refl _) hx
                have hbl : Op.bytesLess (bs x.k).toList (bs r.k).toList = false := by rw [bs_toList, bs_toList]; exact hlt
                have HX := Lib.hid hx
                clear hlt hx
                have q1 : ((t : Int) == (M : Int)) = false := by rw [beq_eq_false_iff_ne]; omega
                have q2 : (t == M) = false := by rw [beq_eq_false_iff_ne]; omega
                have q3 : decide ((t : Int) = (M : Int)) = false := decide_eq_false (by omega)
                have q4 : decide (t = M) = false := decide_eq_false (by omega)
                by_cases hkk : x.k = r.k
                · have hks : ((bs x.k).toList == (bs r.k).toList) = true := by rw [bs_toList, bs_toList]; simpa using hkk
                  have HKK := Lib.hid hkk
                  clear hkk
                  go_wp2_with fail
                  go_quiet (fail)
                  generalize nq = d2 at *
                  go_wp2_with fail
                  go_quiet (fail)
                  generalize nq = d3 at *
                  have HPX := Lib.hid (show out[pos Rc.k out r.k]? = some x by rw [HP.out]; exact HX.out)
                  by_cases hq : x.q ≤ r.q
                  · have HPU := Lib.hid (put1_over HUP.out HPX.out HKK.out hq)
                    rw [HP.out] at HPU
                    go_wp2_with fail
                    go_quiet (fail)
                    go_wp2_with fail
                    generalize hD : d + d2 + d3 + nq = D at *
                    have hb10 : Below w8.heap.size w8 (w8.drewN D) := below_drewN (Below.refl _ _) D
                    have hset := (rw_set (HW5.out.later hb10) (i := t) (by rw [HM.out]; exact htM) r).1
                    have hos : Old w (((((w8.drewN D).setCell ⟨g, t * 4, none⟩ (.int .u64 ((r.q : Nat) : Int))).setCell ⟨g, t * 4 + 1, none⟩ (.string (bs r.k))).setCell ⟨g, t * 4 + 2, none⟩ (.string (bs r.v))).setCell ⟨g, t * 4 + 3, none⟩ (.bool r.g)) :=
                      Below.setCell (p := ⟨g, t * 4 + 3, none⟩) (Below.setCell (p := ⟨g, t * 4 + 2, none⟩) (Below.setCell (p := ⟨g, t * 4 + 1, none⟩) (Below.setCell (p := ⟨g, t * 4, none⟩) (HO8.out.below hb10) hBg _) hBg _) hBg _) hBg _
                    go_roundg (G2 - 1)
                    case measure => omega
                    case rel => exact ⟨k + 1, by omega, by go_num, by rw [HNM.out, HPU.out]; exact hset, hos⟩
                  · have HPU := Lib.hid (put1_old HUP.out HPX.out HKK.out hq)
                    go_wp2_with fail
                    go_quiet (fail)
                    go_wp2_with fail
                    generalize hD : d + d2 + d3 + nq = D at *
                    have hb10 : Below w8.heap.size w8 (w8.drewN D) := below_drewN (Below.refl _ _) D
                    have hsame := HW5.out.later hb10
                    have hos := HO8.out.below hb10
                    go_roundg (G2 - 1)
                    case measure => omega
                    case rel => exact ⟨k + 1, by omega, by go_num, by rw [HNM.out, HPU.out]; exact hsame, hos⟩
                · have hks : ((bs x.k).toList == (bs r.k).toList) = false := by rw [bs_toList, bs_toList]; simpa using hkk
                  have HPU := Lib.hid (put1_mid HUP.out (by rw [HP.out]; exact HX.out) hkk)
                  rw [HP.out] at HPU
                  go_wp2_with fail
                  go_quiet (fail)
                  generalize nq = d2 at *
                  go_wp2_with fail
                  go_quiet (fail)
                  go_wp2_with fail
                  have hb10 : Below w8.heap.size w8 (World.drewN ((w8.drewN d).drewN d2) nq) := below_drewN (below_drewN (below_drewN (Below.refl _ _) d) d2) nq
                  generalize hw10 : World.drewN ((w8.drewN d).drewN d2) nq = w10 at *
                  clear hw10
                  have HW10 := Lib.hid (HW5.out.later hb10)
                  have HNW10 := Lib.hid ((hb10.block gb HBL.out).trans HNW.out)
                  have HBL10 := Lib.hid (Nat.lt_of_lt_of_le HBL.out hb10.size)
                  have HO10 := Lib.hid (HO8.out.below hb10)
                  clear hb10

                  obtain ⟨sa, sc, hsv, _, hcut, ⟨A, ac, htail, hsrc2⟩, hsrc1⟩ := src_recs HW10.out t (by rw [HM.out]; exact hpl)
                  rw [HM.out] at hsv htail hsrc2
                  injection hsv with e1 _ e3
                  subst e1 e3
                  have hlt1 : (out.take t).length = t := by rw [List.length_take, HM.out]; omega
                  have hld1 : (out.drop t).length = M - t := by rw [List.length_drop, HM.out]
                  rw [hlt1] at hsrc1
                  rw [hld1] at hsrc2
                  have HS1 := Lib.hid (fun W (hW : Old w10 W) => hsrc1 W (fun k hk => Below.block hW k (HW10.out.lt k hk).2))
                  have HS2 := Lib.hid (fun W (hW : Old w10 W) => hsrc2 W (fun k hk => Below.block hW k (HW10.out.lt k hk).2))
                  have HXS := Lib.hid (show flat (out.take t) ++ fl4 r ++ flat (out.drop t) = flat (put1 out r) by rw [HPU.out, flat_append, flat_append, flat_sing])
                  have HXL : Hid ((put1 out r).length = t + 1 + (M - t)) := Lib.hid (by rw [HPU.out, List.length_append, List.length_append, hlt1, hld1]; rfl)
                  have m0 : ∀ W, Old w10 W → W.cell? ⟨gb, 0, none⟩ = some (.int .u64 ((r.q : Nat) : Int)) := fun W hW => by rw [cell_of_row W gb 0 _ _ (0, 0) ((Below.block hW gb HBL10.out).trans HNW10.out)]; rfl
                  have m1 : ∀ W, Old w10 W → W.cell? ⟨gb, 1, none⟩ = some (.string (bs r.k)) := fun W hW => by rw [cell_of_row W gb 1 _ _ (0, 0) ((Below.block hW gb HBL10.out).trans HNW10.out)]; rfl
                  have m2 : ∀ W, Old w10 W → W.cell? ⟨gb, 2, none⟩ = some (.string (bs r.v)) := fun W hW => by rw [cell_of_row W gb 2 _ _ (0, 0) ((Below.block hW gb HBL10.out).trans HNW10.out)]; rfl
                  have m3 : ∀ W, Old w10 W → W.cell? ⟨gb, 3, none⟩ = some (.bool r.g) := fun W hW => by rw [cell_of_row W gb 3 _ _ (0, 0) ((Below.block hW gb HBL10.out).trans HNW10.out)]; rfl
                  have K0 := Old.refl w10
                  have hbB := HO10.out.size
                  clear hsrc1 hsrc2 hlt1 hld1 HW5 HNW HBL HO8 HO5 HPL
                  have FR := Lib.hid (show fl4 r = [.int .u64 ((r.q : Nat) : Int), .string (bs r.k), .string (bs r.v), .bool r.g] from rfl)
                  rw [FR.out] at HXS
                  have h4c : ∀ u ∈ [Value.int .u64 ((r.q : Nat) : Int), .string (bs r.k), .string (bs r.v), .bool r.g], u.oneCell' = true := flat_one [r]
                  generalize ((r.q : Nat) : Int) = Q at *
                  generalize bs r.k = Kk at *
                  generalize bs r.v = Vv at *
                  generalize r.g = Gg at *
                  go_region_held3 (fun W => Old w10 W) (first | assumption | exact K0 | exact K0.drew | exact (Old.alloc K0 _).drew | exact (Old.alloc (Old.alloc K0 _) _).drew | exact Old.alloc ‹_› _ | exact Old.drew ‹_›)
                    (first
                      | (refine step_append_row rfl (.tmp 60) (.tmp 63) 25 (by rfl) w10.heap.size 35 i0 _ 4 48 Try.underlying25 HI.out.1 HI.out.2.1 HI.out.2.2.1 HI.out.2.2.2 (by omega) rfl (.slice (some ⟨w10.heap.size, 0, none⟩) 0 0) 0 [] (by rfl)
                           (none_row (Nat.le_refl _) (drew_block (heap_alloc_new w10 _))) _ t (flat (out.take t)) (by rfl)
                           (HS1.out _ ((Old.alloc K0 _).drew)) (by omega) ((Old.alloc K0 _).drew).size ?_
                         intro a4 k4 w4 h4 hb4 hg4
                         simp only [Nat.zero_add, List.nil_append] at h4 ⊢
                         have K4 : Old w10 w4 := Below.trans ((Old.alloc K0 _).drew) hb4)
                      | (refine step_append_row rfl (.tmp 60) (.tmp 63) 25 (by rfl) w10.heap.size 35 i0 _ 4 48 Try.underlying25 HI.out.1 HI.out.2.1 HI.out.2.2.1 HI.out.2.2.2 (by omega) rfl (.slice (some ⟨w10.heap.size, 0, none⟩) 0 0) 0 [] (by rfl)
                           (none_row (Nat.le_refl _) (drew_block (two_blocks w10 _ _ _ _).1)) _ t (flat (out.take t)) (by rfl)
                           (HS1.out _ ((Old.alloc (Old.alloc K0 _) _).drew)) (by omega) ((Old.alloc (Old.alloc K0 _) _).drew).size ?_
                         intro a4 k4 w4 h4 hb4 hg4
                         simp only [Nat.zero_add, List.nil_append] at h4 ⊢
                         have K4 : Old w10 w4 := Below.trans ((Old.alloc (Old.alloc K0 _) _).drew) hb4
                         have G4 := (hg4.block (w10.heap.size + 1) (by simp) (by simp [Value.ownBlock])).trans (drew_block (two_blocks w10 _ _ _ _).2))
                      | (refine step_append_row rfl (.tmp 60) (.tmp 63) 25 (by rfl) w10.heap.size 35 i0 _ 4 48 Try.underlying25 HI.out.1 HI.out.2.1 HI.out.2.2.1 HI.out.2.2.2 (by omega) rfl (.slice (some ⟨w10.heap.size + 1, 0, none⟩) 0 0) 0 [] (by rfl)
                           (none_row (Nat.le_succ _) (drew_block (two_blocks w10 _ _ _ _).2)) _ t (flat (out.take t)) (by rfl)
                           (HS1.out _ ((Old.alloc (Old.alloc K0 _) _).drew)) (by omega) ((Old.alloc (Old.alloc K0 _) _).drew).size ?_
                         intro a4 k4 w4 h4 hb4 hg4
                         simp only [Nat.zero_add, List.nil_append] at h4 ⊢
                         have K4 : Old w10 w4 := Below.trans ((Old.alloc (Old.alloc K0 _) _).drew) hb4
                         have G4 := (hg4.block w10.heap.size (by simp; omega) (by simp [Value.ownBlock])).trans (drew_block (two_blocks w10 _ _ _ _).1))
                      | (refine step_append_row rfl (.tmp 64) (.tmp 66) 25 (by rfl) w10.heap.size 35 i0 _ 4 48 Try.underlying25 HI.out.1 HI.out.2.1 HI.out.2.2.1 HI.out.2.2.2 (by omega) rfl (.slice a4 t k4) t (flat (out.take t)) (by rfl)
                           (World.ownsRow.alloc h4 _) _ 1 [.int .u64 Q, .string Kk, .string Vv, .bool Gg] (by rfl)
                           (src_blk (heap_alloc_new w4 _) h4c) (by omega) (Old.alloc K4 _).size ?_
                         intro a5 k5 w5 h5 hb5 hg5
                         have K5 : Old w10 w5 := Below.trans (Old.alloc K4 _) hb5)
                      | (refine step_append_row rfl (.tmp 64) (.tmp 66) 25 (by rfl) w10.heap.size 35 i0 _ 4 48 Try.underlying25 HI.out.1 HI.out.2.1 HI.out.2.2.1 HI.out.2.2.2 (by omega) rfl (.slice a4 t k4) t (flat (out.take t)) (by rfl)
                           h4 _ 1 [.int .u64 Q, .string Kk, .string Vv, .bool Gg] (by rfl)
                           (src_blk G4 h4c) (by omega) K4.size ?_
                         intro a5 k5 w5 h5 hb5 hg5
                         have K5 : Old w10 w5 := Below.trans K4 hb5)
                      | (refine step_append_row rfl (.tmp 67) (.tmp 70) 25 (by rfl) w10.heap.size 35 i0 _ 4 48 Try.underlying25 HI.out.1 HI.out.2.1 HI.out.2.2.1 HI.out.2.2.2 (by omega) rfl (.slice a5 (t + 1) k5) (t + 1) (flat (out.take t) ++ [.int .u64 Q, .string Kk, .string Vv, .bool Gg]) (by rfl)
                           h5 _ (M - t) (flat (out.drop t)) (by rfl) (HS2.out _ K5) (by omega) K5.size ?_
                         intro a6 k6 w6 h6 hb6 hg6
                         have K6 : Old w10 w6 := Below.trans K5 hb6))
                  all_goals
                    have HFN : Hid (Rw w6 w.heap.size (.slice a6 (t + 1 + (M - t)) k6) (put1 out r)) := Lib.hid (by
                      have h6' := row_base h6 hbB
                      rw [HXS.out] at h6'
                      unfold Rw
                      rw [HXL.out]
                      exact h6')
                    have HOF := Lib.hid (HO10.out.below K6)
                    clear h4 h5 h6 hb4 hb5 hb6 hg4 hg5 hg6 K4 K5 K6 m0 m1 m2 m3 K0 hcut htail
                    go_wp2_with fail
                    go_roundg (G2 - 1)
                    case measure => omega
                    case rel => exact ⟨k + 1, by omega, by go_num, by rw [HNM.out]; exact HFN.out, HOF.out⟩
            · obtain rfl : t = p := by omega
              obtain rfl : t = M := by omega
              have q1 : ((t : Int) == (t : Int)) = true := by simp
              have q2 : (t == t) = true := by simp
              have q3 : decide ((t : Int) = (t : Int)) = true := decide_eq_true (by omega)
              have q4 : decide (t = t) = true := decide_eq_true (by omega)
              have HPU := Lib.hid (put1_end HUP.out (by rw [HP.out, HM.out]))
              rw [HP.out] at HPU
              go_wp2_with fail
              go_quiet (fail)
              generalize nq = d2 at *
              go_wp2_with fail
              go_quiet (fail)
              go_wp2_with fail
              have hb10 : Below w8.heap.size w8 (World.drewN ((w8.drewN d).drewN d2) nq) := below_drewN (below_drewN (below_drewN (Below.refl _ _) d) d2) nq
              generalize hw10 : World.drewN ((w8.drewN d).drewN d2) nq = w10 at *
              clear hw10
              have HW10 := Lib.hid (HW5.out.later hb10)
              have HNW10 := Lib.hid ((hb10.block gb HBL.out).trans HNW.out)
              have HBL10 := Lib.hid (Nat.lt_of_lt_of_le HBL.out hb10.size)
              have HO10 := Lib.hid (HO8.out.below hb10)
              clear hb10

              obtain ⟨sa, sc, hsv, _, hcut, ⟨A, ac, htail, hsrc2⟩, hsrc1⟩ := src_recs HW10.out t (by rw [HM.out]; exact hpl)
              rw [HM.out, Nat.sub_self] at htail hsrc2
              rw [HM.out] at hsv
              injection hsv with e1 _ e3
              subst e1 e3
              have hlt1 : (out.take t).length = t := by rw [List.length_take, HM.out]; omega
              have hld1 : (out.drop t).length = 0 := by rw [List.length_drop, HM.out, Nat.sub_self]
              rw [hlt1] at hsrc1
              rw [hld1] at hsrc2
              have HS1 := Lib.hid (fun W (hW : Old w10 W) => hsrc1 W (fun k hk => Below.block hW k (HW10.out.lt k hk).2))
              have HS2 := Lib.hid (fun W (hW : Old w10 W) => hsrc2 W (fun k hk => Below.block hW k (HW10.out.lt k hk).2))
              have HXS := Lib.hid (show flat (out.take t) ++ fl4 r ++ flat (out.drop t) = flat (put1 out r) by rw [HPU.out, flat_append, flat_append, flat_sing])
              have HXL : Hid ((put1 out r).length = t + 1) := Lib.hid (by rw [HPU.out, List.length_append, List.length_append, hlt1, hld1]; rfl)
              have m0 : ∀ W, Old w10 W → W.cell? ⟨gb, 0, none⟩ = some (.int .u64 ((r.q : Nat) : Int)) := fun W hW => by rw [cell_of_row W gb 0 _ _ (0, 0) ((Below.block hW gb HBL10.out).trans HNW10.out)]; rfl
              have m1 : ∀ W, Old w10 W → W.cell? ⟨gb, 1, none⟩ = some (.string (bs r.k)) := fun W hW => by rw [cell_of_row W gb 1 _ _ (0, 0) ((Below.block hW gb HBL10.out).trans HNW10.out)]; rfl
              have m2 : ∀ W, Old w10 W → W.cell? ⟨gb, 2, none⟩ = some (.string (bs r.v)) := fun W hW => by rw [cell_of_row W gb 2 _ _ (0, 0) ((Below.block hW gb HBL10.out).trans HNW10.out)]; rfl
              have m3 : ∀ W, Old w10 W → W.cell? ⟨gb, 3, none⟩ = some (.bool r.g) := fun W hW => by rw [cell_of_row W gb 3 _ _ (0, 0) ((Below.block hW gb HBL10.out).trans HNW10.out)]; rfl
              have K0 := Old.refl w10
              have hbB := HO10.out.size
              clear hsrc1 hsrc2 hlt1 hld1 HW5 HNW HBL HO8 HO5 HPL
              have FR := Lib.hid (show fl4 r = [.int .u64 ((r.q : Nat) : Int), .string (bs r.k), .string (bs r.v), .bool r.g] from rfl)
              rw [FR.out] at HXS
              have h4c : ∀ u ∈ [Value.int .u64 ((r.q : Nat) : Int), .string (bs r.k), .string (bs r.v), .bool r.g], u.oneCell' = true := flat_one [r]
              generalize ((r.q : Nat) : Int) = Q at *
              generalize bs r.k = Kk at *
              generalize bs r.v = Vv at *
              generalize r.g = Gg at *
              go_region_held3 (fun W => Old w10 W) (first | assumption | exact K0 | exact K0.drew | exact (Old.alloc K0 _).drew | exact (Old.alloc (Old.alloc K0 _) _).drew | exact Old.alloc ‹_› _ | exact Old.drew ‹_›)
                (first
                  | (refine step_append_row rfl (.tmp 60) (.tmp 63) 25 (by rfl) w10.heap.size 35 i0 _ 4 48 Try.underlying25 HI.out.1 HI.out.2.1 HI.out.2.2.1 HI.out.2.2.2 (by omega) rfl (.slice (some ⟨w10.heap.size, 0, none⟩) 0 0) 0 [] (by rfl)
                       (none_row (Nat.le_refl _) (drew_block (heap_alloc_new w10 _))) _ t (flat (out.take t)) (by rfl)
                       (HS1.out _ ((Old.alloc K0 _).drew)) (by omega) ((Old.alloc K0 _).drew).size ?_
                     intro a4 k4 w4 h4 hb4 hg4
                     simp only [Nat.zero_add, List.nil_append] at h4 ⊢
                     have K4 : Old w10 w4 := Below.trans ((Old.alloc K0 _).drew) hb4)
                  | (refine step_append_row rfl (.tmp 60) (.tmp 63) 25 (by rfl) w10.heap.size 35 i0 _ 4 48 Try.underlying25 HI.out.1 HI.out.2.1 HI.out.2.2.1 HI.out.2.2.2 (by omega) rfl (.slice (some ⟨w10.heap.size, 0, none⟩) 0 0) 0 [] (by rfl)
                       (none_row (Nat.le_refl _) (drew_block (two_blocks w10 _ _ _ _).1)) _ t (flat (out.take t)) (by rfl)
                       (HS1.out _ ((Old.alloc (Old.alloc K0 _) _).drew)) (by omega) ((Old.alloc (Old.alloc K0 _) _).drew).size ?_
                     intro a4 k4 w4 h4 hb4 hg4
                     simp only [Nat.zero_add, List.nil_append] at h4 ⊢
                     have K4 : Old w10 w4 := Below.trans ((Old.alloc (Old.alloc K0 _) _).drew) hb4
                     have G4 := (hg4.block (w10.heap.size + 1) (by simp) (by simp [Value.ownBlock])).trans (drew_block (two_blocks w10 _ _ _ _).2))
                  | (refine step_append_row rfl (.tmp 60) (.tmp 63) 25 (by rfl) w10.heap.size 35 i0 _ 4 48 Try.underlying25 HI.out.1 HI.out.2.1 HI.out.2.2.1 HI.out.2.2.2 (by omega) rfl (.slice (some ⟨w10.heap.size + 1, 0, none⟩) 0 0) 0 [] (by rfl)
                       (none_row (Nat.le_succ _) (drew_block (two_blocks w10 _ _ _ _).2)) _ t (flat (out.take t)) (by rfl)
                       (HS1.out _ ((Old.alloc (Old.alloc K0 _) _).drew)) (by omega) ((Old.alloc (Old.alloc K0 _) _).drew).size ?_
                     intro a4 k4 w4 h4 hb4 hg4
                     simp only [Nat.zero_add, List.nil_append] at h4 ⊢
                     have K4 : Old w10 w4 := Below.trans ((Old.alloc (Old.alloc K0 _) _).drew) hb4
                     have G4 := (hg4.block w10.heap.size (by simp; omega) (by simp [Value.ownBlock])).trans (drew_block (two_blocks w10 _ _ _ _).1))
                  | (refine step_append_row rfl (.tmp 64) (.tmp 66) 25 (by rfl) w10.heap.size 35 i0 _ 4 48 Try.underlying25 HI.out.1 HI.out.2.1 HI.out.2.2.1 HI.out.2.2.2 (by omega) rfl (.slice a4 t k4) t (flat (out.take t)) (by rfl)
                       (World.ownsRow.alloc h4 _) _ 1 [.int .u64 Q, .string Kk, .string Vv, .bool Gg] (by rfl)
                       (src_blk (heap_alloc_new w4 _) h4c) (by omega) (Old.alloc K4 _).size ?_
                     intro a5 k5 w5 h5 hb5 hg5
                     have K5 : Old w10 w5 := Below.trans (Old.alloc K4 _) hb5)
                  | (refine step_append_row rfl (.tmp 64) (.tmp 66) 25 (by rfl) w10.heap.size 35 i0 _ 4 48 Try.underlying25 HI.out.1 HI.out.2.1 HI.out.2.2.1 HI.out.2.2.2 (by omega) rfl (.slice a4 t k4) t (flat (out.take t)) (by rfl)
                       h4 _ 1 [.int .u64 Q, .string Kk, .string Vv, .bool Gg] (by rfl)
                       (src_blk G4 h4c) (by omega) K4.size ?_
                     intro a5 k5 w5 h5 hb5 hg5
                     have K5 : Old w10 w5 := Below.trans K4 hb5)
                  | (refine step_append_row rfl (.tmp 67) (.tmp 70) 25 (by rfl) w10.heap.size 35 i0 _ 4 48 Try.underlying25 HI.out.1 HI.out.2.1 HI.out.2.2.1 HI.out.2.2.2 (by omega) rfl (.slice a5 (t + 1) k5) (t + 1) (flat (out.take t) ++ [.int .u64 Q, .string Kk, .string Vv, .bool Gg]) (by rfl)
                       h5 _ (0) (flat (out.drop t)) (by rfl) (HS2.out _ K5) (by omega) K5.size ?_
                     intro a6 k6 w6 h6 hb6 hg6
                     simp only [Nat.add_zero] at h6 ⊢
                     have K6 : Old w10 w6 := Below.trans K5 hb6))
              all_goals
                have HFN : Hid (Rw w6 w.heap.size (.slice a6 (t + 1) k6) (put1 out r)) := Lib.hid (by
                  have h6' := row_base h6 hbB
                  rw [HXS.out] at h6'
                  unfold Rw
                  rw [HXL.out]
                  exact h6')
                have HOF := Lib.hid (HO10.out.below K6)
                clear h4 h5 h6 hb4 hb5 hb6 hg4 hg5 hg6 K4 K5 K6 m0 m1 m2 m3 K0 hcut htail
                go_wp2_with fail
                go_roundg (G2 - 1)
                case measure => omega
                case rel => exact ⟨k + 1, by omega, by go_num, by rw [HNM.out]; exact HFN.out, HOF.out⟩
        · obtain rfl : k = L := by omega
          have hex : (ll.take i).flatten ++ lr.take k = (ll.take (i + 1)).flatten := by rw [HFR.out, List.take_of_length_le (l := lr) (by rw [HLE.out]; exact Nat.le_refl _)]
          have HX := Lib.hid hex
          clear hex
          go_wp2_with fail
          go_roundg (G - 1)
          case measure => omega
          case rel => exact ⟨i + 1, by omega, by go_num, by rw [← HX.out]; exact HW4.out, HO4.out⟩
    · obtain rfl : i = n := by omega
      have hall : ll.take i = ll := List.take_of_length_le (by rw [HN.out]; exact Nat.le_refl _)
      have h := HW.out
      rw [hall] at h
      have HH := Lib.hid h
      clear hall h
      go_wp2_with fail
      go_ret
      exact ⟨_, rfl, HH.out, HO.out⟩
end Go.Proofs.Ytfcfleeiffmjdaa.G
