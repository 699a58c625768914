/- The program's Waste. -/
import Derived.Test.YtkdidinekoaobaaGreatDoorPpset
import Derived.Test.YtkdidinekoaobaaGreatDoorPpsort
import Derived.Test.YtkdidinekoaobaaGreatDoorBb
namespace Go.Proofs.YtkdidinekoaobaaGreatDoor.P
open Go.RowKit Go.Shelf Go.Maps Go.Sort M J
set_option linter.unusedVariables false
set_option linter.unusedSimpArgs false

/-- From the sorted row to the compacted one. -/
theorem left_of {w0 w1 : World} {B C g cap n nn q : Nat} {os : Array Obj} {ss : List (List UInt8)} (hown : w1.ownsRow B 9 1 (.slice (some ⟨g, 0, none⟩) n cap) n (strs ss)) (hbel : Below C w0 w1) (hB1 : C ≤ w1.heap.size) (hbg : C ≤ g) (hCB : C ≤ B) (hlen : ss.length = n) :
    ∀ W, W = putRow encStr (Sort.ahead (grow (putRow encStr (Sort.ahead w1 nn) g 0 (ss.mergeSort fun x y => decide (x ≤ y)).toArray) os) q) g 0 (Lib.compact (ss.mergeSort fun x y => decide (x ≤ y)) ++ List.replicate (n - (Lib.compact (ss.mergeSort fun x y => decide (x ≤ y))).length) []).toArray →
      W.ownsRow B 9 1 (.slice (some ⟨g, 0, none⟩) (Lib.compact (ss.mergeSort fun x y => decide (x ≤ y))).length cap) (Lib.compact (ss.mergeSort fun x y => decide (x ≤ y))).length (strs (Lib.compact (ss.mergeSort fun x y => decide (x ≤ y)))) ∧ Below C w0 W := by
  intro W hW
  subst hW
  have hl2 : (ss.mergeSort fun x y => decide (x ≤ y)).length = ss.length := List.length_mergeSort ss
  have hle := Lib.compact_length_le (ss.mergeSort fun x y => decide (x ≤ y))
  subst hlen
  rcases hown.2 with ⟨h0, _⟩ | ⟨g', cap', cur, hv, hbase, hb, h1, h2, h3, h4⟩
  · cases h0
  cases hv
  have hs := ownsRow_sorted (n := nn) (os := os) (ts := ss.mergeSort fun x y => decide (x ≤ y)) hl2 hbase hb h1 h2 h3
  have hc := Lib.ownsRow_putRow (q := q) (k := (Lib.compact (ss.mergeSort fun x y => decide (x ≤ y))).length) (ys := Lib.compact (ss.mergeSort fun x y => decide (x ≤ y)) ++ List.replicate (ss.length - (Lib.compact (ss.mergeSort fun x y => decide (x ≤ y))).length) []) hs (by simp; omega) (by omega)
  rw [List.take_left] at hc
  exact ⟨hc, Lib.below_putRow (hbel.grown (grownBy_sorted _) hB1 (fun j hj => by cases hj; omega)) hbg⟩
theorem vals_of_row {w : World} {B : Nat} {a : Option Addr} {c : Nat} {l : List (List UInt8)} (h : w.ownsRow B 9 1 (.slice a l.length c) l.length (strs l)) : Vals w a (strs l) := fun i hi => by
  rcases h.2 with ⟨e, h0⟩ | ⟨g, cap, cur, e, hB, hg, hcap, hcm, hsz, htake⟩
  · simp [strs, h0] at hi
  · cases e
    have hil : i < l.length := by simpa [strs] using hi
    refine ⟨g, 0, rfl, (Array.getElem?_eq_some_iff.1 hg).1, ?_⟩
    rw [Nat.zero_add, h.cellAt i (by omega)]
    exact List.getElem?_eq_getElem hi

set_option maxRecDepth 100000 in
set_option maxHeartbeats 4000000 in
theorem pwaste_any {w : World} {na ma : Option Addr} {nc mc : Nat} {names : List (List UInt8)} {m : Mf} (hV : Vt w) (hn : Vals w na (strs names)) (hin : SgsIn w ma m.segs) (hf : m.fit) (hl : names.length ≤ 100) (hns : ∀ n ∈ names, n.length ≤ 100) (hml : m.segs.length ≤ 100) :
    Calls Tryz.prog 27 #[.slice na names.length nc, mfV m.ver ma m.segs.length mc] w fun e w' => ∃ oa oc, e = .returned (.slice oa (ws m names).length oc) ∧ Vals w' oa (strs (ws m names)) ∧ Below w.heap.size w w' := by
  have hmm := @run_makeMap Tryz.prog
  obtain ⟨w1, hw1⟩ : ∃ w1, w1 = w.alloc (.cells #[.int .i64 m.ver, .slice ma m.segs.length mc] 33) := ⟨_, rfl⟩
  obtain ⟨w3, hw3⟩ : ∃ w3, w3 = (w1.alloc (.map #[] 0)).alloc (.cells #[.map (some (w.heap.size + 1))] 100) := ⟨_, rfl⟩
  have hz1 : w1.heap.size = w.heap.size + 1 := by rw [hw1]; simp
  have hz3 : w3.heap.size = w.heap.size + 3 := by rw [hw3]; simp [hz1]
  have b1 : Below w.heap.size w w1 := by rw [hw1]; exact (Below.refl _ _).alloc (Nat.le_refl _) _
  have b13 : Below w1.heap.size w1 w3 := by rw [hw3]; exact ((Below.refl _ _).alloc (Nat.le_refl _) _).alloc (by simp) _
  have b3 : Below w.heap.size w w3 := b1.trans (b13.mono b1.size)
  have n1 : w3.heap[w.heap.size]? = some (.cells #[.int .i64 m.ver, .slice ma m.segs.length mc] 33 (0, 0)) := by rw [b13.block _ (by omega), hw1]; exact heap_alloc_new w _
  have n3 : w3.heap[w.heap.size + 1 + 1]? = some (.cells #[.map (some (w.heap.size + 1))] 100 (0, 0)) := by
    rw [hw3]
    have := heap_alloc_new (w1.alloc (.map #[] 0)) (.cells #[.map (some (w.heap.size + 1))] 100)
    rw [World.size_alloc, hz1] at this
    exact this
  have hs3 : ISet w3 (w.heap.size + 1) 0 [] := by
    have h0 := ISet.made w1
    rw [hz1] at h0
    refine h0.kept ?_
    rw [hw3]
    exact Below.heap_alloc _ _ _ (by simp [hz1])
  obtain ⟨L, hL⟩ : ∃ L, L = m.segs.length := ⟨_, rfl⟩
  obtain ⟨N, hN⟩ : ∃ N, N = names.length := ⟨_, rfl⟩
  have HL := Lib.hid hL; have HN := Lib.hid hN
  rw [← hL] at hml n1 hw1
  rw [← hN] at hl
  unfold mfV
  rw [← hL, ← hN]
  have c0 : w1.cell? ⟨w.heap.size, 1, none⟩ = some (.slice ma L mc) := by rw [cell_of_row w1 _ 1 _ _ (0, 0) (by rw [hw1]; exact heap_alloc_new w _)]; rfl
  have HW1 := Lib.hid hw1; have HW3 := Lib.hid hw3; have HB3 := Lib.hid b3; have HN1 := Lib.hid n1; have HN3 := Lib.hid n3; have HS3 := Lib.hid hs3; have HZ1 := Lib.hid hz1; have HZ3 := Lib.hid hz3; have HIN := Lib.hid hin; have HV := Lib.hid hV; have HNA := Lib.hid hn; have HNS := Lib.hid hns; have HFI := Lib.hid hf
  clear hw1 hw3 b1 b13 b3 n1 n3 hs3 hz1 hz3 hin hV hn hns hf hL hN
  have c3 : w3.cell? ⟨w.heap.size, 1, none⟩ = some (.slice ma L mc) := by rw [cell_of_row w3 _ 1 _ _ (0, 0) HN1.out]; rfl
  go_enter Tryz.func27, Tryz.ntmps27
  go_wp2_with fail
  rw [← HW1.out, ← HW3.out]
  clear c0 c3
  go_loopg [16] L (fun g it wr => ∃ k : Nat, k + g = L ∧ it = .int .i64 k ∧ ISet wr (w.heap.size + 1) k ((m.segs.take k).map Sg.n) ∧ Turn (fun q => q = w.heap.size + 1) w3 wr)
  case atStart => exact ⟨0, by omega, rfl, by simpa using HS3.out, Turn.refl _ _⟩
  case round =>
    obtain ⟨k, hk, rfl, hset, ht⟩ := hrel
    by_cases hlt : k < L
    · obtain ⟨s, hs⟩ : ∃ s, m.segs[k]? = some s := ⟨m.segs[k]'(by have := HL.out; omega), List.getElem?_eq_getElem _⟩
      have hbw : Below w.heap.size w wr := HB3.out.trans (ht.below (fun q hq => by have hq : q = w.heap.size + 1 := hq; omega) HB3.out.size)
      obtain ⟨b, off, rfl, hbl, d0, d1, d2⟩ := HIN.out.at hbw (Nat.le_refl _) k s hs
      have hz := ht.size
      have hz3 := HZ3.out
      have hl3 : wr.heap[w.heap.size + 1 + 1]? = _ := (ht.block _ (by omega) (by omega)).trans HN3.out
      have n7 := heap_alloc_new wr (.cells #[.int .i64 s.n, .int .i64 s.size, .int .u32 s.sum] 51)
      obtain ⟨f0, _, _⟩ := row3_cells n7
      have f3 : (wr.alloc (.cells #[.int .i64 s.n, .int .i64 s.size, .int .u32 s.sum] 51)).cell? ⟨w.heap.size + 1 + 1, 0, none⟩ = some (.map (some (w.heap.size + 1))) := by
        rw [cell_of_row _ _ 0 _ _ (0, 0) ((Below.heap_alloc wr _ _ (by omega)).trans hl3)]; rfl
      obtain ⟨D, hD, hD2⟩ := hset
      have hkey := intLit (HFI.out.2 s (List.mem_of_getElem? hs)).1
      have htk : (m.segs.take (k + 1)).map Sg.n = (m.segs.take k).map Sg.n ++ [s.n] := by rw [List.take_add_one, hs]; simp
      have HTK := Lib.hid htk; have HT := Lib.hid ht; have HDD := Lib.hid hD2
      clear htk ht hs hl3 n7 hbw hD2
      go_wp2_with (first
        | (at_mapUpdate; refine wpList_mapUpdate_own _ rfl _ _ _ 100 rfl 3 101 intKeyS Tryz.underlying100 (unitElem (H := Unit)) (w.heap.size + 1) k _ rfl (hD.alloc _) (by unfold maxLen; omega) _ _ _ rfl rfl hkey _ [] unitElem_mk ?_; intro w5 hown5 hgrow5)
        | fail)
      go_roundg (gk - 1)
      case measure => omega
      case rel => exact ⟨k + 1, by omega, by go_num, by rw [HTK.out]; exact ISet.put hD HDD.out hown5, (HT.out.trans ((Turn.refl _ wr).alloc _)).grown hgrow5 (fun q hq => by cases hq; exact Or.inl rfl)⟩
    · obtain rfl : k = L := by omega
      have hbw : Below w.heap.size w wr := HB3.out.trans (ht.below (fun q hq => by have hq : q = w.heap.size + 1 := hq; omega) HB3.out.size)
      have hz := ht.size
      have hz3 := HZ3.out
      have hsn : Seen wr w.heap.size (w.heap.size + 1 + 1) (w.heap.size + 1) m.ver (.slice ma k mc) k ((m.segs.take k).map Sg.n) := ⟨(ht.block _ (by omega) (by omega)).trans HN1.out, (ht.block _ (by omega) (by omega)).trans HN3.out, hset⟩
      have hks : ∀ j, j ∈ (m.segs.take k).map Sg.n ↔ ∃ x ∈ m.segs, x.n = j := fun j => by rw [HL.out, List.take_length, List.mem_map]
      have HOBS : Hid (∀ W s, Below wr.heap.size wr W → s.length ≤ 1000 → Calls Tryz.prog 56 #[.string (bs s), .pointer (some ⟨w.heap.size, 0, none⟩), .pointer (some ⟨w.heap.size + 1 + 1, 0, none⟩)] W fun e w' => e = .returned (.bool (isOld m s)) ∧ Below W.heap.size W w') :=
        Lib.hid (fun W s hW hs => obs_any (hsn.later hW) hks (HV.out.later (hbw.trans (hW.mono hbw.size))) hs)
      have hmf : ∀ (fn : Fn) (first cap : Array Value) (w : World), (Instr.makeFunc fn first cap).run Tryz.prog w = .ok (.func fn first cap) w := fun _ _ _ _ => rfl
      have HBW := Lib.hid hbw
      have hzb := hbw.size
      clear hsn hks hset ht hbw HB3 HN1 HN3 HS3 HIN
      generalize wr = w4 at *
      go_wp2_with fail
      go_loopg [9, 28] N (fun g v it wr2 => ∃ j : Nat, j + g = N ∧ it = .int .i64 j ∧ wr2.ownsRow w4.heap.size 9 1 v ((names.take j).filter (isOld m)).length (strs ((names.take j).filter (isOld m))) ∧ Below w4.heap.size w4 wr2)
      case atStart => exact ⟨0, by omega, rfl, by simp [strs]; exact World.ownsRow_nil _ _ _ _, Below.refl _ _⟩
      case round =>
        obtain ⟨j, hj, rfl, hrow, hb2⟩ := hrel
        by_cases hjl : j < N
        · have hjn : j < names.length := by rw [← HN.out]; exact hjl
          obtain ⟨x, hx⟩ : ∃ x, names[j]? = some x := ⟨names[j], List.getElem?_eq_getElem hjn⟩
          obtain ⟨b, off, hab, hc⟩ := HNA.out.at (HBW.out.trans (hb2.mono HBW.out.size)) (Nat.le_refl _) j (.string (bs x)) (by simp [strs, hx])
          have hx100 := HNS.out x (List.mem_of_getElem? hx)
          have hob := HOBS.out wr x hb2 (by omega)
          have hfl : (names.take (j + 1)).filter (isOld m) = (names.take j).filter (isOld m) ++ (if isOld m x = true then [x] else []) := by
            rw [List.take_add_one, hx, List.filter_append]
            congr 1
            cases h : isOld m x <;> simp [h]
          have hll : ((names.take j).filter (isOld m)).length ≤ j := Nat.le_trans (List.length_filter_le _ _) (by rw [List.length_take]; omega)
          subst hab
          generalize hLn : ((names.take j).filter (isOld m)).length = Ln at *
          generalize hls : (names.take j).filter (isOld m) = ls at *
          obtain ⟨va, vc, rfl⟩ := slice_form hrow
          obtain ⟨i0, hi, hz0, hz1, hz2⟩ := info_parts infoStr
          have HIF := Lib.hid (And.intro hi (And.intro hz0 (And.intro hz1 hz2)))
          have HFL := Lib.hid hfl; have HOB := Lib.hid hob; have HROW := Lib.hid hrow; have HB2 := Lib.hid hb2; have HLN := Lib.hid hLn
          have hzz := hb2.size
          clear hfl hob hrow hb2 hi hz0 hz1 hz2 hx hLn hls
          generalize isOld m x = y at *
          cases y with
          | true =>
            go_wp2_with fail
            refine HOB.out.mono ?_
            rintro e w5 ⟨rfl, b5⟩
            have hrow5 := owns_kept HROW.out (fun q hq => b5.block q (HROW.out.lt q hq).2)
            have hz5 := b5.size
            go_wp2_with (at_builtin; refine wpList_append_row _ rfl _ _ 65 rfl w4.heap.size 9 i0 _ 1 16 Tryz.underlying65 HIF.out.1 HIF.out.2.1 HIF.out.2.2.1 HIF.out.2.2.2 (by omega) rfl _ _ _ rfl (hrow5.alloc _) _ 1 [.string (bs x)] rfl (Src.ofSlice _ Tryz.underlying65 ⟨w5.heap.size, 0, none⟩ 1 1 _ rfl (cell_one_new _ _ _) (by simp [Value.oneCell'])) (by omega) (by rw [World.size_alloc]; have := HB2.out.size; omega) ?_; intro a' c' w6 h6 hg6 _; have H6 := Lib.hid h6; have HG6 := Lib.hid hg6; clear h6 hg6)
            go_roundg (gk - 1)
            case measure => omega
            case rel => exact ⟨j + 1, by omega, by go_num, by rw [HFL.out]; simp only [if_true, List.length_append, List.length_singleton, HLN.out]; have h6 := H6.out; simpa [strs] using h6, ((HB2.out.trans (b5.mono HB2.out.size)).alloc (by omega) _).grown HG6.out (by rw [World.size_alloc]; omega) (fun q hq => (hrow5.lt q hq).1)⟩
          | false =>
            go_wp2_with fail
            refine HOB.out.mono ?_
            rintro e w5 ⟨rfl, b5⟩
            have hrow5 := owns_kept HROW.out (fun q hq => b5.block q (HROW.out.lt q hq).2)
            have hb5 := HB2.out.trans (b5.mono HB2.out.size)
            go_wp2_with fail
            go_roundg (gk - 1)
            case measure => omega
            case rel => exact ⟨j + 1, by omega, by go_num, by rw [HFL.out]; simp only [Bool.false_eq_true, if_false, List.append_nil]; rw [HLN.out]; exact hrow5, hb5⟩
        · obtain rfl : j = N := by omega
          rw [List.take_of_length_le (by rw [← HN.out]; exact Nat.le_refl _)] at hrow
          have hmem : ∀ x, x ∈ ws m names ↔ x ∈ names.filter (isOld m) := fun x => by rw [ws_mem, List.mem_filter, isOld_iff]
          have hll : (names.filter (isOld m)).length ≤ j := Nat.le_trans (List.length_filter_le _ _) (by rw [HN.out]; exact Nat.le_refl _)
          have hwu := ws_up m names
          obtain ⟨out, hout⟩ : ∃ out, ws m names = out := ⟨_, rfl⟩
          rw [hout] at hmem hwu
          have HOUT := Lib.hid hout
          clear hout
          generalize names.filter (isOld m) = ss at *
          have hbf := HBW.out.trans (hb2.mono HBW.out.size)
          have hz6 := hb2.size
          by_cases h0 : ss = []
          · subst h0
            obtain rfl : out = [] := List.eq_nil_iff_forall_not_mem.2 (fun x hx => by have := (hmem x).1 hx; cases this)
            obtain ⟨va, vc, rfl⟩ := slice_form hrow
            have HS : Hid (∀ W, Calls Tryz.prog 58 #[.slice va 0 vc] W fun e w' => e = .returned (.tuple #[]) ∧ w' = W) := Lib.hid (fun W => AnyM.slices_Sort_string_none laysSort va vc W)
            have HC : Hid (∀ W, Calls Tryz.prog 59 #[.slice va 0 vc] W fun e w' => e = .returned (.slice va 0 vc) ∧ w' = W) := Lib.hid (fun W => Any.slices_Compact_string_empty laysCompact va vc W)
            have HBF := Lib.hid hbf
            clear hrow hb2 hbf hmem hwu
            simp only [List.length_nil]
            go_wp2_with fail
            refine (HS.out _).mono ?_
            rintro e w6 ⟨rfl, rfl⟩
            go_wp2_with fail
            refine (HC.out _).mono ?_
            rintro e w7 ⟨rfl, rfl⟩
            go_wp2_with fail
            go_ret
            exact ⟨va, vc, by rw [HOUT.out]; rfl, by rw [HOUT.out]; exact fun i hi => by simp [strs] at hi, HBF.out⟩
          · have hp : 0 < ss.length := List.length_pos_iff.2 h0
            obtain ⟨va, vc, rfl⟩ := slice_form hrow
            obtain ⟨g, cap, hvv, hbg, hgl, hncap, hcm, hlen, hH⟩ := Lib.holds_of_ownsRow (enc := encStr) (zs := ss) hrow (fun e => by injection e with _ e2 _; omega)
            cases hvv
            have hso := AnyM.slices_Sort_string laysSort g 0 vc ss wr hH hgl (by omega)
            have hco : ∀ nn os, Calls Tryz.prog 59 #[.slice (some ⟨g, 0, none⟩) ss.length vc] (grow (putRow encStr (Sort.ahead wr nn) g 0 (ss.mergeSort fun x y => decide (x ≤ y)).toArray) os) fun e w' => ∃ oa oc, e = .returned (.slice oa out.length oc) ∧ Vals w' oa (strs out) ∧ Below w.heap.size w w' := fun nn os => by
              have hl2 : (ss.mergeSort fun x y => decide (x ≤ y)).length = ss.length := List.length_mergeSort ss
              have hH2 : Holds encStr (grow (putRow encStr (Sort.ahead wr nn) g 0 (ss.mergeSort fun x y => decide (x ≤ y)).toArray) os) g 0 (ss.mergeSort fun x y => decide (x ≤ y)).toArray :=
                holds_grow encStr _ os g 0 _ (by simpa [putRow, mapBlock, Sort.ahead] using hgl) (holds_putRow encStr _ g 0 _ _ (holds_ahead encStr wr nn g 0 _ hH) (by simp))
              have hc := Any.slices_Compact_string laysCompact g 0 vc (ss.mergeSort fun x y => decide (x ≤ y)) _ hH2 (by omega) (by omega)
              rw [hl2] at hc
              refine Calls.mono hc ?_
              rintro e w' ⟨rfl, q, hw'⟩
              obtain ⟨r1, r2⟩ := left_of hrow hbf (by omega) (by omega) (by omega) rfl w' hw'
              rw [compact_is hwu hmem] at r1 ⊢
              exact ⟨_, _, rfl, vals_of_row r1, r2⟩
            have HS : Hid (Calls Tryz.prog 58 #[.slice (some ⟨g, 0, none⟩) ss.length vc] wr fun e w' => e = .returned (.tuple #[]) ∧ ∃ n os, w' = grow (putRow encStr (Sort.ahead wr n) g 0 (ss.mergeSort fun x y => decide (x ≤ y)).toArray) os) := Lib.hid hso
            have HC := Lib.hid hco
            clear hso hco hH hrow hb2 hbf hmem hwu hlen
            generalize hsl : ss.length = sl at *
            go_wp2_with fail
            refine HS.out.mono ?_
            rintro e w6 ⟨rfl, nn, os, rfl⟩
            have hc := HC.out nn os
            generalize grow _ os = w6 at *
            go_wp2_with fail
            refine hc.mono ?_
            rintro e w7 ⟨oa, oc, rfl, v1, v2⟩
            go_wp2_with fail
            go_ret
            exact ⟨oa, oc, by rw [HOUT.out]; rfl, by rw [HOUT.out]; exact v1, v2⟩
end Go.Proofs.YtkdidinekoaobaaGreatDoor.P
