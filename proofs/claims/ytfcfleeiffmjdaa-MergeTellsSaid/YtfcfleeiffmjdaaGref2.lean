/- The document's Live and Batches. -/
import Derived.Test.YtfcfleeiffmjdaaGref
namespace Go.Proofs.Ytfcfleeiffmjdaa.G
open Go.RowKit
set_option linter.unusedVariables false
set_option linter.unusedSimpArgs false

theorem filter_next {l : List Rc} {i : Nat} {r : Rc} (h : l[i]? = some r) : (l.take (i + 1)).filter (fun r => !r.g) = (l.take i).filter (fun r => !r.g) ++ (if r.g then [] else [r]) := by
  rw [List.take_add_one, h, Option.toList_some, List.filter_append]
  cases hg : r.g <;> simp [hg]

set_option maxRecDepth 100000 in
set_option maxHeartbeats 4000000 in
theorem reflive_any {ll : List (List Rc)} {a : Option Addr} {cap : Nat} {w : World} (hb : Bats w a ll) (hr : Room ll) (hf : Fits2 ll) :
    Calls Try.prog 9 #[.slice a ll.length cap] w fun e w' => ∃ v, e = .returned v ∧ Rw w' w.heap.size v (live ll.flatten) ∧ Below w.heap.size w w' := by
  have HNW := Lib.hid (refnewest_any (cap := cap) hb hr hf)
  obtain ⟨i0, hi, hz0, hz1, hz2⟩ := info_parts infoRec
  have HI := Lib.hid (And.intro hi (And.intro hz0 (And.intro hz1 hz2)))
  have hn1 : (nw ll.flatten).length ≤ 1000000 := Nat.le_trans (nw_length _) hr.2.2
  have HLV := Lib.hid (show live ll.flatten = (nw ll.flatten).filter (fun r => !r.g) from rfl)
  obtain ⟨n, hn⟩ : ∃ n, ll.length = n := ⟨_, rfl⟩
  rw [hn] at HNW ⊢
  generalize nw ll.flatten = nl at *
  generalize live ll.flatten = lv at *
  clear hb hr hf hi hz0 hz1 hz2 hn
  go_enter Try.func9, Try.ntmps9
  go_wp2_with fail
  refine HNW.out.mono ?_
  rintro e w1 ⟨v, rfl, h1, b1⟩
  obtain ⟨na, nc, rfl, hnc, hnm⟩ := rw_form h1
  have HW1 := Lib.hid h1; have HB1 := Lib.hid b1
  obtain ⟨M, hM⟩ : ∃ M, nl.length = M := ⟨_, rfl⟩
  have HM := Lib.hid hM
  rw [hM] at HW1 hnc hn1 ⊢
  clear h1 b1 hM HNW
  go_wp2_with fail
  go_loopg [3, 5] M (fun g ov iv wr => ∃ i : Nat, i + g = M ∧ iv = .int .i64 i ∧ Rw wr w1.heap.size ov ((nl.take i).filter (fun r => !r.g)) ∧ Old w1 wr)
  case atStart => exact ⟨0, by omega, rfl, Rw.nil _ _, Old.refl w1⟩
  case round =>
    obtain ⟨i, hi, rfl, how, hold⟩ := hrel
    have HW := Lib.hid how; have HO := Lib.hid hold
    clear how hold
    by_cases hlt : i < M
    · obtain ⟨r, hr⟩ : ∃ r, nl[i]? = some r := ⟨nl[i]'(by rw [HM.out]; exact hlt), List.getElem?_eq_getElem _⟩
      obtain ⟨g, rfl, hBg, hgl, d0, d1, d2, d3, _⟩ := rw_at (HW1.out.later HO.out) hr
      have HFN := Lib.hid (filter_next hr)
      have HLL := Lib.hid (show ((nl.take i).filter (fun r => !r.g)).length ≤ M by
        have h1 := List.length_filter_le (fun r : Rc => !r.g) (nl.take i)
        rw [List.length_take, HM.out] at h1
        omega)
      generalize (nl.take i).filter (fun r => !r.g) = out at *
      clear hr
      cases hg : r.g
      · rw [hg] at d3
        obtain ⟨K, hK⟩ : ∃ K, out.length = K := ⟨_, rfl⟩
        have HLK := Lib.hid hK
        have hkl : K ≤ M := by rw [← hK]; exact HLL.out
        have HO2 := Lib.hid HW.out
        unfold Rw at HO2
        rw [hK] at HO2
        have hws := Below.size HO.out
        have HXS := Lib.hid (show flat (out ++ [r]) = flat out ++ [.int .u64 ((r.q : Nat) : Int), .string (bs r.k), .string (bs r.v), .bool false] by rw [flat_append, flat_sing]; unfold fl4; rw [hg])
        have h4c : ∀ u ∈ [Value.int .u64 ((r.q : Nat) : Int), .string (bs r.k), .string (bs r.v), .bool false], u.oneCell' = true := by
          have := flat_one [r]
          rw [flat_sing] at this
          unfold fl4 at this
          rw [hg] at this
          exact this
        have H4C := Lib.hid h4c
        have HG := Lib.hid hg
        generalize ((r.q : Nat) : Int) = Q at *
        generalize bs r.k = Kk at *
        generalize bs r.v = Vv at *
        clear hK h4c hg
        go_wp2_with (at_builtin; refine wpList_append_row _ rfl _ _ 25 rfl w1.heap.size 35 i0 _ 4 48 Try.underlying25 HI.out.1 HI.out.2.1 HI.out.2.2.1 HI.out.2.2.2 (by omega) rfl _ _ _ rfl (World.ownsRow.alloc HO2.out _) (.slice (some ⟨wr.heap.size, 0, none⟩) 1 1) 1 [.int .u64 Q, .string Kk, .string Vv, .bool false] rfl (src_blk (heap_alloc_new wr _) H4C.out) (by omega) (by rw [World.size_alloc]; omega) ?_; intro a7 c7 w7 h7 hg7 ho7)
        have B7 : Hid (Old w1 w7) := Lib.hid (Below.grown (Below.alloc HO.out hws _) hg7 (by simp; omega) (fun j hj => (HO2.out.lt _ hj).1))
        have H7 : Hid (Rw w7 w1.heap.size (.slice a7 (K + 1) c7) (out ++ [r])) := Lib.hid (by
          unfold Rw
          rw [List.length_append, HLK.out, HXS.out]
          exact h7)
        clear h7 hg7 ho7
        go_wp2_with fail
        go_roundg (gk - 1)
        case measure => omega
        case rel => exact ⟨i + 1, by omega, by go_num, by rw [HFN.out, HG.out]; exact H7.out, B7.out⟩
      · rw [hg] at d3
        have HG := Lib.hid hg
        clear hg
        go_wp2_with fail
        go_roundg (gk - 1)
        case measure => omega
        case rel => exact ⟨i + 1, by omega, by go_num, by rw [HFN.out, HG.out]; simpa using HW.out, HO.out⟩
    · obtain rfl : i = M := by omega
      have hall : nl.take i = nl := List.take_of_length_le (by rw [HM.out]; exact Nat.le_refl _)
      have h := HW.out
      rw [hall, ← HLV.out] at h
      have HH := Lib.hid h
      clear hall h
      go_wp2_with fail
      go_ret
      exact ⟨_, rfl, HH.out.base HB1.out.size, HB1.out.trans (HO.out.mono HB1.out.size)⟩
end Go.Proofs.Ytfcfleeiffmjdaa.G
