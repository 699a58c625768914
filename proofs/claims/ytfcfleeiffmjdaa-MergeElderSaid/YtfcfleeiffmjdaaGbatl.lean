/- MergeBatches over what is asked: batches are the records, in order, each of 1 to 16, as few as can be. -/
import Derived.Test.YtfcfleeiffmjdaaGtells
namespace Go.Proofs.Ytfcfleeiffmjdaa.G
open Go.RowKit
set_option linter.unusedVariables false
set_option linter.unusedSimpArgs false

theorem part_len2 {ll : List (List Rc)} (i : Nat) : (ll.take i).flatten.length ≤ ll.flatten.length := by
  have e : ll.flatten = (ll.take i).flatten ++ (ll.drop i).flatten := by rw [← List.flatten_append, List.take_append_drop]
  rw [e, List.length_append]
  omega

set_option maxRecDepth 100000 in
set_option maxHeartbeats 4000000 in
theorem batches_walk (C : MrgC) (l : List Rc) (a : Option Addr) (cap : Nat) (w : World) (hlm : l.length ≤ 9223372036854775807) (hin : Recs w a l ∧ l.length ≤ cap ∧ cap ≤ maxLen) (hcm : ∀ r ∈ l, Came r) :
    Calls Try.prog 6 #[.slice a l.length cap] w fun e w' => e = .returned (.bool true) ∧ Below w.heap.size w w' := by
  have HAW := Lib.hid (fun W => awake_any C W)
  have HC := Lib.hid C
  have HI := Lib.hid hin; have HCM := Lib.hid hcm
  obtain ⟨i0, hi, hz0, hz1, hz2⟩ := info_parts infoRec
  have HIN := Lib.hid (And.intro hi (And.intro hz0 (And.intro hz1 hz2)))
  obtain ⟨n, hn⟩ : ∃ n, l.length = n := ⟨_, rfl⟩
  have HN := Lib.hid hn
  rw [hn] at hlm ⊢
  clear hin hcm hn hi hz0 hz1 hz2
  go_enter Try.func6, Try.ntmps6
  go_wp2_with fail
  refine (HAW.out _).mono ?_
  rintro e w1 ⟨rfl, b1⟩
  have B1 := Lib.hid (show Old w w1 from b1)
  clear b1 HAW
  by_cases h200 : 200 < n
  · go_wp2_with fail
    go_ret
    exact ⟨rfl, B1.out⟩
  have hPB := HC.out.batches (w := w1) (HI.out.1.later B1.out (Nat.le_refl _)) (by rw [HN.out]; omega) HI.out.2.1 HI.out.2.2 HCM.out
  rw [HN.out] at hPB
  have HPB := Lib.hid hPB
  have hbl := bat_len l
  rw [HN.out] at hbl
  obtain ⟨BL, hB⟩ : ∃ BL, (bat l).length = BL := ⟨_, rfl⟩
  rw [hB] at hbl HPB
  have HB := Lib.hid hB
  have hbq : Int.tdiv ((n : Int) + 15) 16 = (BL : Int) := by rw [Int.tdiv_eq_ediv_of_nonneg (by omega)]; omega
  have hbw := IntWalk.i64_in ((n : Int) + 15) ⟨by omega, by omega⟩
  have hB14 : BL ≤ 14 := by omega
  have HFL := Lib.hid (bat_flat l)
  clear hbl hB hPB
  go_wp2_with fail
  refine HPB.out.mono ?_
  rintro e w2 ⟨a2, c2, rfl, h2, b2⟩
  have H2 := Lib.hid h2
  have O2 := Lib.hid (B1.out.below b2)
  clear h2 b2 B1 HPB
  go_wp2_with fail
  go_loopg [5, 6] BL (fun g ov iv wr => ∃ i : Nat, i + g = BL ∧ iv = .int .i64 i ∧ Rw wr w2.heap.size ov ((bat l).take i).flatten ∧ Old w2 wr)
  case atStart => exact ⟨0, by omega, rfl, Rw.nil _ _, Old.refl w2⟩
  case round =>
    obtain ⟨i, hi, rfl, how, hold⟩ := hrel
    have HW := Lib.hid how; have HO := Lib.hid hold
    clear how hold
    by_cases hlt : i < BL
    · have hil : i < (bat l).length := by rw [HB.out]; exact hlt
      obtain ⟨b, off, a', c', rfl, hb2, c0, r0⟩ := bat_of H2.out i hil
      obtain ⟨s1, s2⟩ := bat_size l i hil
      have HTK := Lib.hid (flat_take_row hil)
      have hpl := part_len2 (ll := bat l) i
      rw [HFL.out, HN.out] at hpl
      generalize (bat l)[i] = x at *
      have HSR := Lib.hid (fun W (hW : Old w2 W) => src_slice (cap := c') (r0.later hW (Nat.le_refl _)) (by omega))
      have d0 := (Below.cell (p := ⟨b, off + i, none⟩) HO.out hb2).trans c0
      obtain ⟨X, hX⟩ : ∃ X, x.length = X := ⟨_, rfl⟩
      have HX := Lib.hid hX
      rw [hX] at s1 s2 d0 HSR
      obtain ⟨K, hK⟩ : ∃ K, ((bat l).take i).flatten.length = K := ⟨_, rfl⟩
      have HK := Lib.hid hK
      rw [hK] at hpl
      have HW2 := HW.out
      unfold Rw at HW2
      rw [hK] at HW2
      have HOW := Lib.hid HW2
      have hws := Below.size HO.out
      clear c0 r0 hX hK HW2
      go_wp2_with (at_builtin; refine wpList_append_row _ rfl _ _ 25 rfl w2.heap.size 35 i0 _ 4 48 Try.underlying25 HIN.out.1 HIN.out.2.1 HIN.out.2.2.1 HIN.out.2.2.2 (by omega) rfl _ _ _ rfl HOW.out (.slice a' X c') X (flat x) rfl (HSR.out _ HO.out) (by omega) hws ?_; intro a7 c7 w7 h7 hg7 ho7)
      have B7 : Hid (Old w2 w7) := Lib.hid (Below.grown HO.out hg7 hws (fun j hj => (HOW.out.lt _ hj).1))
      have H7 : Hid (Rw w7 w2.heap.size (.slice a7 (K + X) c7) ((bat l).take (i + 1)).flatten) := Lib.hid (by
        unfold Rw
        rw [HTK.out, List.length_append, HK.out, HX.out, flat_append]
        exact h7)
      clear h7 hg7 ho7
      go_wp2_with fail
      go_roundg (gk - 1)
      case measure => omega
      case rel => exact ⟨i + 1, by omega, by go_num, H7.out, B7.out⟩
    · obtain rfl : i = BL := by omega
      have hall : (bat l).take i = bat l := List.take_of_length_le (by rw [HB.out]; exact Nat.le_refl _)
      have h := HW.out
      rw [hall, HFL.out] at h
      obtain ⟨a3, c3, rfl, h3⟩ := rw_recs h
      have HO3 := Lib.hid (O2.out.below HO.out)
      have hs := same_yes l a3 a c3 cap wr (by rw [HN.out]; omega) h3 (HI.out.1.later HO3.out (Nat.le_refl _))
      rw [HN.out] at hs ⊢
      have HS := Lib.hid hs
      clear hall h h3 hs HW
      go_wp2_with fail
      refine HS.out.mono ?_
      rintro e w5 ⟨rfl, b5⟩
      have HF := Lib.hid (HO3.out.below b5)
      clear b5 HS
      go_wp2_with fail
      go_ret
      exact ⟨rfl, HF.out⟩
end Go.Proofs.Ytfcfleeiffmjdaa.G
