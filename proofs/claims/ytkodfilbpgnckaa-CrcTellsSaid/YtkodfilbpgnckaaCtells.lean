/- The walk of the law CrcTells. -/
import Derived.Test.YtkodfilbpgnckaaCturn
namespace Go.Proofs.Ytkodfilbpgnckaa
open Go.RowKit

set_option maxRecDepth 100000 in
set_option maxHeartbeats 1000000 in
theorem tells_early (b : ByteArray) (p : Int) (x0 x1 x2 x3 : Int) (h : b.size = 0 ∨ 1000 < b.size ∨ p < 0) (w : World) :
    Calls Try.prog 5 #[.string b, .int .i64 p, .agg #[.int .u8 x0, .int .u8 x1, .int .u8 x2, .int .u8 x3]] w fun e w' => e = .returned (.bool true) ∧ Below w.heap.size w w' := by
  by_cases h0 : b.size = 0
  · have hq : ((b.size : Int) == 0) = true := by rw [beq_iff_eq]; omega
    clear h0 h
    go_enter Try.func5, Try.ntmps5
    go_wp2_with fail
    refine (awake_any _).mono ?_
    rintro e w1 ⟨rfl, b1⟩
    go_wp2_with fail
    go_ret
    exact ⟨rfl, ((Below.refl _ _).alloc (Nat.le_refl _) _).trans (b1.mono (by simp))⟩
  have hq : ((b.size : Int) == 0) = false := beq_eq_false_iff_ne.2 (by omega)
  by_cases h1 : 1000 < b.size
  · clear h0 h
    go_enter Try.func5, Try.ntmps5
    go_wp2_with fail
    refine (awake_any _).mono ?_
    rintro e w1 ⟨rfl, b1⟩
    go_wp2_with fail
    go_ret
    exact ⟨rfl, ((Below.refl _ _).alloc (Nat.le_refl _) _).trans (b1.mono (by simp))⟩
  have h2 : p < 0 := by omega
  clear h0 h
  go_enter Try.func5, Try.ntmps5
  go_wp2_with fail
  refine (awake_any _).mono ?_
  rintro e w1 ⟨rfl, b1⟩
  go_wp2_with fail
  go_ret
  exact ⟨rfl, ((Below.refl _ _).alloc (Nat.le_refl _) _).trans (b1.mono (by simp))⟩

set_option maxRecDepth 100000 in
set_option maxHeartbeats 1000000 in
theorem tells_late (b : ByteArray) (p : Int) (t : Nat → UInt8) (h0 : b.size ≠ 0) (h1 : b.size ≤ 1000) (h2 : 0 ≤ p) (w : World) :
    Calls Try.prog 5 #[.string b, .int .i64 p, .agg #[.int .u8 ((t 0).toNat : Int), .int .u8 ((t 1).toNat : Int), .int .u8 ((t 2).toNat : Int), .int .u8 ((t 3).toNat : Int)]] w fun e w' => e = .returned (.bool true) ∧ Below w.heap.size w w' := by
  have hq : ((b.size : Int) == 0) = false := beq_eq_false_iff_ne.2 (by omega)
  have hlen := len_size b
  have hsl : (seal4 b.data.toList).length = b.size + 4 := by simp [seal4, four_length]; omega
  have hseal := fun w => seal_any b w (by omega)
  have hbsz : (bs (seal4 b.data.toList)).size = b.size + 4 := by rw [bs_size, hsl]
  have hopen : ∀ w, Calls Try.prog 8 #[.string (bs (seal4 b.data.toList))] w fun e w' => e = .returned (.tuple #[.string b, .bool true]) ∧ Below w.heap.size w w' := fun w => by
    have := open_any (bs (seal4 b.data.toList)) w (by rw [bs_size, hsl]; omega)
    rwa [bs_list, opnV, opn_seal, bs_of] at this
  have hcv := fun w => run_bytes_of_string (P := Try.prog) w 9 32 5 (bs (seal4 b.data.toList)) Try.underlying9 Try.underlying32 Try.underlying5
  rw [hbsz] at hcv
  have HS := Lib.hid hseal
  have HO := Lib.hid hopen
  have HC := Lib.hid hcv
  have HL := Lib.hid hsl
  have HLEN := Lib.hid hlen
  have hd1 : decide (1000 < (b.size : Int)) = false := by simp; omega
  have hd2 : decide (p < 0) = false := by simp; omega
  clear hseal hopen hcv hsl hbsz hlen h0
  go_enter Try.func5, Try.ntmps5
  go_wp2_with fail
  refine (awake_any _).mono ?_
  rintro e w1 ⟨rfl, b1⟩
  go_wp2_with fail
  refine (HS.out _).mono ?_
  rintro e w2 ⟨rfl, b2⟩
  have hcv := HC.out w2
  have hb2 : Below w.heap.size w w2 := ((Below.refl w.heap.size w).alloc (Nat.le_refl _) _).trans ((b1.mono (by simp)).trans (b2.mono (by have := b1.size; simp at this; omega)))
  have htb : w.heap.size < w2.heap.size := by have s1 := b1.size; have s2 := b2.size; simp at s1; omega
  have ht2 : ∀ j, j < 4 → w2.cell? ⟨w.heap.size, j, none⟩ = some (.int .u8 ((t j).toNat : Int)) := by
    intro j hj
    have s1 := b1.size
    simp at s1
    rw [b2.cell (p := ⟨w.heap.size, j, none⟩) (by show w.heap.size < w1.heap.size; omega), b1.cell (p := ⟨w.heap.size, j, none⟩) (by simp), World.cell?_alloc_mark]
    obtain rfl | rfl | rfl | rfl : j = 0 ∨ j = 1 ∨ j = 2 ∨ j = 3 := by omega
    all_goals rfl
  have K3 := Kp.made hb2 htb ht2 (seal4 b.data.toList) (grownCap w2 (b.size + 4) 0 5) (bytesRow (bs (seal4 b.data.toList)) (grownCap w2 (b.size + 4) 0 5)).size ((bytesRow (bs (seal4 b.data.toList)) (grownCap w2 (b.size + 4) 0 5)).size + 1) (Nat.le_refl _)
  have hback := K3.conv (b.size + 4) (grownCap w2 (b.size + 4) 0 5) HL.out
  have hwcb : w.heap.size ≤ w2.heap.size := by omega
  clear hb2 ht2 b1 b2
  generalize w2.drew.alloc (Obj.cells (bytesRow (bs (seal4 b.data.toList)) (grownCap w2 (b.size + 4) 0 5)) 5 ((bytesRow (bs (seal4 b.data.toList)) (grownCap w2 (b.size + 4) 0 5)).size, (bytesRow (bs (seal4 b.data.toList)) (grownCap w2 (b.size + 4) 0 5)).size + 1)) = W3 at *
  generalize grownCap w2 (b.size + 4) 0 5 = cap at *
  generalize bs (seal4 b.data.toList) = sq at *
  have HK := Lib.hid K3
  clear K3
  go_wp2_with fail
  refine (HO.out _).mono ?_
  rintro e w4 ⟨rfl, b4⟩
  have K4 := HK.out.call b4
  clear hcv hback
  go_wp2_with fail
  have m1 := Int.emod_nonneg p (b := (b.size : Int)) (by have := beq_eq_false_iff_ne.1 hq; omega)
  have m2 := Int.emod_lt_of_pos p (b := (b.size : Int)) (by have := beq_eq_false_iff_ne.1 hq; omega)
  obtain ⟨q, hpq⟩ : ∃ q : Nat, p % (b.size : Int) = (q : Int) := ⟨(p % (b.size : Int)).toNat, by omega⟩
  rw [hpq] at m1 m2
  have hqb : q < b.size := by omega
  have hne : w.heap.size ≠ w2.heap.size := by omega
  have hN := tn_length (seal4 b.data.toList) (4 + q) t
  rw [HL.out] at hN
  have HN := Lib.hid hN
  have HNE := Lib.hid hne
  clear hN hne
  go_loopw [11, 12] (fun tu i wr => ∃ j : Nat, j ≤ 4 ∧ i = .int .i64 j ∧ tu = .bool (tf (b.size + 4) (4 + q) t j) ∧ Kp w w.heap.size w2.heap.size t (tn (seal4 b.data.toList) (4 + q) t j) wr) (fun _ i _ => 4 - (intOf i).toNat)
  case atStart => exact ⟨0, by omega, rfl, rfl, K4⟩
  case round =>
    obtain ⟨j, hj, rfl, rfl, hK⟩ := hrel
    clear K4
    by_cases hj4 : j < 4
    · by_cases hin : q + j < b.size
      · obtain ⟨k, hk⟩ : ∃ k : Nat, k = 4 + q + j := ⟨_, rfl⟩
        have hki : 4 + (q : Int) + (j : Int) = (k : Int) := by omega
        have hkl : k < b.size + 4 := by omega
        have hkL : k < (tn (seal4 b.data.toList) (4 + q) t j).length := by rw [HN.out]; exact hkl
        have HTN : Hid (tn (seal4 b.data.toList) (4 + q) t (j + 1) = (tn (seal4 b.data.toList) (4 + q) t j).set k ((tn (seal4 b.data.toList) (4 + q) t j)[k] ^^^ t j)) := Lib.hid (by subst hk; exact tn_in (by rw [HN.out]; exact hkl))
        have HTF : Hid (tf (b.size + 4) (4 + q) t (j + 1) = (tf (b.size + 4) (4 + q) t j || t j != 0)) := Lib.hid (tf_in (by omega))
        have c1 := hK.2.2.2.1 j hj4
        have c2 := hK.2.2.2.2.1 k hkL
        have c3 := hK.2.2.2.2.2 k hkL
        have HK5 := Lib.hid (hK.store HNE.out hwcb k hkL ((tn (seal4 b.data.toList) (4 + q) t j)[k] ^^^ t j))
        have hx : bits .xor .u8 ((tn (seal4 b.data.toList) (4 + q) t j)[k].toNat : Int) ((t j).toNat : Int) = ((((tn (seal4 b.data.toList) (4 + q) t j)[k] ^^^ t j).toNat : Nat) : Int) := by
          rw [u8_xor_nat _ _ (u8_lt _) (u8_lt _), u8_xor_toNat]
        generalize (tn (seal4 b.data.toList) (4 + q) t j)[k] ^^^ t j = x' at *
        generalize (tn (seal4 b.data.toList) (4 + q) t j)[k] = x at *
        have HK := Lib.hid hK
        clear hk hK
        have K6 : Kp w w.heap.size w2.heap.size t ((tn (seal4 b.data.toList) (4 + q) t j).set k x') (wr.setCell ⟨w2.heap.size, k, none⟩ (.int .u8 (x'.toNat : Int))).drew := HK5.out.drewN 1
        rw [← HTN.out] at K6
        have c4 := K6.2.2.2.1 j hj4
        have HK6 := Lib.hid K6
        clear HK5 HTN K6
        cases htf : tf (b.size + 4) (4 + q) t j with
        | true =>
          rw [htf, Bool.true_or] at HTF
          clear htf
          go_wp2_with fail
          go_region
          generalize (wr.setCell ⟨w2.heap.size, k, none⟩ (.int .u8 (x'.toNat : Int))).drew = W5 at *
          go_wp2_with fail
          go_roundw
          case rel => exact ⟨j + 1, by omega, by go_num, by rw [HTF.out], HK6.out⟩
          case measure => simp [intOf]; omega
        | false =>
          rw [htf, Bool.false_or] at HTF
          clear htf
          go_wp2_with fail
          go_region
          generalize (wr.setCell ⟨w2.heap.size, k, none⟩ (.int .u8 (x'.toNat : Int))).drew = W5 at *
          have hz : (((t j).toNat : Int) != 0) = (t j != 0) := by
            rw [Bool.eq_iff_iff, bne_iff_ne, bne_iff_ne]
            constructor
            · intro h e
              rw [e] at h
              exact h rfl
            · intro h e
              exact h (UInt8.toNat_inj.1 (by show (t j).toNat = 0; omega))
          go_wp2_with fail
          go_roundw
          case rel => exact ⟨j + 1, by omega, by go_num, by rw [HTF.out], HK6.out⟩
          case measure => simp [intOf]; omega
      · have hkl : ¬ 4 + (q : Int) + (j : Int) < (b.size : Int) + 4 := by omega
        have HTN : Hid (tn (seal4 b.data.toList) (4 + q) t (j + 1) = tn (seal4 b.data.toList) (4 + q) t j) := Lib.hid (tn_out (by rw [HN.out]; omega))
        have HTF : Hid (tf (b.size + 4) (4 + q) t (j + 1) = tf (b.size + 4) (4 + q) t j) := Lib.hid (tf_out (by omega))
        have HK := Lib.hid hK
        clear hK
        generalize tf (b.size + 4) (4 + q) t j = u at *
        go_wp2_with fail
        go_roundw
        case rel => exact ⟨j + 1, by omega, by go_num, by rw [HTF.out], by rw [HTN.out]; exact HK.out⟩
        case measure => simp [intOf]; omega
    · have e : j = 4 := by omega
      subst e
      have hconv := hK.conv (b.size + 4) cap (HN.out 4)
      have HO2 : ∀ W, Calls Try.prog 8 #[.string (bs (tn (seal4 b.data.toList) (4 + q) t 4))] W fun e w' => e = .returned (opnV (tn (seal4 b.data.toList) (4 + q) t 4)) ∧ Below W.heap.size W w' := fun W => by
        have := open_any (bs (tn (seal4 b.data.toList) (4 + q) t 4)) W (by rw [bs_size, HN.out]; omega)
        rwa [bs_list] at this
      have hfin := opn_tn b.data.toList q t
      rw [HLEN.out] at hfin
      unfold opnV at HO2
      rw [hfin] at HO2
      generalize bs (opn (tn (seal4 b.data.toList) (4 + q) t 4)).1 = r1 at *
      generalize tf (b.size + 4) (4 + q) t 4 = u at *
      generalize bs (tn (seal4 b.data.toList) (4 + q) t 4) = sq2 at *
      have HO3 := Lib.hid HO2
      have HK := Lib.hid hK
      clear HO2 hK hfin
      cases u
      · go_wp2_with fail
        refine (HO3.out _).mono ?_
        rintro e w6 ⟨rfl, b6⟩
        go_wp2_with fail
        go_ret
        exact ⟨rfl, (HK.out.call b6).1⟩
      · go_wp2_with fail
        refine (HO3.out _).mono ?_
        rintro e w6 ⟨rfl, b6⟩
        go_wp2_with fail
        go_ret
        exact ⟨rfl, (HK.out.call b6).1⟩

theorem tells_walk (b : ByteArray) (p x0 x1 x2 x3 : Int) (_w0 : b.size ≤ maxLen) (y0 : (Lit.int .u8 x0).wf = true) (y1 : (Lit.int .u8 x1).wf = true) (y2 : (Lit.int .u8 x2).wf = true) (y3 : (Lit.int .u8 x3).wf = true) (w : World) :
    Calls Try.prog 5 #[.string b, .int .i64 p, .agg #[.int .u8 x0, .int .u8 x1, .int .u8 x2, .int .u8 x3]] w fun e w' => e = .returned (.bool true) ∧ Below w.heap.size w w' := by
  by_cases h : b.size = 0 ∨ 1000 < b.size ∨ p < 0
  · exact tells_early b p x0 x1 x2 x3 h w
  · have key : ∀ x : Int, (Lit.int .u8 x).wf = true → ((UInt8.ofNat x.toNat).toNat : Int) = x := fun x hx => by
      obtain ⟨a, c⟩ := bounds_u8 hx
      rw [UInt8.toNat_ofNat']; omega
    have := tells_late b p (fun j => UInt8.ofNat ([x0, x1, x2, x3].getD j 0).toNat) (by omega) (by omega) (by omega) w
    simp only [List.getD_cons_zero, List.getD_cons_succ, key x0 y0, key x1 y1, key x2 y2, key x3 y3] at this
    exact this

end Go.Proofs.Ytkodfilbpgnckaa
