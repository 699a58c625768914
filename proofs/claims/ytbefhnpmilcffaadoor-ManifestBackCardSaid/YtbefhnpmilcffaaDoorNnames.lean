/- The document's own names: digits, Name, Object, Version, Of. -/
import Derived.Test.YtbefhnpmilcffaaDoorNmath
import Derived.Test.YtbefhnpmilcffaaDoorVrefs
import Derived.Test.YtbefhnpmilcffaaDoorCrefs
import Derived.Deep.DeepCutAuto
import Derived.Deep.RegionHeld3
import Derived.Maps.AppendAt
namespace Go.Proofs.YtbefhnpmilcffaaDoor.J
open Go.RowKit
set_option linter.unusedVariables false

theorem digs_head : ∀ k n, digs (k + 1) n = dg (n / 10 ^ k) :: digs k n
  | 0, n => by simp [digs]
  | k + 1, n => by
    rw [digs, digs_head k (n / 10), digs, List.cons_append, Nat.div_div_eq_div_mul, Nat.pow_succ, Nat.mul_comm 10]

set_option maxRecDepth 100000 in
set_option maxHeartbeats 1000000 in
theorem refdigits_any (n : Nat) (w : World) (hn : n ≤ 999999) : Calls Tryd.prog 41 #[.int .i64 n] w fun e w' => e = .returned (.string (bs (dig n))) ∧ Below w.heap.size w w' := by
  rw [dig_digs]
  go_enter Tryd.func41, Tryd.ntmps41
  go_wp2
  go_loopg [0, 3, 4] 6 (fun g x s it wr => ∃ (i q : Nat), i + g = 6 ∧ it = .int .i64 i ∧ x = .int .i64 q ∧ q = n / 10 ^ i ∧ q ≤ 999999 ∧ s = .string (bs (digs i n)) ∧ Below w.heap.size w wr)
  case atStart => exact ⟨0, n, by omega, rfl, rfl, by simp, hn, rfl, Below.refl _ _⟩
  case round =>
    obtain ⟨i, q, hi, rfl, rfl, hq, hq9, rfl, hb⟩ := hrel
    have hbz := hb.size
    by_cases hlt : i < 6
    · have hc : ∀ (W : World) (b cap : Nat), W.cell? ⟨b, 0, none⟩ = some (.int .u8 (48 + (q : Int) % 10)) → (convert 54 9 (.slice (some ⟨b, 0, none⟩) 1 cap)).run Tryd.prog W = .ok (.string (bs [dg q])) W :=
        fun W b cap hW => conv_one W b cap _ _ (by rw [dg_toNat]; omega) hW
      have z1 : (bs [dg q]).size = 1 := bs_size _
      have z2 : (bs (digs i n)).size ≤ 10 := by rw [bs_size, digs_len]; omega
      have hsum : ¬ 9223372036854775807 < (bs [dg q]).size + (bs (digs i n)).size := by omega
      have hadd : bs (digs (i + 1) n) = bs [dg q] ++ bs (digs i n) := by rw [digs_head, hq, ← bs_join]; rfl
      have HADD := Lib.hid hadd
      have q5 : q / 10 = n / 10 ^ (i + 1) := by rw [hq, Nat.div_div_eq_div_mul, Nat.pow_succ]
      have HQ5 := Lib.hid q5
      have HD := Lib.hid (show (q : Int) / 10 = ((q / 10 : Nat) : Int) by omega)
      have q4 : (q : Int).tdiv 10 = (q : Int) / 10 := Int.tdiv_eq_ediv_of_nonneg (by omega)
      have q6 : IntKind.i64.wrap ((q : Int) / 10) = (q : Int) / 10 := IntWalk.i64_in _ ⟨by omega, by omega⟩
      have hd9 : q / 10 ≤ 999999 := by omega
      clear hadd q5 z1 z2 hq
      generalize bs [dg q] = X at *
      generalize bs (digs i n) = Y at *
      go_wp2
      go_roundg (gk - 1)
      case measure => omega
      case rel => exact ⟨i + 1, q / 10, by omega, by go_num, by rw [← HD.out], HQ5.out, hd9, by rw [HADD.out], hb.alloc hbz _⟩
    · obtain rfl : i = 6 := by omega
      go_wp2
      go_ret
      exact ⟨rfl, hb⟩

set_option maxHeartbeats 400000 in
theorem refname_any (v : Int) (w : World) (h0 : -9223372036854775808 ≤ v) (h1 : v ≤ 9223372036854775807) : Calls Tryd.prog 21 #[.int .i64 v] w fun e w' => e = .returned (.string (bs (nm v))) ∧ Below w.heap.size w w' := by
  by_cases h : 1 ≤ v ∧ v ≤ 999999
  · obtain ⟨n, rfl⟩ : ∃ n : Nat, v = n := ⟨v.toNat, by omega⟩
    rw [nm_yes h, Int.toNat_natCast]
    have HD := Lib.hid (refdigits_any n w (by omega))
    have z2 : (bs (dig n)).size = 6 := by rw [bs_size]; rfl
    have hadd : bs (109 :: dig n) = bs [109] ++ bs (dig n) := by rw [← bs_join]; rfl
    have h109 : (⟨#[109]⟩ : ByteArray) = bs [109] := rfl
    have z1 : (bs [109]).size = 1 := rfl
    have g1 : (1 : Int) ≤ n := h.1
    have g2 : (n : Int) ≤ 999999 := h.2
    rw [hadd]
    clear hadd h
    go_enter Tryd.func21, Tryd.ntmps21
    rw [h109]
    clear h109
    generalize bs [109] = X at *
    generalize bs (dig n) = Y at *
    go_wp2_with (go_at_call 41; refine HD.out.mono ?_; rintro e w' ⟨rfl, hb⟩)
    go_ret
    exact ⟨rfl, hb⟩
  · rw [nm_no h]
    rcases (show v < 1 ∨ 999999 < v by omega) with g | g
    · go_enter Tryd.func21, Tryd.ntmps21
      go_wp2
      go_ret
      exact ⟨rfl, Below.refl _ _⟩
    · have g1 : ¬ v < 1 := by omega
      go_enter Tryd.func21, Tryd.ntmps21
      go_wp2
      go_ret
      exact ⟨rfl, Below.refl _ _⟩

set_option maxHeartbeats 400000 in
theorem refobject_any (v : Int) (w : World) (h0 : -9223372036854775808 ≤ v) (h1 : v ≤ 9223372036854775807) : Calls Tryd.prog 23 #[.int .i64 v] w fun e w' => e = .returned (.string (bs (ob v))) ∧ Below w.heap.size w w' := by
  by_cases h : 0 ≤ v ∧ v ≤ 999999
  · obtain ⟨n, rfl⟩ : ∃ n : Nat, v = n := ⟨v.toNat, by omega⟩
    rw [ob_yes h, Int.toNat_natCast]
    have HD := Lib.hid (refdigits_any n w (by omega))
    have z2 : (bs (dig n)).size = 6 := by rw [bs_size]; rfl
    have hadd : bs (111 :: dig n) = bs [111] ++ bs (dig n) := by rw [← bs_join]; rfl
    have h111 : (⟨#[111]⟩ : ByteArray) = bs [111] := rfl
    have z1 : (bs [111]).size = 1 := rfl
    have g1 : (0 : Int) ≤ n := h.1
    have g2 : (n : Int) ≤ 999999 := h.2
    rw [hadd]
    clear hadd h
    go_enter Tryd.func23, Tryd.ntmps23
    rw [h111]
    clear h111
    generalize bs [111] = X at *
    generalize bs (dig n) = Y at *
    go_wp2_with (go_at_call 41; refine HD.out.mono ?_; rintro e w' ⟨rfl, hb⟩)
    go_ret
    exact ⟨rfl, hb⟩
  · rw [ob_no h]
    rcases (show v < 0 ∨ 999999 < v by omega) with g | g
    · go_enter Tryd.func23, Tryd.ntmps23
      go_wp2
      go_ret
      exact ⟨rfl, Below.refl _ _⟩
    · have g1 : ¬ v < 0 := by omega
      go_enter Tryd.func23, Tryd.ntmps23
      go_wp2
      go_ret
      exact ⟨rfl, Below.refl _ _⟩

/-- The number that digits come to, whatever they are. -/
def ac (l : List UInt8) : Int := l.foldl (fun n c => 10 * n + (c.toNat : Int) - 48) 0
theorem ac_snoc (l : List UInt8) (c : UInt8) : ac (l ++ [c]) = 10 * ac l + (c.toNat : Int) - 48 := by simp [ac]
theorem snocInd {α : Type} {p : List α → Prop} (h0 : p []) (hs : ∀ l x, p l → p (l ++ [x])) (l : List α) : p l := by
  have h : ∀ r : List α, p r.reverse := fun r => by
    induction r with
    | nil => exact h0
    | cons x r ih => rw [List.reverse_cons]; exact hs _ _ ih
  have := h l.reverse
  rwa [List.reverse_reverse] at this
theorem ac_bd (l : List UInt8) : -(6 * (10 ^ l.length : Nat) - 6 : Int) ≤ ac l ∧ ac l ≤ 23 * (10 ^ l.length : Nat) - 23 := by
  refine snocInd (p := fun l => -(6 * (10 ^ l.length : Nat) - 6 : Int) ≤ ac l ∧ ac l ≤ 23 * (10 ^ l.length : Nat) - 23) (by simp [ac]) (fun l c ih => ?_) l
  rw [ac_snoc, List.length_append, List.length_singleton, Nat.pow_succ]
  have := UInt8.toNat_lt c
  omega
theorem ac_dig (n : Nat) (h : n ≤ 999999) : ac (dig n) = n := by
  unfold ac dig
  simp only [List.foldl_cons, List.foldl_nil, dg_toNat]
  omega
/-- What the loop comes to. -/
def lead (l : List UInt8) : List UInt8 := (l.drop 1).take 6
theorem lead_next (b : ByteArray) (k : Nat) (h : k + 1 < b.size) (h6 : k < 6) : (b.data.toList.drop 1).take (k + 1) = (b.data.toList.drop 1).take k ++ [b[k + 1]] := by
  rw [List.take_add_one, List.getElem?_drop, Nat.add_comm 1 k, List.getElem?_eq_getElem (by rw [len_size]; exact h)]
  rfl

theorem vr_not {l : List UInt8} {k : Nat} {q : Int} (hk : k ≤ 6) (hs : k = 6 ∨ (k < 6 ∧ l.length ≤ k + 1)) (hq : q = ac ((l.drop 1).take k)) (hn : nm q ≠ l) : vr l = (0, false) := vr_no (fun v ⟨h1, h2⟩ => by
  rw [nm_yes h1] at h2
  have hl : l.length = 7 := by rw [← h2]; rfl
  obtain rfl : k = 6 := by omega
  rw [← h2] at hq
  have : (List.drop 1 (109 :: dig v.toNat)).take 6 = dig v.toNat := rfl
  rw [this, ac_dig _ (by omega)] at hq
  have e : q = v := by omega
  rw [e, nm_yes h1] at hn
  exact hn h2)
theorem vr_is {l : List UInt8} {q : Int} (hl : l ≠ []) (hn : nm q = l) : vr l = (q, true) := by
  by_cases h : 1 ≤ q ∧ q ≤ 999999
  · exact vr_yes ⟨h, hn⟩
  · rw [nm_no h] at hn; exact absurd hn.symm hl
theorem vr_nil : vr [] = (0, false) := vr_no (fun v ⟨h1, h2⟩ => by rw [nm_yes h1] at h2; cases h2)
theorem toList_eq (b : ByteArray) : b.toList = b.data.toList := by rw [Lib.toList_data]

set_option maxHeartbeats 1000000 in
theorem refversion_any (b : ByteArray) (w : World) (hb : b.size ≤ 9223372036854775807) : Calls Tryd.prog 17 #[.string b] w fun e w' => e = .returned (.tuple #[.int .i64 (vr b.data.toList).1, .bool (vr b.data.toList).2]) ∧ Below w.heap.size w w' := by
  go_enter Tryd.func17, Tryd.ntmps17
  go_wp2
  go_loopg [4, 5] 6 (fun g x it wr => ∃ (k : Nat) (q : Int), k + g = 6 ∧ it = .int .i64 ((k : Int) + 1) ∧ x = .int .i64 q ∧ q = ac ((b.data.toList.drop 1).take k) ∧ -6000000 ≤ q ∧ q ≤ 23000000 ∧ (k = 0 ∨ k < b.size) ∧ w = wr)
  case atStart => exact ⟨0, 0, by omega, rfl, rfl, by simp [ac], by omega, by omega, Or.inl rfl, rfl⟩
  case round =>
    obtain ⟨k, q, hk, rfl, rfl, hq, hq1, hq2, hkb, rfl⟩ := hrel
    by_cases hlt : k < 6 ∧ k + 1 < b.size
    · obtain ⟨h6, hs⟩ := hlt
      have hnx := lead_next b k hs h6
      have hac : ac ((b.data.toList.drop 1).take (k + 1)) = 10 * q + ((b[k + 1].toNat : Nat) : Int) - 48 := by rw [hnx, ac_snoc, ← hq]
      have hbd := ac_bd ((b.data.toList.drop 1).take (k + 1))
      have hl6 : 10 ^ ((b.data.toList.drop 1).take (k + 1)).length ≤ 10 ^ 6 := Nat.pow_le_pow_right (by omega) (by rw [List.length_take]; omega)
      have hc := UInt8.toNat_lt b[k + 1]
      have h1 : -6000000 ≤ 10 * q + ((b[k + 1].toNat : Nat) : Int) - 48 := by rw [← hac]; omega
      have h2 : 10 * q + ((b[k + 1].toNat : Nat) : Int) - 48 ≤ 23000000 := by rw [← hac]; omega
      have HAC := Lib.hid hac
      clear hnx hac hbd hl6 hq
      go_wp2
      go_roundg (gk - 1)
      case measure => omega
      case rel => exact ⟨k + 1, _, by omega, by go_num, rfl, HAC.out.symm, h1, h2, Or.inr hs, rfl⟩
    · have hstop : k = 6 ∨ (k < 6 ∧ b.size ≤ k + 1) := by omega
      have HN := Lib.hid (refname_any q w (by omega) (by omega))
      have HSTOP := Lib.hid hstop
      have HQ := Lib.hid hq
      have hk10 : k ≤ 6 := by omega
      clear hstop hq hlt hk
      have HN2 : Hid ((b.data.toList = [] ∧ vr b.data.toList = (0, false)) ∨ (b.data.toList ≠ [] ∧ nm q = b.data.toList ∧ vr b.data.toList = (q, true)) ∨ (b.data.toList ≠ [] ∧ nm q ≠ b.data.toList ∧ vr b.data.toList = (0, false))) := Lib.hid (by
        by_cases h1 : b.data.toList = []
        · exact Or.inl ⟨h1, by rw [h1]; exact vr_nil⟩
        · by_cases h2 : nm q = b.data.toList
          · exact Or.inr (Or.inl ⟨h1, h2, vr_is h1 h2⟩)
          · exact Or.inr (Or.inr ⟨h1, h2, vr_not hk10 (by rw [len_size]; exact HSTOP.out) HQ.out h2⟩))
      have hc2 : (∃ _ : (k : Int) + 1 < b.size, ¬ ((k : Int) + 1 < 7)) ∨ ¬ ((k : Int) + 1 < b.size) := by
        have := HSTOP.out
        by_cases hc : (k : Int) + 1 < b.size
        · exact Or.inl ⟨hc, by omega⟩
        · exact Or.inr hc
      clear HQ HSTOP
      rcases hc2 with ⟨hc1, h7⟩ | hc1
      all_goals
        rcases HN2.out with ⟨g1, g2⟩ | ⟨g1, g2, g3⟩ | ⟨g1, g2, g3⟩
        · have hE : b.toList.isEmpty = true := by rw [toList_eq, g1]; rfl
          have G := Lib.hid g2
          clear g1 g2 HN2
          go_wp2_with fail
          go_ret2
          exact ⟨by rw [G.out]; rfl, Below.refl _ _⟩
        · have hE : b.toList.isEmpty = false := by rw [toList_eq]; exact List.isEmpty_eq_false_iff.2 g1
          have hX : ((bs (nm q)).toList == b.toList) = true := by rw [toList_eq, toList_eq, bs_list, g2]; simp
          have G := Lib.hid g3
          clear g1 g2 g3 HN2
          generalize bs (nm q) = X at *
          go_wp2_with (go_at_call 21; refine HN.out.mono ?_; rintro e w' ⟨rfl, hb2⟩)
          go_ret2
          exact ⟨by rw [G.out]; rfl, hb2⟩
        · have hE : b.toList.isEmpty = false := by rw [toList_eq]; exact List.isEmpty_eq_false_iff.2 g1
          have hX : ((bs (nm q)).toList == b.toList) = false := by rw [toList_eq, toList_eq, bs_list]; simpa using g2
          have G := Lib.hid g3
          clear g1 g2 g3 HN2
          generalize bs (nm q) = X at *
          go_wp2_with (go_at_call 21; refine HN.out.mono ?_; rintro e w' ⟨rfl, hb2⟩)
          go_ret2
          exact ⟨by rw [G.out]; rfl, hb2⟩

set_option maxHeartbeats 400000 in
theorem refof_any (n : Int) (b : ByteArray) (w : World) (hb : b.size ≤ 9223372036854775807) : Calls Tryd.prog 19 #[.int .i64 n, .string b] w fun e w' => e = .returned (.agg #[.int .i64 n, .int .i64 b.size, .int .u32 (sum b.data.toList)]) ∧ Below w.heap.size w w' := by
  have HS := Lib.hid (fun W => refsum_any b W hb)
  generalize sum b.data.toList = sm at *
  go_enter Tryd.func19, Tryd.ntmps19
  go_wp2_with fail
  refine (HS.out _).mono ?_
  rintro e w1 ⟨rfl, rfl⟩
  have hn := heap_alloc_new w (.cells #[.int .i64 0, .int .i64 0, .int .u32 0] 48)
  have hc := fun t => cell_of_row _ w.heap.size t _ _ (0, 0) hn
  have e0 := hc 0; have e1 := hc 1; have e2 := hc 2
  simp only [List.getElem?_toArray, List.getElem?_cons_succ, List.getElem?_cons_zero] at e0 e1 e2
  have hb0 : Below w.heap.size w (w.alloc (.cells #[.int .i64 0, .int .i64 0, .int .u32 0] 48)) := (Below.refl _ _).alloc (Nat.le_refl _) _
  have fz : ∀ t, (w.alloc (.cells #[.int .i64 0, .int .i64 0, .int .u32 0] 48)).frozen? ⟨w.heap.size, t, none⟩ = false := fun t => by simp only [World.frozen?, hn]; simp
  generalize w.alloc _ = w1 at *
  have HN := Lib.hid hn; have HB := Lib.hid hb0
  clear hc hn hb0
  go_wp2_with fail
  have h1 := heap_setCell_same w1 w.heap.size 0 _ _ (.int .i64 n) HN.out
  have h2 := heap_setCell_same _ w.heap.size 1 _ _ (.int .i64 b.size) h1
  have h3 := heap_setCell_same _ w.heap.size 2 _ _ (.int .u32 sm) h2
  have b4 := ((HB.out.setCell (p := ⟨w.heap.size, 0, none⟩) (Nat.le_refl _) (.int .i64 n)).setCell (p := ⟨w.heap.size, 1, none⟩) (Nat.le_refl _) (.int .i64 b.size)).setCell (p := ⟨w.heap.size, 2, none⟩) (Nat.le_refl _) (.int .u32 sm)
  generalize World.setCell (World.setCell (World.setCell w1 _ _) _ _) _ _ = w3 at *
  have hc := fun t => cell_of_row w3 w.heap.size t _ _ (0, 0) h3
  have z0 := hc 0; have z1 := hc 1; have z2 := hc 2
  simp at z0 z1 z2
  exact bodyPost_ret (v := .agg #[.int .i64 n, .int .i64 b.size, .int .u32 sm]) (by simp [results, Tryd.results19, go_sem, z0, z1, z2]) rfl ⟨rfl, b4⟩
end Go.Proofs.YtbefhnpmilcffaaDoor.J
