/- The document's Waste: the number of a name; is it listed?; the row that it makes. -/
import Derived.Test.YtkdidinekoaobaaGreatDoorPawmath
import Derived.Test.YtkdidinekoaobaaGreatDoorNa
import Derived.Test.YtkdidinekoaobaaGreatDoorBb
namespace Go.Proofs.YtkdidinekoaobaaGreatDoor.P
open Go.RowKit M J
set_option linter.unusedVariables false
set_option linter.unusedSimpArgs false

open Classical in
/-- The number of an object's name. -/
noncomputable def onum (l : List UInt8) : Int := if h : ∃ k : Int, (0 ≤ k ∧ k ≤ 999999) ∧ ob k = l then h.choose else -1
open Classical in
theorem on_yes {l : List UInt8} {k : Int} (h1 : 0 ≤ k ∧ k ≤ 999999) (h2 : ob k = l) : onum l = k := by
  have hx : ∃ k : Int, (0 ≤ k ∧ k ≤ 999999) ∧ ob k = l := ⟨k, h1, h2⟩
  unfold onum
  rw [dif_pos hx]
  exact ob_inj hx.choose_spec.1 h1 (hx.choose_spec.2.trans h2.symm)
open Classical in
theorem on_no {l : List UInt8} (h : ∀ k : Int, (0 ≤ k ∧ k ≤ 999999) → ob k ≠ l) : onum l = -1 := by
  unfold onum
  rw [dif_neg (fun ⟨k, h1, h2⟩ => h k h1 h2)]
theorem on_not {l : List UInt8} {k : Nat} {q : Int} (hk : k ≤ 6) (hs : k = 6 ∨ (k < 6 ∧ l.length ≤ k + 1)) (hq : q = ac ((l.drop 1).take k)) (hn : ob q ≠ l) : onum l = -1 := on_no (fun v h1 h2 => by
  rw [ob_yes h1] at h2
  have hl : l.length = 7 := by rw [← h2]; rfl
  obtain rfl : k = 6 := by omega
  rw [← h2] at hq
  have : (List.drop 1 (111 :: dig v.toNat)).take 6 = dig v.toNat := rfl
  rw [this, ac_dig _ (by omega)] at hq
  have e : q = v := by omega
  rw [e, ob_yes h1] at hn
  exact hn h2)
theorem on_is {l : List UInt8} {q : Int} (hl : l ≠ []) (hn : ob q = l) : onum l = q := by
  by_cases h : 0 ≤ q ∧ q ≤ 999999
  · exact on_yes h hn
  · rw [ob_no h] at hn; exact absurd hn.symm hl
theorem on_nil : onum [] = -1 := on_no (fun v h1 h2 => by rw [ob_yes h1] at h2; cases h2)
theorem on_range (l : List UInt8) : -1 ≤ onum l ∧ onum l ≤ 999999 := by
  by_cases h : ∃ k : Int, (0 ≤ k ∧ k ≤ 999999) ∧ ob k = l
  · obtain ⟨k, h1, h2⟩ := h
    rw [on_yes h1 h2]; omega
  · rw [on_no (fun k h1 h2 => h ⟨k, h1, h2⟩)]; omega
/-- Obsolete, as the document asks it. -/
theorem old_iff (m : Mf) (l : List UInt8) : old m l ↔ ((vr l).2 = true ∧ (vr l).1 + 1 < m.ver) ∨ (0 ≤ onum l ∧ ∀ s ∈ m.segs, s.n ≠ onum l) := by
  unfold old
  constructor
  · rintro (h | ⟨k, h1, h2, h3⟩)
    · exact Or.inl h
    · exact Or.inr (by rw [on_yes h1 h2]; exact ⟨h1.1, h3⟩)
  · rintro (h | ⟨h1, h2⟩)
    · exact Or.inl h
    · by_cases h : ∃ k : Int, (0 ≤ k ∧ k ≤ 999999) ∧ ob k = l
      · obtain ⟨k, g1, g2⟩ := h
        rw [on_yes g1 g2] at h2
        exact Or.inr ⟨k, g1, g2, h2⟩
      · rw [on_no (fun k h1 h2 => h ⟨k, h1, h2⟩)] at h1; omega

set_option maxHeartbeats 1000000 in
theorem refnumber_any (b : ByteArray) (w : World) (hb : b.size ≤ 9223372036854775807) : Calls Tryz.prog 60 #[.string b] w fun e w' => e = .returned (.int .i64 (onum b.data.toList)) ∧ Below w.heap.size w w' := by
  go_enter Tryz.func60, Tryz.ntmps60
  go_wp2
  go_loopg [3, 4] 6 (fun g x it wr => ∃ (k : Nat) (q : Int), k + g = 6 ∧ it = .int .i64 ((k : Int) + 1) ∧ x = .int .i64 q ∧ q = ac ((b.data.toList.drop 1).take k) ∧ -6000000 ≤ q ∧ q ≤ 23000000 ∧ (k = 0 ∨ k < b.size) ∧ w = wr)
  case atStart => exact ⟨0, 0, by omega, rfl, rfl, by simp [ac], by omega, by omega, Or.inl rfl, rfl⟩
  case round =>
    obtain ⟨k, q, hk, rfl, rfl, hq, hq1, hq2, hkb, rfl⟩ := hrel
    by_cases hlt : k < 6 ∧ k + 1 < b.size
    · obtain ⟨h6, hs⟩ := hlt
      have hnx := lead_next b k hs h6
      have hac : ac ((b.data.toList.drop 1).take (k + 1)) = 10 * q + ((b[k + 1].toNat : Nat) : Int) - 48 := by rw [hnx, ac_snoc, ← hq]
      have hbd := ac_bd ((b.data.toList.drop 1).take (k + 1))
      have hl6 : 10 ^ ((b.data.toList.drop 1).take (k + 1)).length ≤ 10 ^ 6 := Nat.pow_le_pow_right (by omega) (by rw [List.length_take]; omega)
      have hc := UInt8.toNat_lt b[k + 1]
      have h1 : -6000000 ≤ 10 * q + ((b[k + 1].toNat : Nat) : Int) - 48 := by rw [← hac]; omega
      have h2 : 10 * q + ((b[k + 1].toNat : Nat) : Int) - 48 ≤ 23000000 := by rw [← hac]; omega
      have HAC := Lib.hid hac
      clear hnx hac hbd hl6 hq
      go_wp2
      go_roundg (gk - 1)
      case measure => omega
      case rel => exact ⟨k + 1, _, by omega, by go_num, rfl, HAC.out.symm, h1, h2, Or.inr hs, rfl⟩
    · have hstop : k = 6 ∨ (k < 6 ∧ b.size ≤ k + 1) := by omega
      have HN := Lib.hid (refobject_any q w (by omega) (by omega))
      have HSTOP := Lib.hid hstop
      have HQ := Lib.hid hq
      have hk10 : k ≤ 6 := by omega
      clear hstop hq hlt hk
      have HN2 : Hid ((b.data.toList = [] ∧ onum b.data.toList = -1) ∨ (b.data.toList ≠ [] ∧ ob q = b.data.toList ∧ onum b.data.toList = q) ∨ (b.data.toList ≠ [] ∧ ob q ≠ b.data.toList ∧ onum b.data.toList = -1)) := Lib.hid (by
        by_cases h1 : b.data.toList = []
        · exact Or.inl ⟨h1, by rw [h1]; exact on_nil⟩
        · by_cases h2 : ob q = b.data.toList
          · exact Or.inr (Or.inl ⟨h1, h2, on_is h1 h2⟩)
          · exact Or.inr (Or.inr ⟨h1, h2, on_not hk10 (by rw [len_size]; exact HSTOP.out) HQ.out h2⟩))
      have hc2 : (∃ _ : (k : Int) + 1 < b.size, ¬ ((k : Int) + 1 < 7)) ∨ ¬ ((k : Int) + 1 < b.size) := by
        have := HSTOP.out
        by_cases hc : (k : Int) + 1 < b.size
        · exact Or.inl ⟨hc, by omega⟩
        · exact Or.inr hc
      clear HQ HSTOP
      rcases hc2 with ⟨hc1, h7⟩ | hc1
      all_goals
        rcases HN2.out with ⟨g1, g2⟩ | ⟨g1, g2, g3⟩ | ⟨g1, g2, g3⟩
        · have hE : b.toList.isEmpty = true := by rw [toList_eq, g1]; rfl
          have G := Lib.hid g2
          clear g1 g2 HN2
          go_wp2_with fail
          go_ret
          exact ⟨by rw [G.out]; rfl, Below.refl _ _⟩
        · have hE : b.toList.isEmpty = false := by rw [toList_eq]; exact List.isEmpty_eq_false_iff.2 g1
          have hX : ((bs (ob q)).toList == b.toList) = true := by rw [toList_eq, toList_eq, bs_list, g2]; simp
          have G := Lib.hid g3
          clear g1 g2 g3 HN2
          generalize bs (ob q) = X at *
          go_wp2_with (go_at_call 47; refine HN.out.mono ?_; rintro e w' ⟨rfl, hb2⟩)
          go_ret
          exact ⟨by rw [G.out]; rfl, hb2⟩
        · have hE : b.toList.isEmpty = false := by rw [toList_eq]; exact List.isEmpty_eq_false_iff.2 g1
          have hX : ((bs (ob q)).toList == b.toList) = false := by rw [toList_eq, toList_eq, bs_list]; simpa using g2
          have G := Lib.hid g3
          clear g1 g2 g3 HN2
          generalize bs (ob q) = X at *
          go_wp2_with (go_at_call 47; refine HN.out.mono ?_; rintro e w' ⟨rfl, hb2⟩)
          go_ret
          exact ⟨by rw [G.out]; rfl, hb2⟩

set_option maxRecDepth 100000 in
set_option maxHeartbeats 1000000 in
theorem refhas_any (m : Mf) (a : Option Addr) (cap : Nat) (n : Int) (w : World) (hin : SgsIn w a m.segs) (hl : m.segs.length ≤ 2000) :
    Calls Tryz.prog 61 #[mfV m.ver a m.segs.length cap, .int .i64 n] w fun e w' => e = .returned (.bool (m.segs.any fun s => s.n == n)) ∧ Below w.heap.size w w' := by
  have hb0 : Below w.heap.size w (w.alloc (.cells #[.int .i64 m.ver, .slice a m.segs.length cap] 41)) := (Below.refl _ _).alloc (Nat.le_refl _) _
  have hn0 := heap_alloc_new w (.cells #[.int .i64 m.ver, .slice a m.segs.length cap] 41)
  obtain ⟨L, hL⟩ : ∃ L, L = m.segs.length := ⟨_, rfl⟩
  rw [← hL] at hb0 hn0 hl ⊢
  have HL := Lib.hid hL; have HI := Lib.hid (hin.later hb0 (Nat.le_refl _)); have HB := Lib.hid hb0
  have kc1 := cell_of_row _ w.heap.size 1 _ _ (0, 0) hn0
  simp only [List.getElem?_toArray, List.getElem?_cons_succ, List.getElem?_cons_zero] at kc1
  clear hL hin hb0 hn0
  unfold mfV
  go_enter Tryz.func61, Tryz.ntmps61
  go_wp2_with fail
  generalize w.alloc _ = w1 at *
  go_loopg [5] L (fun g it wr => ∃ i : Nat, i + g = L ∧ it = .int .i64 i ∧ (∀ s ∈ m.segs.take i, s.n ≠ n) ∧ w1 = wr)
  case atStart => exact ⟨0, by omega, rfl, fun s hs => by simp at hs, rfl⟩
  case round =>
    obtain ⟨i, hi, rfl, hno, rfl⟩ := hrel
    have HNO := Lib.hid hno
    clear hno
    by_cases hlt : i < L
    · have hil : i < m.segs.length := by have := HL.out; omega
      obtain ⟨b, off, rfl, hbl, d0, _, _⟩ := HI.out i hil
      have HS := Lib.hid (show m.segs.take (i + 1) = m.segs.take i ++ [m.segs[i]] from List.take_succ_eq_append_getElem hil)
      have HMEM := Lib.hid (List.getElem_mem hil)
      generalize m.segs[i] = s at *
      by_cases he : s.n = n
      · have HR : Hid ((m.segs.any fun s => s.n == n) = true) := Lib.hid (List.any_eq_true.2 ⟨s, HMEM.out, by simpa using he⟩)
        have y1 : (s.n == n) = true := by simpa using he
        clear he
        go_wp2_with fail
        go_ret
        exact ⟨by rw [HR.out]; rfl, HB.out⟩
      · have y1 : (s.n == n) = false := by simpa using he
        have HNX : Hid (∀ t ∈ m.segs.take (i + 1), t.n ≠ n) := Lib.hid (fun t ht => by
          rw [HS.out] at ht
          rcases List.mem_append.1 ht with h | h
          · exact HNO.out t h
          · rw [List.mem_singleton.1 h]; exact he)
        clear he
        go_wp2_with fail
        go_roundg (gk - 1)
        case measure => omega
        case rel => exact ⟨i + 1, by omega, by go_num, HNX.out, rfl⟩
    · obtain rfl : i = L := by omega
      have HR : Hid ((m.segs.any fun s => s.n == n) = false) := Lib.hid (by
        rw [List.any_eq_false]
        intro s hs
        have := HNO.out s (by rw [HL.out, List.take_length]; exact hs)
        simpa using this)
      go_wp2_with fail
      go_ret
      exact ⟨by rw [HR.out]; rfl, HB.out⟩
end Go.Proofs.YtkdidinekoaobaaGreatDoor.P
