/- The walks of the laws HintReads and HintBack. -/
import Derived.Test.YtdifecclldkhpaaHawake
import Derived.Test.YtdifecclldkhpaaHopens
import Derived.Test.YtdifecclldkhpaaHto
namespace Go.Proofs.Ytdifecclldkhpaa
open Go.RowKit

theorem hbV_shape (l : List Et) : ∃ (x : ByteArray) (y : Int), hbV l = .tuple #[.string x, .int .i64 y] := ⟨_, _, rfl⟩

theorem hrd_small (b : List UInt8) : (hrd b).1.length ≤ 2000 := by
  rcases hrd_cases b with ⟨e, _, _, h⟩ | ⟨l, h, h2, _⟩
  · rw [h]; simp
  · rw [h]; exact h2

set_option maxRecDepth 100000 in
set_option maxHeartbeats 2000000 in
theorem reads_of (l : List Et) (a : Option Addr) (cap : Nat) (b : List UInt8) (w : World) (hl : l.length ≤ 9223372036854775807) (hr : EntsIn w a l) (hf : EFits l) (hb : b.length ≤ 9223372036854775807) :
    Calls Try.prog 3 #[.slice a l.length cap, .string (bs b)] w fun e w' => e = .returned (.bool true) ∧ Below w.heap.size w w' := by
  have HR := Lib.hid hr
  have HF := Lib.hid hf
  have zb : (bs b).size ≤ 9223372036854775807 := by rw [bs_size]; exact hb
  have hbz := bs_size b
  clear hr hf
  go_enter Try.func3, Try.ntmps3
  go_wp2_with fail
  refine (awake_any _).mono ?_
  rintro e w1 ⟨rfl, b1⟩
  go_wp2_with fail
  (with_reducible refine (elight_any l a cap w1 hl (HR.out.later b1 (Nat.le_refl _)) HF.out).mono ?_)
  rintro e w2 ⟨ok, rfl, h40, b2⟩
  have B2 := b1.trans (b2.mono b1.size)
  cases ok with
  | false =>
    go_wp2_with fail
    go_ret
    exact ⟨rfl, B2⟩
  | true =>
    have h40 := h40 rfl
    by_cases c : 4000 < (bs b).size
    · go_wp2_with fail
      go_ret
      exact ⟨rfl, B2⟩
    · have z2 : b.length ≤ 4000 := by omega
      obtain ⟨x, y, hx⟩ := hbV_shape l
      have h1 := fun W (hW : Below w.heap.size w W) => hbytes_any l a cap W hl (HR.out.later hW (Nat.le_refl _)) HF.out
      have h2 := fun W (hW : Below w.heap.size w W) => to_any l a cap W (by omega) (HR.out.later hW (Nat.le_refl _))
      have h3 := fun W a2 cap2 (hW : EntsIn W a2 l) => refhbytes_any l a2 cap2 W (by omega) hW HF.out
      rw [hx] at h1 h3
      have h4 := fun W => hread_any b W (by omega)
      have h5 := fun W => refhread_any b W (by omega)
      have hs := hrd_small b
      obtain ⟨m, g, hm⟩ : ∃ m g, hrd b = (m, g) := ⟨_, _, rfl⟩
      rw [hm] at h4 h5 hs
      have hs : m.length ≤ 2000 := hs
      have H1 := Lib.hid h1
      have H2 := Lib.hid h2
      have H3 := Lib.hid h3
      have H4 := Lib.hid h4
      have H5 := Lib.hid h5
      have H6 := Lib.hid (fun W a2 cap2 (hW : EntsIn W a2 m) => to_any m a2 cap2 W (by omega) hW)
      have H7 := Lib.hid (fun W a b c c' h1 h2 => esame_yes m a b c c' W (by omega) h1 h2)
      have B2 := Lib.hid B2
      clear h1 h2 h3 h4 h5 hx b1 b2 hm
      go_wp2_with fail
      (with_reducible refine (H1.out _ B2.out).mono ?_)
      rintro e w3 ⟨rfl, b3⟩
      have B3 := Lib.hid (B2.out.trans (b3.mono B2.out.size))
      clear b3 B2
      go_wp2_with fail
      (with_reducible refine (H2.out _ B3.out).mono ?_)
      rintro e w4 ⟨a4, c4, rfl, r4, b4⟩
      have R4 := Lib.hid r4
      have B4 := Lib.hid (B3.out.trans (b4.mono B3.out.size))
      clear b4 r4 B3
      go_wp2_with fail
      (with_reducible refine (H3.out _ _ _ R4.out).mono ?_)
      rintro e w5 ⟨rfl, b5⟩
      have B5 := Lib.hid (B4.out.trans (b5.mono B4.out.size))
      clear b5 R4 B4
      go_wp2_with fail
      (with_reducible refine (H4.out _).mono ?_)
      rintro e w6 ⟨a6, c6, rfl, r6, b6⟩
      have R6 := Lib.hid r6
      have B6 := Lib.hid (B5.out.trans (b6.mono B5.out.size))
      clear b6 r6 B5
      go_wp2_with fail
      (with_reducible refine (H5.out _).mono ?_)
      rintro e w7 ⟨a7, c7, rfl, r7, b7⟩
      have R7 := Lib.hid r7
      have R6 := Lib.hid (R6.out.later b7 (Nat.le_refl _))
      have B7 := Lib.hid (B6.out.trans (b7.mono B6.out.size))
      clear b7 r7 B6
      go_wp2_with fail
      (with_reducible refine (H6.out _ _ _ R6.out).mono ?_)
      rintro e w8 ⟨a8, c8, rfl, r8, b8⟩
      have R8 := Lib.hid r8
      have R7 := Lib.hid (R7.out.later b8 (Nat.le_refl _))
      have B8 := Lib.hid (B7.out.trans (b8.mono B7.out.size))
      clear b8 r8 B7 R6
      go_wp2_with fail
      (with_reducible refine (H7.out _ _ _ _ _ R8.out R7.out).mono ?_)
      rintro e w9 ⟨rfl, b9⟩
      have B9 := Lib.hid (B8.out.trans (b9.mono B8.out.size))
      clear b9 B8
      go_wp2_with fail
      go_ret
      exact ⟨rfl, B9.out⟩

theorem reads_law (l : List Et) (a : Option Addr) (cap : Nat) (b : List UInt8) (w : World) (hl : l.length ≤ 9223372036854775807) (hr : EntsIn w a l) (hc : ∀ e ∈ l, ECame e) (hb : b.length ≤ 9223372036854775807) :
    Calls Try.prog 3 #[.slice a l.length cap, .string (bs b)] w fun e w' => e = .returned (.bool true) ∧ Below w.heap.size w w' :=
  reads_of l a cap b w hl hr (ECame.all hc) hb

theorem hrd_empty : hrd [] = ([], 4) := hrd_sum (opn_short (by simp))
theorem hbs_cases (l : List Et) : (∃ x, hbs l = (x, 0) ∧ hrd x = (l, 0) ∧ x.length ≤ 170000) ∨ (hbs l = ([], 1) ∧ l.length ≠ 0) := by
  by_cases h : l.length ≤ 2000 ∧ erights l = true
  · have := hbs_yes h.1 h.2
    refine .inl ⟨_, this, hrd_hbs this, ?_⟩
    have h2 := eencs_len l h.2
    have h3 := put_ten (lt64 (n := l.length) (by omega))
    rw [seal_len, List.length_append]; omega
  · refine .inr ⟨by rw [hbs, if_neg h], fun q => h ?_⟩
    obtain rfl := List.length_eq_zero_iff.1 q
    exact ⟨by simp, rfl⟩

set_option maxRecDepth 100000 in
set_option maxHeartbeats 2000000 in
theorem back_of (l : List Et) (a : Option Addr) (cap : Nat) (b : List UInt8) (w : World) (hl : l.length ≤ 9223372036854775807) (hr : EntsIn w a l) (hf : EFits l) (hb : b.length ≤ 9223372036854775807) :
    Calls Try.prog 5 #[.slice a l.length cap, .string (bs b)] w fun e w' => e = .returned (.bool true) ∧ Below w.heap.size w w' := by
  have HR := Lib.hid hr
  have HF := Lib.hid hf
  have zb : (bs b).size ≤ 9223372036854775807 := by rw [bs_size]; exact hb
  have hbz := bs_size b
  clear hr hf
  go_enter Try.func5, Try.ntmps5
  go_wp2_with fail
  refine (awake_any _).mono ?_
  rintro e w1 ⟨rfl, b1⟩
  go_wp2_with fail
  (with_reducible refine (elight_any l a cap w1 hl (HR.out.later b1 (Nat.le_refl _)) HF.out).mono ?_)
  rintro e w2 ⟨ok, rfl, h40, b2⟩
  have B2 := b1.trans (b2.mono b1.size)
  cases ok with
  | false =>
    go_wp2_with fail
    go_ret
    exact ⟨rfl, B2⟩
  | true =>
    have h40 := h40 rfl
    by_cases c : 4000 < (bs b).size
    · go_wp2_with fail
      go_ret
      exact ⟨rfl, B2⟩
    · have z2 : b.length ≤ 4000 := by omega
      have B2 := Lib.hid B2
      clear b1 b2
      -- what is read of b, and laid again
      have hend : ∃ (m : List Et) (g : Nat) (y : ByteArray) (h : Nat), hrd b = (m, g) ∧ hbV m = .tuple #[.string y, .int .i64 (h : Int)] ∧ (((g : Int) != 0) = true ∨ (g = 0 ∧ h = 0 ∧ y = bs b)) := by
        rcases hrd_cases b with ⟨e, he, _, h⟩ | ⟨m, h, _, _⟩
        · exact ⟨[], e, _, _, h, rfl, .inl (by rw [bne_iff_ne]; omega)⟩
        · have := hbs_hrd h
          exact ⟨m, 0, bs b, 0, h, by rw [hbV, this], .inr ⟨rfl, rfl, rfl⟩⟩
      obtain ⟨m, g, y, h, hm, hby, hcase⟩ := hend
      have h4 := fun W => hread_any b W (by omega)
      have hs := hrd_small b
      have hmf : EFits m := by
        rcases hrd_cases b with ⟨e, _, _, h⟩ | ⟨m', h, _, hrt⟩
        · rw [hm] at h; simp at h; rw [h.1]; exact fun e he => by simp at he
        · rw [hm] at h; simp at h; rw [h.1]
          intro e he
          rw [erights, List.all_eq_true] at hrt
          obtain ⟨q1, q2, q3, q4, q5, q6, q7, q8⟩ := (eright_iff e).1 (hrt e he)
          exact ⟨by omega, ⟨by omega, by omega⟩, ⟨by omega, by omega⟩, by omega⟩
      rw [hm] at h4 hs
      have hs : m.length ≤ 2000 := hs
      have h5 := fun W a2 cap2 (hW : EntsIn W a2 m) => hbytes_any m a2 cap2 W (by omega) hW hmf
      rw [hby] at h5
      have H4 := Lib.hid h4
      have H5 := Lib.hid h5
      have HC := Lib.hid hcase
      clear h4 h5 hcase hby hm hmf
      have h1 := fun W (hW : Below w.heap.size w W) => hbytes_any l a cap W hl (HR.out.later hW (Nat.le_refl _)) HF.out
      have H2 := Lib.hid fun W (hW : Below w.heap.size w W) => to_any l a cap W (by omega) (HR.out.later hW (Nat.le_refl _))
      rcases hbs_cases l with ⟨x, hx, hrx, hxl⟩ | ⟨hx, hl0⟩
      · rw [hbV, hx] at h1
        have h3 := fun W => hread_any x W (by omega)
        rw [hrx] at h3
        have H1 := Lib.hid h1
        have H3 := Lib.hid h3
        have H6 := Lib.hid (fun W a2 cap2 (hW : EntsIn W a2 l) => to_any l a2 cap2 W (by omega) hW)
        have H7 := Lib.hid (fun W a b c c' h1 h2 => esame_yes l a b c c' W (by omega) h1 h2)
        clear h1 h3 hx hrx
        generalize bs x = X at *
        go_wp2_with fail
        (with_reducible refine (H1.out _ B2.out).mono ?_)
        rintro e w3 ⟨rfl, b3⟩
        have B3 := Lib.hid (B2.out.trans (b3.mono B2.out.size))
        clear b3 B2
        go_wp2_with fail
        (with_reducible refine (H3.out _).mono ?_)
        rintro e w4 ⟨a4, c4, rfl, r4, b4⟩
        have R4 := Lib.hid r4
        have B4 := Lib.hid (B3.out.trans (b4.mono B3.out.size))
        clear b4 r4 B3
        go_wp2_with fail
        (with_reducible refine (H2.out _ B4.out).mono ?_)
        rintro e w5 ⟨a5, c5, rfl, r5, b5⟩
        have R5 := Lib.hid r5
        have R4 := Lib.hid (R4.out.later b5 (Nat.le_refl _))
        have B5 := Lib.hid (B4.out.trans (b5.mono B4.out.size))
        clear b5 r5 B4
        go_wp2_with fail
        (with_reducible refine (H6.out _ _ _ R4.out).mono ?_)
        rintro e w6 ⟨a6, c6, rfl, r6, b6⟩
        have R6 := Lib.hid r6
        have R5 := Lib.hid (R5.out.later b6 (Nat.le_refl _))
        have B6 := Lib.hid (B5.out.trans (b6.mono B5.out.size))
        clear b6 r6 B5 R4
        go_wp2_with fail
        (with_reducible refine (H7.out _ _ _ _ _ R5.out R6.out).mono ?_)
        rintro e w7 ⟨rfl, b7⟩
        have B7 := Lib.hid (B6.out.trans (b7.mono B6.out.size))
        clear b7 B6 R5 R6
        go_wp2_with fail
        (with_reducible refine (H4.out _).mono ?_)
        rintro e w8 ⟨a8, c8, rfl, r8, b8⟩
        have R8 := Lib.hid r8
        have B8 := Lib.hid (B7.out.trans (b8.mono B7.out.size))
        clear b8 r8 B7
        go_wp2_with fail
        (with_reducible refine (H5.out _ _ _ R8.out).mono ?_)
        rintro e w9 ⟨rfl, b9⟩
        have B9 := Lib.hid (B8.out.trans (b9.mono B8.out.size))
        clear b9 B8 R8
        rcases HC.out with hg | ⟨rfl, rfl, rfl⟩
        · go_wp2_with fail
          go_ret
          exact ⟨rfl, B9.out⟩
        · go_wp2_with fail
          go_ret
          exact ⟨rfl, B9.out⟩
      · rw [hbV, hx] at h1
        have h3 := fun W => hread_any [] W (by simp)
        rw [hrd_empty] at h3
        have H1 := Lib.hid h1
        have H3 := Lib.hid h3
        have h6 := fun W a2 cap2 => to_any [] a2 cap2 W (by simp) (EntsIn.nil _ _)
        rw [List.length_nil] at h6
        have H6 := Lib.hid h6
        have H7 := Lib.hid (fun W a b c c' => esame_no a b l.length 0 c c' W hl0)
        clear h1 h3 h6 hx hl0
        go_wp2_with fail
        (with_reducible refine (H1.out _ B2.out).mono ?_)
        rintro e w3 ⟨rfl, b3⟩
        have B3 := Lib.hid (B2.out.trans (b3.mono B2.out.size))
        clear b3 B2
        go_wp2_with fail
        (with_reducible refine (H3.out _).mono ?_)
        rintro e w4 ⟨a4, c4, rfl, r4, b4⟩
        have B4 := Lib.hid (B3.out.trans (b4.mono B3.out.size))
        clear b4 r4 B3
        go_wp2_with fail
        (with_reducible refine (H2.out _ B4.out).mono ?_)
        rintro e w5 ⟨a5, c5, rfl, r5, b5⟩
        have B5 := Lib.hid (B4.out.trans (b5.mono B4.out.size))
        clear b5 r5 B4
        go_wp2_with fail
        (with_reducible refine (H6.out _ _ _).mono ?_)
        rintro e w6 ⟨a6, c6, rfl, r6, b6⟩
        have B6 := Lib.hid (B5.out.trans (b6.mono B5.out.size))
        clear b6 r6 B5
        go_wp2_with fail
        (with_reducible refine (H7.out _ _ _ _ _).mono ?_)
        rintro e w7 ⟨rfl, b7⟩
        have B7 := Lib.hid (B6.out.trans (b7.mono B6.out.size))
        clear b7 B6
        go_wp2_with fail
        (with_reducible refine (H4.out _).mono ?_)
        rintro e w8 ⟨a8, c8, rfl, r8, b8⟩
        have R8 := Lib.hid r8
        have B8 := Lib.hid (B7.out.trans (b8.mono B7.out.size))
        clear b8 r8 B7
        go_wp2_with fail
        (with_reducible refine (H5.out _ _ _ R8.out).mono ?_)
        rintro e w9 ⟨rfl, b9⟩
        have B9 := Lib.hid (B8.out.trans (b9.mono B8.out.size))
        clear b9 B8 R8
        rcases HC.out with hg | ⟨rfl, rfl, rfl⟩
        · go_wp2_with fail
          go_ret
          exact ⟨rfl, B9.out⟩
        · go_wp2_with fail
          go_ret
          exact ⟨rfl, B9.out⟩

theorem back_law (l : List Et) (a : Option Addr) (cap : Nat) (b : List UInt8) (w : World) (hl : l.length ≤ 9223372036854775807) (hr : EntsIn w a l) (hc : ∀ e ∈ l, ECame e) (hb : b.length ≤ 9223372036854775807) :
    Calls Try.prog 5 #[.slice a l.length cap, .string (bs b)] w fun e w' => e = .returned (.bool true) ∧ Below w.heap.size w w' :=
  back_of l a cap b w hl hr (ECame.all hc) hb

end Go.Proofs.Ytdifecclldkhpaa
