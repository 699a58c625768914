/- The walk of the law RecordLists. -/
import Derived.Test.YtdpjbmpjinpbbaaRreflists
namespace Go.Proofs.Ytdpjbmpjinpbbaa
open Go.RowKit

theorem all_shape (l : List Rc) : ∃ (x : ByteArray) (y : Int), allV l = .tuple #[.string x, .int .i64 y] := by
  unfold allV
  split
  · exact ⟨_, _, rfl⟩
  · exact ⟨_, _, rfl⟩

theorem rds_len_le (b : List UInt8) : (rds b).1.length ≤ b.length := by
  have key : ∀ (n : Nat) (l : List UInt8) (acc : List Rc), (rdsF n l acc).1.length ≤ acc.length + l.length := by
    intro n
    induction n with
    | zero => intro l acc; simp [rdsF]
    | succ n ih =>
      intro l acc
      by_cases hl : l = []
      · subst hl; rw [rdsF_nil]; simp
      · obtain ⟨r, s, e, hrd⟩ : ∃ r s e, rd l = (r, s, e) := ⟨_, _, _, rfl⟩
        by_cases he : e = 0
        · subst he
          obtain ⟨hg, hxe⟩ := rd_ok hrd
          have h1 := enc_len hg
          rw [rdsF_next hl hrd]
          have := ih s (acc ++ [r])
          have h2 : l.length = (enc r).length + s.length := by rw [hxe, List.length_append]
          simp at this
          omega
        · rw [rdsF_err hl hrd he]; simp
  have := key (b.length + 1) b []
  simpa [rds] using this

set_option maxRecDepth 100000 in
set_option maxHeartbeats 1000000 in
theorem lists_of (l : List Rc) (a : Option Addr) (cap : Nat) (b : List UInt8) (w : World) (hl : l.length ≤ 9223372036854775807) (hr : Recs w a l) (hf : Fits l) (hb : b.length ≤ 9223372036854775807) :
    Calls Try.prog 4 #[.slice a l.length cap, .string (bs b)] w fun e w' => e = .returned (.bool true) ∧ Below w.heap.size w w' := by
  have HR := Lib.hid hr
  have HF := Lib.hid hf
  have zb : (bs b).size ≤ 9223372036854775807 := by rw [bs_size]; exact hb
  have hbz := bs_size b
  clear hr hf
  go_enter Try.func4, Try.ntmps4
  go_wp2_with fail
  refine (awake_any _).mono ?_
  rintro e w1 ⟨rfl, b1⟩
  go_wp2_with fail
  (with_reducible refine (light_any l a cap w1 hl (HR.out.later b1 (Nat.le_refl _)) HF.out).mono ?_)
  rintro e w2 ⟨ok, rfl, h40, b2⟩
  have B2 := b1.trans (b2.mono b1.size)
  cases ok with
  | false =>
    go_wp2_with fail
    go_ret
    exact ⟨rfl, B2⟩
  | true =>
    have h40 := h40 rfl
    by_cases c : 4000 < (bs b).size
    · go_wp2_with fail
      go_ret
      exact ⟨rfl, B2⟩
    · have z2 : b.length ≤ 4000 := by omega
      obtain ⟨x, y, hx⟩ := all_shape l
      have h1 := fun W (hW : Below w.heap.size w W) => all_any l a cap W (by omega) (HR.out.later hW (Nat.le_refl _)) HF.out
      have h2 := fun W (hW : Below w.heap.size w W) => refall_any l a cap W (by omega) (HR.out.later hW (Nat.le_refl _)) HF.out
      rw [hx] at h1 h2
      have H1 := Lib.hid h1
      have H2 := Lib.hid h2
      have H3 := Lib.hid (fun W => list_any b W (by omega))
      have H4 := Lib.hid (fun W => reflist_any b W (by omega))
      have hrl := rds_len_le b
      obtain ⟨m, n, hm⟩ : ∃ m n, rds b = (m, n) := ⟨_, _, rfl⟩
      rw [hm] at H3 H4 hrl
      have H5 := Lib.hid (fun W a b c c' h1 h2 => same_yes m a b c c' W (by simp at hrl; omega) h1 h2)
      have BB2 := Lib.hid B2
      clear h1 h2 hx B2 b1 b2 hm
      go_wp2_with fail
      (with_reducible refine (H1.out _ BB2.out).mono ?_)
      rintro e w3 ⟨rfl, b3⟩
      have B3 := Lib.hid (BB2.out.trans (b3.mono BB2.out.size))
      clear b3 BB2
      go_wp2_with fail
      (with_reducible refine (H2.out _ B3.out).mono ?_)
      rintro e w4 ⟨rfl, b4⟩
      have B4 := Lib.hid (B3.out.trans (b4.mono B3.out.size))
      clear b4 B3
      go_wp2_with fail
      (with_reducible refine (H3.out _).mono ?_)
      rintro e w5 ⟨a5, c5, rfl, r5, b5⟩
      have R5 := Lib.hid r5
      have B5 := Lib.hid (B4.out.trans (b5.mono B4.out.size))
      clear b5 r5 B4
      go_wp2_with fail
      (with_reducible refine (H4.out _).mono ?_)
      rintro e w6 ⟨a6, c6, rfl, r6, b6⟩
      have R6 := Lib.hid r6
      have R5 := Lib.hid (R5.out.later b6 (Nat.le_refl _))
      have B6 := Lib.hid (B5.out.trans (b6.mono B5.out.size))
      clear b6 r6 B5
      go_wp2_with fail
      (with_reducible refine (H5.out _ _ _ _ _ R5.out R6.out).mono ?_)
      rintro e w7 ⟨rfl, b7⟩
      have B7 := Lib.hid (B6.out.trans (b7.mono B6.out.size))
      clear b7 B6
      go_wp2_with fail
      go_ret
      exact ⟨rfl, B7.out⟩

end Go.Proofs.Ytdpjbmpjinpbbaa
