/- What the call Take of package frame returns. -/
import Derived.Test.YtdifecclldkhpaaFbytes
namespace Go.Proofs.Ytdifecclldkhpaa
open Go.RowKit

/-- What Take leaves. -/
def FtPost (w : World) (x : List Rc × Nat × Nat) (e : Ending) (w' : World) : Prop :=
  ∃ a cap, e = .returned (.tuple #[.slice a x.1.length cap, .int .i64 ((x.2.1 : Nat) : Int), .int .i64 ((x.2.2 : Nat) : Int)]) ∧ RecsT w' a x.1 ∧ Below w.heap.size w w'

theorem FtPost.no {w w' : World} {x : List Rc × Nat × Nat} {n : Nat} (h : x = ([], 0, n)) (hb : Below w.heap.size w w') : FtPost w x (.returned (.tuple #[.slice none 0 0, .int .i64 0, .int .i64 (n : Int)])) w' := by
  subst h
  exact ⟨none, 0, rfl, ⟨fun h => by simp at h, Tag.none _⟩, hb⟩

theorem opens_of (s : List UInt8) (hs : s.length ≤ 9223372036854775807) (c : List UInt8) (ok : Bool) (h : opn s = (c, ok)) (w : World) :
    Calls Try.prog 32 #[.string (bs s)] w fun e w' => e = .returned (.tuple #[.string (bs c), .bool ok]) ∧ Below w.heap.size w w' := by
  have := open_any (bs s) w (by rw [bs_size]; exact hs)
  rw [bs_list, opnV, h] at this
  exact this

theorem opn_le {s c : List UInt8} {ok : Bool} (h : opn s = (c, ok)) : c.length ≤ s.length := by
  unfold opn at h
  split at h
  · cases h; simp
  · split at h
    · cases h; simp
    · cases h; simp

set_option maxRecDepth 100000 in
set_option maxHeartbeats 1000000 in
theorem ftake_any (b : List UInt8) (w : World) (hb : b.length ≤ 1000000) :
    Calls Try.prog 58 #[.string (bs b)] w (FtPost w (ft b)) := by
  obtain ⟨s, r, e, h⟩ : ∃ s r e, ot b = (s, r, e) := ⟨_, _, _, rfl⟩
  have H1 := Lib.hid (oftext_of b (by omega) s r e h)
  by_cases he : e = 0
  · subst he
    obtain ⟨hr1, hs1⟩ := ot_rest_le h
    obtain ⟨c, ok, h2⟩ : ∃ c ok, opn s = (c, ok) := ⟨_, _, rfl⟩
    have hc := opn_le h2
    have H2 := Lib.hid (opens_of s (by omega) c ok h2)
    cases ok with
    | false =>
      have HE := Lib.hid (ft_sum h h2)
      clear h h2
      generalize bs b = B at *
      generalize bs s = S at *
      generalize bs r = R at *
      generalize bs c = C at *
      go_enter Try.func58, Try.ntmps58
      go_wp2_with fail
      (with_reducible refine (H1.out _).mono ?_)
      rintro e w1 ⟨rfl, b1⟩
      go_wp2_with fail
      (with_reducible refine (H2.out _).mono ?_)
      rintro e w2 ⟨rfl, b2⟩
      go_wp2_with fail
      go_ret3
      exact FtPost.no HE.out (b1.trans (b2.mono b1.size))
    | true =>
      obtain ⟨l, e, h3⟩ : ∃ l e, rds c = (l, e) := ⟨_, _, rfl⟩
      have h3' := fun W => list_any c W (by omega)
      rw [h3] at h3'
      have H3 := Lib.hid h3'
      clear h3'
      by_cases he : e = 0
      · subst he
        have h4 := fun a cap W (hz : l.length ≤ 9223372036854775807) => size16_any l.length a cap W hz
        cases hl : fits16 l with
        | false =>
          rw [show (decide (1 ≤ l.length) && decide (l.length ≤ 16)) = false from hl] at h4
          have HE := Lib.hid (ft_many h h2 h3 hl)
          have hll : l.length ≤ 9223372036854775807 := by have := rds_len_le c; rw [h3] at this; simp at this; omega
          have H4 := Lib.hid h4
          clear h h2 h3 h4 hl
          generalize bs b = B at *
          generalize bs s = S at *
          generalize bs r = R at *
          generalize bs c = C at *
          go_enter Try.func58, Try.ntmps58
          go_wp2_with fail
          (with_reducible refine (H1.out _).mono ?_)
          rintro e w1 ⟨rfl, b1⟩
          go_wp2_with fail
          (with_reducible refine (H2.out _).mono ?_)
          rintro e w2 ⟨rfl, b2⟩
          go_wp2_with fail
          (with_reducible refine (H3.out _).mono ?_)
          rintro e w3 ⟨a, cap, rfl, r3, b3⟩
          go_wp2_with fail
          (with_reducible refine (H4.out _ _ _ hll).mono ?_)
          rintro e w4 ⟨rfl, rfl⟩
          go_wp2_with fail
          go_ret3
          have s1 := b1.size
          have s2 := b2.size
          exact FtPost.no HE.out (b1.trans ((b2.mono s1).trans (b3.mono (by omega))))
        | true =>
          rw [show (decide (1 ≤ l.length) && decide (l.length ≤ 16)) = true from hl] at h4
          have HE := Lib.hid (ft_yes h h2 h3 hl)
          have hll : l.length ≤ 9223372036854775807 := by simp [fits16] at hl; omega
          have H4 := Lib.hid h4
          have hB := bs_size b
          have hR := bs_size r
          have hBR : (bs r).size ≤ (bs b).size ∧ (bs b).size ≤ 1000000 := by omega
          have HN : Hid (((b.length - r.length : Nat) : Int) = (bs b).size - (bs r).size) := Lib.hid (by omega)
          clear h h2 h3 h4 hl hB hR
          generalize bs b = B at *
          generalize bs s = S at *
          generalize bs r = R at *
          generalize bs c = C at *
          obtain ⟨hBR1, hBR2⟩ := hBR
          go_enter Try.func58, Try.ntmps58
          go_wp2_with fail
          (with_reducible refine (H1.out _).mono ?_)
          rintro e w1 ⟨rfl, b1⟩
          go_wp2_with fail
          (with_reducible refine (H2.out _).mono ?_)
          rintro e w2 ⟨rfl, b2⟩
          go_wp2_with fail
          (with_reducible refine (H3.out _).mono ?_)
          rintro e w3 ⟨a, cap, rfl, r3, b3⟩
          go_wp2_with fail
          (with_reducible refine (H4.out _ _ _ hll).mono ?_)
          rintro e w4 ⟨rfl, rfl⟩
          go_wp2_with fail
          go_ret3
          have s1 := b1.size
          have s2 := b2.size
          rw [HE.out]
          exact ⟨a, cap, by simp only [HN.out]; rfl, r3, b1.trans ((b2.mono s1).trans (b3.mono (by omega)))⟩
      · have HE := Lib.hid (ft_form h h2 h3 he)
        have hb0 : ((e : Int) != 0) = true := by rw [bne_iff_ne]; omega
        clear h h2 h3
        generalize bs b = B at *
        generalize bs s = S at *
        generalize bs r = R at *
        generalize bs c = C at *
        go_enter Try.func58, Try.ntmps58
        go_wp2_with fail
        (with_reducible refine (H1.out _).mono ?_)
        rintro e w1 ⟨rfl, b1⟩
        go_wp2_with fail
        (with_reducible refine (H2.out _).mono ?_)
        rintro e w2 ⟨rfl, b2⟩
        go_wp2_with fail
        (with_reducible refine (H3.out _).mono ?_)
        rintro e w3 ⟨a, cap, rfl, r3, b3⟩
        go_wp2_with fail
        go_ret3
        have s1 := b1.size
        have s2 := b2.size
        exact FtPost.no HE.out (b1.trans ((b2.mono s1).trans (b3.mono (by omega))))
  · have HE := Lib.hid (ft_err h he)
    have hb0 : ((e : Int) != 0) = true := by rw [bne_iff_ne]; omega
    clear h
    generalize bs b = B at *
    generalize bs s = S at *
    generalize bs r = R at *
    go_enter Try.func58, Try.ntmps58
    go_wp2_with fail
    (with_reducible refine (H1.out _).mono ?_)
    rintro e w1 ⟨rfl, b1⟩
    go_wp2_with fail
    go_ret3
    exact FtPost.no HE.out b1

end Go.Proofs.Ytdifecclldkhpaa
