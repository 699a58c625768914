/- The walk of the law FrameTakes. -/
import Derived.Test.YtiglefkepoehoaaFawake
namespace Go.Proofs.Ytiglefkepoehoaa
open Go.RowKit

theorem fbV_shape (l : List Rc) : ∃ (x : ByteArray) (y : Int), fbV l = .tuple #[.string x, .int .i64 y] := by
  unfold fbV
  split
  · exact ⟨_, _, rfl⟩
  · exact ⟨_, _, rfl⟩

theorem ft_small (b : List UInt8) : (ft b).1.length ≤ 16 ∧ (ft b).2.1 ≤ b.length := by
  rcases ft_cases b with ⟨e, _, _, h⟩ | ⟨l, n, h, h16, _, hn⟩
  · rw [h]; simp
  · rw [h]; simp [fits16] at h16; exact ⟨h16.2, hn⟩

theorem fsF_small : ∀ (n : Nat) (b : List UInt8) (acc : List (List Rc)) (k : Nat), (∀ l ∈ acc, l.length ≤ 16) → (∀ l ∈ (fsF n b acc k).1, l.length ≤ 16) ∧ (fsF n b acc k).1.length ≤ acc.length + n
  | 0, b, acc, k, h => ⟨h, by simp [fsF]⟩
  | n + 1, b, acc, k, h => by
    rw [fsF]
    split
    · exact ⟨h, by simp⟩
    · have := fsF_small n (b.drop (ft b).2.1) (acc ++ [(ft b).1]) (k + (ft b).2.1) (fun l hl => by
        rcases List.mem_append.1 hl with hl | hl
        · exact h l hl
        · simp at hl; subst hl; exact (ft_small b).1)
      refine ⟨this.1, ?_⟩
      have h2 := this.2
      simp at h2
      omega

theorem fs_small (b : List UInt8) : (∀ l ∈ (fs b).1, l.length ≤ 16) ∧ (fs b).1.length ≤ b.length + 1 := by
  have := fsF_small (b.length + 1) b [] 0 (fun l hl => by simp at hl)
  simpa [fs] using this

set_option maxRecDepth 100000 in
set_option maxHeartbeats 1000000 in
theorem takes_of (l : List Rc) (a : Option Addr) (cap : Nat) (b : List UInt8) (w : World) (hl : l.length ≤ 9223372036854775807) (hr : Recs w a l) (hf : Fits l) (hb : b.length ≤ 9223372036854775807) :
    Calls Try.prog 3 #[.slice a l.length cap, .string (bs b)] w fun e w' => e = .returned (.bool true) ∧ Below w.heap.size w w' := by
  have HR := Lib.hid hr
  have HF := Lib.hid hf
  have zb : (bs b).size ≤ 9223372036854775807 := by rw [bs_size]; exact hb
  have hbz := bs_size b
  clear hr hf
  go_enter Try.func3, Try.ntmps3
  go_wp2_with fail
  refine (awake_any _).mono ?_
  rintro e w1 ⟨rfl, b1⟩
  go_wp2_with fail
  (with_reducible refine (light_any l a cap w1 hl (HR.out.later b1 (Nat.le_refl _)) HF.out).mono ?_)
  rintro e w2 ⟨ok, rfl, h40, b2⟩
  have B2 := b1.trans (b2.mono b1.size)
  cases ok with
  | false =>
    go_wp2_with fail
    go_ret
    exact ⟨rfl, B2⟩
  | true =>
    have h40 := h40 rfl
    by_cases c : 4000 < (bs b).size
    · go_wp2_with fail
      go_ret
      exact ⟨rfl, B2⟩
    · have z2 : b.length ≤ 4000 := by omega
      obtain ⟨x, y, hx⟩ := fbV_shape l
      have h1 := fun W (hW : Below w.heap.size w W) => fbytes_any l a cap W hl (HR.out.later hW (Nat.le_refl _)) HF.out
      have h2 := fun W (hW : Below w.heap.size w W) => reffbytes_any l a cap W hl (HR.out.later hW (Nat.le_refl _)) HF.out
      rw [hx] at h1 h2
      have H1 := Lib.hid h1
      have H2 := Lib.hid h2
      have h3 := fun W => ftake_any b W (by omega)
      have h4 := fun W => refftake_any b W (by omega)
      have h5 := fun W => fscan_any b W (by omega)
      have h6 := fun W => reffscan_any b W (by omega)
      obtain ⟨t1, t2⟩ := ft_small b
      obtain ⟨s1, s2⟩ := fs_small b
      obtain ⟨m, n, o, hm⟩ : ∃ m n o, ft b = (m, n, o) := ⟨_, _, _, rfl⟩
      obtain ⟨p, q, hp⟩ : ∃ p q, fs b = (p, q) := ⟨_, _, rfl⟩
      rw [hm] at h3 h4 t1 t2
      rw [hp] at h5 h6 s1 s2
      have H3 := Lib.hid h3
      have H4 := Lib.hid h4
      have H5 := Lib.hid h5
      have H6 := Lib.hid h6
      have H7 := Lib.hid (fun W a b c c' h1 h2 => same_yes m a b c c' W (by simp at t1; omega) h1 h2)
      have H8 := Lib.hid (fun W a b c c' h1 h2 => same2_yes p a b c c' W (by simp at s2; omega) (fun l hl => by have := s1 l hl; omega) h1 h2)
      have BB2 := Lib.hid B2
      clear h1 h2 h3 h4 h5 h6 hx B2 b1 b2 hm hp t1 t2 s1 s2
      go_wp2_with fail
      (with_reducible refine (H1.out _ BB2.out).mono ?_)
      rintro e w3 ⟨rfl, b3⟩
      have B3 := Lib.hid (BB2.out.trans (b3.mono BB2.out.size))
      clear b3 BB2
      go_wp2_with fail
      (with_reducible refine (H2.out _ B3.out).mono ?_)
      rintro e w4 ⟨rfl, b4⟩
      have B4 := Lib.hid (B3.out.trans (b4.mono B3.out.size))
      clear b4 B3
      go_wp2_with fail
      (with_reducible refine (H3.out _).mono ?_)
      rintro e w5 ⟨a5, c5, rfl, r5, b5⟩
      have R5 := Lib.hid r5.1
      have B5 := Lib.hid (B4.out.trans (b5.mono B4.out.size))
      clear b5 r5 B4
      go_wp2_with fail
      (with_reducible refine (H4.out _).mono ?_)
      rintro e w6 ⟨a6, c6, rfl, r6, b6⟩
      have R6 := Lib.hid r6.1
      have R5 := Lib.hid (R5.out.later b6 (Nat.le_refl _))
      have B6 := Lib.hid (B5.out.trans (b6.mono B5.out.size))
      clear b6 r6 B5
      go_wp2_with fail
      (with_reducible refine (H5.out _).mono ?_)
      rintro e w7 ⟨a7, c7, rfl, r7, b7⟩
      have R7 := Lib.hid r7
      have R5 := Lib.hid (R5.out.later b7 (Nat.le_refl _))
      have R6 := Lib.hid (R6.out.later b7 (Nat.le_refl _))
      have B7 := Lib.hid (B6.out.trans (b7.mono B6.out.size))
      clear b7 r7 B6
      go_wp2_with fail
      (with_reducible refine (H6.out _).mono ?_)
      rintro e w8 ⟨a8, c8, rfl, r8, b8⟩
      have R8 := Lib.hid r8
      have R5 := Lib.hid (R5.out.later b8 (Nat.le_refl _))
      have R6 := Lib.hid (R6.out.later b8 (Nat.le_refl _))
      have R7 := Lib.hid (R7.out.later b8 (Nat.le_refl _))
      have B8 := Lib.hid (B7.out.trans (b8.mono B7.out.size))
      clear b8 r8 B7
      go_wp2_with fail
      (with_reducible refine (H7.out _ _ _ _ _ R5.out R6.out).mono ?_)
      rintro e w9 ⟨rfl, b9⟩
      have R7 := Lib.hid (R7.out.later b9 (Nat.le_refl _))
      have R8 := Lib.hid (R8.out.later b9 (Nat.le_refl _))
      have B9 := Lib.hid (B8.out.trans (b9.mono B8.out.size))
      clear b9 B8
      go_wp2_with fail
      (with_reducible refine (H8.out _ _ _ _ _ R7.out R8.out).mono ?_)
      rintro e w10 ⟨rfl, b10⟩
      have B10 := Lib.hid (B9.out.trans (b10.mono B9.out.size))
      clear b10 B9
      go_wp2_with fail
      go_ret
      exact ⟨rfl, B10.out⟩

end Go.Proofs.Ytiglefkepoehoaa
