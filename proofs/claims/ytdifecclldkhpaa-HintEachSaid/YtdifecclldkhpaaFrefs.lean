/- What the document's own Bytes, Take and Scan of layer 4 return. -/
import Derived.Test.YtdifecclldkhpaaFscan
import Derived.Test.YtdifecclldkhpaaCrefs
import Derived.Test.YtdifecclldkhpaaRreflists
namespace Go.Proofs.Ytdifecclldkhpaa
open Go.RowKit

set_option maxRecDepth 100000 in
set_option maxHeartbeats 400000 in
theorem reffbytes_any (l : List Rc) (a : Option Addr) (cap : Nat) (w : World) (hl : l.length ≤ 9223372036854775807) (hr : Recs w a l) (hf : Fits l) :
    Calls Try.prog 43 #[.slice a l.length cap] w fun e w' => e = .returned (fbV l) ∧ Below w.heap.size w w' := by
  by_cases h0 : l.length < 1
  · have HE := Lib.hid (fbV_no (l := l) (by simp [good, fits16]; omega))
    have h0i : (l.length : Int) < 1 := by omega
    clear h0
    go_enter Try.func43, Try.ntmps43
    go_wp2_with fail
    go_ret2
    exact ⟨HE.out.symm ▸ rfl, Below.refl _ _⟩
  by_cases h16 : 16 < l.length
  · have HE := Lib.hid (fbV_no (l := l) (by simp [good, fits16]; omega))
    have h0i : ¬ (l.length : Int) < 1 := by omega
    have h16i : (16 : Int) < (l.length : Int) := by omega
    go_enter Try.func43, Try.ntmps43
    go_wp2_with fail
    go_ret2
    exact ⟨HE.out.symm ▸ rfl, Below.refl _ _⟩
  have h0i : ¬ (l.length : Int) < 1 := by omega
  have h16i : ¬ (16 : Int) < (l.length : Int) := by omega
  have h1 := fun W (hW : Below w.heap.size w W) => refall_any l a cap W (by omega) (hr.later hW (Nat.le_refl _)) hf
  cases hg : rights l with
  | false =>
    rw [allV_no (by simp [hg])] at h1
    have HE := Lib.hid (fbV_no (l := l) (by simp [good, hg]))
    have H1 := Lib.hid h1
    clear h1 hr hf hg
    go_enter Try.func43, Try.ntmps43
    go_wp2_with fail
    (with_reducible refine (H1.out _ (Below.refl _ _)).mono ?_)
    rintro e w1 ⟨rfl, b1⟩
    go_wp2_with fail
    go_ret2
    exact ⟨HE.out.symm ▸ rfl, b1⟩
  | true =>
    rw [allV_yes hg] at h1
    have hgood : good l = true := by simp [good, hg, fits16]; omega
    obtain ⟨z1, z2⟩ := good_len hgood
    have HE := Lib.hid (fbV_yes hgood)
    have h2 := fun W => refseal_any (bs (encs l)) W (by rw [bs_size]; omega)
    have h3 := fun W => reftext_of (seal4 (encs l)) W (by rw [seal_len]; omega)
    rw [bs_list] at h2
    rw [← fbs] at h3
    have H1 := Lib.hid h1
    have H2 := Lib.hid h2
    have H3 := Lib.hid h3
    clear h1 h2 h3 hr hf hg hgood
    generalize bs (encs l) = X at *
    generalize bs (seal4 (encs l)) = Y at *
    generalize bs (fbs l) = Z at *
    go_enter Try.func43, Try.ntmps43
    go_wp2_with fail
    (with_reducible refine (H1.out _ (Below.refl _ _)).mono ?_)
    rintro e w1 ⟨rfl, b1⟩
    go_wp2_with fail
    (with_reducible refine (H2.out _).mono ?_)
    rintro e w2 ⟨rfl, b2⟩
    go_wp2_with fail
    (with_reducible refine (H3.out _).mono ?_)
    rintro e w3 ⟨rfl, b3⟩
    go_wp2_with fail
    go_ret2
    have s1 := b1.size
    have s2 := b2.size
    exact ⟨HE.out.symm ▸ rfl, b1.trans ((b2.mono s1).trans (b3.mono (by omega)))⟩

theorem refopens_of (s : List UInt8) (hs : s.length ≤ 281474976710656) (c : List UInt8) (ok : Bool) (h : opn s = (c, ok)) (w : World) :
    Calls Try.prog 34 #[.string (bs s)] w fun e w' => e = .returned (.tuple #[.string (bs c), .bool ok]) ∧ Below w.heap.size w w' := by
  have := refopen_any (bs s) w (by rw [bs_size]; exact hs)
  rw [bs_list, opnV, h] at this
  exact this

set_option maxRecDepth 100000 in
set_option maxHeartbeats 1000000 in
theorem refftake_any (b : List UInt8) (w : World) (hb : b.length ≤ 1000000) :
    Calls Try.prog 61 #[.string (bs b)] w (FtPost w (ft b)) := by
  obtain ⟨s, r, e, h⟩ : ∃ s r e, ot b = (s, r, e) := ⟨_, _, _, rfl⟩
  have H1 := Lib.hid (refoftext_of b (by omega) s r e h)
  by_cases he : e = 0
  · subst he
    obtain ⟨hr1, hs1⟩ := ot_rest_le h
    obtain ⟨c, ok, h2⟩ : ∃ c ok, opn s = (c, ok) := ⟨_, _, rfl⟩
    have hc := opn_le h2
    have H2 := Lib.hid (refopens_of s (by omega) c ok h2)
    cases ok with
    | false =>
      have HE := Lib.hid (ft_sum h h2)
      clear h h2
      generalize bs b = B at *
      generalize bs s = S at *
      generalize bs r = R at *
      generalize bs c = C at *
      go_enter Try.func61, Try.ntmps61
      go_wp2_with fail
      (with_reducible refine (H1.out _).mono ?_)
      rintro e w1 ⟨rfl, b1⟩
      go_wp2_with fail
      (with_reducible refine (H2.out _).mono ?_)
      rintro e w2 ⟨rfl, b2⟩
      go_wp2_with fail
      go_ret3
      exact FtPost.no HE.out (b1.trans (b2.mono b1.size))
    | true =>
      obtain ⟨l, e, h3⟩ : ∃ l e, rds c = (l, e) := ⟨_, _, rfl⟩
      have h3' := fun W => reflist_any c W (by omega)
      rw [h3] at h3'
      have H3 := Lib.hid h3'
      clear h3'
      by_cases he : e = 0
      · subst he
        have hll : l.length ≤ 1000000 := by have := rds_len_le c; rw [h3] at this; simp at this; omega
        cases hl : fits16 l with
        | false =>
          have HE := Lib.hid (ft_many h h2 h3 hl)
          have hl2 : l.length < 1 ∨ 16 < l.length := by simp [fits16] at hl; omega
          clear h h2 h3 hl
          generalize bs b = B at *
          generalize bs s = S at *
          generalize bs r = R at *
          generalize bs c = C at *
          rcases hl2 with hl2 | hl2
          · have hl2i : (l.length : Int) < 1 := by omega
            clear hl2
            go_enter Try.func61, Try.ntmps61
            go_wp2_with fail
            (with_reducible refine (H1.out _).mono ?_)
            rintro e w1 ⟨rfl, b1⟩
            go_wp2_with fail
            (with_reducible refine (H2.out _).mono ?_)
            rintro e w2 ⟨rfl, b2⟩
            go_wp2_with fail
            (with_reducible refine (H3.out _).mono ?_)
            rintro e w3 ⟨a, cap, rfl, r3, b3⟩
            go_wp2_with fail
            go_ret3
            have s1 := b1.size
            have s2 := b2.size
            exact FtPost.no HE.out (b1.trans ((b2.mono s1).trans (b3.mono (by omega))))
          · have hl2i : (16 : Int) < (l.length : Int) := by omega
            have hl3i : ¬ (l.length : Int) < 1 := by omega
            go_enter Try.func61, Try.ntmps61
            go_wp2_with fail
            (with_reducible refine (H1.out _).mono ?_)
            rintro e w1 ⟨rfl, b1⟩
            go_wp2_with fail
            (with_reducible refine (H2.out _).mono ?_)
            rintro e w2 ⟨rfl, b2⟩
            go_wp2_with fail
            (with_reducible refine (H3.out _).mono ?_)
            rintro e w3 ⟨a, cap, rfl, r3, b3⟩
            go_wp2_with fail
            go_ret3
            have s1 := b1.size
            have s2 := b2.size
            exact FtPost.no HE.out (b1.trans ((b2.mono s1).trans (b3.mono (by omega))))
        | true =>
          have HE := Lib.hid (ft_yes h h2 h3 hl)
          have hl2 : 1 ≤ l.length ∧ l.length ≤ 16 := by simpa [fits16] using hl
          have hl2i : ¬ (l.length : Int) < 1 := by omega
          have hl3i : ¬ (16 : Int) < (l.length : Int) := by omega
          have hB := bs_size b
          have hR := bs_size r
          have hBR : (bs r).size ≤ (bs b).size ∧ (bs b).size ≤ 1000000 := by omega
          have HN : Hid (((b.length - r.length : Nat) : Int) = (bs b).size - (bs r).size) := Lib.hid (by omega)
          clear h h2 h3 hl hB hR hl2
          generalize bs b = B at *
          generalize bs s = S at *
          generalize bs r = R at *
          generalize bs c = C at *
          obtain ⟨hBR1, hBR2⟩ := hBR
          go_enter Try.func61, Try.ntmps61
          go_wp2_with fail
          (with_reducible refine (H1.out _).mono ?_)
          rintro e w1 ⟨rfl, b1⟩
          go_wp2_with fail
          (with_reducible refine (H2.out _).mono ?_)
          rintro e w2 ⟨rfl, b2⟩
          go_wp2_with fail
          (with_reducible refine (H3.out _).mono ?_)
          rintro e w3 ⟨a, cap, rfl, r3, b3⟩
          go_wp2_with fail
          go_ret3
          have s1 := b1.size
          have s2 := b2.size
          rw [HE.out]
          exact ⟨a, cap, by simp only [HN.out]; rfl, r3, b1.trans ((b2.mono s1).trans (b3.mono (by omega)))⟩
      · have HE := Lib.hid (ft_form h h2 h3 he)
        have hb0 : ((e : Int) != 0) = true := by rw [bne_iff_ne]; omega
        clear h h2 h3
        generalize bs b = B at *
        generalize bs s = S at *
        generalize bs r = R at *
        generalize bs c = C at *
        go_enter Try.func61, Try.ntmps61
        go_wp2_with fail
        (with_reducible refine (H1.out _).mono ?_)
        rintro e w1 ⟨rfl, b1⟩
        go_wp2_with fail
        (with_reducible refine (H2.out _).mono ?_)
        rintro e w2 ⟨rfl, b2⟩
        go_wp2_with fail
        (with_reducible refine (H3.out _).mono ?_)
        rintro e w3 ⟨a, cap, rfl, r3, b3⟩
        go_wp2_with fail
        go_ret3
        have s1 := b1.size
        have s2 := b2.size
        exact FtPost.no HE.out (b1.trans ((b2.mono s1).trans (b3.mono (by omega))))
  · have HE := Lib.hid (ft_err h he)
    have hb0 : ((e : Int) != 0) = true := by rw [bne_iff_ne]; omega
    clear h
    generalize bs b = B at *
    generalize bs s = S at *
    generalize bs r = R at *
    go_enter Try.func61, Try.ntmps61
    go_wp2_with fail
    (with_reducible refine (H1.out _).mono ?_)
    rintro e w1 ⟨rfl, b1⟩
    go_wp2_with fail
    go_ret3
    exact FtPost.no HE.out b1

set_option maxRecDepth 100000 in
set_option maxHeartbeats 1000000 in
theorem reffscan_any (b : List UInt8) (w : World) (hb : b.length ≤ 1000000) :
    Calls Try.prog 42 #[.string (bs b)] w (FsPost w (fs b)) := by
  obtain ⟨i0, hi, hz0, hz1, hz2⟩ := info_parts infoSlice
  have HI := Lib.hid (And.intro hi (And.intro hz0 (And.intro hz1 hz2)))
  clear hi hz0 hz1 hz2
  have hB := bs_size b
  have HX := Lib.hid (fun k => ext_of b k)
  generalize bs b = B at *
  have HB := Lib.hid hB
  rw [← hB] at hb
  clear hB
  go_enter Try.func42, Try.ntmps42
  go_wp2_with fail
  go_loopw [4, 5] (fun v i wr => ∃ (acc : List (List Rc)) (n k : Nat) (vs : List Value), i = .int .i64 k ∧ k ≤ B.size ∧ B.size - k < n ∧ acc.length ≤ k ∧ fsF n (b.drop k) acc k = fs b ∧ wr.ownsRow w.heap.size 53 1 v acc.length vs ∧ Rows2 wr vs acc ∧ Below w.heap.size w wr) (fun _ i _ => B.size - (intOf i).toNat)
  case atStart => exact ⟨[], b.length + 1, 0, [], rfl, by omega, by have := HB.out; omega, by simp, rfl, World.ownsRow_nil _ _ _ _, Rows2.nil _, Below.refl _ _⟩
  case round =>
    obtain ⟨acc, n, k, vs, rfl, hk, hn, hak, hr, hown, hrows, hbw⟩ := hrel
    obtain ⟨m, rfl⟩ : ∃ m, n = m + 1 := ⟨n - 1, by omega⟩
    have HR := Lib.hid hr
    have HO := Lib.hid hown
    have HV := Lib.hid hrows
    clear hr hown hrows
    have hki : (k : Int) ≤ (B.size : Int) := by omega
    have h1 := fun W => refftake_any (b.drop k) W (by rw [List.length_drop, ← HB.out]; omega)
    rw [← HX.out] at h1
    rcases ft_cases (b.drop k) with ⟨e, he, he4, h⟩ | ⟨l, j, h, hl, hj, hjl⟩
    · rw [h] at h1
      have H1 := Lib.hid h1
      have HE : Hid (fs b = (acc, k)) := Lib.hid (by rw [← HR.out, fsF_end h he])
      have hb0 : ((e : Int) != 0) = true := by rw [bne_iff_ne]; omega
      clear h1 h
      go_wp2_with fail
      (with_reducible refine (H1.out _).mono ?_)
      rintro e w1 ⟨a1, cap1, rfl, r1, b1⟩
      obtain ⟨a, cap, rfl, hrec⟩ := owns_bats HO.out HV.out
      have HC := Lib.hid hrec
      clear hrec r1
      go_wp2_with fail
      go_ret2
      exact ⟨a, cap, by rw [HE.out]; rfl, by rw [HE.out]; exact HC.out.later b1 (Nat.le_refl _), hbw.trans (b1.mono hbw.size)⟩
    · rw [h] at h1
      have H1 := Lib.hid h1
      have HN : Hid (fsF m (b.drop (k + j)) (acc ++ [l]) (k + j) = fs b) := Lib.hid (by rw [← HR.out, fsF_next h, List.drop_drop])
      rw [List.length_drop, ← HB.out] at hjl
      clear h1 h
      go_wp2_with fail
      (with_reducible refine (H1.out _).mono ?_)
      rintro e w1 ⟨a1, cap1, rfl, r1, b1⟩
      have hbz := hbw.size
      have hb1z := b1.size
      have R1 := Lib.hid r1
      have O1 := Lib.hid (owns_later HO.out b1)
      have V1 := Lib.hid (HV.out.later b1 (Nat.le_refl _))
      have B1 := Lib.hid (hbw.trans (b1.mono hbz))
      clear b1 HO HV hbw r1
      go_wp2_with (at_builtin; refine wpList_append_own _ rfl _ _ 51 rfl w.heap.size 53 i0 (.slice none 0 0) 1 24 Try.underlying51 HI.out.1 HI.out.2.1 HI.out.2.2.1 HI.out.2.2.2 rfl (by decide) _ _ _ rfl (O1.out.alloc _) ⟨w1.heap.size, 0, none⟩ 1 1 [.slice a1 l.length cap1] rfl rfl ?c1 (fun x hx => by simp at hx; rcases hx with rfl; rfl) (by unfold maxLen; omega) (by omega) (by simp; omega) ?_)
      case c1 => exact cell_one_new w1 _ _
      intro v' w3 hown' hgrow _
      have G1 : Hid (Rows2 w3 (vs ++ [.slice a1 l.length cap1]) (acc ++ [l])) := by
        have ha := (Below.refl w1.heap.size w1).alloc (Nat.le_refl _) (.cells #[.slice a1 l.length cap1] 53)
        exact Lib.hid ((((V1.out.later ha (Nat.le_refl _)).snoc (R1.out.later ha (Nat.le_refl _)))).grown (O1.out.alloc _) hgrow)
      have B3 : Hid (Below w.heap.size w w3) := Lib.hid (Below.grown (B1.out.alloc (by omega) _) hgrow (by simp; omega) (fun j hj => (O1.out.lt _ hj).1))
      have O3 := Lib.hid hown'
      clear hown' hgrow
      go_wp2_with fail
      go_roundw
      case rel => exact ⟨acc ++ [l], m, k + j, _, by go_num, by omega, by omega, by simp; omega, HN.out, by rw [List.length_append]; exact O3.out, G1.out, B3.out⟩
      case measure => simp [intOf]; omega

end Go.Proofs.Ytdifecclldkhpaa
