/- What the document's own Read of layer 3 returns: the same plain function. -/
import Derived.Test.YtdifecclldkhpaaRrefs
namespace Go.Proofs.Ytdifecclldkhpaa
open Go.RowKit

theorem Box.other {w0 : World} {o : Obj} {W : World} (h : Box w0 o W) {p : Addr} (hp : w0.heap.size < p.block) (v : Value) : Box w0 o (W.setCell p v) :=
  ⟨h.1.setCell (by omega) v, by rw [World.size_setCell]; exact h.2.1, by rw [Below.heap_setCell _ _ _ _ (by omega)]; exact h.2.2⟩
theorem Box.set {w0 : World} {cs : Array Value} {t : TypeId} {W : World} (h : Box w0 (.cells cs t) W) (i : Nat) (v : Value) : Box w0 (.cells (cs.setIfInBounds i v) t) (W.setCell ⟨w0.heap.size, i, none⟩ v) :=
  ⟨h.1.setCell (p := ⟨w0.heap.size, i, none⟩) (Nat.le_refl _) v, by rw [World.size_setCell]; exact h.2.1, heap_setCell_same W w0.heap.size i cs t v h.2.2⟩

theorem reftake_of (b : ByteArray) (hb : b.size ≤ 9223372036854775807) (n : Nat) (s : List UInt8) (e : Nat) (h : tk b.data.toList = (n, s, e)) (w : World) :
    Calls Try.prog 35 #[.string b] w fun x w' => x = .returned (.tuple #[.int .u64 (n : Nat), .string (bs s), .int .i64 (e : Nat)]) ∧ Below w.heap.size w w' := by
  have := reftake_any b w hb
  rw [tkV, h] at this
  exact this

theorem refoftext_of (l : List UInt8) (hl : l.length ≤ 9223372036854775807) (k s : List UInt8) (e : Nat) (h : ot l = (k, s, e)) (w : World) :
    Calls Try.prog 36 #[.string (bs l)] w fun x w' => x = .returned (.tuple #[.string (bs k), .string (bs s), .int .i64 (e : Nat)]) ∧ Below w.heap.size w w' := by
  have := refoftext_any (bs l) w (by rw [bs_size]; exact hl)
  rw [bs_list, otV, h] at this
  exact this

set_option maxRecDepth 100000 in
set_option maxHeartbeats 1000000 in
theorem refread_any (b : ByteArray) (w : World) (hb : b.size ≤ 9223372036854775807) :
    Calls Try.prog 47 #[.string b] w fun e w' => e = .returned (rdV b.data.toList) ∧ Below w.heap.size w w' := by
  obtain ⟨n, r, er, htk⟩ : ∃ n r e, tk b.data.toList = (n, r, e) := ⟨_, _, _, rfl⟩
  have H := Lib.hid (reftake_of b hb n r er htk)
  have K0 := Lib.hid (Box.made w (.cells #[.int .u64 0, .string ⟨#[]⟩, .string ⟨#[]⟩, .bool false] 45))
  by_cases he : er = 0
  · subst he
    obtain ⟨hn, hrl⟩ := tk_rest_le _ htk
    rw [len_size] at hrl
    have hnm : n ≤ 18446744073709551615 := by unfold M64 at hn; omega
    obtain ⟨k, s, e2, ho⟩ : ∃ k s e, ot r = (k, s, e) := ⟨_, _, _, rfl⟩
    have H2 := Lib.hid (refoftext_of r (by omega) k s e2 ho)
    by_cases he2 : e2 = 0
    · subst he2
      obtain ⟨hsl, hkl⟩ := ot_rest_le ho
      by_cases hodd : n % 2 = 1
      · have f := pt_fits (pt_gone htk ho hodd) (by rw [len_size]; exact hb)
        have h3 := fun W => refright_any ⟨n / 2, k, [], true⟩ W f.1 f.2.1 f.2.2
        cases hg : right ⟨n / 2, k, [], true⟩ with
        | true =>
          have e : rdV b.data.toList = .tuple #[.agg #[.int .u64 ((n : Int) / 2), .string (bs k), .string ⟨#[]⟩, .bool true], .string (bs s), .int .i64 0] := by rw [rdV, rd_yes (pt_gone htk ho hodd) hg]; rfl
          rw [e]
          rw [hg] at h3
          simp only [rv] at h3
          rw [show bs ([] : List UInt8) = ⟨#[]⟩ from rfl] at h3
          simp only [show (((n / 2 : Nat) : Nat) : Int) = (n : Int) / 2 from by omega] at h3
          have H3 := Lib.hid h3
          have hpar : ((n : Int) % 2 == 1) = true := by rw [beq_iff_eq]; omega
          clear e htk ho hn hrl hsl hkl hodd h3 f hg
          generalize bs r = R at *
          generalize bs k = K at *
          generalize bs s = S at *
          go_enter Try.func47, Try.ntmps47
          go_wp2_with fail
          (with_reducible refine (H.out _).mono ?_)
          rintro e w1 ⟨rfl, b1⟩
          have K1 := Lib.hid (K0.out.call b1)
          clear b1 K0
          have M1 := Lib.hid (Box.made w1 (.cells #[.int .u64 ((n : Int) / 2), .string ⟨#[]⟩, .string ⟨#[]⟩, .bool true] 45))
          have hz1 : w.heap.size < w1.heap.size := K1.out.2.1
          go_wp2_with fail
          (with_reducible refine (H2.out _).mono ?_)
          rintro e w2 ⟨rfl, b2⟩
          have K2 := Lib.hid ((K1.out.alloc _).call b2)
          have M2 := Lib.hid (M1.out.call b2)
          clear b2 K1 M1
          obtain ⟨_, c0, c1, c2, c3⟩ := Box4.cells (show Box4 w1 _ _ _ _ w2 from M2.out)
          obtain ⟨s0, s1, s2, s3⟩ := Box4.soft (show Box4 w1 _ _ _ _ w2 from M2.out)
          have K3 := Lib.hid (K2.out.other (p := ⟨w1.heap.size, 1, none⟩) hz1 (.string K))
          have M3 := Lib.hid (M2.out.set 1 (.string K))
          go_wp2_with fail
          (with_reducible refine (H3.out _).mono ?_)
          rintro e w4 ⟨rfl, b4⟩
          clear c0 c1 c2 c3 s0 s1 s2 s3
          have KZ : Box4 w _ _ _ _ w4 := K3.out.call b4
          have MZ : Box4 w1 _ _ _ _ w4 := M3.out.call b4
          clear b4
          obtain ⟨_, c0, c1, c2, c3⟩ := Box4.cells MZ
          obtain ⟨_, d0, d1, d2, d3⟩ := Box4.cells KZ
          obtain ⟨g0, g1, g2, g3⟩ := Box4.soft KZ
          go_wp2_with fail
          exact bodyPost_ret (v := .tuple #[.agg #[.int .u64 ((n : Int) / 2), .string (K), .string ⟨#[]⟩, .bool true], .string S, .int .i64 0]) (by simp [results, Try.results47, go_sem, d0, d1, d2, d3]) rfl ⟨rfl, below_set4 KZ.1 _ _ _ _⟩
        | false =>
          have e : rdV b.data.toList = .tuple #[.agg #[.int .u64 0, .string ⟨#[]⟩, .string ⟨#[]⟩, .bool false], .string ⟨#[]⟩, .int .i64 2] := by rw [rdV, rd_no (pt_gone htk ho hodd) hg]; rfl
          rw [e]
          rw [hg] at h3
          simp only [rv] at h3
          rw [show bs ([] : List UInt8) = ⟨#[]⟩ from rfl] at h3
          simp only [show (((n / 2 : Nat) : Nat) : Int) = (n : Int) / 2 from by omega] at h3
          have H3 := Lib.hid h3
          have hpar : ((n : Int) % 2 == 1) = true := by rw [beq_iff_eq]; omega
          clear e htk ho hn hrl hsl hkl hodd h3 f hg
          generalize bs r = R at *
          generalize bs k = K at *
          generalize bs s = S at *
          go_enter Try.func47, Try.ntmps47
          go_wp2_with fail
          (with_reducible refine (H.out _).mono ?_)
          rintro e w1 ⟨rfl, b1⟩
          have K1 := Lib.hid (K0.out.call b1)
          clear b1 K0
          have M1 := Lib.hid (Box.made w1 (.cells #[.int .u64 ((n : Int) / 2), .string ⟨#[]⟩, .string ⟨#[]⟩, .bool true] 45))
          have hz1 : w.heap.size < w1.heap.size := K1.out.2.1
          go_wp2_with fail
          (with_reducible refine (H2.out _).mono ?_)
          rintro e w2 ⟨rfl, b2⟩
          have K2 := Lib.hid ((K1.out.alloc _).call b2)
          have M2 := Lib.hid (M1.out.call b2)
          clear b2 K1 M1
          obtain ⟨_, c0, c1, c2, c3⟩ := Box4.cells (show Box4 w1 _ _ _ _ w2 from M2.out)
          obtain ⟨s0, s1, s2, s3⟩ := Box4.soft (show Box4 w1 _ _ _ _ w2 from M2.out)
          have K3 := Lib.hid (K2.out.other (p := ⟨w1.heap.size, 1, none⟩) hz1 (.string K))
          have M3 := Lib.hid (M2.out.set 1 (.string K))
          go_wp2_with fail
          (with_reducible refine (H3.out _).mono ?_)
          rintro e w4 ⟨rfl, b4⟩
          clear c0 c1 c2 c3 s0 s1 s2 s3
          have KZ : Box4 w _ _ _ _ w4 := K3.out.call b4
          have MZ : Box4 w1 _ _ _ _ w4 := M3.out.call b4
          clear b4
          obtain ⟨_, c0, c1, c2, c3⟩ := Box4.cells MZ
          obtain ⟨_, d0, d1, d2, d3⟩ := Box4.cells KZ
          obtain ⟨g0, g1, g2, g3⟩ := Box4.soft KZ
          go_wp2_with fail
          exact bodyPost_ret (v := .tuple #[.agg #[.int .u64 0, .string ⟨#[]⟩, .string ⟨#[]⟩, .bool false], .string ⟨#[]⟩, .int .i64 2]) (by simp [results, Try.results47, go_sem, d0, d1, d2, d3]) rfl ⟨rfl, below_set4 KZ.1 _ _ _ _⟩
      · obtain ⟨v, u, e3, hv⟩ : ∃ k x e, ot s = (k, x, e) := ⟨_, _, _, rfl⟩
        have H4 := Lib.hid (refoftext_of s (by omega) v u e3 hv)
        have hpar : ((n : Int) % 2 == 1) = false := by rw [beq_eq_false_iff_ne]; omega
        by_cases he3 : e3 = 0
        · subst he3
          have f := pt_fits (pt_here htk ho hodd hv) (by rw [len_size]; exact hb)
          have h3 := fun W => refright_any ⟨n / 2, k, v, false⟩ W f.1 f.2.1 f.2.2
          cases hg : right ⟨n / 2, k, v, false⟩ with
          | true =>
            have e : rdV b.data.toList = .tuple #[.agg #[.int .u64 ((n : Int) / 2), .string (bs k), .string (bs v), .bool false], .string (bs u), .int .i64 0] := by rw [rdV, rd_yes (pt_here htk ho hodd hv) hg]; rfl
            rw [e]
            rw [hg] at h3
            simp only [rv] at h3
            simp only [show (((n / 2 : Nat) : Nat) : Int) = (n : Int) / 2 from by omega] at h3
            have H3 := Lib.hid h3
            clear e htk ho hn hrl hsl hkl hodd hv h3 f hg
            generalize bs r = R at *
            generalize bs k = K at *
            generalize bs s = S at *
            generalize bs v = V at *
            generalize bs u = U at *
            go_enter Try.func47, Try.ntmps47
            go_wp2_with fail
            (with_reducible refine (H.out _).mono ?_)
            rintro e w1 ⟨rfl, b1⟩
            have K1 := Lib.hid (K0.out.call b1)
            clear b1 K0
            have M1 := Lib.hid (Box.made w1 (.cells #[.int .u64 ((n : Int) / 2), .string ⟨#[]⟩, .string ⟨#[]⟩, .bool false] 45))
            have hz1 : w.heap.size < w1.heap.size := K1.out.2.1
            go_wp2_with fail
            (with_reducible refine (H2.out _).mono ?_)
            rintro e w2 ⟨rfl, b2⟩
            have K2 := Lib.hid ((K1.out.alloc _).call b2)
            have M2 := Lib.hid (M1.out.call b2)
            clear b2 K1 M1
            obtain ⟨_, c0, c1, c2, c3⟩ := Box4.cells (show Box4 w1 _ _ _ _ w2 from M2.out)
            obtain ⟨s0, s1, s2, s3⟩ := Box4.soft (show Box4 w1 _ _ _ _ w2 from M2.out)
            have K3 := Lib.hid (K2.out.other (p := ⟨w1.heap.size, 1, none⟩) hz1 (.string K))
            have M3 := Lib.hid (M2.out.set 1 (.string K))
            go_wp2_with fail
            (with_reducible refine (H4.out _).mono ?_)
            rintro e w3 ⟨rfl, b3⟩
            clear c0 c1 c2 c3 s0 s1 s2 s3
            have K4 := Lib.hid (K3.out.call b3)
            have M4 := Lib.hid (M3.out.call b3)
            clear b3 K3 M3
            obtain ⟨_, c0, c1, c2, c3⟩ := Box4.cells (show Box4 w1 _ _ _ _ w3 from M4.out)
            obtain ⟨s0, s1, s2, s3⟩ := Box4.soft (show Box4 w1 _ _ _ _ w3 from M4.out)
            have K5 := Lib.hid (K4.out.other (p := ⟨w1.heap.size, 2, none⟩) hz1 (.string V))
            have M5 := Lib.hid (M4.out.set 2 (.string V))
            go_wp2_with fail
            (with_reducible refine (H3.out _).mono ?_)
            rintro e w4 ⟨rfl, b4⟩
            clear c0 c1 c2 c3 s0 s1 s2 s3
            have KZ : Box4 w _ _ _ _ w4 := K5.out.call b4
            have MZ : Box4 w1 _ _ _ _ w4 := M5.out.call b4
            clear b4
            obtain ⟨_, c0, c1, c2, c3⟩ := Box4.cells MZ
            obtain ⟨_, d0, d1, d2, d3⟩ := Box4.cells KZ
            obtain ⟨g0, g1, g2, g3⟩ := Box4.soft KZ
            go_wp2_with fail
            exact bodyPost_ret (v := .tuple #[.agg #[.int .u64 ((n : Int) / 2), .string (K), .string (V), .bool false], .string U, .int .i64 0]) (by simp [results, Try.results47, go_sem, d0, d1, d2, d3]) rfl ⟨rfl, below_set4 KZ.1 _ _ _ _⟩
          | false =>
            have e : rdV b.data.toList = .tuple #[.agg #[.int .u64 0, .string ⟨#[]⟩, .string ⟨#[]⟩, .bool false], .string ⟨#[]⟩, .int .i64 2] := by rw [rdV, rd_no (pt_here htk ho hodd hv) hg]; rfl
            rw [e]
            rw [hg] at h3
            simp only [rv] at h3
            simp only [show (((n / 2 : Nat) : Nat) : Int) = (n : Int) / 2 from by omega] at h3
            have H3 := Lib.hid h3
            clear e htk ho hn hrl hsl hkl hodd hv h3 f hg
            generalize bs r = R at *
            generalize bs k = K at *
            generalize bs s = S at *
            generalize bs v = V at *
            generalize bs u = U at *
            go_enter Try.func47, Try.ntmps47
            go_wp2_with fail
            (with_reducible refine (H.out _).mono ?_)
            rintro e w1 ⟨rfl, b1⟩
            have K1 := Lib.hid (K0.out.call b1)
            clear b1 K0
            have M1 := Lib.hid (Box.made w1 (.cells #[.int .u64 ((n : Int) / 2), .string ⟨#[]⟩, .string ⟨#[]⟩, .bool false] 45))
            have hz1 : w.heap.size < w1.heap.size := K1.out.2.1
            go_wp2_with fail
            (with_reducible refine (H2.out _).mono ?_)
            rintro e w2 ⟨rfl, b2⟩
            have K2 := Lib.hid ((K1.out.alloc _).call b2)
            have M2 := Lib.hid (M1.out.call b2)
            clear b2 K1 M1
            obtain ⟨_, c0, c1, c2, c3⟩ := Box4.cells (show Box4 w1 _ _ _ _ w2 from M2.out)
            obtain ⟨s0, s1, s2, s3⟩ := Box4.soft (show Box4 w1 _ _ _ _ w2 from M2.out)
            have K3 := Lib.hid (K2.out.other (p := ⟨w1.heap.size, 1, none⟩) hz1 (.string K))
            have M3 := Lib.hid (M2.out.set 1 (.string K))
            go_wp2_with fail
            (with_reducible refine (H4.out _).mono ?_)
            rintro e w3 ⟨rfl, b3⟩
            clear c0 c1 c2 c3 s0 s1 s2 s3
            have K4 := Lib.hid (K3.out.call b3)
            have M4 := Lib.hid (M3.out.call b3)
            clear b3 K3 M3
            obtain ⟨_, c0, c1, c2, c3⟩ := Box4.cells (show Box4 w1 _ _ _ _ w3 from M4.out)
            obtain ⟨s0, s1, s2, s3⟩ := Box4.soft (show Box4 w1 _ _ _ _ w3 from M4.out)
            have K5 := Lib.hid (K4.out.other (p := ⟨w1.heap.size, 2, none⟩) hz1 (.string V))
            have M5 := Lib.hid (M4.out.set 2 (.string V))
            go_wp2_with fail
            (with_reducible refine (H3.out _).mono ?_)
            rintro e w4 ⟨rfl, b4⟩
            clear c0 c1 c2 c3 s0 s1 s2 s3
            have KZ : Box4 w _ _ _ _ w4 := K5.out.call b4
            have MZ : Box4 w1 _ _ _ _ w4 := M5.out.call b4
            clear b4
            obtain ⟨_, c0, c1, c2, c3⟩ := Box4.cells MZ
            obtain ⟨_, d0, d1, d2, d3⟩ := Box4.cells KZ
            obtain ⟨g0, g1, g2, g3⟩ := Box4.soft KZ
            go_wp2_with fail
            exact bodyPost_ret (v := .tuple #[.agg #[.int .u64 0, .string ⟨#[]⟩, .string ⟨#[]⟩, .bool false], .string ⟨#[]⟩, .int .i64 2]) (by simp [results, Try.results47, go_sem, d0, d1, d2, d3]) rfl ⟨rfl, below_set4 KZ.1 _ _ _ _⟩
        · have e : rdV b.data.toList = .tuple #[.agg #[.int .u64 0, .string ⟨#[]⟩, .string ⟨#[]⟩, .bool false], .string ⟨#[]⟩, .int .i64 (e3 : Nat)] := by rw [rdV, rd_err (pt_here htk ho hodd hv) he3]; rfl
          rw [e]
          have hne : ((e3 : Int) != 0) = true := by rw [bne_iff_ne]; omega
          clear e htk ho hn hrl hsl hkl hodd hv
          generalize bs r = R at *
          generalize bs k = K at *
          generalize bs s = S at *
          generalize bs v = V at *
          generalize bs u = U at *
          go_enter Try.func47, Try.ntmps47
          go_wp2_with fail
          (with_reducible refine (H.out _).mono ?_)
          rintro e w1 ⟨rfl, b1⟩
          have K1 := Lib.hid (K0.out.call b1)
          clear b1 K0
          have M1 := Lib.hid (Box.made w1 (.cells #[.int .u64 ((n : Int) / 2), .string ⟨#[]⟩, .string ⟨#[]⟩, .bool false] 45))
          have hz1 : w.heap.size < w1.heap.size := K1.out.2.1
          go_wp2_with fail
          (with_reducible refine (H2.out _).mono ?_)
          rintro e w2 ⟨rfl, b2⟩
          have K2 := Lib.hid ((K1.out.alloc _).call b2)
          have M2 := Lib.hid (M1.out.call b2)
          clear b2 K1 M1
          obtain ⟨_, c0, c1, c2, c3⟩ := Box4.cells (show Box4 w1 _ _ _ _ w2 from M2.out)
          obtain ⟨s0, s1, s2, s3⟩ := Box4.soft (show Box4 w1 _ _ _ _ w2 from M2.out)
          have K3 := Lib.hid (K2.out.other (p := ⟨w1.heap.size, 1, none⟩) hz1 (.string K))
          have M3 := Lib.hid (M2.out.set 1 (.string K))
          go_wp2_with fail
          (with_reducible refine (H4.out _).mono ?_)
          rintro e w3 ⟨rfl, b3⟩
          clear c0 c1 c2 c3 s0 s1 s2 s3
          have K4 := Lib.hid (K3.out.call b3)
          have M4 := Lib.hid (M3.out.call b3)
          clear b3 K3 M3
          have KZ : Box4 w _ _ _ _ w3 := K4.out
          obtain ⟨_, d0, d1, d2, d3⟩ := Box4.cells KZ
          obtain ⟨g0, g1, g2, g3⟩ := Box4.soft KZ
          go_wp2_with fail
          exact bodyPost_ret (v := .tuple #[.agg #[.int .u64 0, .string ⟨#[]⟩, .string ⟨#[]⟩, .bool false], .string ⟨#[]⟩, .int .i64 (e3 : Nat)]) (by simp [results, Try.results47, go_sem, d0, d1, d2, d3]) rfl ⟨rfl, below_set4 KZ.1 _ _ _ _⟩
    · have e : rdV b.data.toList = .tuple #[.agg #[.int .u64 0, .string ⟨#[]⟩, .string ⟨#[]⟩, .bool false], .string ⟨#[]⟩, .int .i64 (e2 : Nat)] := by rw [rdV, rd_err (pt_key htk ho he2) he2]; rfl
      rw [e]
      have hne : ((e2 : Int) != 0) = true := by rw [bne_iff_ne]; omega
      have hpar : ∃ g, ((n : Int) % 2 == 1) = g := ⟨_, rfl⟩
      obtain ⟨g, hpar⟩ := hpar
      clear e htk ho hn hrl
      go_enter Try.func47, Try.ntmps47
      go_wp2_with fail
      (with_reducible refine (H.out _).mono ?_)
      rintro e w1 ⟨rfl, b1⟩
      have K1 := Lib.hid (K0.out.call b1)
      clear b1 K0
      have M1 := Lib.hid (Box.made w1 (.cells #[.int .u64 ((n : Int) / 2), .string ⟨#[]⟩, .string ⟨#[]⟩, .bool g] 45))
      have hz1 : w.heap.size < w1.heap.size := K1.out.2.1
      go_wp2_with fail
      (with_reducible refine (H2.out _).mono ?_)
      rintro e w2 ⟨rfl, b2⟩
      have K2 := Lib.hid ((K1.out.alloc _).call b2)
      have M2 := Lib.hid (M1.out.call b2)
      clear b2 K1 M1
      have KZ : Box4 w _ _ _ _ w2 := K2.out
      obtain ⟨_, d0, d1, d2, d3⟩ := Box4.cells KZ
      obtain ⟨g0, g1, g2, g3⟩ := Box4.soft KZ
      go_wp2_with fail
      exact bodyPost_ret (v := .tuple #[.agg #[.int .u64 0, .string ⟨#[]⟩, .string ⟨#[]⟩, .bool false], .string ⟨#[]⟩, .int .i64 (e2 : Nat)]) (by simp [results, Try.results47, go_sem, d0, d1, d2, d3]) rfl ⟨rfl, below_set4 KZ.1 _ _ _ _⟩
  · have e : rdV b.data.toList = .tuple #[.agg #[.int .u64 0, .string ⟨#[]⟩, .string ⟨#[]⟩, .bool false], .string ⟨#[]⟩, .int .i64 (er : Nat)] := by rw [rdV, rd_err (pt_num htk he) he]; rfl
    rw [e]
    have hne : ((er : Int) != 0) = true := by rw [bne_iff_ne]; omega
    clear e htk
    go_enter Try.func47, Try.ntmps47
    go_wp2_with fail
    (with_reducible refine (H.out _).mono ?_)
    rintro e w1 ⟨rfl, b1⟩
    have K1 := Lib.hid (K0.out.call b1)
    clear b1 K0
    have KZ : Box4 w _ _ _ _ w1 := K1.out
    obtain ⟨_, d0, d1, d2, d3⟩ := Box4.cells KZ
    obtain ⟨g0, g1, g2, g3⟩ := Box4.soft KZ
    go_wp2_with fail
    exact bodyPost_ret (v := .tuple #[.agg #[.int .u64 0, .string ⟨#[]⟩, .string ⟨#[]⟩, .bool false], .string ⟨#[]⟩, .int .i64 (er : Nat)]) (by simp [results, Try.results47, go_sem, d0, d1, d2, d3]) rfl ⟨rfl, below_set4 KZ.1 _ _ _ _⟩

end Go.Proofs.Ytdifecclldkhpaa
