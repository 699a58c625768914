/- What the calls Bytes, parts and Read of package record return. -/
import Derived.Test.YtdifecclldkhpaaRall
namespace Go.Proofs.Ytdifecclldkhpaa
open Go.RowKit

theorem Box4.soft {w0 : World} {c0 c1 c2 c3 : Value} {W : World} (h : Box4 w0 c0 c1 c2 c3 W) :
    W.frozen? ⟨w0.heap.size, 0, none⟩ = false ∧ W.frozen? ⟨w0.heap.size, 1, none⟩ = false ∧ W.frozen? ⟨w0.heap.size, 2, none⟩ = false ∧ W.frozen? ⟨w0.heap.size, 3, none⟩ = false :=
  ⟨Lib.frozen_of_heap h.2.2 0, Lib.frozen_of_heap h.2.2 1, Lib.frozen_of_heap h.2.2 2, Lib.frozen_of_heap h.2.2 3⟩

theorem Fits.one {r : Rc} (hq : r.q ≤ 18446744073709551615) (hK : r.k.length ≤ 9223372036854775807) (hV : r.v.length ≤ 9223372036854775807) : Fits [r] := by
  intro x hx
  rw [List.mem_singleton] at hx
  subst hx
  exact ⟨hq, hK, hV⟩

/-- What parts returns. -/
def ptV (l : List UInt8) : Value := .tuple #[rv (pt l).1, .string (bs (pt l).2.1), .int .i64 ((pt l).2.2 : Nat)]

theorem ot_rest_le {l k s : List UInt8} (h : ot l = (k, s, 0)) : s.length ≤ l.length ∧ k.length ≤ l.length := by
  obtain ⟨e, _⟩ := ot_ok h
  have : l.length = (txt k).length + s.length := by rw [e, List.length_append]
  rw [txt, List.length_append] at this
  omega

theorem oftext_of (l : List UInt8) (hl : l.length ≤ 9223372036854775807) (k s : List UInt8) (e : Nat) (h : ot l = (k, s, e)) (w : World) :
    Calls Try.prog 38 #[.string (bs l)] w fun x w' => x = .returned (.tuple #[.string (bs k), .string (bs s), .int .i64 (e : Nat)]) ∧ Below w.heap.size w w' := by
  have := oftext_any (bs l) w (by rw [bs_size]; exact hl)
  rw [bs_list, otV, h] at this
  exact this

theorem take_of (b : ByteArray) (hb : b.size ≤ 9223372036854775807) (n : Nat) (s : List UInt8) (e : Nat) (h : tk b.data.toList = (n, s, e)) (w : World) :
    Calls Try.prog 57 #[.string b] w fun x w' => x = .returned (.tuple #[.int .u64 (n : Nat), .string (bs s), .int .i64 (e : Nat)]) ∧ Below w.heap.size w w' := by
  have := take_any b w hb
  rw [tkV, h] at this
  exact this

theorem below_set4 {w W : World} (h : Below w.heap.size w W) (v0 v1 v2 v3 : Value) : Below w.heap.size w ((((W.setCell ⟨w.heap.size, 0, none⟩ v0).setCell ⟨w.heap.size, 1, none⟩ v1).setCell ⟨w.heap.size, 2, none⟩ v2).setCell ⟨w.heap.size, 3, none⟩ v3) :=
  (((h.setCell (p := ⟨w.heap.size, 0, none⟩) (Nat.le_refl _) _).setCell (p := ⟨w.heap.size, 1, none⟩) (Nat.le_refl _) _).setCell (p := ⟨w.heap.size, 2, none⟩) (Nat.le_refl _) _).setCell (p := ⟨w.heap.size, 3, none⟩) (Nat.le_refl _) _

set_option maxRecDepth 100000 in
set_option maxHeartbeats 400000 in
theorem parts_any (b : ByteArray) (w : World) (hb : b.size ≤ 9223372036854775807) :
    Calls Try.prog 63 #[.string b] w fun e w' => e = .returned (ptV b.data.toList) ∧ Below w.heap.size w w' := by
  obtain ⟨n, r, er, htk⟩ : ∃ n r e, tk b.data.toList = (n, r, e) := ⟨_, _, _, rfl⟩
  have H := Lib.hid (take_of b hb n r er htk)
  have K0 := Lib.hid (Box.made w (.cells #[.int .u64 0, .string ⟨#[]⟩, .string ⟨#[]⟩, .bool false] 45))
  by_cases he : er = 0
  · subst he
    obtain ⟨hn, hrl⟩ := tk_rest_le _ htk
    rw [len_size] at hrl
    have hnm : n ≤ 18446744073709551615 := by unfold M64 at hn; omega
    obtain ⟨k, s, e2, ho⟩ : ∃ k s e, ot r = (k, s, e) := ⟨_, _, _, rfl⟩
    have H2 := Lib.hid (oftext_of r (by omega) k s e2 ho)
    by_cases he2 : e2 = 0
    · subst he2
      obtain ⟨hsl, _⟩ := ot_rest_le ho
      by_cases hodd : n % 2 = 1
      · have e : ptV b.data.toList = .tuple #[.agg #[.int .u64 ((n : Int) / 2), .string (bs k), .string ⟨#[]⟩, .bool true], .string (bs s), .int .i64 0] := by rw [ptV, pt_gone htk ho hodd]; rfl
        rw [e]
        have hpar : ((n : Int) % 2 == 1) = true := by rw [beq_iff_eq]; omega
        have H3 := Lib.hid (deletion_of ((n : Int) / 2) (bs k))
        clear e htk ho hn hrl hsl hodd
        generalize bs r = R at *
        generalize bs k = K at *
        generalize bs s = S at *
        go_enter Try.func63, Try.ntmps63
        go_wp2_with fail
        (with_reducible refine (H.out _).mono ?_)
        rintro e w1 ⟨rfl, b1⟩
        have K1 := Lib.hid (K0.out.call b1)
        clear b1
        go_wp2_with fail
        (with_reducible refine (H2.out _).mono ?_)
        rintro e w2 ⟨rfl, b2⟩
        have K2 := Lib.hid (K1.out.call b2)
        clear b2
        go_wp2_with fail
        (with_reducible refine (H3.out _).mono ?_)
        rintro e w3 ⟨rfl, b3⟩
        have K3 : Box4 w _ _ _ _ w3 := K2.out.call b3
        clear b3
        obtain ⟨_, d0, d1, d2, d3⟩ := Box4.cells K3
        obtain ⟨g0, g1, g2, g3⟩ := Box4.soft K3
        go_wp2_with fail
        exact bodyPost_ret (v := .tuple #[.agg #[.int .u64 ((n : Int) / 2), .string K, .string ⟨#[]⟩, .bool true], .string S, .int .i64 0]) (by simp [results, Try.results63, go_sem, d0, d1, d2, d3]) rfl ⟨rfl, below_set4 K3.1 _ _ _ _⟩
      · obtain ⟨v, u, e3, hv⟩ : ∃ k x e, ot s = (k, x, e) := ⟨_, _, _, rfl⟩
        have H3 := Lib.hid (oftext_of s (by omega) v u e3 hv)
        have e : ptV b.data.toList = .tuple #[.agg #[.int .u64 ((n : Int) / 2), .string (bs k), .string (bs v), .bool false], .string (bs u), .int .i64 (e3 : Nat)] := by rw [ptV, pt_here htk ho hodd hv]; rfl
        rw [e]
        have hpar : ((n : Int) % 2 == 1) = false := by rw [beq_eq_false_iff_ne]; omega
        clear e htk ho hn hrl hsl hodd hv
        generalize bs r = R at *
        generalize bs k = K at *
        generalize bs s = S at *
        generalize bs v = V at *
        generalize bs u = U at *
        go_enter Try.func63, Try.ntmps63
        go_wp2_with fail
        (with_reducible refine (H.out _).mono ?_)
        rintro e w1 ⟨rfl, b1⟩
        have K1 := Lib.hid (K0.out.call b1)
        clear b1
        go_wp2_with fail
        (with_reducible refine (H2.out _).mono ?_)
        rintro e w2 ⟨rfl, b2⟩
        have K2 := Lib.hid (K1.out.call b2)
        clear b2
        go_wp2_with fail
        (with_reducible refine (H3.out _).mono ?_)
        rintro e w3 ⟨rfl, b3⟩
        have K3 : Box4 w _ _ _ _ w3 := K2.out.call b3
        clear b3
        obtain ⟨_, d0, d1, d2, d3⟩ := Box4.cells K3
        obtain ⟨g0, g1, g2, g3⟩ := Box4.soft K3
        go_wp2_with fail
        exact bodyPost_ret (v := .tuple #[.agg #[.int .u64 ((n : Int) / 2), .string K, .string V, .bool false], .string U, .int .i64 (e3 : Nat)]) (by simp [results, Try.results63, go_sem, d0, d1, d2, d3]) rfl ⟨rfl, below_set4 K3.1 _ _ _ _⟩
    · have e : ptV b.data.toList = .tuple #[.agg #[.int .u64 0, .string ⟨#[]⟩, .string ⟨#[]⟩, .bool false], .string ⟨#[]⟩, .int .i64 (e2 : Nat)] := by rw [ptV, pt_key htk ho he2]; rfl
      rw [e]
      have hne : ((e2 : Int) != 0) = true := by rw [bne_iff_ne]; omega
      clear e htk ho
      go_enter Try.func63, Try.ntmps63
      go_wp2_with fail
      (with_reducible refine (H.out _).mono ?_)
      rintro e w1 ⟨rfl, b1⟩
      have K1 := Lib.hid (K0.out.call b1)
      clear b1
      go_wp2_with fail
      (with_reducible refine (H2.out _).mono ?_)
      rintro e w2 ⟨rfl, b2⟩
      have K2 : Box4 w _ _ _ _ w2 := K1.out.call b2
      clear b2
      obtain ⟨_, d0, d1, d2, d3⟩ := Box4.cells K2
      obtain ⟨g0, g1, g2, g3⟩ := Box4.soft K2
      go_wp2_with fail
      exact bodyPost_ret (v := .tuple #[.agg #[.int .u64 0, .string ⟨#[]⟩, .string ⟨#[]⟩, .bool false], .string ⟨#[]⟩, .int .i64 (e2 : Nat)]) (by simp [results, Try.results63, go_sem, d0, d1, d2, d3]) rfl ⟨rfl, below_set4 K2.1 _ _ _ _⟩
  · have e : ptV b.data.toList = .tuple #[.agg #[.int .u64 0, .string ⟨#[]⟩, .string ⟨#[]⟩, .bool false], .string ⟨#[]⟩, .int .i64 (er : Nat)] := by rw [ptV, pt_num htk he]; rfl
    rw [e]
    have hne : ((er : Int) != 0) = true := by rw [bne_iff_ne]; omega
    clear e htk
    go_enter Try.func63, Try.ntmps63
    go_wp2_with fail
    (with_reducible refine (H.out _).mono ?_)
    rintro e w1 ⟨rfl, b1⟩
    have K1 : Box4 w _ _ _ _ w1 := K0.out.call b1
    obtain ⟨_, d0, d1, d2, d3⟩ := Box4.cells K1
    obtain ⟨g0, g1, g2, g3⟩ := Box4.soft K1
    go_wp2_with fail
    exact bodyPost_ret (v := .tuple #[.agg #[.int .u64 0, .string ⟨#[]⟩, .string ⟨#[]⟩, .bool false], .string ⟨#[]⟩, .int .i64 (er : Nat)]) (by simp [results, Try.results63, go_sem, d0, d1, d2, d3]) rfl ⟨rfl, below_set4 K1.1 _ _ _ _⟩

end Go.Proofs.Ytdifecclldkhpaa
