/- What the call Read of package record returns. -/
import Derived.Test.YtdifecclldkhpaaRread
namespace Go.Proofs.Ytdifecclldkhpaa
open Go.RowKit

theorem Box.alloc {w0 : World} {o : Obj} {W : World} (h : Box w0 o W) (x : Obj) : Box w0 o (W.alloc x) := h.call ((Below.refl _ _).alloc (Nat.le_refl _) _)

theorem pt_fits {l : List UInt8} {r : Rc} {s : List UInt8} (h : pt l = (r, s, 0)) (hl : l.length ≤ 9223372036854775807) : r.q ≤ 18446744073709551615 ∧ r.k.length ≤ 9223372036854775807 ∧ r.v.length ≤ 9223372036854775807 := by
  rcases tk_cases l with ⟨e, _⟩ | e | ⟨n, q, e, hn, hq⟩
  · rw [pt_num e (by omega)] at h; simp at h
  · rw [pt_num e (by omega)] at h; simp at h
  · unfold M64 at hn
    obtain ⟨_, hql⟩ := tk_rest_le _ e
    obtain ⟨k, u, eu, ho⟩ : ∃ k u e, ot q = (k, u, e) := ⟨_, _, _, rfl⟩
    by_cases hu : eu = 0
    · subst hu
      obtain ⟨h1, h2⟩ := ot_rest_le ho
      by_cases hn2 : n % 2 = 1
      · rw [pt_gone e ho hn2] at h
        simp only [Prod.mk.injEq, and_true] at h
        obtain ⟨rfl, rfl⟩ := h
        exact ⟨by show n / 2 ≤ _; omega, by show k.length ≤ _; omega, by show ([] : List UInt8).length ≤ _; simp⟩
      · obtain ⟨v, x, ex, hv⟩ : ∃ k x e, ot u = (k, x, e) := ⟨_, _, _, rfl⟩
        rw [pt_here e ho hn2 hv] at h
        simp only [Prod.mk.injEq] at h
        obtain ⟨rfl, rfl, rfl⟩ := h
        obtain ⟨h3, h4⟩ := ot_rest_le hv
        exact ⟨by show n / 2 ≤ _; omega, by show k.length ≤ _; omega, by show v.length ≤ _; omega⟩
    · rw [pt_key e ho hu] at h; simp at h; exact absurd h.2.2 hu

/-- What Read returns. -/
def rdV (l : List UInt8) : Value := .tuple #[rv (rd l).1, .string (bs (rd l).2.1), .int .i64 ((rd l).2.2 : Nat)]

set_option maxRecDepth 100000 in
set_option maxHeartbeats 400000 in
theorem read_any (b : ByteArray) (w : World) (hb : b.size ≤ 9223372036854775807) :
    Calls Try.prog 46 #[.string b] w fun e w' => e = .returned (rdV b.data.toList) ∧ Below w.heap.size w w' := by
  obtain ⟨r, s, er, hp⟩ : ∃ r s e, pt b.data.toList = (r, s, e) := ⟨_, _, _, rfl⟩
  have h := fun W => parts_any b W hb
  simp only [ptV, hp, rv] at h
  have H := Lib.hid h
  clear h
  have K0 := Lib.hid (Box.made w (.cells #[.int .u64 0, .string ⟨#[]⟩, .string ⟨#[]⟩, .bool false] 45))
  by_cases he : er = 0
  · subst he
    obtain ⟨f0, f1, f2⟩ := pt_fits hp (by rw [len_size]; exact hb)
    have h1 := fun W => right_any r W f0 f1 f2
    simp only [rv] at h1
    have KM := Lib.hid (fun W => Box.made W (.cells #[.int .u64 ((r.q : Nat) : Int), .string (bs r.k), .string (bs r.v), .bool r.g] 45))
    cases hg : right r with
    | true =>
      have e : rdV b.data.toList = .tuple #[.agg #[.int .u64 ((r.q : Nat) : Int), .string (bs r.k), .string (bs r.v), .bool r.g], .string (bs s), .int .i64 0] := by rw [rdV, rd_yes hp hg]; rfl
      rw [e]
      rw [hg] at h1
      have H1 := Lib.hid h1
      clear h1 e hp f0 f1 f2 hg
      generalize ((r.q : Nat) : Int) = Q at *
      generalize bs r.k = K at *
      generalize bs r.v = V at *
      generalize r.g = G at *
      generalize bs s = S at *
      go_enter Try.func46, Try.ntmps46
      go_wp2_with fail
      (with_reducible refine (H.out _).mono ?_)
      rintro e w1 ⟨rfl, b1⟩
      have K1 := Lib.hid (K0.out.call b1)
      have M1 := Lib.hid (KM.out w1)
      clear b1 KM
      go_wp2_with fail
      (with_reducible refine (H1.out _).mono ?_)
      rintro e w2 ⟨rfl, b2⟩
      have K2 : Box4 w _ _ _ _ w2 := (K1.out.alloc _).call b2
      have M2 : Box4 w1 _ _ _ _ w2 := M1.out.call b2
      clear b2
      obtain ⟨_, d0, d1, d2, d3⟩ := Box4.cells K2
      obtain ⟨g0, g1, g2, g3⟩ := Box4.soft K2
      obtain ⟨_, c0, c1, c2, c3⟩ := Box4.cells M2
      go_wp2_with fail
      exact bodyPost_ret (v := .tuple #[.agg #[.int .u64 Q, .string K, .string V, .bool G], .string S, .int .i64 0]) (by simp [results, Try.results46, go_sem, d0, d1, d2, d3]) rfl ⟨rfl, below_set4 K2.1 _ _ _ _⟩
    | false =>
      have e : rdV b.data.toList = .tuple #[.agg #[.int .u64 0, .string ⟨#[]⟩, .string ⟨#[]⟩, .bool false], .string ⟨#[]⟩, .int .i64 2] := by rw [rdV, rd_no hp hg]; rfl
      rw [e]
      rw [hg] at h1
      have H1 := Lib.hid h1
      clear h1 e hp f0 f1 f2 hg
      generalize ((r.q : Nat) : Int) = Q at *
      generalize bs r.k = K at *
      generalize bs r.v = V at *
      generalize r.g = G at *
      generalize bs s = S at *
      go_enter Try.func46, Try.ntmps46
      go_wp2_with fail
      (with_reducible refine (H.out _).mono ?_)
      rintro e w1 ⟨rfl, b1⟩
      have K1 := Lib.hid (K0.out.call b1)
      clear b1 KM
      go_wp2_with fail
      (with_reducible refine (H1.out _).mono ?_)
      rintro e w2 ⟨rfl, b2⟩
      have K2 : Box4 w _ _ _ _ w2 := (K1.out.alloc _).call b2
      clear b2
      obtain ⟨_, d0, d1, d2, d3⟩ := Box4.cells K2
      obtain ⟨g0, g1, g2, g3⟩ := Box4.soft K2
      go_wp2_with fail
      exact bodyPost_ret (v := .tuple #[.agg #[.int .u64 0, .string ⟨#[]⟩, .string ⟨#[]⟩, .bool false], .string ⟨#[]⟩, .int .i64 2]) (by simp [results, Try.results46, go_sem, d0, d1, d2, d3]) rfl ⟨rfl, below_set4 K2.1 _ _ _ _⟩
  · have e : rdV b.data.toList = .tuple #[.agg #[.int .u64 0, .string ⟨#[]⟩, .string ⟨#[]⟩, .bool false], .string ⟨#[]⟩, .int .i64 (er : Nat)] := by rw [rdV, rd_err hp he]; rfl
    rw [e]
    have hne : ((er : Int) != 0) = true := by rw [bne_iff_ne]; omega
    clear e hp
    generalize ((r.q : Nat) : Int) = Q at *
    generalize bs r.k = K at *
    generalize bs r.v = V at *
    generalize r.g = G at *
    generalize bs s = S at *
    go_enter Try.func46, Try.ntmps46
    go_wp2_with fail
    (with_reducible refine (H.out _).mono ?_)
    rintro e w1 ⟨rfl, b1⟩
    have K1 := Lib.hid (K0.out.call b1)
    have K2 : Box4 w _ _ _ _ w1 := K1.out
    have hz : w.heap.size < w1.heap.size := K1.out.2.1
    clear b1
    obtain ⟨_, d0, d1, d2, d3⟩ := Box4.cells K2
    obtain ⟨g0, g1, g2, g3⟩ := Box4.soft K2
    go_wp2_with fail
    refine bodyPost_ret (v := .tuple #[.agg #[.int .u64 0, .string ⟨#[]⟩, .string ⟨#[]⟩, .bool false], .string ⟨#[]⟩, .int .i64 (er : Nat)]) ?_ rfl ⟨rfl, ?_⟩
    · simp [results, Try.results46, go_sem, d0, d1, d2, d3, hz]
    · exact (below_set4 K2.1 _ _ _ _).alloc (below_set4 K2.1 _ _ _ _).size _

end Go.Proofs.Ytdifecclldkhpaa
