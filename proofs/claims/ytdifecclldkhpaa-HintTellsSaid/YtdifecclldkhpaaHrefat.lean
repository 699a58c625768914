/- What the document's own At of layer 5 returns. -/
import Derived.Test.YtdifecclldkhpaaHat
namespace Go.Proofs.Ytdifecclldkhpaa
open Go.RowKit

set_option maxRecDepth 100000 in
set_option maxHeartbeats 4000000 in
theorem refhat_any (b : List UInt8) (e : Et) (w : World) (h : EFit e) :
    Calls Try.prog 18 #[.string (bs b), ev e] w fun x w' => x = .returned (hatV b e) ∧ Below w.heap.size w w' := by
  have h1 := fun W => refvalid_any e W h
  have A0 := Lib.hid (At0.made 49 w (.string (bs e.k)) (.int .i64 e.o) (.int .i64 e.l) (.int .u64 ((e.q : Nat) : Int)) (.bool e.g))
  have hB := bs_size b
  simp only [ev] at h1 ⊢
  cases hr : eright e with
  | false =>
    have hv : hatV b e = .tuple #[.agg #[.int .u64 0, .string ⟨#[]⟩, .string ⟨#[]⟩, .bool false], .int .i64 1] := by rw [hatV, hat_arg (.inl hr)]; rfl
    rw [hv]
    rw [hr] at h1
    have H1 := Lib.hid h1
    clear h1 hv hr hB
    go_enter Try.func18, Try.ntmps18
    go_wp2_with fail
    (with_reducible refine (H1.out _).mono ?_)
    rintro e w1 ⟨rfl, b1⟩
    have A1 := A0.out.call b1
    obtain ⟨⟨d0, d1, d2, d3⟩, g0, g1, g2, g3⟩ := A1.out
    go_wp2_with fail
    exact bodyPost_ret (v := .tuple #[.agg #[.int .u64 0, .string ⟨#[]⟩, .string ⟨#[]⟩, .bool false], .int .i64 1]) (by simp [results, Try.results18, go_sem, d0, d1, d2, d3]) rfl ⟨rfl, below_set4' A1.1 _ _ _ _⟩
  | true =>
    obtain ⟨r1, r2, r3, r4, r5, r6, r7, r8⟩ := (eright_iff e).1 hr
    rw [hr] at h1
    have H1 := Lib.hid h1
    by_cases hlt : (b.length : Int) < e.o + e.l
    · have hv : hatV b e = .tuple #[.agg #[.int .u64 0, .string ⟨#[]⟩, .string ⟨#[]⟩, .bool false], .int .i64 1] := by rw [hatV, hat_arg (.inr hlt)]; rfl
      rw [hv]
      rw [← hB] at hlt
      clear h1 hv hr hB
      generalize e.o = O at *
      generalize e.l = L at *
      generalize bs e.k = K at *
      generalize ((e.q : Nat) : Int) = Q at *
      generalize e.g = G at *
      go_enter Try.func18, Try.ntmps18
      go_wp2_with fail
      (with_reducible refine (H1.out _).mono ?_)
      rintro e w1 ⟨rfl, b1⟩
      have A1 := A0.out.call b1
      obtain ⟨⟨d0, d1, d2, d3⟩, g0, g1, g2, g3⟩ := A1.out
      obtain ⟨c0, c1, c2, c3, c4⟩ := A1.cells
      go_wp2_with fail
      exact bodyPost_ret (v := .tuple #[.agg #[.int .u64 0, .string ⟨#[]⟩, .string ⟨#[]⟩, .bool false], .int .i64 1]) (by simp [results, Try.results18, go_sem, d0, d1, d2, d3]) rfl ⟨rfl, below_set4' A1.1 _ _ _ _⟩
    · obtain ⟨r, s, er, hrd⟩ : ∃ r s x, rd ((b.drop e.o.toNat).take e.l.toNat) = (r, s, x) := ⟨_, _, _, rfl⟩
      have hv := hat_of hr hlt hrd
      have h2 := refread_of ((b.drop e.o.toNat).take e.l.toNat) (by have := List.length_take_le e.l.toNat (b.drop e.o.toNat); omega) r s er hrd
      rw [← ext_mid] at h2
      obtain ⟨o, ho⟩ : ∃ o : Nat, e.o = (o : Int) := ⟨e.o.toNat, by omega⟩
      obtain ⟨l, hl⟩ : ∃ l : Nat, e.l = (l : Int) := ⟨e.l.toNat, by omega⟩
      rw [ho, hl, Int.toNat_natCast, Int.toNat_natCast] at h2
      have H2 := Lib.hid h2
      rw [ho, hl] at A0 H1 ⊢
      rw [ho, hl, ← hB] at hlt
      have l400 : l ≤ 400 := by omega
      have o1m : o ≤ 1048576 := by omega
      have hol : o + l ≤ (bs b).size := by omega
      have hcs : (er ≠ 0 ∨ (er = 0 ∧ s ≠ []) ∨ (er = 0 ∧ s = [] ∧ r.k ≠ e.k) ∨ (er = 0 ∧ s = [] ∧ r.k = e.k ∧ r.q ≠ e.q) ∨ (er = 0 ∧ s = [] ∧ r.k = e.k ∧ r.q = e.q ∧ r.g ≠ e.g)) ∨ (er = 0 ∧ s = [] ∧ r.k = e.k ∧ r.q = e.q ∧ r.g = e.g) := by
        by_cases a0 : er = 0
        · by_cases a2 : s = []
          · by_cases a1 : r.k = e.k
            · by_cases a3 : r.q = e.q
              · by_cases a4 : r.g = e.g
                · exact .inr ⟨a0, a2, a1, a3, a4⟩
                · exact .inl (.inr (.inr (.inr (.inr ⟨a0, a2, a1, a3, a4⟩))))
              · exact .inl (.inr (.inr (.inr (.inl ⟨a0, a2, a1, a3⟩))))
            · exact .inl (.inr (.inr (.inl ⟨a0, a2, a1⟩)))
          · exact .inl (.inr (.inl ⟨a0, a2⟩))
        · exact .inl (.inl a0)
      rcases hcs with hbad | hok
      · rw [if_neg (by intro ⟨q0, q1, q2, q3, q4⟩; rcases hbad with q | ⟨_, q⟩ | ⟨_, _, q⟩ | ⟨_, _, _, q⟩ | ⟨_, _, _, _, q⟩ <;> exact absurd (by assumption) q)] at hv
        have hvv : hatV b e = .tuple #[.agg #[.int .u64 0, .string ⟨#[]⟩, .string ⟨#[]⟩, .bool false], .int .i64 2] := by rw [hatV, hv]; rfl
        rw [hvv]
        clear h1 h2 hv hvv hr hrd r1 r2 r3 r4 r5 r6 r7 r8 ho hl hlt h hB
        rcases hbad with he | ⟨rfl, hs⟩ | ⟨rfl, rfl, hk⟩ | ⟨rfl, rfl, hk, hq⟩ | ⟨rfl, rfl, hk, hq, hg⟩
        · have hb0 : ((er : Int) != 0) = true := by rw [bne_iff_ne]; omega
          clear he
          generalize bs s = S at *
          generalize bs b = B at *
          generalize ((r.q : Nat) : Int) = Q1 at *
          generalize bs r.k = K1 at *
          generalize bs r.v = V1 at *
          generalize r.g = G1 at *
          generalize ((e.q : Nat) : Int) = Q at *
          generalize bs e.k = K at *
          generalize e.g = G at *
          go_enter Try.func18, Try.ntmps18
          go_wp2_with fail
          (with_reducible refine (H1.out _).mono ?_)
          rintro e w1 ⟨rfl, b1⟩
          have A1 := A0.out.call b1
          obtain ⟨c0, c1, c2, c3, c4⟩ := A1.cells
          have HA1 := Lib.hid A1
          clear A0 b1 A1
          go_wp2_with fail
          (with_reducible refine (H2.out _).mono ?_)
          rintro e w2 ⟨rfl, b2⟩
          have A2 := HA1.out.call b2
          obtain ⟨⟨d0, d1, d2, d3⟩, g0, g1, g2, g3⟩ := A2.out
          obtain ⟨k0, k1, k2, k3, k4⟩ := A2.cells
          have hz := A2.lt
          have hz' : w.heap.size < w2.heap.size := by omega
          have HA2 := Lib.hid A2.1
          clear HA1 b2 A2 c0 c1 c2 c3 c4
          go_wp2_with fail
          exact bodyPost_ret (v := .tuple #[.agg #[.int .u64 0, .string ⟨#[]⟩, .string ⟨#[]⟩, .bool false], .int .i64 2]) (by simp [results, Try.results18, go_sem, d0, d1, d2, d3, hz]) rfl ⟨rfl, (below_set4' HA2.out _ _ _ _).alloc (below_set4' HA2.out _ _ _ _).size _⟩
        · have hne := bs_ne hs
          have hne2 : (bs s).toList.isEmpty = false := List.isEmpty_eq_false_iff.2 hne
          clear hs
          generalize bs s = S at *
          generalize bs b = B at *
          generalize ((r.q : Nat) : Int) = Q1 at *
          generalize bs r.k = K1 at *
          generalize bs r.v = V1 at *
          generalize r.g = G1 at *
          generalize ((e.q : Nat) : Int) = Q at *
          generalize bs e.k = K at *
          generalize e.g = G at *
          go_enter Try.func18, Try.ntmps18
          go_wp2_with fail
          (with_reducible refine (H1.out _).mono ?_)
          rintro e w1 ⟨rfl, b1⟩
          have A1 := A0.out.call b1
          obtain ⟨c0, c1, c2, c3, c4⟩ := A1.cells
          have HA1 := Lib.hid A1
          clear A0 b1 A1
          go_wp2_with fail
          (with_reducible refine (H2.out _).mono ?_)
          rintro e w2 ⟨rfl, b2⟩
          have A2 := HA1.out.call b2
          obtain ⟨⟨d0, d1, d2, d3⟩, g0, g1, g2, g3⟩ := A2.out
          obtain ⟨k0, k1, k2, k3, k4⟩ := A2.cells
          have hz := A2.lt
          have hz' : w.heap.size < w2.heap.size := by omega
          have HA2 := Lib.hid A2.1
          clear HA1 b2 A2 c0 c1 c2 c3 c4
          go_wp2_with fail
          exact bodyPost_ret (v := .tuple #[.agg #[.int .u64 0, .string ⟨#[]⟩, .string ⟨#[]⟩, .bool false], .int .i64 2]) (by simp [results, Try.results18, go_sem, d0, d1, d2, d3, hz]) rfl ⟨rfl, (below_set4' HA2.out _ _ _ _).alloc (below_set4' HA2.out _ _ _ _).size _⟩
        · have hcmp : ((bs r.k).toList == (bs e.k).toList) = false := by rw [bs_toList, bs_toList, beq_eq_false_iff_ne]; exact hk
          clear hk
          rw [show bs ([] : List UInt8) = ⟨#[]⟩ from rfl] at H2
          generalize bs b = B at *
          generalize ((r.q : Nat) : Int) = Q1 at *
          generalize bs r.k = K1 at *
          generalize bs r.v = V1 at *
          generalize r.g = G1 at *
          generalize ((e.q : Nat) : Int) = Q at *
          generalize bs e.k = K at *
          generalize e.g = G at *
          go_enter Try.func18, Try.ntmps18
          go_wp2_with fail
          (with_reducible refine (H1.out _).mono ?_)
          rintro e w1 ⟨rfl, b1⟩
          have A1 := A0.out.call b1
          obtain ⟨c0, c1, c2, c3, c4⟩ := A1.cells
          have HA1 := Lib.hid A1
          clear A0 b1 A1
          go_wp2_with fail
          (with_reducible refine (H2.out _).mono ?_)
          rintro e w2 ⟨rfl, b2⟩
          have A2 := HA1.out.call b2
          obtain ⟨⟨d0, d1, d2, d3⟩, g0, g1, g2, g3⟩ := A2.out
          obtain ⟨k0, k1, k2, k3, k4⟩ := A2.cells
          have hz := A2.lt
          have hz' : w.heap.size < w2.heap.size := by omega
          have HA2 := Lib.hid A2.1
          clear HA1 b2 A2 c0 c1 c2 c3 c4
          go_wp2_with fail
          exact bodyPost_ret (v := .tuple #[.agg #[.int .u64 0, .string ⟨#[]⟩, .string ⟨#[]⟩, .bool false], .int .i64 2]) (by simp [results, Try.results18, go_sem, d0, d1, d2, d3, hz]) rfl ⟨rfl, (below_set4' HA2.out _ _ _ _).alloc (below_set4' HA2.out _ _ _ _).size _⟩
        · have hcmp : ((bs r.k).toList == (bs e.k).toList) = true := by rw [hk]; simp
          have hcm3 : ((((r.q : Nat) : Int)) == (((e.q : Nat) : Int))) = false := by rw [beq_eq_false_iff_ne]; omega
          have hcm3' : ¬ (((r.q : Nat) : Int)) = (((e.q : Nat) : Int)) := by omega
          clear hk hq
          rw [show bs ([] : List UInt8) = ⟨#[]⟩ from rfl] at H2
          generalize bs b = B at *
          generalize ((r.q : Nat) : Int) = Q1 at *
          generalize bs r.k = K1 at *
          generalize bs r.v = V1 at *
          generalize r.g = G1 at *
          generalize ((e.q : Nat) : Int) = Q at *
          generalize bs e.k = K at *
          generalize e.g = G at *
          go_enter Try.func18, Try.ntmps18
          go_wp2_with fail
          (with_reducible refine (H1.out _).mono ?_)
          rintro e w1 ⟨rfl, b1⟩
          have A1 := A0.out.call b1
          obtain ⟨c0, c1, c2, c3, c4⟩ := A1.cells
          have HA1 := Lib.hid A1
          clear A0 b1 A1
          go_wp2_with fail
          (with_reducible refine (H2.out _).mono ?_)
          rintro e w2 ⟨rfl, b2⟩
          have A2 := HA1.out.call b2
          obtain ⟨⟨d0, d1, d2, d3⟩, g0, g1, g2, g3⟩ := A2.out
          obtain ⟨k0, k1, k2, k3, k4⟩ := A2.cells
          have hz := A2.lt
          have hz' : w.heap.size < w2.heap.size := by omega
          have HA2 := Lib.hid A2.1
          clear HA1 b2 A2 c0 c1 c2 c3 c4
          go_wp2_with fail
          exact bodyPost_ret (v := .tuple #[.agg #[.int .u64 0, .string ⟨#[]⟩, .string ⟨#[]⟩, .bool false], .int .i64 2]) (by simp [results, Try.results18, go_sem, d0, d1, d2, d3, hz]) rfl ⟨rfl, (below_set4' HA2.out _ _ _ _).alloc (below_set4' HA2.out _ _ _ _).size _⟩
        · have hcmp : ((bs r.k).toList == (bs e.k).toList) = true := by rw [hk]; simp
          have hcm4 : (r.g == e.g) = false := by rw [beq_eq_false_iff_ne]; exact hg
          rw [← hq] at A0 H1 ⊢
          clear hk hq hg
          rw [show bs ([] : List UInt8) = ⟨#[]⟩ from rfl] at H2
          generalize bs b = B at *
          generalize ((r.q : Nat) : Int) = Q1 at *
          generalize bs r.k = K1 at *
          generalize bs r.v = V1 at *
          generalize r.g = G1 at *
          generalize bs e.k = K at *
          generalize e.g = G at *
          go_enter Try.func18, Try.ntmps18
          go_wp2_with fail
          (with_reducible refine (H1.out _).mono ?_)
          rintro e w1 ⟨rfl, b1⟩
          have A1 := A0.out.call b1
          obtain ⟨c0, c1, c2, c3, c4⟩ := A1.cells
          have HA1 := Lib.hid A1
          clear A0 b1 A1
          go_wp2_with fail
          (with_reducible refine (H2.out _).mono ?_)
          rintro e w2 ⟨rfl, b2⟩
          have A2 := HA1.out.call b2
          obtain ⟨⟨d0, d1, d2, d3⟩, g0, g1, g2, g3⟩ := A2.out
          obtain ⟨k0, k1, k2, k3, k4⟩ := A2.cells
          have hz := A2.lt
          have hz' : w.heap.size < w2.heap.size := by omega
          have HA2 := Lib.hid A2.1
          clear HA1 b2 A2 c0 c1 c2 c3 c4
          go_wp2_with fail
          exact bodyPost_ret (v := .tuple #[.agg #[.int .u64 0, .string ⟨#[]⟩, .string ⟨#[]⟩, .bool false], .int .i64 2]) (by simp [results, Try.results18, go_sem, d0, d1, d2, d3, hz]) rfl ⟨rfl, (below_set4' HA2.out _ _ _ _).alloc (below_set4' HA2.out _ _ _ _).size _⟩
      · rw [if_pos hok] at hv
        obtain ⟨rfl, rfl, hk, hq, hg⟩ := hok
        have hvv : hatV b e = .tuple #[.agg #[.int .u64 ((r.q : Nat) : Int), .string (bs r.k), .string (bs r.v), .bool r.g], .int .i64 0] := by rw [hatV, hv]; rfl
        rw [hvv, ← hk, ← hq, ← hg]
        rw [← hk, ← hq, ← hg] at H1 A0
        clear h1 h2 hv hvv hr hrd r1 r2 r3 r4 r5 r6 r7 r8 ho hl hlt h hB hk hq hg
        rw [show bs ([] : List UInt8) = ⟨#[]⟩ from rfl] at H2
        generalize bs b = B at *
        generalize ((r.q : Nat) : Int) = Q1 at *
        generalize bs r.k = K1 at *
        generalize bs r.v = V1 at *
        generalize r.g = G1 at *
        go_enter Try.func18, Try.ntmps18
        go_wp2_with fail
        (with_reducible refine (H1.out _).mono ?_)
        rintro e w1 ⟨rfl, b1⟩
        have A1 := A0.out.call b1
        obtain ⟨c0, c1, c2, c3, c4⟩ := A1.cells
        have HA1 := Lib.hid A1
        clear A0 b1 A1
        go_wp2_with fail
        (with_reducible refine (H2.out _).mono ?_)
        rintro e w2 ⟨rfl, b2⟩
        have A2 := HA1.out.call b2
        obtain ⟨⟨d0, d1, d2, d3⟩, g0, g1, g2, g3⟩ := A2.out
        obtain ⟨k0, k1, k2, k3, k4⟩ := A2.cells
        have hz := A2.lt
        have hz' : w.heap.size < w2.heap.size := by omega
        have HA2 := Lib.hid A2.1
        clear HA1 b2 A2 c0 c1 c2 c3 c4
        go_wp2_with fail
        exact bodyPost_ret (v := .tuple #[.agg #[.int .u64 Q1, .string K1, .string V1, .bool G1], .int .i64 0]) (by simp [results, Try.results18, go_sem, d0, d1, d2, d3, hz]) rfl ⟨rfl, (below_set4' HA2.out _ _ _ _).alloc (below_set4' HA2.out _ _ _ _).size _⟩

end Go.Proofs.Ytdifecclldkhpaa
