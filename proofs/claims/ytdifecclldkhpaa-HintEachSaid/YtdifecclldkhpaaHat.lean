/- What the call At of package hint returns. -/
import Derived.Test.YtdifecclldkhpaaHof
namespace Go.Proofs.Ytdifecclldkhpaa
open Go.RowKit

/-- Nothing that was there has turned; the first new block is the entry that came in, the second one the record that goes out, still empty. -/
def At0 (t : TypeId) (w0 : World) (c0 c1 c2 c3 c4 : Value) (W : World) : Prop :=
  Below w0.heap.size w0 W ∧ W.heap[w0.heap.size]? = some (.cells #[c0, c1, c2, c3, c4] t (0, 0)) ∧ W.heap[w0.heap.size + 1]? = some (.cells #[.int .u64 0, .string ⟨#[]⟩, .string ⟨#[]⟩, .bool false] 45 (0, 0))

section
variable {t : TypeId} {w0 W W' : World} {c0 c1 c2 c3 c4 : Value}
theorem At0.made (t : TypeId) (w : World) (c0 c1 c2 c3 c4 : Value) : At0 t w c0 c1 c2 c3 c4 ((w.alloc (.cells #[c0, c1, c2, c3, c4] t)).alloc (.cells #[.int .u64 0, .string ⟨#[]⟩, .string ⟨#[]⟩, .bool false] 45)) :=
  ⟨((Below.refl _ _).alloc (Nat.le_refl _) _).alloc (by simp) _, heap_alloc2_old w _ _, heap_alloc2_new w _ _⟩
theorem At0.lt (h : At0 t w0 c0 c1 c2 c3 c4 W) : w0.heap.size + 1 < W.heap.size := lt_of_block h.2.2
theorem At0.call (h : At0 t w0 c0 c1 c2 c3 c4 W) (b : Below W.heap.size W W') : At0 t w0 c0 c1 c2 c3 c4 W' := by
  have hl := h.lt
  exact ⟨h.1.trans (b.mono h.1.size), by rw [b.block _ (by omega)]; exact h.2.1, by rw [b.block _ hl]; exact h.2.2⟩
theorem At0.alloc (h : At0 t w0 c0 c1 c2 c3 c4 W) (o : Obj) : At0 t w0 c0 c1 c2 c3 c4 (W.alloc o) := h.call ((Below.refl _ _).alloc (Nat.le_refl _) _)
theorem At0.drew (h : At0 t w0 c0 c1 c2 c3 c4 W) : At0 t w0 c0 c1 c2 c3 c4 W.drew := ⟨h.1.drew, h.2⟩
theorem At0.cells (h : At0 t w0 c0 c1 c2 c3 c4 W) : W.cell? ⟨w0.heap.size, 0, none⟩ = some c0 ∧ W.cell? ⟨w0.heap.size, 1, none⟩ = some c1 ∧ W.cell? ⟨w0.heap.size, 2, none⟩ = some c2 ∧ W.cell? ⟨w0.heap.size, 3, none⟩ = some c3 ∧ W.cell? ⟨w0.heap.size, 4, none⟩ = some c4 :=
  ⟨by rw [Lib.cell_of_heap h.2.1]; rfl, by rw [Lib.cell_of_heap h.2.1]; rfl, by rw [Lib.cell_of_heap h.2.1]; rfl, by rw [Lib.cell_of_heap h.2.1]; rfl, by rw [Lib.cell_of_heap h.2.1]; rfl⟩
theorem At0.out (h : At0 t w0 c0 c1 c2 c3 c4 W) : (W.cell? ⟨w0.heap.size + 1, 0, none⟩ = some (.int .u64 0) ∧ W.cell? ⟨w0.heap.size + 1, 1, none⟩ = some (.string ⟨#[]⟩) ∧ W.cell? ⟨w0.heap.size + 1, 2, none⟩ = some (.string ⟨#[]⟩) ∧ W.cell? ⟨w0.heap.size + 1, 3, none⟩ = some (.bool false)) ∧
    W.frozen? ⟨w0.heap.size + 1, 0, none⟩ = false ∧ W.frozen? ⟨w0.heap.size + 1, 1, none⟩ = false ∧ W.frozen? ⟨w0.heap.size + 1, 2, none⟩ = false ∧ W.frozen? ⟨w0.heap.size + 1, 3, none⟩ = false :=
  ⟨⟨by rw [Lib.cell_of_heap h.2.2]; rfl, by rw [Lib.cell_of_heap h.2.2]; rfl, by rw [Lib.cell_of_heap h.2.2]; rfl, by rw [Lib.cell_of_heap h.2.2]; rfl⟩, Lib.frozen_of_heap h.2.2 0, Lib.frozen_of_heap h.2.2 1, Lib.frozen_of_heap h.2.2 2, Lib.frozen_of_heap h.2.2 3⟩
end

/-- .. and a third block is the record that was read. -/
def At1 (t : TypeId) (w0 : World) (c0 c1 c2 c3 c4 : Value) (R : Nat) (q k v g : Value) (W : World) : Prop := At0 t w0 c0 c1 c2 c3 c4 W ∧ w0.heap.size + 1 < R ∧ W.heap[R]? = some (.cells #[q, k, v, g] 45 (0, 0))

section
variable {t : TypeId} {w0 W W' : World} {c0 c1 c2 c3 c4 q k v g : Value} {R : Nat}
theorem At0.more (h : At0 t w0 c0 c1 c2 c3 c4 W) (q k v g : Value) : At1 t w0 c0 c1 c2 c3 c4 W.heap.size q k v g (W.alloc (.cells #[q, k, v, g] 45)) := ⟨h.alloc _, h.lt, heap_alloc_new W _⟩
theorem At1.call (h : At1 t w0 c0 c1 c2 c3 c4 R q k v g W) (b : Below W.heap.size W W') : At1 t w0 c0 c1 c2 c3 c4 R q k v g W' := ⟨h.1.call b, h.2.1, by rw [b.block _ (lt_of_block h.2.2)]; exact h.2.2⟩
theorem At1.drew (h : At1 t w0 c0 c1 c2 c3 c4 R q k v g W) : At1 t w0 c0 c1 c2 c3 c4 R q k v g W.drew := ⟨h.1.drew, h.2⟩
theorem At1.rec (h : At1 t w0 c0 c1 c2 c3 c4 R q k v g W) : W.cell? ⟨R, 0, none⟩ = some q ∧ W.cell? ⟨R, 1, none⟩ = some k ∧ W.cell? ⟨R, 2, none⟩ = some v ∧ W.cell? ⟨R, 3, none⟩ = some g :=
  ⟨by rw [Lib.cell_of_heap h.2.2]; rfl, by rw [Lib.cell_of_heap h.2.2]; rfl, by rw [Lib.cell_of_heap h.2.2]; rfl, by rw [Lib.cell_of_heap h.2.2]; rfl⟩
theorem At1.cells (h : At1 t w0 c0 c1 c2 c3 c4 R q k v g W) : At1 t w0 c0 c1 c2 c3 c4 R q k v g W ∧ (W.cell? ⟨w0.heap.size, 0, none⟩ = some c0 ∧ W.cell? ⟨w0.heap.size, 1, none⟩ = some c1 ∧ W.cell? ⟨w0.heap.size, 2, none⟩ = some c2 ∧ W.cell? ⟨w0.heap.size, 3, none⟩ = some c3 ∧ W.cell? ⟨w0.heap.size, 4, none⟩ = some c4) ∧
    W.cell? ⟨R, 0, none⟩ = some q ∧ W.cell? ⟨R, 1, none⟩ = some k ∧ W.cell? ⟨R, 2, none⟩ = some v ∧ W.cell? ⟨R, 3, none⟩ = some g := ⟨h, h.1.cells, h.rec⟩
end

theorem below_set4' {w W : World} (h : Below w.heap.size w W) (v0 v1 v2 v3 : Value) : Below w.heap.size w ((((W.setCell ⟨w.heap.size + 1, 0, none⟩ v0).setCell ⟨w.heap.size + 1, 1, none⟩ v1).setCell ⟨w.heap.size + 1, 2, none⟩ v2).setCell ⟨w.heap.size + 1, 3, none⟩ v3) :=
  (((h.setCell (p := ⟨w.heap.size + 1, 0, none⟩) (Nat.le_succ _) _).setCell (p := ⟨w.heap.size + 1, 1, none⟩) (Nat.le_succ _) _).setCell (p := ⟨w.heap.size + 1, 2, none⟩) (Nat.le_succ _) _).setCell (p := ⟨w.heap.size + 1, 3, none⟩) (Nat.le_succ _) _

/-- What At returns. -/
def hatV (b : List UInt8) (e : Et) : Value := .tuple #[rv (hat b e).1, .int .i64 (((hat b e).2 : Nat) : Int)]

theorem ext_mid (b : List UInt8) (o l : Nat) : (bs b).extract o (o + l) = bs ((b.drop o).take l) := by
  rw [Lib.extract_eq, bs_list]
  simp [bs]

set_option maxRecDepth 100000 in
set_option maxHeartbeats 4000000 in
theorem hat_any (b : List UInt8) (e : Et) (w : World) (h : EFit e) :
    Calls Try.prog 17 #[.string (bs b), ev e] w fun x w' => x = .returned (hatV b e) ∧ Below w.heap.size w w' := by
  have h1 := fun W => valid_any e W h
  have A0 := Lib.hid (At0.made 39 w (.string (bs e.k)) (.int .i64 e.o) (.int .i64 e.l) (.int .u64 ((e.q : Nat) : Int)) (.bool e.g))
  have hB := bs_size b
  simp only [ev] at h1 ⊢
  cases hr : eright e with
  | false =>
    have hv : hatV b e = .tuple #[.agg #[.int .u64 0, .string ⟨#[]⟩, .string ⟨#[]⟩, .bool false], .int .i64 1] := by rw [hatV, hat_arg (.inl hr)]; rfl
    rw [hv]
    rw [hr] at h1
    have H1 := Lib.hid h1
    clear h1 hv hr hB
    go_enter Try.func17, Try.ntmps17
    go_wp2_with fail
    (with_reducible refine (H1.out _).mono ?_)
    rintro e w1 ⟨rfl, b1⟩
    have A1 := A0.out.call b1
    obtain ⟨⟨d0, d1, d2, d3⟩, g0, g1, g2, g3⟩ := A1.out
    go_wp2_with fail
    exact bodyPost_ret (v := .tuple #[.agg #[.int .u64 0, .string ⟨#[]⟩, .string ⟨#[]⟩, .bool false], .int .i64 1]) (by simp [results, Try.results17, go_sem, d0, d1, d2, d3]) rfl ⟨rfl, below_set4' A1.1 _ _ _ _⟩
  | true =>
    obtain ⟨r1, r2, r3, r4, r5, r6, r7, r8⟩ := (eright_iff e).1 hr
    rw [hr] at h1
    have H1 := Lib.hid h1
    by_cases hlt : (b.length : Int) < e.o + e.l
    · have hv : hatV b e = .tuple #[.agg #[.int .u64 0, .string ⟨#[]⟩, .string ⟨#[]⟩, .bool false], .int .i64 1] := by rw [hatV, hat_arg (.inr hlt)]; rfl
      rw [hv]
      rw [← hB] at hlt
      clear h1 hv hr hB
      generalize e.o = O at *
      generalize e.l = L at *
      generalize bs e.k = K at *
      generalize ((e.q : Nat) : Int) = Q at *
      generalize e.g = G at *
      go_enter Try.func17, Try.ntmps17
      go_wp2_with fail
      (with_reducible refine (H1.out _).mono ?_)
      rintro e w1 ⟨rfl, b1⟩
      have A1 := A0.out.call b1
      obtain ⟨⟨d0, d1, d2, d3⟩, g0, g1, g2, g3⟩ := A1.out
      obtain ⟨c0, c1, c2, c3, c4⟩ := A1.cells
      go_wp2_with fail
      exact bodyPost_ret (v := .tuple #[.agg #[.int .u64 0, .string ⟨#[]⟩, .string ⟨#[]⟩, .bool false], .int .i64 1]) (by simp [results, Try.results17, go_sem, d0, d1, d2, d3]) rfl ⟨rfl, below_set4' A1.1 _ _ _ _⟩
    · obtain ⟨r, s, er, hrd⟩ : ∃ r s x, rd ((b.drop e.o.toNat).take e.l.toNat) = (r, s, x) := ⟨_, _, _, rfl⟩
      have hv := hat_of hr hlt hrd
      have hsl : s.length ≤ e.l.toNat := by
        rcases rd_cases ((b.drop e.o.toNat).take e.l.toNat) with ⟨x, _, _, hx⟩ | ⟨r', s', hx, _, hy⟩
        · rw [hrd] at hx; simp at hx; rw [hx.2.1]; simp
        · rw [hrd] at hx; simp at hx
          obtain ⟨_, rfl, _⟩ := hx
          have := congrArg List.length hy
          rw [List.length_append] at this
          have h3 := List.length_take_le e.l.toNat (b.drop e.o.toNat)
          omega
      have h2 := read_of ((b.drop e.o.toNat).take e.l.toNat) (by have := List.length_take_le e.l.toNat (b.drop e.o.toNat); omega) r s er hrd
      rw [← ext_mid] at h2
      obtain ⟨o, ho⟩ : ∃ o : Nat, e.o = (o : Int) := ⟨e.o.toNat, by omega⟩
      obtain ⟨l, hl⟩ : ∃ l : Nat, e.l = (l : Int) := ⟨e.l.toNat, by omega⟩
      rw [ho, hl, Int.toNat_natCast, Int.toNat_natCast] at h2
      have H2 := Lib.hid h2
      rw [ho, hl] at A0 H1 ⊢
      rw [ho, hl, ← hB] at hlt
      rw [hl, Int.toNat_natCast] at hsl
      have zs := bs_size s
      have hsz : (bs s).size ≤ l := by omega
      have l400 : l ≤ 400 := by omega
      have o1m : o ≤ 1048576 := by omega
      have hol : o + l ≤ (bs b).size := by omega
      by_cases he : er = 0
      · subst he
        have h3 := fun W => entry_of ((r.q : Nat) : Int) (bs r.k) (bs r.v) r.g (o : Int) ((l : Int) - ((bs s).size : Int)) W
        have H3 := Lib.hid h3
        by_cases hok : s = [] ∧ r.k = e.k ∧ r.q = e.q ∧ r.g = e.g
        · rw [if_pos ⟨rfl, hok⟩] at hv
          obtain ⟨rfl, hk, hq, hg⟩ := hok
          have hvv : hatV b e = .tuple #[.agg #[.int .u64 ((r.q : Nat) : Int), .string (bs r.k), .string (bs r.v), .bool r.g], .int .i64 0] := by rw [hatV, hv]; rfl
          rw [hvv, ← hk, ← hq, ← hg]
          rw [← hk, ← hq, ← hg] at H1 A0
          clear h1 h2 hv hvv hr hrd r1 r2 r3 r4 r5 r6 r7 r8 ho hl zs hsl hlt h hB h3 hk hq hg
          rw [show bs ([] : List UInt8) = ⟨#[]⟩ from rfl] at H2 H3 hsz
          have w1' := IntWalk.i64_in ((l : Int) - 0) ⟨by omega, by omega⟩
          rw [Int.sub_zero] at w1'
          rw [show (((⟨#[]⟩ : ByteArray).size : Nat) : Int) = 0 from rfl, Int.sub_zero] at H3
          clear hsz
          generalize bs b = B at *
          generalize ((r.q : Nat) : Int) = Q1 at *
          generalize bs r.k = K1 at *
          generalize bs r.v = V1 at *
          generalize r.g = G1 at *
          go_enter Try.func17, Try.ntmps17
          go_wp2_with fail
          (with_reducible refine (H1.out _).mono ?_)
          rintro e w1 ⟨rfl, b1⟩
          have A1 := A0.out.call b1
          obtain ⟨c0, c1, c2, c3, c4⟩ := A1.cells
          have HA1 := Lib.hid A1
          clear A0 b1 A1
          go_wp2_with fail
          (with_reducible refine (H2.out _).mono ?_)
          rintro e w2 ⟨rfl, b2⟩
          have A2 := Lib.hid ((HA1.out.call b2).more (.int .u64 Q1) (.string K1) (.string V1) (.bool G1))
          have C2 := Lib.hid fun W (hW : At1 39 w (.string K1) (.int .i64 (o : Int)) (.int .i64 (l : Int)) (.int .u64 Q1) (.bool G1) w2.heap.size (.int .u64 Q1) (.string K1) (.string V1) (.bool G1) W) => (H3.out W).mono fun e W' ⟨he, hb⟩ => And.intro he (hW.call hb)
          clear HA1 b2 c0 c1 c2 c3 c4 H1 H2 H3
          go_wp2_with fail
          generalize w2.alloc (.cells #[.int .u64 Q1, .string K1, .string V1, .bool G1] 45) = w3 at *
          generalize w2.heap.size = R at *
          go_region_held3 (fun W => At1 39 w (.string K1) (.int .i64 (o : Int)) (.int .i64 (l : Int)) (.int .u64 Q1) (.bool G1) R (.int .u64 Q1) (.string K1) (.string V1) (.bool G1) W ∧ (W.cell? ⟨w.heap.size, 0, none⟩ = some (.string K1) ∧ W.cell? ⟨w.heap.size, 1, none⟩ = some (.int .i64 (o : Int)) ∧ W.cell? ⟨w.heap.size, 2, none⟩ = some (.int .i64 (l : Int)) ∧ W.cell? ⟨w.heap.size, 3, none⟩ = some (.int .u64 Q1) ∧ W.cell? ⟨w.heap.size, 4, none⟩ = some (.bool G1)) ∧ W.cell? ⟨R, 0, none⟩ = some (.int .u64 Q1) ∧ W.cell? ⟨R, 1, none⟩ = some (.string K1) ∧ W.cell? ⟨R, 2, none⟩ = some (.string V1) ∧ W.cell? ⟨R, 3, none⟩ = some (.bool G1))
            (first | exact At1.cells ‹_› | exact At1.cells A2.out | exact At1.cells A2.out.drew | exact At1.cells (At1.drew ‹_›))
            (first | (go_at_call 41; (with_reducible refine (C2.out _ ?_).mono ?_); (first | assumption | exact A2.out | exact A2.out.drew | exact At1.drew ‹_›); rintro e w4 ⟨rfl, k4⟩))
          obtain ⟨⟨d0, d1, d2, d3⟩, g0, g1, g2, g3⟩ := At0.out (And.left ‹At1 39 w _ _ _ _ _ _ _ _ _ _ _›)
          have HB4 := Lib.hid (And.left (And.left ‹At1 39 w _ _ _ _ _ _ _ _ _ _ _›))
          go_wp2_with fail
          exact bodyPost_ret (v := .tuple #[.agg #[.int .u64 Q1, .string K1, .string V1, .bool G1], .int .i64 0]) (by simp [results, Try.results17, go_sem, d0, d1, d2, d3]) rfl ⟨rfl, below_set4' HB4.out _ _ _ _⟩
        · rw [if_neg (by simp only [true_and]; exact hok)] at hv
          have hvv : hatV b e = .tuple #[.agg #[.int .u64 0, .string ⟨#[]⟩, .string ⟨#[]⟩, .bool false], .int .i64 2] := by rw [hatV, hv]; rfl
          rw [hvv]
          have hok2 : r.k ≠ e.k ∨ (r.k = e.k ∧ s ≠ []) ∨ (r.k = e.k ∧ s = [] ∧ r.q ≠ e.q) ∨ (r.k = e.k ∧ s = [] ∧ r.q = e.q ∧ r.g ≠ e.g) := by
            by_cases a1 : r.k = e.k
            · by_cases a2 : s = []
              · by_cases a3 : r.q = e.q
                · exact .inr (.inr (.inr ⟨a1, a2, a3, fun a4 => hok ⟨a2, a1, a3, a4⟩⟩))
                · exact .inr (.inr (.inl ⟨a1, a2, a3⟩))
              · exact .inr (.inl ⟨a1, a2⟩)
            · exact .inl a1
          have w1' := IntWalk.i64_in ((l : Int) - ((bs s).size : Int)) ⟨by omega, by omega⟩
          have hls : (0 : Int) ≤ (l : Int) - ((bs s).size : Int) := by omega
          clear h1 h2 hv hvv hr hrd r1 r2 r3 r4 r5 r6 r7 r8 ho hl hsl hlt h hB h3 hok zs
          rcases hok2 with hne | hok2 | hok2 | hok2
          · have hcmp : ((bs r.k).toList == (bs e.k).toList) = false := by rw [bs_toList, bs_toList, beq_eq_false_iff_ne]; exact hne
            clear hne
            generalize bs b = B at *
            generalize bs s = S at *
            generalize ((r.q : Nat) : Int) = Q1 at *
            generalize bs r.k = K1 at *
            generalize bs r.v = V1 at *
            generalize r.g = G1 at *
            generalize ((e.q : Nat) : Int) = Q at *
            generalize bs e.k = K at *
            generalize e.g = G at *
            go_enter Try.func17, Try.ntmps17
            go_wp2_with fail
            (with_reducible refine (H1.out _).mono ?_)
            rintro e w1 ⟨rfl, b1⟩
            have A1 := A0.out.call b1
            obtain ⟨c0, c1, c2, c3, c4⟩ := A1.cells
            have HA1 := Lib.hid A1
            clear A0 b1 A1
            go_wp2_with fail
            (with_reducible refine (H2.out _).mono ?_)
            rintro e w2 ⟨rfl, b2⟩
            have A2 := Lib.hid ((HA1.out.call b2).more (.int .u64 Q1) (.string K1) (.string V1) (.bool G1))
            have C2 := Lib.hid fun W (hW : At1 39 w (.string K) (.int .i64 (o : Int)) (.int .i64 (l : Int)) (.int .u64 Q) (.bool G) w2.heap.size (.int .u64 Q1) (.string K1) (.string V1) (.bool G1) W) => (H3.out W).mono fun e W' ⟨he, hb⟩ => And.intro he (hW.call hb)
            clear HA1 b2 c0 c1 c2 c3 c4 H1 H2 H3
            go_wp2_with fail
            generalize w2.alloc (.cells #[.int .u64 Q1, .string K1, .string V1, .bool G1] 45) = w3 at *
            generalize w2.heap.size = R at *
            go_region_held3 (fun W => At1 39 w (.string K) (.int .i64 (o : Int)) (.int .i64 (l : Int)) (.int .u64 Q) (.bool G) R (.int .u64 Q1) (.string K1) (.string V1) (.bool G1) W ∧ (W.cell? ⟨w.heap.size, 0, none⟩ = some (.string K) ∧ W.cell? ⟨w.heap.size, 1, none⟩ = some (.int .i64 (o : Int)) ∧ W.cell? ⟨w.heap.size, 2, none⟩ = some (.int .i64 (l : Int)) ∧ W.cell? ⟨w.heap.size, 3, none⟩ = some (.int .u64 Q) ∧ W.cell? ⟨w.heap.size, 4, none⟩ = some (.bool G)) ∧ W.cell? ⟨R, 0, none⟩ = some (.int .u64 Q1) ∧ W.cell? ⟨R, 1, none⟩ = some (.string K1) ∧ W.cell? ⟨R, 2, none⟩ = some (.string V1) ∧ W.cell? ⟨R, 3, none⟩ = some (.bool G1))
              (first | exact At1.cells ‹_› | exact At1.cells A2.out | exact At1.cells A2.out.drew | exact At1.cells (At1.drew ‹_›))
              (first | (go_at_call 41; (with_reducible refine (C2.out _ ?_).mono ?_); (first | assumption | exact A2.out | exact A2.out.drew | exact At1.drew ‹_›); rintro e w4 ⟨rfl, k4⟩))
            obtain ⟨⟨d0, d1, d2, d3⟩, g0, g1, g2, g3⟩ := At0.out (And.left ‹At1 39 w _ _ _ _ _ _ _ _ _ _ _›)
            have HB4 := Lib.hid (And.left (And.left ‹At1 39 w _ _ _ _ _ _ _ _ _ _ _›))
            go_wp2_with fail
            exact bodyPost_ret (v := .tuple #[.agg #[.int .u64 0, .string ⟨#[]⟩, .string ⟨#[]⟩, .bool false], .int .i64 2]) (by simp [results, Try.results17, go_sem, d0, d1, d2, d3]) rfl ⟨rfl, below_set4' HB4.out _ _ _ _⟩
          · obtain ⟨hk, hs⟩ := hok2
            have hcmp : ((bs r.k).toList == (bs e.k).toList) = true := by rw [hk]; simp
            have hsz0 : 0 < (bs s).size := by rw [bs_size]; exact List.length_pos_iff.2 hs
            have hcm2 : ((l : Int) - ((bs s).size : Int) == (l : Int)) = false := by rw [beq_eq_false_iff_ne]; omega
            have hcm2' : ¬ (l : Int) - ((bs s).size : Int) = (l : Int) := by omega
            clear hk hs hsz0
            generalize bs b = B at *
            generalize bs s = S at *
            generalize ((r.q : Nat) : Int) = Q1 at *
            generalize bs r.k = K1 at *
            generalize bs r.v = V1 at *
            generalize r.g = G1 at *
            generalize ((e.q : Nat) : Int) = Q at *
            generalize bs e.k = K at *
            generalize e.g = G at *
            go_enter Try.func17, Try.ntmps17
            go_wp2_with fail
            (with_reducible refine (H1.out _).mono ?_)
            rintro e w1 ⟨rfl, b1⟩
            have A1 := A0.out.call b1
            obtain ⟨c0, c1, c2, c3, c4⟩ := A1.cells
            have HA1 := Lib.hid A1
            clear A0 b1 A1
            go_wp2_with fail
            (with_reducible refine (H2.out _).mono ?_)
            rintro e w2 ⟨rfl, b2⟩
            have A2 := Lib.hid ((HA1.out.call b2).more (.int .u64 Q1) (.string K1) (.string V1) (.bool G1))
            have C2 := Lib.hid fun W (hW : At1 39 w (.string K) (.int .i64 (o : Int)) (.int .i64 (l : Int)) (.int .u64 Q) (.bool G) w2.heap.size (.int .u64 Q1) (.string K1) (.string V1) (.bool G1) W) => (H3.out W).mono fun e W' ⟨he, hb⟩ => And.intro he (hW.call hb)
            clear HA1 b2 c0 c1 c2 c3 c4 H1 H2 H3
            go_wp2_with fail
            generalize w2.alloc (.cells #[.int .u64 Q1, .string K1, .string V1, .bool G1] 45) = w3 at *
            generalize w2.heap.size = R at *
            go_region_held3 (fun W => At1 39 w (.string K) (.int .i64 (o : Int)) (.int .i64 (l : Int)) (.int .u64 Q) (.bool G) R (.int .u64 Q1) (.string K1) (.string V1) (.bool G1) W ∧ (W.cell? ⟨w.heap.size, 0, none⟩ = some (.string K) ∧ W.cell? ⟨w.heap.size, 1, none⟩ = some (.int .i64 (o : Int)) ∧ W.cell? ⟨w.heap.size, 2, none⟩ = some (.int .i64 (l : Int)) ∧ W.cell? ⟨w.heap.size, 3, none⟩ = some (.int .u64 Q) ∧ W.cell? ⟨w.heap.size, 4, none⟩ = some (.bool G)) ∧ W.cell? ⟨R, 0, none⟩ = some (.int .u64 Q1) ∧ W.cell? ⟨R, 1, none⟩ = some (.string K1) ∧ W.cell? ⟨R, 2, none⟩ = some (.string V1) ∧ W.cell? ⟨R, 3, none⟩ = some (.bool G1))
              (first | exact At1.cells ‹_› | exact At1.cells A2.out | exact At1.cells A2.out.drew | exact At1.cells (At1.drew ‹_›))
              (first | (go_at_call 41; (with_reducible refine (C2.out _ ?_).mono ?_); (first | assumption | exact A2.out | exact A2.out.drew | exact At1.drew ‹_›); rintro e w4 ⟨rfl, k4⟩))
            obtain ⟨⟨d0, d1, d2, d3⟩, g0, g1, g2, g3⟩ := At0.out (And.left ‹At1 39 w _ _ _ _ _ _ _ _ _ _ _›)
            have HB4 := Lib.hid (And.left (And.left ‹At1 39 w _ _ _ _ _ _ _ _ _ _ _›))
            go_wp2_with fail
            exact bodyPost_ret (v := .tuple #[.agg #[.int .u64 0, .string ⟨#[]⟩, .string ⟨#[]⟩, .bool false], .int .i64 2]) (by simp [results, Try.results17, go_sem, d0, d1, d2, d3]) rfl ⟨rfl, below_set4' HB4.out _ _ _ _⟩
          · obtain ⟨hk, hs, hq⟩ := hok2
            have hcmp : ((bs r.k).toList == (bs e.k).toList) = true := by rw [hk]; simp
            have hcm2 : ((l : Int) - ((bs s).size : Int) == (l : Int)) = true := by rw [hs, beq_iff_eq]; show (l : Int) - ((0 : Nat) : Int) = l; omega
            have hcm3 : ((((r.q : Nat) : Int)) == (((e.q : Nat) : Int))) = false := by rw [beq_eq_false_iff_ne]; omega
            have hcm3' : ¬ (((r.q : Nat) : Int)) = (((e.q : Nat) : Int)) := by omega
            clear hk hs hq
            generalize bs b = B at *
            generalize bs s = S at *
            generalize ((r.q : Nat) : Int) = Q1 at *
            generalize bs r.k = K1 at *
            generalize bs r.v = V1 at *
            generalize r.g = G1 at *
            generalize ((e.q : Nat) : Int) = Q at *
            generalize bs e.k = K at *
            generalize e.g = G at *
            go_enter Try.func17, Try.ntmps17
            go_wp2_with fail
            (with_reducible refine (H1.out _).mono ?_)
            rintro e w1 ⟨rfl, b1⟩
            have A1 := A0.out.call b1
            obtain ⟨c0, c1, c2, c3, c4⟩ := A1.cells
            have HA1 := Lib.hid A1
            clear A0 b1 A1
            go_wp2_with fail
            (with_reducible refine (H2.out _).mono ?_)
            rintro e w2 ⟨rfl, b2⟩
            have A2 := Lib.hid ((HA1.out.call b2).more (.int .u64 Q1) (.string K1) (.string V1) (.bool G1))
            have C2 := Lib.hid fun W (hW : At1 39 w (.string K) (.int .i64 (o : Int)) (.int .i64 (l : Int)) (.int .u64 Q) (.bool G) w2.heap.size (.int .u64 Q1) (.string K1) (.string V1) (.bool G1) W) => (H3.out W).mono fun e W' ⟨he, hb⟩ => And.intro he (hW.call hb)
            clear HA1 b2 c0 c1 c2 c3 c4 H1 H2 H3
            go_wp2_with fail
            generalize w2.alloc (.cells #[.int .u64 Q1, .string K1, .string V1, .bool G1] 45) = w3 at *
            generalize w2.heap.size = R at *
            go_region_held3 (fun W => At1 39 w (.string K) (.int .i64 (o : Int)) (.int .i64 (l : Int)) (.int .u64 Q) (.bool G) R (.int .u64 Q1) (.string K1) (.string V1) (.bool G1) W ∧ (W.cell? ⟨w.heap.size, 0, none⟩ = some (.string K) ∧ W.cell? ⟨w.heap.size, 1, none⟩ = some (.int .i64 (o : Int)) ∧ W.cell? ⟨w.heap.size, 2, none⟩ = some (.int .i64 (l : Int)) ∧ W.cell? ⟨w.heap.size, 3, none⟩ = some (.int .u64 Q) ∧ W.cell? ⟨w.heap.size, 4, none⟩ = some (.bool G)) ∧ W.cell? ⟨R, 0, none⟩ = some (.int .u64 Q1) ∧ W.cell? ⟨R, 1, none⟩ = some (.string K1) ∧ W.cell? ⟨R, 2, none⟩ = some (.string V1) ∧ W.cell? ⟨R, 3, none⟩ = some (.bool G1))
              (first | exact At1.cells ‹_› | exact At1.cells A2.out | exact At1.cells A2.out.drew | exact At1.cells (At1.drew ‹_›))
              (first | (go_at_call 41; (with_reducible refine (C2.out _ ?_).mono ?_); (first | assumption | exact A2.out | exact A2.out.drew | exact At1.drew ‹_›); rintro e w4 ⟨rfl, k4⟩))
            obtain ⟨⟨d0, d1, d2, d3⟩, g0, g1, g2, g3⟩ := At0.out (And.left ‹At1 39 w _ _ _ _ _ _ _ _ _ _ _›)
            have HB4 := Lib.hid (And.left (And.left ‹At1 39 w _ _ _ _ _ _ _ _ _ _ _›))
            go_wp2_with fail
            exact bodyPost_ret (v := .tuple #[.agg #[.int .u64 0, .string ⟨#[]⟩, .string ⟨#[]⟩, .bool false], .int .i64 2]) (by simp [results, Try.results17, go_sem, d0, d1, d2, d3]) rfl ⟨rfl, below_set4' HB4.out _ _ _ _⟩
          · obtain ⟨hk, hs, hq, hg⟩ := hok2
            have hcmp : ((bs r.k).toList == (bs e.k).toList) = true := by rw [hk]; simp
            have hcm2 : ((l : Int) - ((bs s).size : Int) == (l : Int)) = true := by rw [hs, beq_iff_eq]; show (l : Int) - ((0 : Nat) : Int) = l; omega
            have hcm4 : (r.g == e.g) = false := by rw [beq_eq_false_iff_ne]; exact hg
            rw [← hq] at A0 H1 ⊢
            clear hk hs hq hg
            generalize bs b = B at *
            generalize bs s = S at *
            generalize ((r.q : Nat) : Int) = Q1 at *
            generalize bs r.k = K1 at *
            generalize bs r.v = V1 at *
            generalize r.g = G1 at *
            generalize bs e.k = K at *
            generalize e.g = G at *
            go_enter Try.func17, Try.ntmps17
            go_wp2_with fail
            (with_reducible refine (H1.out _).mono ?_)
            rintro e w1 ⟨rfl, b1⟩
            have A1 := A0.out.call b1
            obtain ⟨c0, c1, c2, c3, c4⟩ := A1.cells
            have HA1 := Lib.hid A1
            clear A0 b1 A1
            go_wp2_with fail
            (with_reducible refine (H2.out _).mono ?_)
            rintro e w2 ⟨rfl, b2⟩
            have A2 := Lib.hid ((HA1.out.call b2).more (.int .u64 Q1) (.string K1) (.string V1) (.bool G1))
            have C2 := Lib.hid fun W (hW : At1 39 w (.string K) (.int .i64 (o : Int)) (.int .i64 (l : Int)) (.int .u64 Q1) (.bool G) w2.heap.size (.int .u64 Q1) (.string K1) (.string V1) (.bool G1) W) => (H3.out W).mono fun e W' ⟨he, hb⟩ => And.intro he (hW.call hb)
            clear HA1 b2 c0 c1 c2 c3 c4 H1 H2 H3
            go_wp2_with fail
            generalize w2.alloc (.cells #[.int .u64 Q1, .string K1, .string V1, .bool G1] 45) = w3 at *
            generalize w2.heap.size = R at *
            go_region_held3 (fun W => At1 39 w (.string K) (.int .i64 (o : Int)) (.int .i64 (l : Int)) (.int .u64 Q1) (.bool G) R (.int .u64 Q1) (.string K1) (.string V1) (.bool G1) W ∧ (W.cell? ⟨w.heap.size, 0, none⟩ = some (.string K) ∧ W.cell? ⟨w.heap.size, 1, none⟩ = some (.int .i64 (o : Int)) ∧ W.cell? ⟨w.heap.size, 2, none⟩ = some (.int .i64 (l : Int)) ∧ W.cell? ⟨w.heap.size, 3, none⟩ = some (.int .u64 Q1) ∧ W.cell? ⟨w.heap.size, 4, none⟩ = some (.bool G)) ∧ W.cell? ⟨R, 0, none⟩ = some (.int .u64 Q1) ∧ W.cell? ⟨R, 1, none⟩ = some (.string K1) ∧ W.cell? ⟨R, 2, none⟩ = some (.string V1) ∧ W.cell? ⟨R, 3, none⟩ = some (.bool G1))
              (first | exact At1.cells ‹_› | exact At1.cells A2.out | exact At1.cells A2.out.drew | exact At1.cells (At1.drew ‹_›))
              (first | (go_at_call 41; (with_reducible refine (C2.out _ ?_).mono ?_); (first | assumption | exact A2.out | exact A2.out.drew | exact At1.drew ‹_›); rintro e w4 ⟨rfl, k4⟩))
            obtain ⟨⟨d0, d1, d2, d3⟩, g0, g1, g2, g3⟩ := At0.out (And.left ‹At1 39 w _ _ _ _ _ _ _ _ _ _ _›)
            have HB4 := Lib.hid (And.left (And.left ‹At1 39 w _ _ _ _ _ _ _ _ _ _ _›))
            go_wp2_with fail
            exact bodyPost_ret (v := .tuple #[.agg #[.int .u64 0, .string ⟨#[]⟩, .string ⟨#[]⟩, .bool false], .int .i64 2]) (by simp [results, Try.results17, go_sem, d0, d1, d2, d3]) rfl ⟨rfl, below_set4' HB4.out _ _ _ _⟩
      · rw [if_neg (by simp [he])] at hv
        have hvv : hatV b e = .tuple #[.agg #[.int .u64 0, .string ⟨#[]⟩, .string ⟨#[]⟩, .bool false], .int .i64 2] := by rw [hatV, hv]; rfl
        rw [hvv]
        have hb0 : ((er : Int) != 0) = true := by rw [bne_iff_ne]; omega
        clear h1 h2 hv hvv hr hrd r1 r2 r3 r4 r5 r6 r7 r8 ho hl zs hsl hlt h he hB
        generalize bs e.k = K at *
        generalize ((e.q : Nat) : Int) = Q at *
        generalize e.g = G at *
        generalize bs b = B at *
        generalize bs s = S at *
        generalize ((r.q : Nat) : Int) = Q1 at *
        generalize bs r.k = K1 at *
        generalize bs r.v = V1 at *
        generalize r.g = G1 at *
        go_enter Try.func17, Try.ntmps17
        go_wp2_with fail
        (with_reducible refine (H1.out _).mono ?_)
        rintro e w1 ⟨rfl, b1⟩
        have A1 := A0.out.call b1
        obtain ⟨c0, c1, c2, c3, c4⟩ := A1.cells
        have HA1 := Lib.hid A1
        clear A0 b1 A1
        go_wp2_with fail
        (with_reducible refine (H2.out _).mono ?_)
        rintro e w2 ⟨rfl, b2⟩
        have A2 := (HA1.out.call b2).alloc (.cells #[.int .u64 Q1, .string K1, .string V1, .bool G1] 45)
        obtain ⟨⟨d0, d1, d2, d3⟩, g0, g1, g2, g3⟩ := A2.out
        have HA2 := Lib.hid A2.1
        clear HA1 b2 A2 c0 c1 c2 c3 c4
        go_wp2_with fail
        generalize w2.alloc (.cells #[.int .u64 Q1, .string K1, .string V1, .bool G1] 45) = w3 at *
        go_quiet (fail)
        go_wp2_with fail
        exact bodyPost_ret (v := .tuple #[.agg #[.int .u64 0, .string ⟨#[]⟩, .string ⟨#[]⟩, .bool false], .int .i64 2]) (by simp [results, Try.results17, go_sem, d0, d1, d2, d3]) rfl ⟨rfl, below_set4' (below_drewN HA2.out _) _ _ _ _⟩

end Go.Proofs.Ytdifecclldkhpaa
