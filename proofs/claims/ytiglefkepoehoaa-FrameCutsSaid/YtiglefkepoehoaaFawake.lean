/- The first, small test of every law of layer 4 returns true. -/
import Derived.Test.YtiglefkepoehoaaFsame
import Derived.Deep.QuietTactic
import Derived.BigQuiet
namespace Go.Proofs.Ytiglefkepoehoaa
open Go.RowKit

def rA : Rc := ⟨3, [107], [118], false⟩
def sA : Rc := ⟨4, [107], [], true⟩
theorem good_rs : good [rA, sA] = true := rfl
theorem good_s : good [sA] = true := rfl
theorem fits_rs : Fits [rA, sA] := fun r hr => by
  simp at hr
  rcases hr with rfl | rfl <;> decide
theorem fits_s : Fits [sA] := fun r hr => by
  simp at hr
  subst hr
  decide


theorem take_one (l : List UInt8) : (bs l).extract 0 ((bs l).size - 1) = bs (l.take (l.length - 1)) := by rw [ext_to, bs_list, bs_size]

theorem recs_two (W : World) : Recs (W.alloc (.cells #[.int .u64 3, .string ⟨#[107]⟩, .string ⟨#[118]⟩, .bool false, .int .u64 4, .string ⟨#[107]⟩, .string ⟨#[]⟩, .bool true] 44)) (some ⟨W.heap.size, 0, none⟩) [rA, sA] := by
  intro _
  refine ⟨W.heap.size, 0, rfl, by simp, fun i hi => ?_⟩
  have : i = 0 ∨ i = 1 := by simp at hi; omega
  rcases this with rfl | rfl
  · simp only [World.cell?_alloc_mark]
    exact ⟨rfl, rfl, rfl, rfl⟩
  · simp only [World.cell?_alloc_mark]
    exact ⟨rfl, rfl, rfl, rfl⟩

theorem recs_one (W : World) : Recs (W.alloc (.cells #[.int .u64 4, .string ⟨#[107]⟩, .string ⟨#[]⟩, .bool true] 44)) (some ⟨W.heap.size, 0, none⟩) [sA] := by
  intro _
  refine ⟨W.heap.size, 0, rfl, by simp, fun i hi => ?_⟩
  obtain rfl : i = 0 := by simp at hi; omega
  simp only [World.cell?_alloc_mark]
  exact ⟨rfl, rfl, rfl, rfl⟩

theorem cells_two {w : World} {a : Option Addr} (h : Recs w a [rA, sA]) : ∃ b off, a = some ⟨b, off, none⟩ ∧ b < w.heap.size ∧
    w.cell? ⟨b, off, none⟩ = some (.int .u64 3) ∧ w.cell? ⟨b, off + 1, none⟩ = some (.string ⟨#[107]⟩) ∧ w.cell? ⟨b, off + 2, none⟩ = some (.string ⟨#[118]⟩) ∧ w.cell? ⟨b, off + 3, none⟩ = some (.bool false) ∧
    w.cell? ⟨b, off + 4, none⟩ = some (.int .u64 4) ∧ w.cell? ⟨b, off + 4 + 1, none⟩ = some (.string ⟨#[107]⟩) ∧ w.cell? ⟨b, off + 4 + 2, none⟩ = some (.string ⟨#[]⟩) ∧ w.cell? ⟨b, off + 4 + 3, none⟩ = some (.bool true) := by
  obtain ⟨b, off, ha, hb, hc⟩ := h (by decide)
  obtain ⟨c0, c1, c2, c3⟩ := hc 0 (by decide)
  obtain ⟨d0, d1, d2, d3⟩ := hc 1 (by decide)
  simp only [Nat.zero_mul, Nat.one_mul, Nat.add_zero] at c0 c1 c2 c3 d0 d1 d2 d3
  exact ⟨b, off, ha, hb, c0, c1, c2, c3, d0, d1, d2, d3⟩

/-- The two records of the test lie in memory. -/
def Pair (w W : World) : Prop := Below w.heap.size w W ∧ w.heap.size + 1 < W.heap.size ∧ W.heap[w.heap.size]? = some (.cells #[.int .u64 3, .string ⟨#[107]⟩, .string ⟨#[118]⟩, .bool false] 44) ∧ W.heap[w.heap.size + 1]? = some (.cells #[.int .u64 4, .string ⟨#[107]⟩, .string ⟨#[]⟩, .bool true] 44)

theorem Pair.made (w : World) : Pair w ((w.alloc (.cells #[.int .u64 3, .string ⟨#[107]⟩, .string ⟨#[118]⟩, .bool false] 44)).alloc (.cells #[.int .u64 4, .string ⟨#[107]⟩, .string ⟨#[]⟩, .bool true] 44)) :=
  ⟨((Below.refl _ _).alloc (Nat.le_refl _) _).alloc (by simp) _, by simp, heap_alloc2_old w _ _, heap_alloc2_new w _ _⟩
theorem Pair.call {w W W' : World} (h : Pair w W) (b : Below W.heap.size W W') : Pair w W' :=
  ⟨h.1.trans (b.mono h.1.size), Nat.lt_of_lt_of_le h.2.1 b.size, by rw [b.block _ (by have := h.2.1; omega)]; exact h.2.2.1, by rw [b.block _ h.2.1]; exact h.2.2.2⟩
theorem Pair.alloc {w W : World} (h : Pair w W) (o : Obj) : Pair w (W.alloc o) := h.call ((Below.refl _ _).alloc (Nat.le_refl _) _)
theorem Pair.cells {w W : World} (h : Pair w W) :
    (W.cell? ⟨w.heap.size, 0, none⟩ = some (.int .u64 3) ∧ W.cell? ⟨w.heap.size, 1, none⟩ = some (.string ⟨#[107]⟩) ∧ W.cell? ⟨w.heap.size, 2, none⟩ = some (.string ⟨#[118]⟩) ∧ W.cell? ⟨w.heap.size, 3, none⟩ = some (.bool false)) ∧
    W.cell? ⟨w.heap.size + 1, 0, none⟩ = some (.int .u64 4) ∧ W.cell? ⟨w.heap.size + 1, 1, none⟩ = some (.string ⟨#[107]⟩) ∧ W.cell? ⟨w.heap.size + 1, 2, none⟩ = some (.string ⟨#[]⟩) ∧ W.cell? ⟨w.heap.size + 1, 3, none⟩ = some (.bool true) :=
  ⟨⟨by rw [Lib.cell_of_heap h.2.2.1]; rfl, by rw [Lib.cell_of_heap h.2.2.1]; rfl, by rw [Lib.cell_of_heap h.2.2.1]; rfl, by rw [Lib.cell_of_heap h.2.2.1]; rfl⟩,
    by rw [Lib.cell_of_heap h.2.2.2]; rfl, by rw [Lib.cell_of_heap h.2.2.2]; rfl, by rw [Lib.cell_of_heap h.2.2.2]; rfl, by rw [Lib.cell_of_heap h.2.2.2]; rfl⟩

set_option maxRecDepth 100000 in
set_option maxHeartbeats 1000000 in
theorem awake_any (w : World) : Calls Try.prog 6 #[] w fun e w' => e = .returned (.bool true) ∧ Below w.heap.size w w' := by
  obtain ⟨z1, z2⟩ := fbs_len good_rs
  obtain ⟨y1, y2⟩ := fbs_len good_s
  have h1 := fun (W : World) (a : Option Addr) cap (hr : Recs W a [rA, sA]) => fbytes_any [rA, sA] a cap W (by decide) hr fits_rs
  have h2 := fun (W : World) (a : Option Addr) cap (hr : Recs W a [sA]) => fbytes_any [sA] a cap W (by decide) hr fits_s
  rw [fbV_yes good_rs, show ([rA, sA] : List Rc).length = 2 from rfl] at h1
  rw [fbV_yes good_s, show ([sA] : List Rc).length = 1 from rfl] at h2
  have h3 := fun W => ftake_any (fbs [rA, sA] ++ [120]) W (by simp; omega)
  rw [ft_bytes good_rs, bs_app, show bs [120] = ⟨#[120]⟩ from rfl] at h3
  have h4 := fun W => fscan_any (cat [[rA, sA]] ++ (fbs [sA]).take ((fbs [sA]).length - 1)) W (by simp [cat]; omega)
  rw [fs_cat [[rA, sA]] _ (fun l hl => by simp at hl; subst hl; exact good_rs) (ft_cut good_s (k := (fbs [sA]).length - 1) (by omega)) (by omega), bs_app, ← take_one _, cat_cons, cat_nil, List.append_nil] at h4
  have zA := bs_size (fbs [rA, sA])
  have zB := bs_size (fbs [sA])
  generalize fbs [rA, sA] = A at *
  generalize fbs [sA] = B at *
  rw [← zA] at h3 h4 z1 z2
  rw [← zB] at y1 y2
  clear zA zB
  generalize bs A = A1 at *
  generalize bs B = B1 at *
  have H1 := Lib.hid h1
  have H2 := Lib.hid h2
  have H3 := Lib.hid h3
  have H4 := Lib.hid h4
  clear h1 h2 h3 h4
  have P0 := Lib.hid (Pair.made w)
  have R2 := Lib.hid recs_two
  have R1 := Lib.hid recs_one
  go_enter Try.func6, Try.ntmps6
  go_wp2_with fail
  (with_reducible refine (H1.out _ _ _ ?r2).mono ?_)
  case r2 =>
    have := R2.out ((w.alloc (.cells #[.int .u64 3, .string ⟨#[107]⟩, .string ⟨#[118]⟩, .bool false] 44)).alloc (.cells #[.int .u64 4, .string ⟨#[107]⟩, .string ⟨#[]⟩, .bool true] 44))
    rwa [World.size_alloc, World.size_alloc] at this
  rintro e w1 ⟨rfl, b1⟩
  have P1 : Pair w w1 := (P0.out.alloc _).call b1
  obtain ⟨_, d0, d1, d2, d3⟩ := P1.cells
  have s1 : w.heap.size + 1 < w1.heap.size := P1.2.1
  have PP1 := Lib.hid P1
  clear P0 P1 b1
  go_wp2_with fail
  (with_reducible refine (H2.out _ _ _ (R1.out w1)).mono ?_)
  rintro e w2 ⟨rfl, b2⟩
  have P2 := Lib.hid ((PP1.out.alloc _).call b2)
  clear PP1 b2 s1 d0 d1 d2 d3
  go_wp2_with fail
  (with_reducible refine (H3.out _).mono ?_)
  rintro e w3 ⟨a3, cap3, rfl, r3, b3⟩
  have P3 := Lib.hid (P2.out.call b3)
  clear P2 b3
  go_wp2_with fail
  (with_reducible refine (H4.out _).mono ?_)
  rintro e w4 ⟨a4, cap4, rfl, r4, b4⟩
  have P4 := P3.out.call b4
  obtain ⟨⟨c0, c1, c2, c3⟩, d0, d1, d2, d3⟩ := P4.cells
  obtain ⟨g, off, rfl, hg, e0, e1, e2, e3, f0, f1, f2, f3⟩ := cells_two (r3.1.later b4 (Nat.le_refl _))
  have B4 := Lib.hid P4.1
  clear P3 P4 b4 r3 r4
  go_wp2_with fail
  go_quiet (fail)
  go_wp2_with fail
  go_ret
  exact ⟨rfl, below_drewN B4.out _⟩

end Go.Proofs.Ytiglefkepoehoaa
