/- The first, small test of every law of layer 5 returns true. -/
import Derived.Test.YtdifecclldkhpaaHat
import Derived.Deep.QuietTactic
import Derived.BigQuiet
namespace Go.Proofs.Ytdifecclldkhpaa
open Go.RowKit

def rA : Rc := ⟨3, [107], [118], false⟩
def eA : Et := ⟨[107], 5, 5, 3, false⟩
theorem good_rA : good [rA] = true := rfl
theorem fits_rA : Fits [rA] := fun r hr => by
  simp at hr
  subst hr
  decide
theorem enc_rA : enc rA = [6, 1, 107, 1, 118] := by
  rw [enc_here rfl]
  show put 6 ++ (put 1 ++ [107]) ++ (put 1 ++ [118]) = _
  rw [put_lo (n := 6) (by omega), put_lo (n := 1) (by omega)]; rfl
theorem head_rA : head [rA] = 5 := by
  have h : encs [rA] = [6, 1, 107, 1, 118] := by rw [encs_cons, encs_nil, List.append_nil, enc_rA]
  rw [head, fbs, txt, List.length_append, seal_len, h]
  rw [show (4 + ([6, 1, 107, 1, 118] : List UInt8).length : Nat) = 9 from rfl, put_lo (n := 9) (by omega)]; rfl
theorem hof_rA : hof 0 [[rA]] = [eA] := by
  rw [hof, hof, rows, rows, List.append_nil, head_rA]
  unfold ent
  rw [enc_rA]; rfl
theorem fs_rA : fs (fbs [rA]) = ([[rA]], (fbs [rA]).length) := by
  have := fs_cat [[rA]] [] (fun l hl => by simp at hl; subst hl; exact good_rA) ft_nil (by omega)
  rwa [List.append_nil, cat_cons, cat_nil, List.append_nil] at this
theorem eright_eA : eright eA = true := by rw [eright_iff]; simp [eA]
theorem efit_eA : EFit eA := by simp [EFit, eA]
theorem efits_eA : EFits [eA] := fun e he => by rw [List.mem_singleton] at he; subst he; exact efit_eA
theorem hat_eA : hat (fbs [rA]) eA = (rA, 0) := by
  have h : ∀ l ∈ [[rA]], good l = true := fun l hl => by simp at hl; subst hl; exact good_rA
  have hl := fbs_len good_rA
  have := hat_hof [[rA]] (fbs [rA]) [] 0 h (by rw [cat_cons, cat_nil, List.append_nil]; omega) (by simp [cat])
  rw [hof_rA] at this
  simpa using this

theorem recs_rA (W : World) : Recs (W.alloc (.cells #[.int .u64 3, .string ⟨#[107]⟩, .string ⟨#[118]⟩, .bool false] 45)) (some ⟨W.heap.size, 0, none⟩) [rA] := by
  intro _
  refine ⟨W.heap.size, 0, rfl, by simp, fun i hi => ?_⟩
  obtain rfl : i = 0 := by simp at hi; omega
  simp only [World.cell?_alloc_mark]
  exact ⟨rfl, rfl, rfl, rfl⟩

theorem ents_eA {w : World} {a : Option Addr} (h : EntsIn w a [eA]) : ∃ b off, a = some ⟨b, off, none⟩ ∧ b < w.heap.size ∧
    w.cell? ⟨b, off, none⟩ = some (.string ⟨#[107]⟩) ∧ w.cell? ⟨b, off + 1, none⟩ = some (.int .i64 5) ∧
    w.cell? ⟨b, off + 2, none⟩ = some (.int .i64 5) ∧ w.cell? ⟨b, off + 3, none⟩ = some (.int .u64 3) ∧ w.cell? ⟨b, off + 4, none⟩ = some (.bool false) := by
  obtain ⟨b, off, ha, hb, c0, c1, c2, c3, c4⟩ := ents_of_mem h 0 (by simp)
  simp only [Nat.zero_mul, Nat.add_zero] at c0 c1 c2 c3 c4
  exact ⟨b, off, ha, hb, c0, c1, c2, c3, c4⟩

set_option maxRecDepth 100000 in
set_option maxHeartbeats 2000000 in
theorem awake_any (w : World) : Calls Try.prog 7 #[] w fun e w' => e = .returned (.bool true) ∧ Below w.heap.size w w' := by
  obtain ⟨z1, z2⟩ := fbs_len good_rA
  have h1 := fun (W : World) (a : Option Addr) cap (hr : Recs W a [rA]) => fbytes_any [rA] a cap W (by decide) hr fits_rA
  rw [fbV_yes good_rA, show ([rA] : List Rc).length = 1 from rfl] at h1
  have h2 := fun W => hof_any (fbs [rA]) W (by omega)
  rw [fs_rA, hof_rA] at h2
  have h3 := fun W => hat_any (fbs [rA]) eA W efit_eA
  rw [hatV, hat_eA] at h3
  have h4 := fun (W : World) (a : Option Addr) cap (hr : EntsIn W a [eA]) => hbytes_any [eA] a cap W (by decide) hr efits_eA
  have hy := hbs_yes (l := [eA]) (by simp) (by simp [erights, eright_eA])
  have hx := hrd_hbs hy
  rw [hbV, hy] at h4
  have zx : (seal4 (put [eA].length ++ eencs [eA])).length ≤ 200 := by
    have := eencs_len [eA] (by simp [erights, eright_eA])
    have h2 := put_ten (lt64 (n := [eA].length) (by simp))
    rw [seal_len, List.length_append]
    simp at this h2 ⊢
    omega
  have h5 := fun W => hread_any (seal4 (put [eA].length ++ eencs [eA])) W (by omega)
  rw [hx] at h5
  have zA := bs_size (fbs [rA])
  rw [← zA] at h2 z1 z2
  generalize fbs [rA] = A at *
  generalize seal4 (put [eA].length ++ eencs [eA]) = X at *
  clear zA hy hx zx
  rw [show ([eA] : List Et).length = 1 from rfl] at h4
  simp only [rv, ev, rA, eA, show bs [107] = ⟨#[107]⟩ from rfl, show bs [118] = ⟨#[118]⟩ from rfl, show ((3 : Nat) : Int) = 3 from rfl] at h3
  have H1 := Lib.hid h1
  have H2 := Lib.hid h2
  have H3 := Lib.hid h3
  have H4 := Lib.hid h4
  have H5 := Lib.hid h5
  clear h1 h2 h3 h4 h5
  have R1 := Lib.hid recs_rA
  generalize bs A = S at *
  generalize bs X = Y at *
  go_enter Try.func7, Try.ntmps7
  go_wp2_with fail
  (with_reducible refine (H1.out _ _ _ (R1.out w)).mono ?_)
  rintro e w1 ⟨rfl, b1⟩
  have B1 := Lib.hid (((Below.refl w.heap.size w).alloc (Nat.le_refl _) (.cells #[.int .u64 3, .string ⟨#[107]⟩, .string ⟨#[118]⟩, .bool false] 45)).trans (b1.mono (by simp)))
  clear b1
  go_wp2_with fail
  (with_reducible refine (H2.out _).mono ?_)
  rintro e w2 ⟨a1, cap1, rfl, r1, b2⟩
  rw [show ([eA] : List Et).length = 1 from rfl]
  have B2 := Lib.hid (B1.out.trans (b2.mono B1.out.size))
  have HR1 := Lib.hid r1
  obtain ⟨g, off, rfl, hg, c0, c1, c2, c3, c4⟩ := ents_eA r1
  clear b2 B1 r1
  go_wp2_with fail
  (with_reducible refine (H3.out _).mono ?_)
  rintro e w3 ⟨rfl, b3⟩
  have B3 := Lib.hid (B2.out.trans (b3.mono B2.out.size))
  have E3 := (HR1.out.later b3 (Nat.le_refl _))
  have hg3 : g < w3.heap.size := by have := b3.size; omega
  have E4 := Lib.hid (E3.later ((Below.refl w3.heap.size w3).alloc (Nat.le_refl _) (.cells #[.int .u64 3, .string ⟨#[107]⟩, .string ⟨#[118]⟩, .bool false] 45)) (Nat.le_refl _))
  have K4 := Lib.hid (Box.made w3 (.cells #[.int .u64 3, .string ⟨#[107]⟩, .string ⟨#[118]⟩, .bool false] 45))
  clear b3 B2 E3 c0 c1 c2 c3 c4 HR1 hg
  go_wp2_with fail
  (with_reducible refine (H4.out _ _ _ E4.out).mono ?_)
  rintro e w4 ⟨rfl, b4⟩
  have E5 := Lib.hid (E4.out.later b4 (Nat.le_refl _))
  have K5 := Lib.hid (K4.out.call b4)
  clear b4 E4 K4
  go_wp2_with fail
  (with_reducible refine (H5.out _).mono ?_)
  rintro e w5 ⟨a5, cap5, rfl, r5, b5⟩
  rw [show ([eA] : List Et).length = 1 from rfl]
  have E6 := E5.out.later b5 (Nat.le_refl _)
  have K6 : Box4 w3 _ _ _ _ w5 := K5.out.call b5
  obtain ⟨_, d0, d1, d2, d3⟩ := Box4.cells K6
  obtain ⟨g', off', e6, hg', c0, c1, c2, c3, c4⟩ := ents_eA E6
  cases e6
  obtain ⟨g2, off2, rfl, hg2, f0, f1, f2, f3, f4⟩ := ents_eA r5
  have B6 := Lib.hid (B3.out.trans (K6.1.mono B3.out.size))
  clear E5 K5 E6 K6 B3 b5 r5
  generalize w3.heap.size = R at *
  go_wp2_with fail
  go_quiet (fail)
  go_wp2_with fail
  go_ret
  exact ⟨rfl, below_drewN B6.out _⟩

end Go.Proofs.Ytdifecclldkhpaa
