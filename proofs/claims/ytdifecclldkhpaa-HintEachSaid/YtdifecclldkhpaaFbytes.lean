/- What the calls rightSize, Bytes and Take of package frame return. -/
import Derived.Test.YtdifecclldkhpaaFmath
import Derived.Test.YtdifecclldkhpaaCseals
namespace Go.Proofs.Ytdifecclldkhpaa
open Go.RowKit

set_option maxRecDepth 100000 in
set_option maxHeartbeats 400000 in
theorem size16_any (n : Nat) (a : Option Addr) (cap : Nat) (w : World) (hn : n ≤ 9223372036854775807) :
    Calls Try.prog 49 #[.slice a n cap] w fun e w' => e = .returned (.bool (decide (1 ≤ n) && decide (n ≤ 16))) ∧ w = w' := by
  by_cases h1 : 1 ≤ n
  · by_cases h2 : n ≤ 16
    all_goals
      have h1i : (1 : Int) ≤ (n : Int) := by omega
      go_enter Try.func49, Try.ntmps49
      go_wp2
      go_ret
      exact ⟨ret_bool (by rw [decide_eq_true h1, Bool.true_and, decide_eq_decide]; omega), rfl⟩
  · obtain rfl : n = 0 := by omega
    go_enter Try.func49, Try.ntmps49
    go_wp2
    go_ret
    exact ⟨ret_bool (by simp), rfl⟩

/-- What Bytes returns. -/
def fbV (l : List Rc) : Value := if good l = true then .tuple #[.string (bs (fbs l)), .int .i64 0] else .tuple #[.string ⟨#[]⟩, .int .i64 1]
theorem fbV_yes {l : List Rc} (h : good l = true) : fbV l = .tuple #[.string (bs (fbs l)), .int .i64 0] := by rw [fbV, if_pos h]
theorem fbV_no {l : List Rc} (h : ¬ good l = true) : fbV l = .tuple #[.string ⟨#[]⟩, .int .i64 1] := by rw [fbV, if_neg h]

set_option maxRecDepth 100000 in
set_option maxHeartbeats 400000 in
theorem fbytes_any (l : List Rc) (a : Option Addr) (cap : Nat) (w : World) (hl : l.length ≤ 9223372036854775807) (hr : Recs w a l) (hf : Fits l) :
    Calls Try.prog 20 #[.slice a l.length cap] w fun e w' => e = .returned (fbV l) ∧ Below w.heap.size w w' := by
  have hs := fun W => size16_any l.length a cap W hl
  cases hsz : fits16 l with
  | false =>
    rw [show (decide (1 ≤ l.length) && decide (l.length ≤ 16)) = false from hsz] at hs
    have HE := Lib.hid (fbV_no (l := l) (by simp [good, hsz]))
    have HS := Lib.hid hs
    clear hs hsz
    go_enter Try.func20, Try.ntmps20
    go_wp2_with fail
    (with_reducible refine (HS.out _).mono ?_)
    rintro e w1 ⟨rfl, rfl⟩
    go_wp2_with fail
    go_ret2
    exact ⟨HE.out.symm ▸ rfl, Below.refl _ _⟩
  | true =>
    rw [show (decide (1 ≤ l.length) && decide (l.length ≤ 16)) = true from hsz] at hs
    have h16 : l.length ≤ 16 := by simp [fits16] at hsz; exact hsz.2
    have h1 := fun W (hW : Below w.heap.size w W) => all_any l a cap W (by omega) (hr.later hW (Nat.le_refl _)) hf
    cases hg : rights l with
    | false =>
      rw [allV_no (by simp [hg])] at h1
      have HE := Lib.hid (fbV_no (l := l) (by simp [good, hg]))
      have HS := Lib.hid hs
      have H1 := Lib.hid h1
      clear hs hsz h1 hr hf hg
      go_enter Try.func20, Try.ntmps20
      go_wp2_with fail
      (with_reducible refine (HS.out _).mono ?_)
      rintro e w1 ⟨rfl, rfl⟩
      go_wp2_with fail
      (with_reducible refine (H1.out _ (Below.refl _ _)).mono ?_)
      rintro e w1 ⟨rfl, b1⟩
      go_wp2_with fail
      go_ret2
      exact ⟨HE.out.symm ▸ rfl, b1⟩
    | true =>
      rw [allV_yes hg] at h1
      have hgood : good l = true := by simp [good, hg, hsz]
      obtain ⟨z1, z2⟩ := good_len hgood
      have HE := Lib.hid (fbV_yes hgood)
      have h2 := fun W => seal_any (bs (encs l)) W (by rw [bs_size]; omega)
      have h3 := fun W => text_any (bs (seal4 (encs l))) W (by rw [bs_size, seal_len]; omega)
      rw [bs_list] at h2
      rw [bs_list, bs_size] at h3
      rw [show put (seal4 (encs l)).length ++ seal4 (encs l) = fbs l from rfl] at h3
      have HS := Lib.hid hs
      have H1 := Lib.hid h1
      have H2 := Lib.hid h2
      have H3 := Lib.hid h3
      clear hs hsz h1 h2 h3 hr hf hg hgood
      generalize bs (encs l) = X at *
      generalize bs (seal4 (encs l)) = Y at *
      generalize bs (fbs l) = Z at *
      go_enter Try.func20, Try.ntmps20
      go_wp2_with fail
      (with_reducible refine (HS.out _).mono ?_)
      rintro e w1 ⟨rfl, rfl⟩
      go_wp2_with fail
      (with_reducible refine (H1.out _ (Below.refl _ _)).mono ?_)
      rintro e w1 ⟨rfl, b1⟩
      go_wp2_with fail
      (with_reducible refine (H2.out _).mono ?_)
      rintro e w2 ⟨rfl, b2⟩
      go_wp2_with fail
      (with_reducible refine (H3.out _).mono ?_)
      rintro e w3 ⟨rfl, b3⟩
      go_wp2_with fail
      go_ret2
      have s1 := b1.size
      have s2 := b2.size
      exact ⟨HE.out.symm ▸ rfl, b1.trans ((b2.mono s1).trans (b3.mono (by omega)))⟩

end Go.Proofs.Ytdifecclldkhpaa
