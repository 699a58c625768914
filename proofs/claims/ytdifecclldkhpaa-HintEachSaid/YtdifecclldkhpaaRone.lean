/- What the call Bytes of package record returns. -/
import Derived.Test.YtdifecclldkhpaaRread
namespace Go.Proofs.Ytdifecclldkhpaa
open Go.RowKit

set_option maxRecDepth 100000 in
set_option maxHeartbeats 400000 in
theorem bytes_any (r : Rc) (w : World) (hq : r.q ≤ 18446744073709551615) (hK : r.k.length ≤ 9223372036854775807) (hV : r.v.length ≤ 9223372036854775807) :
    Calls Try.prog 40 #[rv r] w fun e w' => e = .returned (allV [r]) ∧ Below w.heap.size w w' := by
  have h := fun (W : World) (a : Option Addr) cap (hr : Recs W a [r]) => all_any [r] a cap W (by simp) hr (Fits.one hq hK hV)
  simp only [rv, List.length_singleton] at h ⊢
  obtain ⟨x, y, hx⟩ : ∃ x y, allV [r] = .tuple #[.string x, .int .i64 y] := by
    unfold allV
    split
    · exact ⟨_, _, rfl⟩
    · exact ⟨_, _, rfl⟩
  rw [hx] at h ⊢
  have H := Lib.hid h
  clear h hx
  go_enter Try.func40, Try.ntmps40
  go_wp2_with fail
  (with_reducible refine (H.out _ _ _ ?_).mono ?_)
  · intro _
    refine ⟨w.heap.size + 1, 0, rfl, by simp, fun i hi => ?_⟩
    obtain rfl : i = 0 := by simp at hi; omega
    simp [go_sem]
  rintro e w1 ⟨rfl, b1⟩
  go_wp2_with fail
  go_ret2
  exact ⟨rfl, ((((Below.refl _ _).alloc (Nat.le_refl _) _).alloc (by simp) _)).trans (b1.mono (by simp; omega))⟩

end Go.Proofs.Ytdifecclldkhpaa
