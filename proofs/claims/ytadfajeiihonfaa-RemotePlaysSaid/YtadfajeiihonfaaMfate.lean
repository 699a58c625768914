/- The fate of a call; a script; how many calls. -/
import Derived.Test.YtadfajeiihonfaaMrem
import Derived.StillTailTactics
import Derived.RegionTactic
namespace Go.Proofs.Ytadfajeiihonfaa
open Go.RowKit Go.Maps

/-- Behind a fate: the script is one shorter. -/
def fatePost (B pb mb : Nat) (sv : Value) (S : Rs) (w : World) (e : Ending) (w' : World) : Prop :=
  e = .returned (.int .i64 (fateOf S)) ∧ RkStep B pb mb sv w { S with sc := S.sc.tail } w'

theorem ok_tail {S : Rs} (h : Ok S) : Ok { S with sc := S.sc.tail } := { h with nums := fun y hy => h.nums y (List.mem_of_mem_tail hy) }

/-- The script is cut by one. -/
theorem fate_end {B pb mb : Nat} {S : Rs} {w : World} {y : Int} {r : List Int} {g off cap off' cap' : Nat} (hs : S.sc = y :: r) (h : Rk B w pb mb (.slice (some ⟨g, off, none⟩) S.sc.length cap) S) (hc : ∀ i z, (y :: r)[i]? = some z → w.cell? ⟨g, off + i, none⟩ = some (.int .i64 z))
    (hg : B ≤ g ∧ g < w.heap.size ∧ g ≠ pb ∧ g ≠ mb) (ho : off' = off + 1 ∨ r = []) (h1 : r.length ≤ cap') (h2 : cap' ≤ maxLen) :
    RkStep B pb mb (.slice (some ⟨g, off, none⟩) S.sc.length cap) w { S with sc := S.sc.tail } (w.setCell ⟨pb, 1, none⟩ (.slice (some ⟨g, off', none⟩) r.length cap')) := by
  obtain ⟨g1, g2, g3, g4⟩ := hg
  have ht := turn_head w pb 1 (.slice (some ⟨g, off', none⟩) r.length cap')
  refine ⟨.slice (some ⟨g, off', none⟩) r.length cap', h.head (sc' := S.sc.tail) (n' := S.n) ht (h.setAt 1 _) ?_ (ok_tail h.ok), ?_, ht.mono (fun k _ e => Or.inl e)⟩
  · rw [hs]
    refine ⟨_, cap', rfl, h1, h2, (fun e => by cases e), fun A hA => ?_⟩
    cases hA
    refine ⟨g, off', rfl, g1, by simpa [World.setCell] using g2, g3, g4, fun i z hz => ?_⟩
    have hb : (w.setCell ⟨pb, 1, none⟩ (.slice (some ⟨g, off', none⟩) r.length cap')).heap[g]? = w.heap[g]? := ht.block g g2 g3
    have e : off' = off + 1 := by
      rcases ho with e | e
      · exact e
      · subst e; simp at hz
    subst e
    have := hc (i + 1) z (by simpa using hz)
    rw [show off + (i + 1) = off + 1 + i by omega] at this
    simp only [World.cell?, hb] at this ⊢
    exact this
  · rintro k (rfl | rfl | ⟨o, n, c, e⟩)
    · exact Or.inl (Or.inl rfl)
    · exact Or.inl (Or.inr (Or.inl rfl))
    · injection e with e1 e2 e3
      injection e1 with e1
      injection e1 with e1
      subst e1
      exact Or.inl (Or.inr (Or.inr ⟨_, _, _, rfl⟩))

theorem fate_any {B pb mb : Nat} {sv : Value} {S : Rs} {w : World} (h : Rk B w pb mb sv S) :
    Calls Try.prog 32 #[.pointer (some ⟨pb, 0, none⟩)] w (fatePost B pb mb sv S w) := by
  obtain ⟨a, cap, hv, h1, h2, h3, h4⟩ := h.script
  subst hv
  obtain ⟨c0, c1, c2, fz⟩ := h.cells
  have f1 := fz 1
  clear fz
  have hlt := h.lt.1
  cases hs : S.sc with
  | nil =>
    rw [hs] at c1 h1
    have H := Lib.hid h; clear h
    have HS := Lib.hid hs; clear hs
    go_enter Try.func32, Try.ntmps32
    go_wp2
    go_ret
    refine ⟨ret_int (by rw [fateOf, HS.out]; rfl), ?_⟩
    have e : ({ S with sc := S.sc.tail } : Rs) = S := by
      have hs := HS.out
      obtain ⟨o, sc, n⟩ := S
      dsimp only at hs
      subst hs
      rfl
    rw [e, show 0 = S.sc.length by rw [HS.out]; rfl]
    exact RkStep.same H.out (Below.refl _ _)
  | cons y r =>
    rw [hs] at c1 h1 h4
    rw [List.length_cons] at c1 h1
    have ha : a ≠ none := fun e => by have := h3 e; rw [hs] at this; cases this
    obtain ⟨A, rfl⟩ := Option.ne_none_iff_exists'.1 ha
    obtain ⟨g, off, rfl, hB, hg, n1, n2, hc⟩ := h4 A rfl
    have hy := hc 0 y rfl
    rw [Nat.add_zero] at hy
    have HC := Lib.hid hc; clear hc h3 h4 ha
    have HB : B ≤ g ∧ g < w.heap.size ∧ g ≠ pb ∧ g ≠ mb := ⟨hB, hg, n1, n2⟩
    have hm : cap ≤ 9223372036854775807 := by unfold maxLen at h2; omega
    have HM := Lib.hid h2; clear h2
    by_cases h1c : cap = 1
    · subst h1c
      obtain rfl : r = [] := List.eq_nil_of_length_eq_zero (by omega)
      have HE := Lib.hid (fate_end (off' := off) (cap' := 0) hs h HC.out HB (Or.inr rfl) (Nat.le_refl _) (by unfold maxLen; omega))
      have HS := Lib.hid hs; clear hs h
      go_enter Try.func32, Try.ntmps32
      go_wp2
      go_ret
      exact ⟨ret_int (by rw [fateOf, HS.out]; rfl), by have e := HE.out; rw [show S.sc.length = 1 by rw [HS.out]; rfl] at e; exact e⟩
    · have HE := Lib.hid (fate_end (off' := off + 1) (cap' := cap - 1) hs h HC.out HB (Or.inl rfl) (by omega) (by unfold maxLen; omega))
      have HS := Lib.hid hs; clear hs h
      go_enter Try.func32, Try.ntmps32
      go_wp2
      all_goals
        go_ret
        exact ⟨ret_int (by rw [fateOf, HS.out]; rfl), by rw [show r.length + 1 = S.sc.length by rw [HS.out]; rfl]; exact HE.out⟩
end Go.Proofs.Ytadfajeiihonfaa
