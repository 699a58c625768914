/- The document's fate of a call. -/
import Derived.Test.YtadfajeiihonfaaMref
namespace Go.Proofs.Ytadfajeiihonfaa
open Go.RowKit
set_option linter.unusedVariables false

theorem Rf.count {B qb : Nat} {lv sv : Value} {S : Rs} {w : World} (h : Rf B w qb lv sv S) (hn : S.n < 1000000000000) : Rf B (w.setCell ⟨qb, 2, none⟩ (.int .i64 (S.n + 1))) qb lv sv (counted S) :=
  h.set (S' := counted S) 2 _ rfl rfl (h.script.setOwn 2 _) (ok_counted h.ok hn)

/-- The script is cut by one. -/
theorem Rf.cut {B qb : Nat} {lv : Value} {S : Rs} {w : World} {y : Int} {r : List Int} {g off cap off' cap' : Nat} (hs : S.sc = y :: r) (h : Rf B w qb lv (.slice (some ⟨g, off, none⟩) (r.length + 1) cap) S) (hc : ∀ i z, (y :: r)[i]? = some z → w.cell? ⟨g, off + i, none⟩ = some (.int .i64 z))
    (hg : B ≤ g ∧ g < w.heap.size ∧ g ≠ qb) (ho : off' = off + 1 ∨ r = []) (h1 : r.length ≤ cap') (h2 : cap' ≤ maxLen) :
    Rf B (w.setCell ⟨qb, 1, none⟩ (.slice (some ⟨g, off', none⟩) r.length cap')) qb lv (.slice (some ⟨g, off', none⟩) r.length cap') { S with sc := S.sc.tail } := by
  obtain ⟨g1, g2, g3⟩ := hg
  refine h.set (S' := { S with sc := S.sc.tail }) 1 _ rfl rfl ?_ (ok_tail h.ok)
  rw [hs]
  refine ⟨_, cap', rfl, h1, h2, (fun e => by cases e), fun A hA => ?_⟩
  cases hA
  refine ⟨g, off', rfl, g1, by simpa [World.setCell] using g2, g3, g3, fun i z hz => ?_⟩
  have hb : (w.setCell ⟨qb, 1, none⟩ (.slice (some ⟨g, off', none⟩) r.length cap')).heap[g]? = w.heap[g]? := Below.heap_setCell _ _ _ _ g3
  have e : off' = off + 1 := by
    rcases ho with e | e
    · exact e
    · subst e; simp at hz
  subst e
  have := hc (i + 1) z (by simpa using hz)
  rw [show off + (i + 1) = off + 1 + i by omega] at this
  simp only [World.cell?, hb] at this ⊢
  exact this

def rfatePost (B qb : Nat) (lv sv : Value) (S : Rs) (w : World) (e : Ending) (w' : World) : Prop := e = .returned (.int .i64 (fateOf S)) ∧ RfStep B qb lv sv w (used S) w'

theorem reffate_any {B qb : Nat} {lv sv : Value} {S : Rs} {w : World} (h : Rf B w qb lv sv S) (hn : S.n < 1000000000000) :
    Calls Try.prog 23 #[.pointer (some ⟨qb, 0, none⟩)] w (rfatePost B qb lv sv S w) := by
  have hcl := h.ok.calls
  obtain ⟨a, cap, hv, h1, h2, h3, h4⟩ := h.script
  subst hv
  have hcount := h.count hn
  have ht := turn_head w qb 2 (.int .i64 (S.n + 1))
  obtain ⟨c0, c1, c2, fz⟩ := h.cells
  have f1 := fz 1
  have f2 := fz 2
  clear fz
  have hlt := (h.lt (Or.inl rfl)).2
  cases hs : S.sc with
  | nil =>
    rw [hs] at c1 h1
    have HC := Lib.hid hcount; have HT := Lib.hid ht; clear h hcount ht
    have HS := Lib.hid hs; clear hs
    go_enter Try.func23, Try.ntmps23
    go_wp2
    go_ret
    refine ⟨ret_int (by rw [fateOf, HS.out]; rfl), ?_⟩
    have e : used S = counted S := by
      have hs := HS.out
      obtain ⟨o, sc, n⟩ := S
      dsimp only at hs
      subst hs
      rfl
    rw [e, show 0 = S.sc.length by rw [HS.out]; rfl]
    exact ⟨_, _, HC.out, fun _ hk => Or.inl hk, HT.out⟩
  | cons y r =>
    rw [hs] at c1 h1 h4
    rw [List.length_cons] at c1 h1
    have ha : a ≠ none := fun e => by have := h3 e; rw [hs] at this; cases this
    obtain ⟨A, rfl⟩ := Option.ne_none_iff_exists'.1 ha
    obtain ⟨g, off, rfl, hB, hg, n1, _, hc⟩ := h4 A rfl
    have hy := hc 0 y rfl
    rw [Nat.add_zero] at hy
    rw [hs, List.length_cons] at hcount
    have hcw : ∀ i z, (y :: r)[i]? = some z → (w.setCell ⟨qb, 2, none⟩ (.int .i64 (S.n + 1))).cell? ⟨g, off + i, none⟩ = some (.int .i64 z) := fun i z hz => by
      have := hc i z hz
      have hb : (w.setCell ⟨qb, 2, none⟩ (.int .i64 (S.n + 1))).heap[g]? = w.heap[g]? := Below.heap_setCell _ _ _ _ n1
      simp only [World.cell?, hb] at this ⊢
      exact this
    clear hc h3 h4 ha
    have HB : B ≤ g ∧ g < (w.setCell ⟨qb, 2, none⟩ (.int .i64 (S.n + 1))).heap.size ∧ g ≠ qb := ⟨hB, by simpa [World.setCell] using hg, n1⟩
    have hm : cap ≤ 9223372036854775807 := by unfold maxLen at h2; omega
    have HM := Lib.hid h2; clear h2
    have hfoot : ∀ (off' cap' : Nat) k, rfoot qb lv (.slice (some ⟨g, off', none⟩) r.length cap') k → rfoot qb lv (.slice (some ⟨g, off, none⟩) (r.length + 1) cap) k := fun off' cap' k hk => by
      rcases hk with hk | hk | ⟨o, n, c, e⟩
      · exact Or.inl hk
      · exact Or.inr (Or.inl hk)
      · injection e with e1 e2 e3
        injection e1 with e1
        injection e1 with e1
        subst e1
        exact Or.inr (Or.inr ⟨_, _, _, rfl⟩)
    have hs' : (counted S).sc = y :: r := hs
    by_cases h1c : cap = 1
    · subst h1c
      obtain rfl : r = [] := List.eq_nil_of_length_eq_zero (by omega)
      have HE := Lib.hid (Rf.cut (off' := off) (cap' := 0) hs' hcount hcw HB (Or.inr rfl) (Nat.le_refl _) (by unfold maxLen; omega))
      have HS := Lib.hid hs; have HT := Lib.hid ht; have HF := Lib.hid (hfoot off 0); clear hs h hcount ht hcw hfoot hs'
      go_enter Try.func23, Try.ntmps23
      go_wp2
      go_ret
      exact ⟨ret_int (by rw [fateOf, HS.out]; rfl), ⟨_, _, HE.out, fun k hk => Or.inl (HF.out k hk), HT.out.trans (turn_head _ qb 1 _)⟩⟩
    · have HE := Lib.hid (Rf.cut (off' := off + 1) (cap' := cap - 1) hs' hcount hcw HB (Or.inl rfl) (by omega) (by have := HM.out; unfold maxLen at this ⊢; omega))
      have HS := Lib.hid hs; have HT := Lib.hid ht; have HF := Lib.hid (hfoot (off + 1) (cap - 1)); clear hs h hcount ht hcw hfoot hs'
      go_enter Try.func23, Try.ntmps23
      go_wp2
      all_goals
        go_ret
        exact ⟨ret_int (by rw [fateOf, HS.out]; rfl), ⟨_, _, HE.out, fun k hk => Or.inl (HF.out k hk), HT.out.trans (turn_head _ qb 1 _)⟩⟩
end Go.Proofs.Ytadfajeiihonfaa
