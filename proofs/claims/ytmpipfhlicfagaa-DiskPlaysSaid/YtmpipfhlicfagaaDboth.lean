/- The program's disk and the document's, side by side. -/
import Derived.Test.YtmpipfhlicfagaaDrefcrash
namespace Go.Proofs.Ytmpipfhlicfagaa
open Go.RowKit
set_option linter.unusedVariables false

/-- Both disks, apart from one another and from the blocks X. -/
def Bo (B : Nat) (w : World) (pb qb : Nat) (X : Nat → Prop) (Sd Sr : St) : Prop :=
  ∃ F lv, DkS B w pb F Sd ∧ Rf B w qb lv Sr ∧ (∀ k, F k → k ≠ qb ∧ lv.ownBlock ≠ some k) ∧ ∀ k, X k → k < w.heap.size ∧ ¬ F k ∧ k ≠ qb ∧ lv.ownBlock ≠ some k

/-- Nothing below B has turned, and none of the blocks X. -/
def Fr (B : Nat) (X : Nat → Prop) (w w' : World) : Prop := Below B w w' ∧ ∀ k, X k → w'.heap[k]? = w.heap[k]?

section
variable {B pb qb : Nat} {X : Nat → Prop} {Sd Sr Sd' Sr' : St} {w w' : World} {fn : Nat} {args : Array Value} {r : Value}

theorem Fr.refl : Fr B X w w := ⟨Below.refl _ _, fun _ _ => rfl⟩
theorem Fr.trans {a b c : World} (h : Fr B X a b) (k : Fr B X b c) : Fr B X a c := ⟨h.1.trans k.1, fun i hi => (k.2 i hi).trans (h.2 i hi)⟩

theorem Bo.size (h : Bo B w pb qb X Sd Sr) : B ≤ w.heap.size := by obtain ⟨F, lv, _, hr, _⟩ := h; exact hr.base.2.2
theorem Bo.good (h : Bo B w pb qb X Sd Sr) : Good Sd ∧ Good Sr := by obtain ⟨F, lv, hd, hr, _⟩ := h; exact ⟨hd.good, hr.good⟩

/-- What only makes new blocks leaves them as they are. -/
theorem Bo.below (h : Bo B w pb qb X Sd Sr) (hb : Below w.heap.size w w') : Bo B w' pb qb X Sd Sr := by
  obtain ⟨F, lv, hd, hr, h1, h2⟩ := h
  exact ⟨F, lv, hd.kept (Turn.of_below (fun _ => False) hb (Nat.le_refl _)) (fun _ _ _ f => f), hr.below hb, h1, fun k hk => by
    obtain ⟨a1, a2⟩ := h2 k hk
    exact ⟨Nat.lt_of_lt_of_le a1 hb.size, a2⟩⟩
theorem Fr.below (h : Bo B w pb qb X Sd Sr) (hb : Below w.heap.size w w') : Fr B X w w' := ⟨hb.mono h.size, fun k hk => by
  obtain ⟨F, lv, hd, hr, h1, h2⟩ := h
  exact hb.block k (h2 k hk).1⟩

/-- A new block may be watched. -/
theorem Bo.watch (h : Bo B w pb qb (fun _ => False) Sd Sr) (o : Obj) : Bo B (w.alloc o) pb qb (fun k => k = w.heap.size) Sd Sr := by
  obtain ⟨F, lv, hd, hr, h1, h2⟩ := h
  refine ⟨F, lv, hd.kept ((Turn.refl (fun _ => False) w).alloc o) (fun _ _ _ f => f), hr.kept ((Turn.refl (fun _ => False) w).alloc o) (fun _ _ _ f => f), h1, ?_⟩
  rintro k rfl
  exact ⟨by simp, fun hf => by have := (hd.lt hf).2; omega, fun e => by have := hr.lt.1; omega, fun e => by have := (hr.lt.2 _ e).2; omega⟩
theorem Bo.drop (h : Bo B w pb qb X Sd Sr) : Bo B w pb qb (fun _ => False) Sd Sr := by
  obtain ⟨F, lv, hd, hr, h1, h2⟩ := h
  exact ⟨F, lv, hd, hr, h1, fun k hk => hk.elim⟩

theorem bo_d (h : Bo B w pb qb X Sd Sr) (hc : ∀ F, DkS B w pb F Sd → (∀ k, X k → k < w.heap.size ∧ ¬ F k) → Calls Try.prog fn args w (DkPost B pb F Sd' r w)) : Calls Try.prog fn args w fun e w' => e = .returned r ∧ Bo B w' pb qb X Sd' Sr ∧ Fr B X w w' := by
  obtain ⟨F, lv, hd, hr, h1, h2⟩ := h
  refine (hc F hd (fun k hk => ⟨(h2 k hk).1, (h2 k hk).2.1⟩)).mono ?_
  rintro e w' ⟨rfl, F', hd', hF', t⟩
  have hB := hr.base.2.2
  refine ⟨rfl, ⟨F', lv, hd', hr.kept t (fun k hk hkk hf => ?_), fun k hk => ?_, fun k hk => ?_⟩, t.below (fun k hk => (hd.lt hk).1) hB, fun k hk => t.block k (h2 k hk).1 (h2 k hk).2.1⟩
  · rcases hkk with e | e
    · exact (h1 k hf).1 e
    · exact (h1 k hf).2 e
  · rcases hF' k hk with hk | hk
    · exact h1 k hk
    · exact ⟨fun e => by have := hr.lt.1; omega, fun e => by have := (hr.lt.2 k e).2; omega⟩
  · obtain ⟨a1, a2, a3, a4⟩ := h2 k hk
    exact ⟨Nat.lt_of_lt_of_le a1 t.size, fun hf => by
      rcases hF' k hf with hf | hf
      · exact a2 hf
      · omega, a3, a4⟩

theorem bo_r (h : Bo B w pb qb X Sd Sr) (hc : ∀ lv, Rf B w qb lv Sr → Calls Try.prog fn args w (RfPost B qb lv Sr' r w)) : Calls Try.prog fn args w fun e w' => e = .returned r ∧ Bo B w' pb qb X Sd Sr' ∧ Fr B X w w' := by
  obtain ⟨F, lv, hd, hr, h1, h2⟩ := h
  refine (hc lv hr).mono ?_
  rintro e w' ⟨rfl, lv', hr', t, hl⟩
  have hB := hr.base.2.2
  refine ⟨rfl, ⟨F, lv', hd.kept t (fun k hk hf e => (h1 k hf).1 e), hr', fun k hk => ⟨(h1 k hk).1, fun e => ?_⟩, fun k hk => ?_⟩, t.below (fun k hk => by rw [hk]; exact hr.base.1) hB, fun k hk => t.block k (h2 k hk).1 (h2 k hk).2.2.1⟩
  · rcases hl k e with e | e
    · exact (h1 k hk).2 e
    · have := (hd.lt hk).2; omega
  · obtain ⟨a1, a2, a3, a4⟩ := h2 k hk
    exact ⟨Nat.lt_of_lt_of_le a1 t.size, a2, a3, fun e => by
      rcases hl k e with e | e
      · exact a4 e
      · omega⟩
end

theorem fu_room (S : St) (n : Int) : (fuS S n).fs.length ≤ S.fs.length + 1 := by simp [fuS]
theorem cr_room (S : St) (kept : List Int) : (crS S kept).fs.length ≤ S.fs.length + 1 := by simp [crS, crash_len]
end Go.Proofs.Ytmpipfhlicfagaa
