/- The program's remote and the document's, side by side. -/
import Derived.Test.YtadfajeiihonfaaMrefcalls3
namespace Go.Proofs.Ytadfajeiihonfaa
open Go.RowKit Go.Maps
set_option linter.unusedVariables false

/-- Both remotes, apart from one another and from the blocks X. -/
def Bo (B : Nat) (w : World) (pb qb : Nat) (X : Nat → Prop) (Sd Sr : Rs) : Prop :=
  ∃ F lv sv, RkS B w pb F Sd ∧ Rf B w qb lv sv Sr ∧ (∀ k, F k → ¬ rfoot qb lv sv k) ∧ ∀ k, X k → k < w.heap.size ∧ ¬ F k ∧ ¬ rfoot qb lv sv k

/-- Nothing below B has turned, and none of the blocks X. -/
def Fr (B : Nat) (X : Nat → Prop) (w w' : World) : Prop := Below B w w' ∧ ∀ k, X k → w'.heap[k]? = w.heap[k]?

section
variable {B pb qb : Nat} {X : Nat → Prop} {Sd Sr Sd' Sr' : Rs} {w w' : World} {fn : Nat} {args : Array Value} {R : Ending → World → Prop}

theorem Fr.refl : Fr B X w w := ⟨Below.refl _ _, fun _ _ => rfl⟩
theorem Fr.trans {a b c : World} (h : Fr B X a b) (k : Fr B X b c) : Fr B X a c := ⟨h.1.trans k.1, fun i hi => (k.2 i hi).trans (h.2 i hi)⟩

theorem Bo.size (h : Bo B w pb qb X Sd Sr) : B ≤ w.heap.size := by obtain ⟨F, lv, sv, _, hr, _⟩ := h; exact hr.base.2.2
theorem Bo.qlt (h : Bo B w pb qb X Sd Sr) : B ≤ qb ∧ qb < w.heap.size := by obtain ⟨F, lv, sv, _, hr, _⟩ := h; exact hr.lt (Or.inl rfl)

/-- What only makes new blocks leaves them as they are. -/
theorem Bo.below (h : Bo B w pb qb X Sd Sr) (hb : Below w.heap.size w w') : Bo B w' pb qb X Sd Sr := by
  obtain ⟨F, lv, sv, hd, hr, h1, h2⟩ := h
  exact ⟨F, lv, sv, hd.below hb, hr.below hb, h1, fun k hk => by
    obtain ⟨a1, a2⟩ := h2 k hk
    exact ⟨Nat.lt_of_lt_of_le a1 hb.size, a2⟩⟩
theorem Bo.drew (h : Bo B w pb qb X Sd Sr) : Bo B w.drew pb qb X Sd Sr := h.below ⟨rfl, rfl, rfl, Nat.le_refl _, fun _ _ => rfl⟩
theorem Fr.below (h : Bo B w pb qb X Sd Sr) (hb : Below w.heap.size w w') : Fr B X w w' := ⟨hb.mono h.size, fun k hk => by
  obtain ⟨F, lv, sv, hd, hr, h1, h2⟩ := h
  exact hb.block k (h2 k hk).1⟩

/-- A new block may be watched. -/
theorem Bo.watch (h : Bo B w pb qb (fun _ => False) Sd Sr) (o : Obj) : Bo B (w.alloc o) pb qb (fun k => k = w.heap.size) Sd Sr := by
  have hb : Below w.heap.size w (w.alloc o) := (Below.refl _ w).alloc (Nat.le_refl _) _
  obtain ⟨F, lv, sv, hd, hr, h1, h2⟩ := h
  refine ⟨F, lv, sv, hd.below hb, hr.below hb, h1, ?_⟩
  rintro k rfl
  exact ⟨by simp, fun hf => by have := (hd.lt hf).2; omega, fun e => by have := (hr.lt e).2; omega⟩
theorem Bo.drop (h : Bo B w pb qb X Sd Sr) : Bo B w pb qb (fun _ => False) Sd Sr := by
  obtain ⟨F, lv, sv, hd, hr, h1, h2⟩ := h
  exact ⟨F, lv, sv, hd, hr, h1, fun k hk => hk.elim⟩

theorem bo_d (h : Bo B w pb qb X Sd Sr) (hc : ∀ F, RkS B w pb F Sd → Calls Try.prog fn args w fun e w' => R e w' ∧ ∃ F', RkS B w' pb F' Sd' ∧ (∀ k, F' k → F k ∨ w.heap.size ≤ k) ∧ Turn F w w') :
    Calls Try.prog fn args w fun e w' => R e w' ∧ Bo B w' pb qb X Sd' Sr ∧ Fr B X w w' := by
  obtain ⟨F, lv, sv, hd, hr, h1, h2⟩ := h
  refine (hc F hd).mono ?_
  rintro e w' ⟨hR, F', hd', hF', t⟩
  have hB := hr.base.2.2
  refine ⟨hR, ⟨F', lv, sv, hd', hr.kept t (fun k hk hkk hf => h1 k hf hkk), fun k hk hkk => ?_, fun k hk => ?_⟩, t.below (fun k hk => (hd.lt hk).1) hB, fun k hk => t.block k (h2 k hk).1 (h2 k hk).2.1⟩
  · rcases hF' k hk with hk | hk
    · exact h1 k hk hkk
    · have := (hr.lt hkk).2; omega
  · obtain ⟨a1, a2, a3⟩ := h2 k hk
    exact ⟨Nat.lt_of_lt_of_le a1 t.size, fun hf => by
      rcases hF' k hf with hf | hf
      · exact a2 hf
      · omega, a3⟩

theorem bo_r (h : Bo B w pb qb X Sd Sr) (hc : ∀ lv sv, Rf B w qb lv sv Sr → Calls Try.prog fn args w fun e w' => R e w' ∧ RfStep B qb lv sv w Sr' w') :
    Calls Try.prog fn args w fun e w' => R e w' ∧ (Bo B w' pb qb X Sd Sr' ∧ Turn (fun k => k = qb) w w') ∧ Fr B X w w' := by
  obtain ⟨F, lv, sv, hd, hr, h1, h2⟩ := h
  refine (hc lv sv hr).mono ?_
  rintro e w' ⟨hR, lv', sv', hr', hl, t⟩
  have hB := hr.base.2.2
  refine ⟨hR, ⟨⟨F, lv', sv', hd.kept t (fun k hk hf e => h1 k hf (Or.inl e)), hr', fun k hk hkk => ?_, fun k hk => ?_⟩, t⟩, t.below (fun k hk => by rw [hk]; exact hr.base.1) hB, fun k hk => t.block k (h2 k hk).1 (fun e => (h2 k hk).2.2 (Or.inl e))⟩
  · rcases hl k hkk with e | e
    · exact h1 k hk e
    · have := (hd.lt hk).2; omega
  · obtain ⟨a1, a2, a3⟩ := h2 k hk
    exact ⟨Nat.lt_of_lt_of_le a1 t.size, a2, fun e => by
      rcases hl k e with e | e
      · exact a3 e
      · omega⟩
end

section
variable {B pb qb : Nat} {X : Nat → Prop} {Sd Sr : Rs} {w : World} {n b : List UInt8} (h : Bo B w pb qb X Sd Sr)
include h
theorem bo_calls : Calls Try.prog 20 #[.pointer (some ⟨pb, 0, none⟩)] w fun e w' => e = .returned (.int .i64 Sd.n) ∧ w = w' := by
  obtain ⟨F, lv, sv, hd, _⟩ := h
  exact calls_any hd
theorem bo_n : w.cell? ⟨qb, 2, none⟩ = some (.int .i64 Sr.n) := by
  obtain ⟨F, lv, sv, hd, hr, _⟩ := h
  exact hr.cells.2.2.1

def RetR (r : Value) (e : Ending) (_ : World) : Prop := e = .returned r

theorem bo_put (hn : n.length ≤ 9223372036854775807) (hc : Sd.n < 1000000000000) (hf : Sd.obs.length < 1000000000) : Calls Try.prog 8 #[.pointer (some ⟨pb, 0, none⟩), .string (bs n), .string (bs b)] w fun e w' => RetR (.int .i64 (errOf Sd 0)) e w' ∧ Bo B w' pb qb X (takes Sd (lays Sd.obs n b)) Sr ∧ Fr B X w w' :=
  bo_d h (fun F hd => put_m hd (by unfold maxLen; omega) hc hf)
theorem bo_refput (hn : n.length ≤ 9223372036854775807) (hc : Sr.n < 1000000000000) (hf : Sr.obs.length < 1000000000) : Calls Try.prog 9 #[.pointer (some ⟨qb, 0, none⟩), .string (bs n), .string (bs b)] w fun e w' => RetR (.int .i64 (errOf Sr 0)) e w' ∧ (Bo B w' pb qb X Sd (takes Sr (lays Sr.obs n b)) ∧ Turn (fun k => k = qb) w w') ∧ Fr B X w w' :=
  bo_r h (fun lv sv hr => refput_any hr hc hf hn)
theorem bo_putNew (hn : n.length ≤ 9223372036854775807) (hc : Sd.n < 1000000000000) (hf : Sd.obs.length < 1000000000) : Calls Try.prog 10 #[.pointer (some ⟨pb, 0, none⟩), .string (bs n), .string (bs b)] w fun e w' => RetR (.int .i64 (errOf Sd (newE Sd.obs n))) e w' ∧ Bo B w' pb qb X (takes Sd (newL Sd.obs n b)) Sr ∧ Fr B X w w' :=
  bo_d h (fun F hd => putNew_m hd (by unfold maxLen; omega) hc hf)
theorem bo_refputNew (hn : n.length ≤ 9223372036854775807) (hc : Sr.n < 1000000000000) (hf : Sr.obs.length < 1000000000) : Calls Try.prog 11 #[.pointer (some ⟨qb, 0, none⟩), .string (bs n), .string (bs b)] w fun e w' => RetR (.int .i64 (errOf Sr (newE Sr.obs n))) e w' ∧ (Bo B w' pb qb X Sd (takes Sr (newL Sr.obs n b)) ∧ Turn (fun k => k = qb) w w') ∧ Fr B X w w' :=
  bo_r h (fun lv sv hr => refputNew_any hr hc hf hn)
theorem bo_delete (hn : n.length ≤ 9223372036854775807) (hc : Sd.n < 1000000000000) : Calls Try.prog 14 #[.pointer (some ⟨pb, 0, none⟩), .string (bs n)] w fun e w' => RetR (.int .i64 (errOf Sd 0)) e w' ∧ Bo B w' pb qb X (takes Sd (wo Ob.nm Sd.obs n)) Sr ∧ Fr B X w w' :=
  bo_d h (fun F hd => delete_m hd (by unfold maxLen; omega) hc)
theorem bo_refdelete (hc : Sr.n < 1000000000000) (hf : Sr.obs.length < 1000000000) : Calls Try.prog 15 #[.pointer (some ⟨qb, 0, none⟩), .string (bs n)] w fun e w' => RetR (.int .i64 (errOf Sr 0)) e w' ∧ (Bo B w' pb qb X Sd (takes Sr (wo Ob.nm Sr.obs n)) ∧ Turn (fun k => k = qb) w w') ∧ Fr B X w w' :=
  bo_r h (fun lv sv hr => refdelete_any hr hc hf)
theorem bo_get (hn : n.length ≤ 9223372036854775807) (hc : Sd.n < 1000000000000) : Calls Try.prog 12 #[.pointer (some ⟨pb, 0, none⟩), .string (bs n)] w fun e w' => RetR (.tuple #[.string (bs (bytesIf Sd (getB Sd.obs n))), .int .i64 (errOf Sd (getE Sd.obs n))]) e w' ∧ Bo B w' pb qb X (used Sd) Sr ∧ Fr B X w w' :=
  bo_d h (fun F hd => get_m hd (by unfold maxLen; omega) hc)
theorem bo_refget (hc : Sr.n < 1000000000000) (hf : Sr.obs.length < 1000000000) : Calls Try.prog 13 #[.pointer (some ⟨qb, 0, none⟩), .string (bs n)] w fun e w' => RetR (.tuple #[.string (bs (bytesIf Sr (getB Sr.obs n))), .int .i64 (errOf Sr (getE Sr.obs n))]) e w' ∧ (Bo B w' pb qb X Sd (used Sr) ∧ Turn (fun k => k = qb) w w') ∧ Fr B X w w' :=
  bo_r h (fun lv sv hr => refget_any hr hc hf)
theorem bo_list (hc : Sd.n < 1000000000000) : Calls Try.prog 16 #[.pointer (some ⟨pb, 0, none⟩)] w fun e w' => (∃ va vc, e = .returned (.tuple #[.slice va (namesIf Sd).length vc, .int .i64 (errOf Sd 0)]) ∧ Names w w' (.slice va (namesIf Sd).length vc) (namesIf Sd)) ∧ Bo B w' pb qb X (used Sd) Sr ∧ Fr B X w w' :=
  bo_d (R := fun e w' => ∃ va vc, e = .returned (.tuple #[.slice va (namesIf Sd).length vc, .int .i64 (errOf Sd 0)]) ∧ Names w w' (.slice va (namesIf Sd).length vc) (namesIf Sd)) h (fun F hd => (list_m hd hc).mono fun e w' ⟨va, vc, h1, h2, h3⟩ => ⟨⟨va, vc, h1, h2⟩, h3⟩)
theorem bo_reflist (hc : Sr.n < 1000000000000) (hf : Sr.obs.length < 1000000000) : Calls Try.prog 17 #[.pointer (some ⟨qb, 0, none⟩)] w fun e w' => (∃ va vc, e = .returned (.tuple #[.slice va (namesIf Sr).length vc, .int .i64 (errOf Sr 0)]) ∧ Names w w' (.slice va (namesIf Sr).length vc) (namesIf Sr)) ∧ (Bo B w' pb qb X Sd (used Sr) ∧ Turn (fun k => k = qb) w w') ∧ Fr B X w w' :=
  bo_r (R := fun e w' => ∃ va vc, e = .returned (.tuple #[.slice va (namesIf Sr).length vc, .int .i64 (errOf Sr 0)]) ∧ Names w w' (.slice va (namesIf Sr).length vc) (namesIf Sr)) h (fun lv sv hr => (reflist_any hr hc hf).mono fun e w' ⟨va, vc, h1, h2, h3⟩ => ⟨⟨va, vc, h1, h2⟩, h3⟩)
theorem bo_script (a : Option Addr) (l : List Int) (c : Nat) (hl : IntsAt w a l) (hb : l.length ≤ 17592186044416) (hr : ∀ y ∈ l, -9223372036854775808 ≤ y ∧ y ≤ 9223372036854775807) :
    Calls Try.prog 19 #[.pointer (some ⟨pb, 0, none⟩), .slice a l.length c] w fun e w' => RetR (.tuple #[]) e w' ∧ Bo B w' pb qb X (setS Sd l) Sr ∧ Fr B X w w' :=
  bo_d h (fun F hd => script_m hd a l c hl hb hr)
end

/-! ### what a call leaves of a remote's size -/
theorem n_takes (S : Rs) (l : List Ob) : (takes S l).n = S.n + 1 := rfl
theorem len_takes (S : Rs) (l : List Ob) (h : l.length ≤ S.obs.length + 1) : (takes S l).obs.length ≤ S.obs.length + 1 := by
  unfold takes
  dsimp only
  split
  · omega
  · exact h
end Go.Proofs.Ytadfajeiihonfaa
