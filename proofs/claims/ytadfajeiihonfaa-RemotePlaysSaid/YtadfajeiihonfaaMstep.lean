/- RemotePlays: one call of a script, on both remotes. -/
import Derived.Test.YtadfajeiihonfaaMops
import Derived.Deep.RegionHeld3
namespace Go.Proofs.Ytadfajeiihonfaa
open Go.RowKit
set_option linter.unusedVariables false

theorem vals_later {w w' : World} {a : Option Addr} {vs : List Value} (h : Vals w a vs) (hb : Below w.heap.size w w') : Vals w' a vs := fun i hi => by
  obtain ⟨b, off, h1, h2, h3⟩ := h i hi
  exact ⟨b, off, h1, Nat.lt_of_lt_of_le h2 hb.size, by rw [hb.cell (p := ⟨b, off + i, none⟩) h2]; exact h3⟩

theorem ints_of {w : World} {a : Option Addr} {ks : List Int} (h : Vals w a (ks.map (Value.int .i64))) : IntsAt w a ks := fun i y hy => by
  obtain ⟨hi, e⟩ := List.getElem?_eq_some_iff.1 hy
  obtain ⟨b, off, h1, h2, h3⟩ := h i (by simpa using hi)
  refine ⟨b, off, h1, h2, ?_⟩
  rw [h3]
  simp [e]

/-- The call's own block is as it was, and all that was there ahead. -/
def Watch (W0 W1 : World) (ob : Nat) (W : World) : Prop := W.heap[ob]? = W1.heap[ob]? ∧ Below W0.heap.size W0 W
theorem Watch.drew {W0 W1 W : World} {ob : Nat} (h : Watch W0 W1 ob W) : Watch W0 W1 ob W.drew := ⟨h.1, h.2.drew⟩
theorem Watch.fr {W0 W1 W W' : World} {ob B : Nat} (h : Watch W0 W1 ob W) (k : Fr B (fun k => k = ob) W W') (hB : W0.heap.size ≤ B) : Watch W0 W1 ob W' := ⟨(k.2 ob rfl).trans h.1, h.2.trans (k.1.mono hB)⟩

/-- The switch, out of the law's own text. -/
def blockOf (n : Nat) : Code → Option Code
  | .loop c => blockOf n c
  | .seq a b => match blockOf n a with
    | some c => some c
    | none => blockOf n b
  | .block m c => if m = n then some (.block m c) else blockOf n c
  | .scope c => blockOf n c
  | .cond _ a b => match blockOf n a with
    | some c => some c
    | none => blockOf n b
  | _ => none
noncomputable def theSwitch : Code := (Try.f3.body.bind (blockOf 2)).getD .skip

/-- What is known of a call of a script ahead of the switch. -/
structure Step (W : World) (B pb qb ob : Nat) (W0 W1 : World) (o : Opn) (S : Rs) : Prop where
  bo : Bo B W1 pb qb (fun k => k = ob) S S
  blk : W1.heap[ob]? = some (.cells #[.int .i64 o.d, .string (bs o.nm), .string (bs o.b), .slice o.ka o.ks.length o.kc] 32 (0, 0))
  below : Below W0.heap.size W0 W1
  size : W0.heap.size ≤ B
  len : S.obs.length < 1000000000
  few : S.n < 1000000000
  fit : o.fit
  vals : Vals W o.ka (o.ks.map (Value.int .i64))
  old : Below W.heap.size W W0

/-- .. and behind it. -/
def Done (B pb qb ob : Nat) (W0 : World) (o : Opn) (S : Rs) (wc : World) : Prop :=
  ∃ S', Bo B wc pb qb (fun k => k = ob) S' S' ∧ (S'.obs.length ≤ S.obs.length + 1 ∧ S'.n ≤ S.n + 1) ∧ wc.heap[ob]? = some (.cells #[.int .i64 o.d, .string (bs o.nm), .string (bs o.b), .slice o.ka o.ks.length o.kc] 32 (0, 0)) ∧ Below W0.heap.size W0 wc

/-! ### a script of the document's remote -/
theorem infoInt : (Try.prog.info? 3).map (fun i => (i.zero, i.size, i.bytes)) = some (some (.int .i64 0), 1, 8) := by kernel_rfl
theorem ints_one (l : List Int) : ∀ v ∈ l.map (Value.int .i64), v.oneCell' = true := by
  intro v hv
  obtain ⟨n, _, rfl⟩ := List.mem_map.1 hv
  rfl
theorem src_intsv {w : World} {a : Option Addr} {ks : List Int} {kc : Nat} (h : Vals w a (ks.map (Value.int .i64))) : Src Try.prog 1 28 (.slice a ks.length kc) ks.length (ks.map (Value.int .i64)) w := by
  cases a with
  | none =>
    have : ks = [] := by
      cases ks with
      | nil => rfl
      | cons y r => obtain ⟨b, off, e, _⟩ := h 0 (by simp); cases e
    subst this
    exact Src.ofNil w Try.underlying28 kc
  | some A =>
    refine Src.ofSlice w Try.underlying28 A ks.length kc (ks.map (Value.int .i64)) (by simp) (fun j u hu => ?_) (ints_one ks)
    obtain ⟨hj, e⟩ := List.getElem?_eq_some_iff.1 hu
    obtain ⟨b, off, e1, h2, h3⟩ := h j hj
    cases e1
    rw [Addr.add_lit, h3, e]

theorem run_append_ints {w : World} {a : Option Addr} {ks : List Int} {kc : Nat} (h : Vals w a (ks.map (Value.int .i64))) (hb : ks.length ≤ 17592186044416) :
    ∃ va vc w', (∀ ty, (Builtin.append_ #[28, 28] ty #[.slice (some ⟨w.heap.size, 0, none⟩) 0 0, .slice a ks.length kc]).run Try.prog (w.alloc (.cells #[] 3)) = .ok (.slice va ks.length vc) w') ∧
      w'.ownsRow w.heap.size 3 1 (.slice va ks.length vc) ks.length (ks.map (Value.int .i64)) ∧ Below w.heap.size w w' := by
  obtain ⟨i0, hi, hz0, hz1, hz2⟩ := info_parts infoInt
  have hb1 : Below w.heap.size w (w.alloc (.cells #[] 3)) := (Below.refl _ w).alloc (Nat.le_refl _) _
  have hsrc : Src Try.prog i0.size 28 (.slice a ks.length kc) ks.length (ks.map (Value.int .i64)) (w.alloc (.cells #[] 3)) := by rw [hz1]; exact src_intsv (vals_later h hb1)
  by_cases h0 : ks = []
  · subst h0
    have hr := fun ty => run_append_nothing (w.alloc (.cells #[] 3)) 28 28 ty 3 i0 Try.underlying28 hi (some ⟨w.heap.size, 0, none⟩) 0 0 (Nat.le_refl _) _ hsrc
    exact ⟨_, _, _, hr, ⟨rfl, Or.inr ⟨w.heap.size, 0, #[], rfl, Nat.le_refl _, heap_alloc_new w _, Nat.le_refl _, by unfold maxLen; omega, rfl, rfl⟩⟩, hb1⟩
  · have hp : 0 < ks.length := List.length_pos_iff.2 h0
    have hr := fun ty => run_append_grow_src (P := Try.prog) (w.alloc (.cells #[] 3)) 28 28 ty 3 i0 _ Try.underlying28 hi hz0 (some ⟨w.heap.size, 0, none⟩) 0 0 []
      (by rw [hz1]; exact run_firstCells_some _ 1 0 ⟨w.heap.size, 0, none⟩ 0 0 [] rfl (fun j u hu => by simp at hu)) _ ks.length (ks.map (Value.int .i64)) hsrc (by omega) (by omega) (growslice_fits (by omega) (by rw [hz2]; omega))
    simp only [Nat.zero_add] at hr
    have hge := grownCap_ge (w.alloc (.cells #[] 3)) ks.length 0 3
    have hgm := grownCap_le_maxLen (w.alloc (.cells #[] 3)) ks.length 0 3 (by unfold maxLen; omega)
    have hz : ∀ k, (Builtin.zeroCells (Value.int .i64 0).cells k).size = k := fun k => by rw [size_zeroCells]; simp [Value.cells]
    refine ⟨_, _, _, hr, ⟨by simp, Or.inr ⟨_, _, _, rfl, ?_, heap_alloc_new _ _, hge, hgm, ?_, ?_⟩⟩, ?_⟩
    · simp
    · simp only [Array.size_append, List.size_toArray, List.length_append, List.length_map, List.length_nil, hz]
      omega
    · have hl : ks.length * 1 = (ks.map (Value.int .i64)).length := by simp
      rw [hl]
      simp only [Array.toList_append, List.nil_append]
      exact List.take_left
    · exact Below.trans hb1 ((Below.grown (row := none) (Below.refl _ _) (grown_drewN 1 _ none) (by simp) (fun k hk => by cases hk)).alloc (by simp) _)

theorem bo_thaw {B pb qb : Nat} {X : Nat → Prop} {Sd Sr : Rs} {w : World} (h : Bo B w pb qb X Sd Sr) (j : Nat) : w.frozen? ⟨qb, j, none⟩ = false := by
  obtain ⟨F, lv, sv, hd, hr, _⟩ := h
  exact hr.cells.2.2.2 j
theorem bo_some {B pb qb : Nat} {X : Nat → Prop} {Sd Sr : Rs} {w : World} (h : Bo B w pb qb X Sd Sr) : (w.cell? ⟨qb, 1, none⟩).isSome = true := by
  obtain ⟨F, lv, sv, hd, hr, _⟩ := h
  rw [hr.cells.2.1]; rfl

theorem bo_set {B pb qb : Nat} {X : Nat → Prop} {Sd Sr : Rs} {w w' : World} {l : List Int} {va : Option Addr} {vc : Nat} (h : Bo B w pb qb X Sd Sr) (hb : Below w.heap.size w w') (hrow : w'.ownsRow w.heap.size 3 1 (.slice va l.length vc) l.length (l.map (Value.int .i64)))
    (hr : ∀ y ∈ l, -9223372036854775808 ≤ y ∧ y ≤ 9223372036854775807) :
    Bo B (w'.setCell ⟨qb, 1, none⟩ (.slice va l.length vc)) pb qb X Sd (setS Sr l) ∧ Fr B X w (w'.setCell ⟨qb, 1, none⟩ (.slice va l.length vc)) := by
  obtain ⟨F, lv, sv, hd, hr0, h1, h2⟩ := h
  have hq := (hr0.lt (Or.inl rfl)).2
  have hB := hr0.base.2.2
  have h5 := hr0.below hb
  have hsc : Sc B w' qb qb (.slice va l.length vc) l := sc_of_owns hrow hB hq hq
  have ht : Turn (fun k => k = qb) w (w'.setCell ⟨qb, 1, none⟩ (.slice va l.length vc)) := (Turn.of_below _ hb (Nat.le_refl _)).trans (turn_head w' qb 1 _)
  have hrf : Rf B (w'.setCell ⟨qb, 1, none⟩ (.slice va l.length vc)) qb lv (.slice va l.length vc) (setS Sr l) := h5.set (S' := setS Sr l) 1 _ rfl rfl (hsc.setOwn 1 _) { hr0.ok with nums := hr }
  have hnew : ∀ k, rfoot qb lv (.slice va l.length vc) k → rfoot qb lv sv k ∨ w.heap.size ≤ k := fun k hk => by
    rcases hk with hk | hk | ⟨o, n, c, e⟩
    · exact Or.inl (Or.inl hk)
    · exact Or.inl (Or.inr (Or.inl hk))
    · exact Or.inr (hrow.lt k (by rw [e]; simp [Value.ownBlock])).1
  refine ⟨⟨F, lv, _, hd.kept ht (fun k hk hf e => h1 k hf (Or.inl e)), hrf, fun k hk hkk => ?_, fun k hk => ?_⟩, ht.below (fun k hk => by rw [hk]; exact hr0.base.1) hB, fun k hk => ht.block k (h2 k hk).1 (fun e => (h2 k hk).2.2 (Or.inl e))⟩
  · rcases hnew k hkk with e | e
    · exact h1 k hk e
    · have := (hd.lt hk).2; omega
  · obtain ⟨a1, a2, a3⟩ := h2 k hk
    exact ⟨Nat.lt_of_lt_of_le a1 ht.size, a2, fun e => by
      rcases hnew k e with e | e
      · exact a3 e
      · omega⟩
end Go.Proofs.Ytadfajeiihonfaa
