/- PublishPlays: one call, on both remotes. -/
import Derived.Test.YtkdidinekoaobaaGreatDoorPopcs
import Derived.Test.YtkdidinekoaobaaGreatDoorPptotal
import Derived.Test.YtkdidinekoaobaaGreatDoorPsegs
import Derived.Test.YtkdidinekoaobaaGreatDoorPrefn
import Derived.Test.YtkdidinekoaobaaGreatDoorPreflat
import Derived.Test.YtkdidinekoaobaaGreatDoorPa
import Derived.Deep.RegionHeld3
namespace Go.Proofs.YtkdidinekoaobaaGreatDoor.P
open Go.RowKit M J
set_option linter.unusedVariables false

theorem vals_later {w w' : World} {a : Option Addr} {vs : List Value} (h : Vals w a vs) (hb : Below w.heap.size w w') : Vals w' a vs := fun i hi => by
  obtain ⟨b, off, h1, h2, h3⟩ := h i hi
  exact ⟨b, off, h1, Nat.lt_of_lt_of_le h2 hb.size, by rw [hb.cell (p := ⟨b, off + i, none⟩) h2]; exact h3⟩

theorem ints_of {w : World} {a : Option Addr} {ks : List Int} (h : Vals w a (ks.map (Value.int .i64))) : IntsAt w a ks := fun i y hy => by
  obtain ⟨hi, e⟩ := List.getElem?_eq_some_iff.1 hy
  obtain ⟨b, off, h1, h2, h3⟩ := h i (by simpa using hi)
  refine ⟨b, off, h1, h2, ?_⟩
  rw [h3]
  simp [e]

/-- The call's own block is as it was, and all that was there ahead. -/
def Watch (W0 W1 : World) (ob : Nat) (W : World) : Prop := W.heap[ob]? = W1.heap[ob]? ∧ Below W0.heap.size W0 W
theorem Watch.drew {W0 W1 W : World} {ob : Nat} (h : Watch W0 W1 ob W) : Watch W0 W1 ob W.drew := ⟨h.1, h.2.drew⟩

/-- The switch, out of the law's own text. -/
def blockOf (n : Nat) : Code → Option Code
  | .loop c => blockOf n c
  | .seq a b => match blockOf n a with
    | some c => some c
    | none => blockOf n b
  | .block m c => if m = n then some (.block m c) else blockOf n c
  | .scope c => blockOf n c
  | .cond _ a b => match blockOf n a with
    | some c => some c
    | none => blockOf n b
  | _ => none
noncomputable def theSwitch : Code := (Tryz.f3.body.bind (blockOf 2)).getD .skip

/-! ### a script of the document's remote -/
theorem infoInt : (Tryz.prog.info? 3).map (fun i => (i.zero, i.size, i.bytes)) = some (some (.int .i64 0), 1, 8) := by kernel_rfl
theorem ints_one (l : List Int) : ∀ v ∈ l.map (Value.int .i64), v.oneCell' = true := by
  intro v hv
  obtain ⟨n, _, rfl⟩ := List.mem_map.1 hv
  rfl
theorem src_intsv {w : World} {a : Option Addr} {ks : List Int} {kc : Nat} (h : Vals w a (ks.map (Value.int .i64))) : Src Tryz.prog 1 28 (.slice a ks.length kc) ks.length (ks.map (Value.int .i64)) w := by
  cases a with
  | none =>
    have : ks = [] := by
      cases ks with
      | nil => rfl
      | cons y r => obtain ⟨b, off, e, _⟩ := h 0 (by simp); cases e
    subst this
    exact Src.ofNil w Tryz.underlying28 kc
  | some A =>
    refine Src.ofSlice w Tryz.underlying28 A ks.length kc (ks.map (Value.int .i64)) (by simp) (fun j u hu => ?_) (ints_one ks)
    obtain ⟨hj, e⟩ := List.getElem?_eq_some_iff.1 hu
    obtain ⟨b, off, e1, h2, h3⟩ := h j hj
    cases e1
    rw [Addr.add_lit, h3, e]

theorem run_append_ints {w : World} {a : Option Addr} {ks : List Int} {kc : Nat} (h : Vals w a (ks.map (Value.int .i64))) (hb : ks.length ≤ 17592186044416) :
    ∃ va vc w', (∀ ty, (Builtin.append_ #[28, 28] ty #[.slice (some ⟨w.heap.size, 0, none⟩) 0 0, .slice a ks.length kc]).run Tryz.prog (w.alloc (.cells #[] 3)) = .ok (.slice va ks.length vc) w') ∧
      w'.ownsRow w.heap.size 3 1 (.slice va ks.length vc) ks.length (ks.map (Value.int .i64)) ∧ Below w.heap.size w w' := by
  obtain ⟨i0, hi, hz0, hz1, hz2⟩ := info_parts infoInt
  have hb1 : Below w.heap.size w (w.alloc (.cells #[] 3)) := (Below.refl _ w).alloc (Nat.le_refl _) _
  have hsrc : Src Tryz.prog i0.size 28 (.slice a ks.length kc) ks.length (ks.map (Value.int .i64)) (w.alloc (.cells #[] 3)) := by rw [hz1]; exact src_intsv (vals_later h hb1)
  by_cases h0 : ks = []
  · subst h0
    have hr := fun ty => run_append_nothing (w.alloc (.cells #[] 3)) 28 28 ty 3 i0 Tryz.underlying28 hi (some ⟨w.heap.size, 0, none⟩) 0 0 (Nat.le_refl _) _ hsrc
    exact ⟨_, _, _, hr, ⟨rfl, Or.inr ⟨w.heap.size, 0, #[], rfl, Nat.le_refl _, heap_alloc_new w _, Nat.le_refl _, by unfold maxLen; omega, rfl, rfl⟩⟩, hb1⟩
  · have hp : 0 < ks.length := List.length_pos_iff.2 h0
    have hr := fun ty => run_append_grow_src (P := Tryz.prog) (w.alloc (.cells #[] 3)) 28 28 ty 3 i0 _ Tryz.underlying28 hi hz0 (some ⟨w.heap.size, 0, none⟩) 0 0 []
      (by rw [hz1]; exact run_firstCells_some _ 1 0 ⟨w.heap.size, 0, none⟩ 0 0 [] rfl (fun j u hu => by simp at hu)) _ ks.length (ks.map (Value.int .i64)) hsrc (by omega) (by omega) (growslice_fits (by omega) (by rw [hz2]; omega))
    simp only [Nat.zero_add] at hr
    have hge := grownCap_ge (w.alloc (.cells #[] 3)) ks.length 0 3
    have hgm := grownCap_le_maxLen (w.alloc (.cells #[] 3)) ks.length 0 3 (by unfold maxLen; omega)
    have hz : ∀ k, (Builtin.zeroCells (Value.int .i64 0).cells k).size = k := fun k => by rw [size_zeroCells]; simp [Value.cells]
    refine ⟨_, _, _, hr, ⟨by simp, Or.inr ⟨_, _, _, rfl, ?_, heap_alloc_new _ _, hge, hgm, ?_, ?_⟩⟩, ?_⟩
    · simp
    · simp only [Array.size_append, List.size_toArray, List.length_append, List.length_map, List.length_nil, hz]
      omega
    · have hl : ks.length * 1 = (ks.map (Value.int .i64)).length := by simp
      rw [hl]
      simp only [Array.toList_append, List.nil_append]
      exact List.take_left
    · exact Below.trans hb1 ((Below.grown (row := none) (Below.refl _ _) (grown_drewN 1 _ none) (by simp) (fun k hk => by cases hk)).alloc (by simp) _)

theorem bo_thaw {B pb qb : Nat} {X : Nat → Prop} {Sd Sr : Rs} {w : World} (h : Bo B w pb qb X Sd Sr) (j : Nat) : w.frozen? ⟨qb, j, none⟩ = false := by
  obtain ⟨F, lv, sv, hd, hr, _⟩ := h
  exact hr.cells.2.2.2 j
theorem bo_some {B pb qb : Nat} {X : Nat → Prop} {Sd Sr : Rs} {w : World} (h : Bo B w pb qb X Sd Sr) : (w.cell? ⟨qb, 1, none⟩).isSome = true := by
  obtain ⟨F, lv, sv, hd, hr, _⟩ := h
  rw [hr.cells.2.1]; rfl

theorem bo_set {B pb qb : Nat} {X : Nat → Prop} {Sd Sr : Rs} {w w' : World} {l : List Int} {va : Option Addr} {vc : Nat} (h : Bo B w pb qb X Sd Sr) (hb : Below w.heap.size w w') (hrow : w'.ownsRow w.heap.size 3 1 (.slice va l.length vc) l.length (l.map (Value.int .i64)))
    (hr : ∀ y ∈ l, -9223372036854775808 ≤ y ∧ y ≤ 9223372036854775807) :
    Bo B (w'.setCell ⟨qb, 1, none⟩ (.slice va l.length vc)) pb qb X Sd (setS Sr l) ∧ Fr B X w (w'.setCell ⟨qb, 1, none⟩ (.slice va l.length vc)) := by
  obtain ⟨F, lv, sv, hd, hr0, h1, h2⟩ := h
  have hq := (hr0.lt (Or.inl rfl)).2
  have hB := hr0.base.2.2
  have h5 := hr0.below hb
  have hsc : Sc B w' qb qb (.slice va l.length vc) l := sc_of_owns hrow hB hq hq
  have ht : Turn (fun k => k = qb) w (w'.setCell ⟨qb, 1, none⟩ (.slice va l.length vc)) := (Turn.of_below _ hb (Nat.le_refl _)).trans (turn_head w' qb 1 _)
  have hrf : Rf B (w'.setCell ⟨qb, 1, none⟩ (.slice va l.length vc)) qb lv (.slice va l.length vc) (setS Sr l) := h5.set (S' := setS Sr l) 1 _ rfl rfl (hsc.setOwn 1 _) { hr0.ok with nums := hr }
  have hnew : ∀ k, rfoot qb lv (.slice va l.length vc) k → rfoot qb lv sv k ∨ w.heap.size ≤ k := fun k hk => by
    rcases hk with hk | hk | ⟨o, n, c, e⟩
    · exact Or.inl (Or.inl hk)
    · exact Or.inl (Or.inr (Or.inl hk))
    · exact Or.inr (hrow.lt k (by rw [e]; simp [Value.ownBlock])).1
  refine ⟨⟨F, lv, _, hd.kept ht (fun k hk hf e => h1 k hf (Or.inl e)), hrf, fun k hk hkk => ?_, fun k hk => ?_⟩, ht.below (fun k hk => by rw [hk]; exact hr0.base.1) hB, fun k hk => ht.block k (h2 k hk).1 (fun e => (h2 k hk).2.2 (Or.inl e))⟩
  · rcases hnew k hkk with e | e
    · exact h1 k hk e
    · have := (hd.lt hk).2; omega
  · obtain ⟨a1, a2, a3⟩ := h2 k hk
    exact ⟨Nat.lt_of_lt_of_le a1 ht.size, a2, fun e => by
      rcases hnew k e with e | e
      · exact a3 e
      · omega⟩

/-! ### both remotes -/
/-- A row's block. -/
def Rw (a : Option Addr) (l : List Sg) (k : Nat) : Prop := l ≠ [] ∧ ∃ x, a = some x ∧ x.block = k
theorem rw_lt {w : World} {a : Option Addr} {l : List Sg} {k : Nat} (h : SgsIn w a l) (hk : Rw a l k) : k < w.heap.size := by
  obtain ⟨hne, x, hx, e⟩ := hk
  obtain ⟨b, off, e1, h2, _⟩ := h 0 (List.length_pos_iff.2 hne)
  rw [hx] at e1
  cases e1
  rw [← e]
  exact h2
theorem sgs_rw {w w' : World} {a : Option Addr} {l : List Sg} (h : SgsIn w a l) (hz : w.heap.size ≤ w'.heap.size) (hk : ∀ k, Rw a l k → w'.heap[k]? = w.heap[k]?) : SgsIn w' a l :=
  sgs_turn2 h hz (fun hne x hx _ => hk _ ⟨hne, x, hx, rfl⟩)

section
variable {B pb qb : Nat} {X Y : Nat → Prop} {Sd Sr Sd' : Rs} {w w' : World} {F F' : Nat → Prop} {lv sv : Value}
theorem bo_sub (h : Bo B w pb qb X Sd Sr) (hs : ∀ k, Y k → X k) : Bo B w pb qb Y Sd Sr := by
  obtain ⟨F, lv, sv, hd, hr, h1, h2⟩ := h
  exact ⟨F, lv, sv, hd, hr, h1, fun k hk => h2 k (hs k hk)⟩
theorem bo_new (h : Bo B w pb qb X Sd Sr) (o : Obj) : Bo B (w.alloc o) pb qb (fun k => X k ∨ k = w.heap.size) Sd Sr := by
  have hb : Below w.heap.size w (w.alloc o) := (Below.refl _ w).alloc (Nat.le_refl _) _
  obtain ⟨F, lv, sv, hd, hr, h1, h2⟩ := h
  refine ⟨F, lv, sv, hd.below hb, hr.below hb, h1, fun k hk => ?_⟩
  rcases hk with hk | rfl
  · obtain ⟨a1, a2, a3⟩ := h2 k hk
    exact ⟨Nat.lt_of_lt_of_le a1 hb.size, a2, a3⟩
  · exact ⟨by simp, fun hf => by have := (hd.lt hf).2; omega, fun e => by have := (hr.lt e).2; omega⟩
theorem bo_turn {G : Nat → Prop} (h : Bo B w pb qb X Sd Sr) (t : Turn G w w') (hG : ∀ k, G k → X k) : Bo B w' pb qb X Sd Sr := by
  obtain ⟨F, lv, sv, hd, hr, h1, h2⟩ := h
  exact ⟨F, lv, sv, hd.kept t (fun k hk hf hg => (h2 k (hG k hg)).2.1 hf), hr.kept t (fun k hk hf hg => (h2 k (hG k hg)).2.2 hf), h1, fun k hk => by
    obtain ⟨a1, a2⟩ := h2 k hk
    exact ⟨Nat.lt_of_lt_of_le a1 t.size, a2⟩⟩
theorem bo_far (h : Bo B w pb qb X Sd Sr) {k : Nat} (hk : X k) : k < w.heap.size ∧ k ≠ qb := by
  obtain ⟨F, lv, sv, hd, hr, h1, h2⟩ := h
  obtain ⟨a1, a2, a3⟩ := h2 k hk
  exact ⟨a1, fun e => a3 (Or.inl e)⟩
/-- One more block is watched. -/
theorem bo_add (h : Bo B w pb qb X Sd Sr) (hY : ∀ k, Y k → k < B) (hYl : ∀ k, Y k → k < w.heap.size) : Bo B w pb qb (fun k => X k ∨ Y k) Sd Sr := by
  obtain ⟨F, lv, sv, hd, hr, h1, h2⟩ := h
  refine ⟨F, lv, sv, hd, hr, h1, fun k hk => ?_⟩
  rcases hk with hk | hk
  · exact h2 k hk
  · exact ⟨hYl k hk, fun hf => by have := (hd.lt hf).1; have := hY k hk; omega, fun hf => by have := (hr.lt hf).1; have := hY k hk; omega⟩
theorem bo_goes (hd : RkS B w pb F Sd) (hr : Rf B w qb lv sv Sr) (h1 : ∀ k, F k → ¬ rfoot qb lv sv k) (h2 : ∀ k, X k → k < w.heap.size ∧ ¬ F k ∧ ¬ rfoot qb lv sv k) (g : Goes B pb F Sd' w w' F')
    (hY : ∀ k, Y k → k < w'.heap.size ∧ ¬ F' k ∧ (w.heap.size ≤ k ∨ k < B)) : Bo B w' pb qb (fun k => X k ∨ Y k) Sd' Sr ∧ Fr B X w w' := by
  refine ⟨⟨F', lv, sv, g.1, hr.kept g.2.2 (fun k hk hkk hf => h1 k hf hkk), fun k hk hkk => ?_, fun k hk => ?_⟩, goes_below hd g, fun k hk => goes_block g (h2 k hk).1 (h2 k hk).2.1⟩
  · rcases g.2.1 k hk with h | h
    · exact h1 k h hkk
    · have := (hr.lt hkk).2; omega
  · rcases hk with hk | hk
    · obtain ⟨a1, a2, a3⟩ := h2 k hk
      exact ⟨Nat.lt_of_lt_of_le a1 (goes_size g), goes_not g a1 a2, a3⟩
    · obtain ⟨a1, a2, a3⟩ := hY k hk
      exact ⟨a1, a2, fun hf => by have := hr.lt hf; omega⟩

theorem bo_latest (h : Bo B w pb qb X Sd Sr) (hv : Vb B w) (hS : Room Sd) : Calls Tryz.prog 9 #[.pointer (some ⟨pb, 0, none⟩)] w fun e w' =>
    ∃ a cap, e = .returned (.tuple #[mfV (latest Sd).2.1.ver a (latest Sd).2.1.segs.length cap, .int .i64 (latest Sd).2.2]) ∧ SgsIn w' a (latest Sd).2.1.segs ∧ Bo B w' pb qb (fun k => X k ∨ Rw a (latest Sd).2.1.segs k) (latest Sd).1 Sr ∧ Fr B X w w' := by
  obtain ⟨F, lv, sv, hd, hr, h1, h2⟩ := h
  refine (pubC.latest hd hv hS).mono ?_
  rintro e w' ⟨F', a, cap, e1, e2, e3, g⟩
  obtain ⟨b1, b2⟩ := bo_goes hd hr h1 h2 g (Y := Rw a (latest Sd).2.1.segs) (fun k hk => by
    have hl := rw_lt e2 hk
    obtain ⟨_, x, hx, rfl⟩ := hk
    obtain ⟨q1, q2⟩ := e3 x hx
    exact ⟨hl, q2, Or.inl q1⟩)
  exact ⟨a, cap, e1, e2, b1, b2⟩

theorem next_two (S : Rs) (v : Int) (l : List Sg) : (next S v l).2.1 = nextMf v l ∨ (next S v l).2.1 = noMf := by
  unfold next
  dsimp only
  split
  · exact Or.inr rfl
  · split
    · exact Or.inl rfl
    · split
      · exact Or.inl rfl
      · exact Or.inr rfl
theorem bo_next {m : Mf} {ma a : Option Addr} {mc c : Nat} {l : List Sg} (h : Bo B w pb qb X Sd Sr) (hv : Vb B w) (hS : Room Sd) (hin : SgsIn w a l) (hrow : ∀ k, Rw a l k → k < B) (hmf : m.fit) (hlf : ∀ s ∈ l, s.fit) (hl : l.length ≤ 100) : Calls Tryz.prog 13 #[.pointer (some ⟨pb, 0, none⟩), mfV m.ver ma m.segs.length mc, .slice a l.length c] w fun e w' =>
    ∃ a' cap, e = .returned (.tuple #[mfV (next Sd m.ver l).2.1.ver a' (next Sd m.ver l).2.1.segs.length cap, .int .i64 (next Sd m.ver l).2.2]) ∧ SgsIn w' a' (next Sd m.ver l).2.1.segs ∧ Bo B w' pb qb (fun k => X k ∨ Rw a' (next Sd m.ver l).2.1.segs k) (next Sd m.ver l).1 Sr ∧ Fr B X w w' := by
  obtain ⟨F, lv, sv, hd, hr, h1, h2⟩ := h
  refine (pnext_any (ma := ma) (mc := mc) (c := c) hd hv hS hin hmf hlf hl).mono ?_
  rintro e w' ⟨F', a', cap, e1, e2, e3, g⟩
  obtain ⟨b1, b2⟩ := bo_goes hd hr h1 h2 g (Y := Rw a' (next Sd m.ver l).2.1.segs) (fun k hk => by
    have hl := rw_lt e2 hk
    have hne : l ≠ [] := by
      rcases next_two Sd m.ver l with q | q
      · have := hk.1; rw [q] at this; exact this
      · exact absurd (show (next Sd m.ver l).2.1.segs = [] by rw [q]; rfl) hk.1
    obtain ⟨_, x, hx, rfl⟩ := hk
    rcases e3 x hx with ⟨q1, q2⟩ | ⟨y, hy, hyx⟩
    · exact ⟨hl, q2, Or.inl q1⟩
    · have hyB := hrow _ ⟨hne, y, hy, hyx⟩
      exact ⟨hl, fun hf => by have := (g.1.lt hf).1; omega, Or.inr hyB⟩)
  exact ⟨a', cap, e1, e2, b1, b2⟩
theorem bo_upload {n : Int} {b : List UInt8} (h : Bo B w pb qb X Sd Sr) (hv : Vb B w) (hS : Room Sd) (hn : i64 n) (hb : b.length ≤ 1500) : Calls Tryz.prog 16 #[.pointer (some ⟨pb, 0, none⟩), .int .i64 n, .string (bs b)] w fun e w' =>
    e = .returned (.tuple #[sgV (upload Sd n b).2.1, .int .i64 (upload Sd n b).2.2]) ∧ Bo B w' pb qb X (upload Sd n b).1 Sr ∧ Fr B X w w' := by
  obtain ⟨F, lv, sv, hd, hr, h1, h2⟩ := h
  refine (pubC.upload hd hv hS hn hb).mono ?_
  rintro e w' ⟨F', e1, g⟩
  obtain ⟨b1, b2⟩ := bo_goes hd hr h1 h2 g (Y := fun _ => False) (fun k hk => hk.elim)
  exact ⟨e1, bo_sub b1 (fun k hk => Or.inl hk), b2⟩
theorem bo_fetch {s : Sg} (h : Bo B w pb qb X Sd Sr) (hv : Vb B w) (hS : Room Sd) (hf : s.fit) : Calls Tryz.prog 18 #[.pointer (some ⟨pb, 0, none⟩), sgV s] w fun e w' =>
    e = .returned (.tuple #[.string (bs (fetch Sd s).2.1), .int .i64 (fetch Sd s).2.2]) ∧ Bo B w' pb qb X (fetch Sd s).1 Sr ∧ Fr B X w w' := by
  obtain ⟨F, lv, sv, hd, hr, h1, h2⟩ := h
  refine (pubC.fetch hd hv hS hf).mono ?_
  rintro e w' ⟨F', e1, g⟩
  obtain ⟨b1, b2⟩ := bo_goes hd hr h1 h2 g (Y := fun _ => False) (fun k hk => hk.elim)
  exact ⟨e1, bo_sub b1 (fun k hk => Or.inl hk), b2⟩
def RowE (Z : Rs × Mf × Int) (e : Ending) (w' : World) : Prop := ∃ a' cap, e = .returned (.tuple #[mfV Z.2.1.ver a' Z.2.1.segs.length cap, .int .i64 Z.2.2]) ∧ SgsIn w' a' Z.2.1.segs
theorem bo_reflatest (h : Bo B w pb qb X Sd Sr) (hS : Room Sr) : Calls Tryz.prog 10 #[.pointer (some ⟨qb, 0, none⟩)] w fun e w' => RowE (latest Sr) e w' ∧ (Bo B w' pb qb X Sd (latest Sr).1 ∧ Turn (fun k => k = qb) w w') ∧ Fr B X w w' :=
  bo_r (R := RowE (latest Sr)) h (fun lv sv hr => reflatest_any hr hS)
theorem bo_refnext {m : Mf} {ma a : Option Addr} {mc c : Nat} {l : List Sg} (h : Bo B w pb qb X Sd Sr) (hS : Room Sr) (hin : SgsIn w a l) (hmf : m.fit) (hlf : ∀ s ∈ l, s.fit) (hl : l.length ≤ 100) : Calls Tryz.prog 14 #[.pointer (some ⟨qb, 0, none⟩), mfV m.ver ma m.segs.length mc, .slice a l.length c] w fun e w' =>
    RowE (next Sr m.ver l) e w' ∧ (Bo B w' pb qb X Sd (next Sr m.ver l).1 ∧ Turn (fun k => k = qb) w w') ∧ Fr B X w w' :=
  bo_r (R := RowE (next Sr m.ver l)) h (fun lv sv hr => refnext_any (ma := ma) (mc := mc) (c := c) hr hS hin hmf hlf hl)
theorem bo_refupload {n : Int} {b : List UInt8} (h : Bo B w pb qb X Sd Sr) (hS : Room Sr) (hn : i64 n) (hb : b.length ≤ 1500) : Calls Tryz.prog 17 #[.pointer (some ⟨qb, 0, none⟩), .int .i64 n, .string (bs b)] w fun e w' =>
    RetR (.tuple #[sgV (upload Sr n b).2.1, .int .i64 (upload Sr n b).2.2]) e w' ∧ (Bo B w' pb qb X Sd (upload Sr n b).1 ∧ Turn (fun k => k = qb) w w') ∧ Fr B X w w' :=
  bo_r (R := RetR (.tuple #[sgV (upload Sr n b).2.1, .int .i64 (upload Sr n b).2.2])) h (fun lv sv hr => refupload_any hr hS hn hb)
theorem bo_reffetch {s : Sg} (h : Bo B w pb qb X Sd Sr) (hS : Room Sr) (hf : s.fit) : Calls Tryz.prog 19 #[.pointer (some ⟨qb, 0, none⟩), sgV s] w fun e w' =>
    RetR (.tuple #[.string (bs (fetch Sr s).2.1), .int .i64 (fetch Sr s).2.2]) e w' ∧ (Bo B w' pb qb X Sd (fetch Sr s).1 ∧ Turn (fun k => k = qb) w w') ∧ Fr B X w w' :=
  bo_r (R := RetR (.tuple #[.string (bs (fetch Sr s).2.1), .int .i64 (fetch Sr s).2.2])) h (fun lv sv hr => reffetch_any hr hS hf)
end

/-! ### what a call leaves of a remote's size -/
theorem lat_mf : ∀ (l : List (List UInt8)) (S : Rs), (lat S l).2.1.fit ∧ (lat S l).2.1.segs.length ≤ 200
  | [], S => ⟨fit_no, by simp [lat, noMf]⟩
  | n :: r, S => by
    unfold lat
    split
    · exact lat_mf r S
    · split
      · exact ⟨fit_no, by simp [noMf]⟩
      · split
        · exact ⟨mrd_fit _, mrd_len _⟩
        · exact lat_mf r _
theorem latest_mf (S : Rs) : (latest S).2.1.fit ∧ (latest S).2.1.segs.length ≤ 200 := by
  unfold latest
  split
  · exact ⟨fit_no, by simp [noMf]⟩
  · exact lat_mf _ _
theorem next_mf {S : Rs} {v : Int} {l : List Sg} (hf : ∀ s ∈ l, s.fit) (hl : l.length ≤ 30) : (next S v l).2.1.fit ∧ (next S v l).2.1.segs.length ≤ 200 := by
  rcases next_two S v l with e | e
  · rw [e]; exact ⟨⟨wrap_i64' _, hf⟩, by show l.length ≤ 200; omega⟩
  · rw [e]; exact ⟨fit_no, by simp [noMf]⟩
theorem fetch_small {k : Nat} {S : Rs} (h : Small k S) (s : Sg) : Small (k + 1) (fetch S s).1 ∧ (fetch S s).1.n ≤ S.n + 2 := by
  have h0 : Small (k + 1) (used S) := ⟨h.1, by have := h.2; show S.obs.length ≤ _; omega⟩
  unfold fetch
  split
  · exact ⟨h0, by show S.n + 1 ≤ _; omega⟩
  · split
    · exact ⟨h0, by show S.n + 1 ≤ _; omega⟩
    · exact ⟨h0, by show S.n + 1 ≤ _; omega⟩
theorem latest_small {k : Nat} {S : Rs} (h : Small k S) (hk : k ≤ 60) : Small (k + 1) (latest S).1 ∧ (latest S).1.n ≤ S.n + 100 := by
  obtain ⟨h1, h2, h3⟩ := latest_obs S
  have := h.2
  exact ⟨⟨by rw [h1]; exact h.1, by rw [h1]; omega⟩, by omega⟩

/-! ### the invariant -/
abbrev opC (o : Opq) : Array Value := #[.int .i64 o.d, .int .i64 o.n, .string (bs o.nm), .string (bs o.b), .slice o.sa o.sl.length o.sc, .slice o.ka o.ks.length o.kc]
def Xm (mb : Nat) (ma : Option Addr) (l : List Sg) (k : Nat) : Prop := k = mb ∨ Rw ma l k
def Xs (mb : Nat) (ma : Option Addr) (l : List Sg) (ob k : Nat) : Prop := Xm mb ma l k ∨ k = ob
structure Pl (B pb qb mb i : Nat) (w : World) (S : Rs) (m : Mf) (ma : Option Addr) (mc : Nat) : Prop where
  bo : Bo B w pb qb (Xm mb ma m.segs) S S
  small : Small i S
  few : S.n ≤ 102 * i
  blk : w.heap[mb]? = some (.cells (mfC m.ver ma m.segs.length mc) 33 (0, 0))
  row : SgsIn w ma m.segs
  fit : m.fit
  len : m.segs.length ≤ 300
theorem Pl.below {B pb qb mb i : Nat} {w w' : World} {S : Rs} {m : Mf} {ma : Option Addr} {mc : Nat} (h : Pl B pb qb mb i w S m ma mc) (hb : Below w.heap.size w w') : Pl B pb qb mb i w' S m ma mc :=
  ⟨h.bo.below hb, h.small, h.few, (hb.block _ (Array.getElem?_eq_some_iff.1 h.blk).1).trans h.blk, h.row.later hb (Nat.le_refl _), h.fit, h.len⟩
theorem Pl.room {B pb qb mb i : Nat} {w : World} {S : Rs} {m : Mf} {ma : Option Addr} {mc : Nat} (h : Pl B pb qb mb i w S m ma mc) (hi : i ≤ 60) : Room S := room_of h.small (by omega) (by have := h.few; omega)

/-- What is known ahead of the switch. -/
structure Stp (W : World) (B pb qb mb ob i : Nat) (w1 : World) (o : Opq) (S : Rs) (m : Mf) (ma : Option Addr) (mc : Nat) : Prop where
  pl : Pl B pb qb mb i w1 S m ma mc
  wat : Bo B w1 pb qb (Xs mb ma m.segs ob) S S
  blk : w1.heap[ob]? = some (.cells (opC o) 35 (0, 0))
  vt : Vt W
  below : Below W.heap.size W w1
  size : W.heap.size ≤ B
  mlow : W.heap.size ≤ mb
  i60 : i < 60
  fit : o.fit
  segs : SgsIn W o.sa o.sl
  vals : Vals W o.ka (o.ks.map (Value.int .i64))
  lsl : o.sl.length ≤ 30
  lb : o.b.length ≤ 300
  lnm : o.nm.length ≤ 100
/-- .. and behind it. -/
def Done (W : World) (B pb qb mb i : Nat) (wc : World) : Prop := ∃ S' m' ma' mc', Pl B pb qb mb (i + 1) wc S' m' ma' mc' ∧ Below W.heap.size W wc

section
variable {W : World} {B pb qb mb ob i : Nat} {w1 w3 w4 wc : World} {o : Opq} {S S' : Rs} {m : Mf} {ma : Option Addr} {mc : Nat}
theorem Stp.vb (h : Stp W B pb qb mb ob i w1 o S m ma mc) : Vb B w1 := vb_of h.vt h.size h.below
theorem Stp.room (h : Stp W B pb qb mb ob i w1 o S m ma mc) : Room S := h.pl.room (by have := h.i60; omega)
theorem fr_drew {X : Nat → Prop} (h : Fr B X w1 w3) : Fr B X w1 w3.drew := ⟨h.1.drew, h.2⟩
theorem Stp.at (h : Stp W B pb qb mb ob i w1 o S m ma mc) {W' : World} (hf : Fr B (Xs mb ma m.segs ob) w1 W') : W'.heap[ob]? = some (.cells (opC o) 35 (0, 0)) := (hf.2 ob (Or.inr rfl)).trans h.blk
theorem op_n {W' : World} (h : W'.heap[ob]? = some (.cells (opC o) 35 (0, 0))) : W'.cell? ⟨ob, 1, none⟩ = some (.int .i64 o.n) := by rw [cell_of_row W' _ 1 _ _ (0, 0) h]; rfl
theorem op_nm {W' : World} (h : W'.heap[ob]? = some (.cells (opC o) 35 (0, 0))) : W'.cell? ⟨ob, 2, none⟩ = some (.string (bs o.nm)) := by rw [cell_of_row W' _ 2 _ _ (0, 0) h]; rfl
theorem op_b {W' : World} (h : W'.heap[ob]? = some (.cells (opC o) 35 (0, 0))) : W'.cell? ⟨ob, 3, none⟩ = some (.string (bs o.b)) := by rw [cell_of_row W' _ 3 _ _ (0, 0) h]; rfl
theorem op_s {W' : World} (h : W'.heap[ob]? = some (.cells (opC o) 35 (0, 0))) : W'.cell? ⟨ob, 4, none⟩ = some (.slice o.sa o.sl.length o.sc) := by rw [cell_of_row W' _ 4 _ _ (0, 0) h]; rfl
theorem op_k {W' : World} (h : W'.heap[ob]? = some (.cells (opC o) 35 (0, 0))) : W'.cell? ⟨ob, 5, none⟩ = some (.slice o.ka o.ks.length o.kc) := by rw [cell_of_row W' _ 5 _ _ (0, 0) h]; rfl
/-- Told by both: in block xb of the program, in block yb of the document. -/
structure Two (B pb qb : Nat) (X : Nat → Prop) (w1 : World) (S' : Rs) (M' : Mf) (a : Option Addr) (c : Nat) (a' : Option Addr) (c' xb yb : Nat) (w6 : World) : Prop where
  bo : Bo B w6 pb qb (fun k => (X k ∨ Rw a M'.segs k) ∨ k = xb) S' S'
  fr : Fr B X w1 w6
  blk : w6.heap[xb]? = some (.cells (mfC M'.ver a M'.segs.length c) 33 (0, 0))
  rblk : w6.heap[yb]? = some (.cells (mfC M'.ver a' M'.segs.length c') 41 (0, 0))
  row : SgsIn w6 a M'.segs
  rrow : SgsIn w6 a' M'.segs
theorem two_of {X : Nat → Prop} {M' : Mf} {a a' : Option Addr} {c c' xb : Nat} {w5 : World} (hB3 : Bo B w4 pb qb (fun k => (X k ∨ Rw a M'.segs k) ∨ k = xb) S' S) (hf3 : Fr B X w1 w4) (hx : w4.heap[xb]? = some (.cells (mfC M'.ver a M'.segs.length c) 33 (0, 0))) (s3 : SgsIn w4 a M'.segs)
    (hB5 : Bo B w5 pb qb (fun k => (X k ∨ Rw a M'.segs k) ∨ k = xb) S' S') (t5 : Turn (fun k => k = qb) w4 w5) (hf5 : Fr B (fun k => (X k ∨ Rw a M'.segs k) ∨ k = xb) w4 w5) (s5 : SgsIn w5 a' M'.segs) :
    Two B pb qb X w1 S' M' a c a' c' xb w5.heap.size (w5.alloc (.cells (mfC M'.ver a' M'.segs.length c') 41)) := by
  have b : Below w5.heap.size w5 (w5.alloc (.cells (mfC M'.ver a' M'.segs.length c') 41)) := (Below.refl _ _).alloc (Nat.le_refl _) _
  have hx5 := (hf5.2 xb (Or.inr rfl)).trans hx
  have hs5 := sgs_rw s3 t5.size (fun k hk => hf5.2 k (Or.inl (Or.inr hk)))
  exact ⟨hB5.below b, (hf3.trans ⟨hf5.1, fun k hk => hf5.2 k (Or.inl (Or.inl hk))⟩).trans (Fr.below (bo_sub hB5 (fun k hk => Or.inl (Or.inl hk))) b), (b.block _ (Array.getElem?_eq_some_iff.1 hx5).1).trans hx5, heap_alloc_new w5 _, hs5.later b (Nat.le_refl _), s5.later b (Nat.le_refl _)⟩
theorem Two.sub {X X2 : Nat → Prop} {M' : Mf} {a a' : Option Addr} {c c' xb yb : Nat} {w2 w6 : World} (h : Two B pb qb X2 w2 S' M' a c a' c' xb yb w6) (hX : ∀ k, X k → X2 k) (hf : Fr B X w1 w2) : Two B pb qb X w1 S' M' a c a' c' xb yb w6 :=
  ⟨bo_sub h.bo (fun k hk => hk.imp (fun e => e.imp (hX k) id) id), hf.trans ⟨h.fr.1, fun k hk => h.fr.2 k (hX k hk)⟩, h.blk, h.rblk, h.row, h.rrow⟩
theorem bo_watch2 {X : Nat → Prop} {Sd Sr : Rs} {g : Nat} {W' : World} (h : Bo B w4 pb qb X Sd Sr) (hb : Below w4.heap.size w4 W') (hg : w4.heap.size ≤ g) (hgl : g < W'.heap.size) : Bo B W' pb qb (fun k => X k ∨ k = g) Sd Sr := by
  obtain ⟨F, lv, sv, hd, hr, h1, h2⟩ := h
  refine ⟨F, lv, sv, hd.below hb, hr.below hb, h1, fun k hk => ?_⟩
  rcases hk with hk | rfl
  · obtain ⟨a1, a2, a3⟩ := h2 k hk
    exact ⟨Nat.lt_of_lt_of_le a1 hb.size, a2, a3⟩
  · exact ⟨hgl, fun hf => by have := (hd.lt hf).2; omega, fun e => by have := (hr.lt e).2; omega⟩
theorem two_of2 {X : Nat → Prop} {M' : Mf} {a a' : Option Addr} {c c' xb g : Nat} {w5 : World} {c0 c1 : Value} (hB3 : Bo B w4 pb qb (fun k => (X k ∨ Rw a M'.segs k) ∨ k = xb) S' S) (hf3 : Fr B X w1 w4) (hx : w4.heap[xb]? = some (.cells (mfC M'.ver a M'.segs.length c) 33 (0, 0))) (s3 : SgsIn w4 a M'.segs)
    (hB5 : Bo B w5 pb qb (fun k => ((X k ∨ Rw a M'.segs k) ∨ k = xb) ∨ k = g) S' S') (t5 : Turn (fun k => k = qb) w4 w5) (hf5 : Fr B (fun k => (X k ∨ Rw a M'.segs k) ∨ k = xb) w4 w5) (s5 : SgsIn w5 a' M'.segs) (hg : w5.heap[g]? = some (.cells #[c0, c1] 41 (0, 0))) (hgl : w4.heap.size ≤ g) :
    Two B pb qb X w1 S' M' a c a' c' xb g ((w5.setCell ⟨g, 0, none⟩ (.int .i64 M'.ver)).setCell ⟨g, 1, none⟩ (.slice a' M'.segs.length c')) := by
  have t := turn2 w5 g (.int .i64 M'.ver) (.slice a' M'.segs.length c')
  have hx5 := (hf5.2 xb (Or.inr rfl)).trans hx
  have hs5 := sgs_rw s3 t5.size (fun k hk => hf5.2 k (Or.inl (Or.inr hk)))
  have hne : ∀ k, ((X k ∨ Rw a M'.segs k) ∨ k = xb) → k < w5.heap.size ∧ ¬ k = g := fun k hk => by
    have h1 := (bo_far hB3 hk).1
    exact ⟨Nat.lt_of_lt_of_le h1 t5.size, by omega⟩
  exact ⟨bo_sub (bo_turn hB5 t (fun k hk => Or.inr hk)) (fun k hk => Or.inl hk), (hf3.trans ⟨hf5.1, fun k hk => hf5.2 k (Or.inl (Or.inl hk))⟩).trans ⟨t.below (fun k hk => by have e : k = g := hk; rw [e]; exact Nat.le_trans hB3.size hgl) (Nat.le_trans hB3.size t5.size), fun k hk => t.block k (hne k (Or.inl (Or.inl hk))).1 (hne k (Or.inl (Or.inl hk))).2⟩, (t.block _ (hne xb (Or.inr rfl)).1 (hne xb (Or.inr rfl)).2).trans hx5, (set2_block hg _ _).2.2.2, sgs_set2 hs5 hg _ _, sgs_set2 s5 hg _ _⟩
theorem fr_al {X : Nat → Prop} {W' : World} (hX : ∀ k, X k → k < w4.heap.size) (hB : B ≤ w4.heap.size) (hf : Fr B X w4 W') (o : Obj) : Fr B X w4 (W'.alloc o) := by
  have b : Below W'.heap.size W' (W'.alloc o) := (Below.refl _ _).alloc (Nat.le_refl _) _
  exact ⟨hf.1.trans (b.mono (Nat.le_trans hB hf.1.size)), fun k hk => (b.block k (Nat.lt_of_lt_of_le (hX k hk) hf.1.size)).trans (hf.2 k hk)⟩
theorem fr_st {X : Nat → Prop} {W' : World} {g j : Nat} (hX : ∀ k, X k → k < w4.heap.size) (hB : B ≤ w4.heap.size) (hf : Fr B X w4 W') (hg : w4.heap.size ≤ g) (v : Value) : Fr B X w4 (W'.setCell ⟨g, j, none⟩ v) := by
  have t := (Turn.refl (fun k => k = g) W').setCell (p := ⟨g, j, none⟩) rfl v
  exact ⟨hf.1.trans (t.below (fun k hk => by have e : k = g := hk; rw [e]; omega) (Nat.le_trans hB hf.1.size)), fun k hk => (t.block k (Nat.lt_of_lt_of_le (hX k hk) hf.1.size) (fun e => by have := hX k hk; have e : k = g := e; omega)).trans (hf.2 k hk)⟩
theorem fr_alloc {X : Nat → Prop} {Sd Sr : Rs} {w5 : World} (h : Bo B w5 pb qb X Sd Sr) (hf : Fr B X w4 w5) (o : Obj) : Fr B X w4 (w5.alloc o) := hf.trans (Fr.below h ((Below.refl _ _).alloc (Nat.le_refl _) _))
/-- The compare, and m stored. -/
theorem Two.below {X : Nat → Prop} {M' : Mf} {a a' : Option Addr} {c c' xb yb : Nat} {w6 w7 : World} (h : Two B pb qb X w1 S' M' a c a' c' xb yb w6) (b : Below w6.heap.size w6 w7) : Two B pb qb X w1 S' M' a c a' c' xb yb w7 :=
  ⟨h.bo.below b, h.fr.trans (Fr.below (bo_sub h.bo (fun k hk => Or.inl (Or.inl hk))) b), (b.block _ (Array.getElem?_eq_some_iff.1 h.blk).1).trans h.blk, (b.block _ (Array.getElem?_eq_some_iff.1 h.rblk).1).trans h.rblk, h.row.later b (Nat.le_refl _), h.rrow.later b (Nat.le_refl _)⟩
theorem two_same {X : Nat → Prop} {M' : Mf} {a a' : Option Addr} {c c' xb yb : Nat} {w6 : World} (h : Two B pb qb X w1 S' M' a c a' c' xb yb w6) (hl : M'.segs.length ≤ 200) :
    (∀ W, Below w6.heap.size w6 W → Calls Tryz.prog 12 #[.agg #[.int .i64 M'.ver, .slice a M'.segs.length c]] W fun e w' => ∃ a2 c2, e = .returned (.agg #[.int .i64 M'.ver, .slice a2 M'.segs.length c2]) ∧ SgsIn w' a2 M'.segs ∧ Below w6.heap.size w6 w') ∧
    (∀ W a2 c2, SgsIn W a2 M'.segs → Below w6.heap.size w6 W → Calls Tryz.prog 11 #[.agg #[.int .i64 M'.ver, .slice a2 M'.segs.length c2], .agg #[.int .i64 M'.ver, .slice a' M'.segs.length c']] W fun e w' => e = .returned (.bool true) ∧ Below w6.heap.size w6 w') := by
  constructor
  · intro W hW
    have := to_any M' a c W (h.row.later hW (Nat.le_refl _)) (by omega)
    unfold mfV at this
    exact this.mono fun e w' ⟨a2, c2, e1, e2, _, e3⟩ => ⟨a2, c2, e1, e2, hW.trans (e3.mono hW.size)⟩
  · intro W a2 c2 hs hW
    have := refsame_any M' M' a2 a' c2 c' W hs (h.rrow.later hW (Nat.le_refl _)) (by omega) (by omega)
    unfold mfV at this
    simp only [decide_true] at this
    exact this.mono fun e w' ⟨e1, e3⟩ => ⟨e1, hW.trans (e3.mono hW.size)⟩
/-- A call that leaves m as it is. -/
theorem done_same (h : Stp W B pb qb mb ob i w1 o S m ma mc) (hB : Bo B wc pb qb (Xs mb ma m.segs ob) S' S') (hf : Fr B (Xs mb ma m.segs ob) w1 wc) (hz : w1.heap.size ≤ wc.heap.size) (h1 : Small (i + 1) S') (h2 : S'.n ≤ S.n + 100) : Done W B pb qb mb i wc :=
  ⟨S', m, ma, mc, ⟨bo_sub hB (fun k hk => Or.inl hk), h1, by have := h.pl.few; push_cast; omega, (hf.2 mb (Or.inl (Or.inl rfl))).trans h.pl.blk, sgs_rw h.pl.row hz (fun k hk => hf.2 k (Or.inl (Or.inr hk))), h.pl.fit, h.pl.len⟩, h.below.trans (hf.1.mono h.size)⟩
theorem done_two_same {M' : Mf} {a a' : Option Addr} {c c' xb yb : Nat} (h : Stp W B pb qb mb ob i w1 o S m ma mc) (t : Two B pb qb (Xs mb ma m.segs ob) w1 S' M' a c a' c' xb yb wc) (h1 : Small (i + 1) S') (h2 : S'.n ≤ S.n + 100) : Done W B pb qb mb i wc :=
  done_same h (bo_sub t.bo (fun k hk => Or.inl (Or.inl hk))) t.fr t.fr.1.size h1 h2
/-- m is stored. -/
theorem done_store {m' : Mf} {a' : Option Addr} {c' : Nat} {X : Nat → Prop} {c0 c1 : Value} (h : Stp W B pb qb mb ob i w1 o S m ma mc) (hB : Bo B wc pb qb X S' S') (hXm : X mb) (hXr : ∀ k, Rw a' m'.segs k → X k) (hrow : SgsIn wc a' m'.segs) (hblk : wc.heap[mb]? = some (.cells #[c0, c1] 33 (0, 0))) (hb : Below B w1 wc) (hz : w1.heap.size ≤ wc.heap.size) (h1 : Small (i + 1) S') (h2 : S'.n ≤ S.n + 100) (hf : m'.fit) (hl : m'.segs.length ≤ 200) :
    Done W B pb qb mb i ((wc.setCell ⟨mb, 0, none⟩ (.int .i64 m'.ver)).setCell ⟨mb, 1, none⟩ (.slice a' m'.segs.length c')) := by
  have t := turn2 wc mb (.int .i64 m'.ver) (.slice a' m'.segs.length c')
  refine ⟨S', m', a', c', ⟨bo_sub (bo_turn hB t (fun k hk => by have e : k = mb := hk; rw [e]; exact hXm)) (fun k hk => ?_), h1, by have := h.pl.few; push_cast; omega, (set2_block hblk _ _).2.2.2, sgs_set2 hrow hblk _ _, hf, by omega⟩, (h.below.trans (hb.mono h.size)).trans (t.below (fun k hk => by have e : k = mb := hk; rw [e]; exact h.mlow) (Nat.le_trans h.below.size hz))⟩
  rcases hk with rfl | hk
  · exact hXm
  · exact hXr k hk
theorem done_two_store {M' : Mf} {a a' : Option Addr} {c c' xb yb : Nat} (h : Stp W B pb qb mb ob i w1 o S m ma mc) (t : Two B pb qb (Xs mb ma m.segs ob) w1 S' M' a c a' c' xb yb wc) (h1 : Small (i + 1) S') (h2 : S'.n ≤ S.n + 100) (hf : M'.fit) (hl : M'.segs.length ≤ 200) :
    Done W B pb qb mb i ((wc.setCell ⟨mb, 0, none⟩ (.int .i64 M'.ver)).setCell ⟨mb, 1, none⟩ (.slice a M'.segs.length c)) :=
  done_store h t.bo (Or.inl (Or.inl (Or.inl (Or.inl rfl)))) (fun k hk => Or.inl (Or.inr hk)) t.row ((t.fr.2 mb (Or.inl (Or.inl rfl))).trans h.pl.blk) t.fr.1 t.fr.1.size h1 h2 hf hl
end
end Go.Proofs.YtkdidinekoaobaaGreatDoor.P
