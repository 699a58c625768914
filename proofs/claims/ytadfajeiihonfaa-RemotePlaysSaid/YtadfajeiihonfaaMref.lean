/- The document's remote in memory: its own block, a row of objects, a script; where an object is; the fate of a call. -/
import Derived.Test.YtadfajeiihonfaaMwhole
import Derived.Test.YtadfajeiihonfaaMlistm
import Derived.Deep.DeepCutAuto
import Derived.Maps.AppendAt
namespace Go.Proofs.Ytadfajeiihonfaa
open Go.RowKit
set_option linter.unusedVariables false

/-- The cells of a row of objects. -/
def oflat : List Ob → List Value
  | [] => []
  | f :: r => .string (bs f.nm) :: .string (bs f.bt) :: oflat r

theorem oflat_len : ∀ l : List Ob, (oflat l).length = l.length * 2
  | [] => rfl
  | f :: r => by simp only [oflat, List.length_cons, oflat_len r]; omega
theorem oflat_append : ∀ a b : List Ob, oflat (a ++ b) = oflat a ++ oflat b
  | [], _ => rfl
  | f :: r, b => by simp [oflat, oflat_append r b]
theorem oflat_at : ∀ (l : List Ob) (i : Nat) (f : Ob), l[i]? = some f → (oflat l)[i * 2]? = some (.string (bs f.nm)) ∧ (oflat l)[i * 2 + 1]? = some (.string (bs f.bt))
  | [], _, _, h => by simp at h
  | g :: r, 0, f, h => by simp at h; subst h; simp [oflat]
  | g :: r, i + 1, f, h => by
    have := oflat_at r i f (by simpa using h)
    simp only [oflat]
    rw [show (i + 1) * 2 = i * 2 + 1 + 1 by omega]
    simpa using this
theorem oflat_one : ∀ l : List Ob, ∀ v ∈ oflat l, v.oneCell' = true
  | [], v, h => by simp [oflat] at h
  | f :: r, v, h => by
    simp only [oflat, List.mem_cons] at h
    rcases h with rfl | rfl | h
    · rfl
    · rfl
    · exact oflat_one r v h
theorem oflat_take : ∀ (l : List Ob) (i : Nat), oflat (l.take i) = (oflat l).take (i * 2)
  | [], i => by simp [oflat]
  | f :: r, 0 => by simp [oflat]
  | f :: r, i + 1 => by simp [oflat, oflat_take r i, show (i + 1) * 2 = i * 2 + 1 + 1 by omega]
theorem oflat_drop : ∀ (l : List Ob) (i : Nat), oflat (l.drop i) = (oflat l).drop (i * 2)
  | [], i => by simp [oflat]
  | f :: r, 0 => by simp [oflat]
  | f :: r, i + 1 => by simp [oflat, oflat_drop r i, show (i + 1) * 2 = i * 2 + 1 + 1 by omega]

/-- A row of objects that lies among the blocks from B on. -/
def Objs (w : World) (B : Nat) (v : Value) (l : List Ob) : Prop := w.ownsRow B 56 2 v l.length (oflat l)

theorem objs_cases {w : World} {B : Nat} {v : Value} {l : List Ob} (h : Objs w B v l) : (v = .slice none 0 0 ∧ l = []) ∨ ∃ g cap cur, v = .slice (some ⟨g, 0, none⟩) l.length cap ∧ B ≤ g ∧ g < w.heap.size ∧ w.heap[g]? = some (.cells cur 56 (0, 0)) ∧ l.length ≤ cap ∧ cap ≤ maxLen ∧
    cur.size = cap * 2 ∧ (∀ j, j < l.length * 2 → w.cell? ⟨g, j, none⟩ = (oflat l)[j]?) ∧ (∀ j, w.frozen? ⟨g, j, none⟩ = false) := by
  obtain ⟨hl, h⟩ := h
  rcases h with ⟨rfl, h0⟩ | ⟨g, cap, cur, rfl, hB, hg, hn, hc, hs, ht⟩
  · exact Or.inl ⟨rfl, List.eq_nil_of_length_eq_zero h0⟩
  · refine Or.inr ⟨g, cap, cur, rfl, hB, (Array.getElem?_eq_some_iff.1 hg).1, hg, hn, hc, hs, fun j hj => ?_, fun j => by simp [World.frozen?, hg]⟩
    rw [cell_of_row w g j cur _ (0, 0) hg, ← ht, List.getElem?_take, if_pos hj]; simp

theorem objs_form {w : World} {B : Nat} {v : Value} {l : List Ob} (h : Objs w B v l) : ∃ a cap, v = .slice a l.length cap := by
  rcases objs_cases h with ⟨rfl, rfl⟩ | ⟨g, cap, _, hv, _⟩
  · exact ⟨none, 0, rfl⟩
  · exact ⟨_, cap, hv⟩

/-- The two cells of object i. -/
theorem objs_at {w : World} {B : Nat} {a : Option Addr} {cap n : Nat} {l : List Ob} (h : Objs w B (.slice a n cap) l) {i : Nat} {f : Ob} (hf : l[i]? = some f) :
    ∃ g, a = some ⟨g, 0, none⟩ ∧ B ≤ g ∧ g < w.heap.size ∧ w.cell? ⟨g, i * 2, none⟩ = some (.string (bs f.nm)) ∧ w.cell? ⟨g, i * 2 + 1, none⟩ = some (.string (bs f.bt)) := by
  have hi : i < l.length := (List.getElem?_eq_some_iff.1 hf).1
  rcases objs_cases h with ⟨_, rfl⟩ | ⟨g, cap', cur, hv, hB, hg, _, _, _, _, hc, _⟩
  · simp at hi
  · injection hv with e1 e2 e3
    obtain ⟨h0, h1⟩ := oflat_at l i f hf
    exact ⟨g, e1, hB, hg, by rw [hc _ (by omega)]; exact h0, by rw [hc _ (by omega)]; exact h1⟩

/-- The document's remote. -/
structure Rf (B : Nat) (w : World) (qb : Nat) (lv sv : Value) (S : Rs) : Prop where
  blk : w.heap[qb]? = some (.cells #[lv, sv, .int .i64 S.n] 30 (0, 0))
  row : Objs w B lv S.obs
  script : Sc B w qb qb sv S.sc
  base : B ≤ qb ∧ lv.ownBlock ≠ some qb ∧ B ≤ w.heap.size
  ok : Ok S

/-- Its blocks. -/
def rfoot (qb : Nat) (lv sv : Value) (k : Nat) : Prop := k = qb ∨ lv.ownBlock = some k ∨ ∃ off n c, sv = .slice (some ⟨k, off, none⟩) n c

section
variable {B qb : Nat} {lv sv : Value} {S : Rs} {w w' : World}

theorem Sc.block {pb mb : Nat} {sc : List Int} (h : Sc B w pb mb sv sc) {k off n c : Nat} (e : sv = .slice (some ⟨k, off, none⟩) n c) : B ≤ k ∧ k < w.heap.size ∧ k ≠ pb ∧ k ≠ mb := by
  obtain ⟨a, cap, hv, _, _, _, ha⟩ := h
  rw [e] at hv
  injection hv with e1 e2 e3
  obtain ⟨g, off', hA, hB, hg, n1, n2, _⟩ := ha _ e1.symm
  injection hA with e1 e2 e3
  subst e1
  exact ⟨hB, hg, n1, n2⟩

theorem Rf.lt (h : Rf B w qb lv sv S) {k : Nat} (hk : rfoot qb lv sv k) : B ≤ k ∧ k < w.heap.size := by
  rcases hk with rfl | hk | ⟨off, n, c, e⟩
  · exact ⟨h.base.1, (Array.getElem?_eq_some_iff.1 h.blk).1⟩
  · exact h.row.lt k hk
  · obtain ⟨h1, h2, _⟩ := h.script.block e
    exact ⟨h1, h2⟩

theorem Rf.kept {G : Nat → Prop} (h : Rf B w qb lv sv S) (t : Turn G w w') (hG : ∀ k, k < w.heap.size → rfoot qb lv sv k → ¬ G k) : Rf B w' qb lv sv S := by
  have hb : ∀ k, rfoot qb lv sv k → w'.heap[k]? = w.heap[k]? := fun k hk => t.block k (h.lt hk).2 (hG k (h.lt hk).2 hk)
  exact ⟨by rw [hb qb (Or.inl rfl)]; exact h.blk, owns_kept h.row (fun g hg => hb g (Or.inr (Or.inl hg))), h.script.kept t.size (fun k off n c _ e => hb k (Or.inr (Or.inr ⟨off, n, c, e⟩))), ⟨h.base.1, h.base.2.1, Nat.le_trans h.base.2.2 t.size⟩, h.ok⟩

theorem Rf.below (h : Rf B w qb lv sv S) (t : Below w.heap.size w w') : Rf B w' qb lv sv S := h.kept (Turn.of_below (fun _ => False) t (Nat.le_refl _)) (fun _ _ _ f => f)

/-- Its own block alone has turned, and maybe its objects and its script lie elsewhere now. -/
theorem Rf.head (h : Rf B w qb lv sv S) (t : Turn (fun k => k = qb) w w') {S' : Rs} {lv' sv' : Value} (hp : w'.heap[qb]? = some (.cells #[lv', sv', .int .i64 S'.n] 30 (0, 0)))
    (hrow : Objs w' B lv' S'.obs) (hne : lv'.ownBlock ≠ some qb) (hs : Sc B w' qb qb sv' S'.sc) (ho : Ok S') : Rf B w' qb lv' sv' S' :=
  ⟨hp, hrow, hs, ⟨h.base.1, hne, Nat.le_trans h.base.2.2 t.size⟩, ho⟩

theorem Rf.cells (h : Rf B w qb lv sv S) : w.cell? ⟨qb, 0, none⟩ = some lv ∧ w.cell? ⟨qb, 1, none⟩ = some sv ∧ w.cell? ⟨qb, 2, none⟩ = some (.int .i64 S.n) ∧ (∀ j, w.frozen? ⟨qb, j, none⟩ = false) := by
  have hc : ∀ j, w.cell? ⟨qb, j, none⟩ = (#[lv, sv, .int .i64 S.n])[j]? := fun j => cell_of_row w qb j _ _ (0, 0) h.blk
  exact ⟨by rw [hc]; rfl, by rw [hc]; rfl, by rw [hc]; rfl, fun j => by simp [World.frozen?, h.blk]⟩

theorem Rf.setAt (h : Rf B w qb lv sv S) (j : Nat) (v : Value) : (w.setCell ⟨qb, j, none⟩ v).heap[qb]? = some (.cells ((#[lv, sv, Value.int .i64 S.n]).setIfInBounds j v) 30 (0, 0)) :=
  heap_setCell_same w qb j _ _ v h.blk

/-- .. where the cell of the script or of the count was written. -/
theorem Rf.set (h : Rf B w qb lv sv S) (j : Nat) (v : Value) {S' : Rs} {sv' : Value} (hj : ((#[lv, sv, Value.int .i64 S.n]).setIfInBounds j v) = #[lv, sv', .int .i64 S'.n]) (ho : S'.obs = S.obs) (hs : Sc B (w.setCell ⟨qb, j, none⟩ v) qb qb sv' S'.sc) (hok : Ok S') :
    Rf B (w.setCell ⟨qb, j, none⟩ v) qb lv sv' S' := by
  refine h.head (turn_head w qb j v) (by rw [h.setAt, hj]) ?_ h.base.2.1 hs hok
  rw [ho]
  exact owns_kept h.row (fun g hg => Below.heap_setCell _ _ _ _ (fun e => h.base.2.1 (by rw [hg, e])))
theorem Sc.setOwn {pb mb : Nat} {sc : List Int} (h : Sc B w pb mb sv sc) (j : Nat) (v : Value) : Sc B (w.setCell ⟨pb, j, none⟩ v) pb mb sv sc :=
  h.kept (by simp [World.setCell]) (fun k off n c hk e => Below.heap_setCell _ _ _ _ (fun ek => (h.block e).2.2.1 ek))
end

/-- What is behind a step. -/
def RfStep (B qb : Nat) (lv sv : Value) (w : World) (S' : Rs) (w' : World) : Prop := ∃ lv' sv', Rf B w' qb lv' sv' S' ∧ (∀ k, rfoot qb lv' sv' k → rfoot qb lv sv k ∨ w.heap.size ≤ k) ∧ Turn (fun k => k = qb) w w'

theorem RfStep.trans {B qb : Nat} {lv sv : Value} {w w' w'' : World} {S' S'' : Rs} (h : RfStep B qb lv sv w S' w') (k : ∀ lv' sv', Rf B w' qb lv' sv' S' → RfStep B qb lv' sv' w' S'' w'') : RfStep B qb lv sv w S'' w'' := by
  obtain ⟨lv', sv', h1, h2, h3⟩ := h
  obtain ⟨lv2, sv2, k1, k2, k3⟩ := k lv' sv' h1
  refine ⟨lv2, sv2, k1, fun i hi => ?_, h3.trans k3⟩
  rcases k2 i hi with hi | hi
  · exact h2 i hi
  · exact Or.inr (Nat.le_trans h3.size hi)
theorem RfStep.same {B qb : Nat} {lv sv : Value} {w : World} {S : Rs} (h : Rf B w qb lv sv S) : RfStep B qb lv sv w S w := ⟨lv, sv, h, fun _ hk => Or.inl hk, Turn.refl _ w⟩

/-! ### at -/
theorem refat_no {B qb : Nat} {lv sv : Value} {S : Rs} {w : World} {n : List UInt8} (h : Rf B w qb lv sv S) (hf : look S.obs n = none) (hcs : S.obs.length < 1000000000) :
    Calls Try.prog 26 #[.pointer (some ⟨qb, 0, none⟩), .string (bs n)] w fun e w' => e = .returned (.int .i64 (-1)) ∧ w = w' := by
  obtain ⟨c1, c2, c3, fz⟩ := h.cells
  clear fz
  obtain ⟨a, cap, hv⟩ := objs_form h.row
  obtain ⟨L, hL⟩ : ∃ L, L = S.obs.length := ⟨_, rfl⟩
  have hrow := h.row
  rw [hv] at hrow c1
  rw [← hL] at hrow c1 hcs
  have HL := Lib.hid hL; have HR := Lib.hid hrow; have HF := Lib.hid (look_none hf)
  clear hL hrow hf hv
  go_enter Try.func26, Try.ntmps26
  go_wp2
  go_loopg [5] L (fun g it wr => ∃ i : Nat, i + g = L ∧ it = .int .i64 i ∧ w = wr)
  case atStart => exact ⟨0, by omega, rfl, rfl⟩
  case round =>
    obtain ⟨i, hi, rfl, rfl⟩ := hrel
    by_cases hlt : i < L
    · obtain ⟨f, hf⟩ : ∃ f, S.obs[i]? = some f := ⟨S.obs[i]'(by have := HL.out; omega), List.getElem?_eq_getElem _⟩
      obtain ⟨g, hg, _, _, d0, d1⟩ := objs_at HR.out hf
      subst hg
      have hne := HF.out f (List.mem_of_getElem? hf)
      have hneq : ((bs f.nm).toList == (bs n).toList) = false := by rw [bs_toList, bs_toList]; simpa using hne
      have HF2 := Lib.hid hf; clear hf hne
      go_wp2
      go_roundg (gk - 1)
      case measure => omega
      case rel => exact ⟨i + 1, by omega, by go_num, rfl⟩
    · obtain rfl : i = L := by omega
      go_wp2
      go_ret
      exact ⟨rfl, rfl⟩

theorem refat_yes {B qb : Nat} {lv sv : Value} {S : Rs} {w : World} {n : List UInt8} {f : Ob} {i : Nat} (h : Rf B w qb lv sv S) (hi : S.obs[i]? = some f) (hf : f.nm = n) (hcs : S.obs.length < 1000000000) :
    Calls Try.prog 26 #[.pointer (some ⟨qb, 0, none⟩), .string (bs n)] w fun e w' => e = .returned (.int .i64 i) ∧ w = w' := by
  obtain ⟨c1, c2, c3, fz⟩ := h.cells
  clear fz
  obtain ⟨a, cap, hv⟩ := objs_form h.row
  obtain ⟨L, hL⟩ : ∃ L, L = S.obs.length := ⟨_, rfl⟩
  have hrow := h.row
  have hup := h.ok.up
  rw [hv] at hrow c1
  rw [← hL] at hrow c1 hcs
  have hil : i < L := by rw [hL]; exact (List.getElem?_eq_some_iff.1 hi).1
  have hbef : ∀ j g, j < i → S.obs[j]? = some g → g.nm ≠ n := fun j g hj hg e => by
    have h1 : f ∈ S.obs := List.mem_of_getElem? hi
    have h2 : g ∈ S.obs := List.mem_of_getElem? hg
    have e2 := up_inj hup h2 h1 (e.trans hf.symm)
    subst e2
    have hp : S.obs.Pairwise (fun a b => lt a.nm b.nm = true) := hup
    have hjl : j < S.obs.length := (List.getElem?_eq_some_iff.1 hg).1
    have hil' : i < S.obs.length := (List.getElem?_eq_some_iff.1 hi).1
    have hlt := List.pairwise_iff_getElem.1 hp j i hjl hil' hj
    rw [(List.getElem?_eq_some_iff.1 hg).2, (List.getElem?_eq_some_iff.1 hi).2, lt_irrefl] at hlt
    cases hlt
  have HL := Lib.hid hL; have HR := Lib.hid hrow; have HB := Lib.hid hbef; have HI := Lib.hid hi; have HF := Lib.hid hf
  clear hL hrow hbef hi hv hf hup
  go_enter Try.func26, Try.ntmps26
  go_wp2
  go_loopg [5] i (fun g it wr => ∃ j : Nat, j + g = i ∧ it = .int .i64 j ∧ w = wr)
  case atStart => exact ⟨0, by omega, rfl, rfl⟩
  case round =>
    obtain ⟨j, hj, rfl, rfl⟩ := hrel
    have hjL : j < L := by omega
    obtain ⟨x, hx⟩ : ∃ x, S.obs[j]? = some x := ⟨S.obs[j]'(by have := HL.out; omega), List.getElem?_eq_getElem _⟩
    obtain ⟨g, hg, _, _, d0, d1⟩ := objs_at HR.out hx
    subst hg
    by_cases hlt : j < i
    · have hne := HB.out j x hlt hx
      have hneq : ((bs x.nm).toList == (bs n).toList) = false := by rw [bs_toList, bs_toList]; simpa using hne
      have HX := Lib.hid hx; clear hx hne
      go_wp2
      go_roundg (gk - 1)
      case measure => omega
      case rel => exact ⟨j + 1, by omega, by go_num, rfl⟩
    · obtain rfl : j = i := by omega
      have hxf : x = f := by rw [HI.out] at hx; exact (Option.some.inj hx).symm
      have heq : ((bs x.nm).toList == (bs n).toList) = true := by rw [bs_toList, bs_toList, hxf, HF.out]; simp
      clear hx hxf
      go_wp2
      go_ret
      exact ⟨rfl, rfl⟩

end Go.Proofs.Ytadfajeiihonfaa
