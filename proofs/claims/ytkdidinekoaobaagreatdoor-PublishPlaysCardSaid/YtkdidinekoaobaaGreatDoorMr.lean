/- Merged out of 9 texts, in build order: Mref, Mreffate, Mobjs, Mwith, Mlay, Mrefcalls, Mrefcalls2, Mrefcalls3, Mboth. -/
import Derived.Test.YtkdidinekoaobaaGreatDoorMc
import Derived.Test.YtkdidinekoaobaaGreatDoorMb
import Derived.Deep.DeepCutAuto
import Derived.Maps.AppendAt
import Derived.Deep.Upon
import Derived.Deep.RegionHeld3
import Derived.Test.YtkdidinekoaobaaGreatDoorBb
import Derived.Deep.QuietTactic
import Derived.BigQuiet

/- The document's remote in memory: its own block, a row of objects, a script; where an object is; the fate of a call. -/
namespace Go.Proofs.YtkdidinekoaobaaGreatDoor.M
open Go.RowKit
set_option linter.unusedVariables false

/-- The cells of a row of objects. -/
def oflat : List Ob → List Value
  | [] => []
  | f :: r => .string (bs f.nm) :: .string (bs f.bt) :: oflat r

theorem oflat_len : ∀ l : List Ob, (oflat l).length = l.length * 2
  | [] => rfl
  | f :: r => by simp only [oflat, List.length_cons, oflat_len r]; omega
theorem oflat_append : ∀ a b : List Ob, oflat (a ++ b) = oflat a ++ oflat b
  | [], _ => rfl
  | f :: r, b => by simp [oflat, oflat_append r b]
theorem oflat_at : ∀ (l : List Ob) (i : Nat) (f : Ob), l[i]? = some f → (oflat l)[i * 2]? = some (.string (bs f.nm)) ∧ (oflat l)[i * 2 + 1]? = some (.string (bs f.bt))
  | [], _, _, h => by simp at h
  | g :: r, 0, f, h => by simp at h; subst h; simp [oflat]
  | g :: r, i + 1, f, h => by
    have := oflat_at r i f (by simpa using h)
    simp only [oflat]
    rw [show (i + 1) * 2 = i * 2 + 1 + 1 by omega]
    simpa using this
theorem oflat_one : ∀ l : List Ob, ∀ v ∈ oflat l, v.oneCell' = true
  | [], v, h => by simp [oflat] at h
  | f :: r, v, h => by
    simp only [oflat, List.mem_cons] at h
    rcases h with rfl | rfl | h
    · rfl
    · rfl
    · exact oflat_one r v h
theorem oflat_take : ∀ (l : List Ob) (i : Nat), oflat (l.take i) = (oflat l).take (i * 2)
  | [], i => by simp [oflat]
  | f :: r, 0 => by simp [oflat]
  | f :: r, i + 1 => by simp [oflat, oflat_take r i, show (i + 1) * 2 = i * 2 + 1 + 1 by omega]
theorem oflat_drop : ∀ (l : List Ob) (i : Nat), oflat (l.drop i) = (oflat l).drop (i * 2)
  | [], i => by simp [oflat]
  | f :: r, 0 => by simp [oflat]
  | f :: r, i + 1 => by simp [oflat, oflat_drop r i, show (i + 1) * 2 = i * 2 + 1 + 1 by omega]

/-- A row of objects that lies among the blocks from B on. -/
def Objs (w : World) (B : Nat) (v : Value) (l : List Ob) : Prop := w.ownsRow B 116 2 v l.length (oflat l)

theorem objs_cases {w : World} {B : Nat} {v : Value} {l : List Ob} (h : Objs w B v l) : (v = .slice none 0 0 ∧ l = []) ∨ ∃ g cap cur, v = .slice (some ⟨g, 0, none⟩) l.length cap ∧ B ≤ g ∧ g < w.heap.size ∧ w.heap[g]? = some (.cells cur 116 (0, 0)) ∧ l.length ≤ cap ∧ cap ≤ maxLen ∧
    cur.size = cap * 2 ∧ (∀ j, j < l.length * 2 → w.cell? ⟨g, j, none⟩ = (oflat l)[j]?) ∧ (∀ j, w.frozen? ⟨g, j, none⟩ = false) := by
  obtain ⟨hl, h⟩ := h
  rcases h with ⟨rfl, h0⟩ | ⟨g, cap, cur, rfl, hB, hg, hn, hc, hs, ht⟩
  · exact Or.inl ⟨rfl, List.eq_nil_of_length_eq_zero h0⟩
  · refine Or.inr ⟨g, cap, cur, rfl, hB, (Array.getElem?_eq_some_iff.1 hg).1, hg, hn, hc, hs, fun j hj => ?_, fun j => by simp [World.frozen?, hg]⟩
    rw [cell_of_row w g j cur _ (0, 0) hg, ← ht, List.getElem?_take, if_pos hj]; simp

theorem objs_form {w : World} {B : Nat} {v : Value} {l : List Ob} (h : Objs w B v l) : ∃ a cap, v = .slice a l.length cap := by
  rcases objs_cases h with ⟨rfl, rfl⟩ | ⟨g, cap, _, hv, _⟩
  · exact ⟨none, 0, rfl⟩
  · exact ⟨_, cap, hv⟩

/-- The two cells of object i. -/
theorem objs_at {w : World} {B : Nat} {a : Option Addr} {cap n : Nat} {l : List Ob} (h : Objs w B (.slice a n cap) l) {i : Nat} {f : Ob} (hf : l[i]? = some f) :
    ∃ g, a = some ⟨g, 0, none⟩ ∧ B ≤ g ∧ g < w.heap.size ∧ w.cell? ⟨g, i * 2, none⟩ = some (.string (bs f.nm)) ∧ w.cell? ⟨g, i * 2 + 1, none⟩ = some (.string (bs f.bt)) := by
  have hi : i < l.length := (List.getElem?_eq_some_iff.1 hf).1
  rcases objs_cases h with ⟨_, rfl⟩ | ⟨g, cap', cur, hv, hB, hg, _, _, _, _, hc, _⟩
  · simp at hi
  · injection hv with e1 e2 e3
    obtain ⟨h0, h1⟩ := oflat_at l i f hf
    exact ⟨g, e1, hB, hg, by rw [hc _ (by omega)]; exact h0, by rw [hc _ (by omega)]; exact h1⟩

/-- The document's remote. -/
structure Rf (B : Nat) (w : World) (qb : Nat) (lv sv : Value) (S : Rs) : Prop where
  blk : w.heap[qb]? = some (.cells #[lv, sv, .int .i64 S.n] 30 (0, 0))
  row : Objs w B lv S.obs
  script : Sc B w qb qb sv S.sc
  base : B ≤ qb ∧ lv.ownBlock ≠ some qb ∧ B ≤ w.heap.size
  ok : Ok S

/-- Its blocks. -/
def rfoot (qb : Nat) (lv sv : Value) (k : Nat) : Prop := k = qb ∨ lv.ownBlock = some k ∨ ∃ off n c, sv = .slice (some ⟨k, off, none⟩) n c

section
variable {B qb : Nat} {lv sv : Value} {S : Rs} {w w' : World}

theorem Sc.block {pb mb : Nat} {sc : List Int} (h : Sc B w pb mb sv sc) {k off n c : Nat} (e : sv = .slice (some ⟨k, off, none⟩) n c) : B ≤ k ∧ k < w.heap.size ∧ k ≠ pb ∧ k ≠ mb := by
  obtain ⟨a, cap, hv, _, _, _, ha⟩ := h
  rw [e] at hv
  injection hv with e1 e2 e3
  obtain ⟨g, off', hA, hB, hg, n1, n2, _⟩ := ha _ e1.symm
  injection hA with e1 e2 e3
  subst e1
  exact ⟨hB, hg, n1, n2⟩

theorem Rf.lt (h : Rf B w qb lv sv S) {k : Nat} (hk : rfoot qb lv sv k) : B ≤ k ∧ k < w.heap.size := by
  rcases hk with rfl | hk | ⟨off, n, c, e⟩
  · exact ⟨h.base.1, (Array.getElem?_eq_some_iff.1 h.blk).1⟩
  · exact h.row.lt k hk
  · obtain ⟨h1, h2, _⟩ := h.script.block e
    exact ⟨h1, h2⟩

theorem Rf.kept {G : Nat → Prop} (h : Rf B w qb lv sv S) (t : Turn G w w') (hG : ∀ k, k < w.heap.size → rfoot qb lv sv k → ¬ G k) : Rf B w' qb lv sv S := by
  have hb : ∀ k, rfoot qb lv sv k → w'.heap[k]? = w.heap[k]? := fun k hk => t.block k (h.lt hk).2 (hG k (h.lt hk).2 hk)
  exact ⟨by rw [hb qb (Or.inl rfl)]; exact h.blk, owns_kept h.row (fun g hg => hb g (Or.inr (Or.inl hg))), h.script.kept t.size (fun k off n c _ e => hb k (Or.inr (Or.inr ⟨off, n, c, e⟩))), ⟨h.base.1, h.base.2.1, Nat.le_trans h.base.2.2 t.size⟩, h.ok⟩

theorem Rf.below (h : Rf B w qb lv sv S) (t : Below w.heap.size w w') : Rf B w' qb lv sv S := h.kept (Turn.of_below (fun _ => False) t (Nat.le_refl _)) (fun _ _ _ f => f)

/-- Its own block alone has turned, and maybe its objects and its script lie elsewhere now. -/
theorem Rf.head (h : Rf B w qb lv sv S) (t : Turn (fun k => k = qb) w w') {S' : Rs} {lv' sv' : Value} (hp : w'.heap[qb]? = some (.cells #[lv', sv', .int .i64 S'.n] 30 (0, 0)))
    (hrow : Objs w' B lv' S'.obs) (hne : lv'.ownBlock ≠ some qb) (hs : Sc B w' qb qb sv' S'.sc) (ho : Ok S') : Rf B w' qb lv' sv' S' :=
  ⟨hp, hrow, hs, ⟨h.base.1, hne, Nat.le_trans h.base.2.2 t.size⟩, ho⟩

theorem Rf.cells (h : Rf B w qb lv sv S) : w.cell? ⟨qb, 0, none⟩ = some lv ∧ w.cell? ⟨qb, 1, none⟩ = some sv ∧ w.cell? ⟨qb, 2, none⟩ = some (.int .i64 S.n) ∧ (∀ j, w.frozen? ⟨qb, j, none⟩ = false) := by
  have hc : ∀ j, w.cell? ⟨qb, j, none⟩ = (#[lv, sv, .int .i64 S.n])[j]? := fun j => cell_of_row w qb j _ _ (0, 0) h.blk
  exact ⟨by rw [hc]; rfl, by rw [hc]; rfl, by rw [hc]; rfl, fun j => by simp [World.frozen?, h.blk]⟩

theorem Rf.setAt (h : Rf B w qb lv sv S) (j : Nat) (v : Value) : (w.setCell ⟨qb, j, none⟩ v).heap[qb]? = some (.cells ((#[lv, sv, Value.int .i64 S.n]).setIfInBounds j v) 30 (0, 0)) :=
  heap_setCell_same w qb j _ _ v h.blk

/-- .. where the cell of the script or of the count was written. -/
theorem Rf.set (h : Rf B w qb lv sv S) (j : Nat) (v : Value) {S' : Rs} {sv' : Value} (hj : ((#[lv, sv, Value.int .i64 S.n]).setIfInBounds j v) = #[lv, sv', .int .i64 S'.n]) (ho : S'.obs = S.obs) (hs : Sc B (w.setCell ⟨qb, j, none⟩ v) qb qb sv' S'.sc) (hok : Ok S') :
    Rf B (w.setCell ⟨qb, j, none⟩ v) qb lv sv' S' := by
  refine h.head (turn_head w qb j v) (by rw [h.setAt, hj]) ?_ h.base.2.1 hs hok
  rw [ho]
  exact owns_kept h.row (fun g hg => Below.heap_setCell _ _ _ _ (fun e => h.base.2.1 (by rw [hg, e])))
theorem Sc.setOwn {pb mb : Nat} {sc : List Int} (h : Sc B w pb mb sv sc) (j : Nat) (v : Value) : Sc B (w.setCell ⟨pb, j, none⟩ v) pb mb sv sc :=
  h.kept (by simp [World.setCell]) (fun k off n c hk e => Below.heap_setCell _ _ _ _ (fun ek => (h.block e).2.2.1 ek))
end

/-- What is behind a step. -/
def RfStep (B qb : Nat) (lv sv : Value) (w : World) (S' : Rs) (w' : World) : Prop := ∃ lv' sv', Rf B w' qb lv' sv' S' ∧ (∀ k, rfoot qb lv' sv' k → rfoot qb lv sv k ∨ w.heap.size ≤ k) ∧ Turn (fun k => k = qb) w w'

theorem RfStep.trans {B qb : Nat} {lv sv : Value} {w w' w'' : World} {S' S'' : Rs} (h : RfStep B qb lv sv w S' w') (k : ∀ lv' sv', Rf B w' qb lv' sv' S' → RfStep B qb lv' sv' w' S'' w'') : RfStep B qb lv sv w S'' w'' := by
  obtain ⟨lv', sv', h1, h2, h3⟩ := h
  obtain ⟨lv2, sv2, k1, k2, k3⟩ := k lv' sv' h1
  refine ⟨lv2, sv2, k1, fun i hi => ?_, h3.trans k3⟩
  rcases k2 i hi with hi | hi
  · exact h2 i hi
  · exact Or.inr (Nat.le_trans h3.size hi)
theorem RfStep.same {B qb : Nat} {lv sv : Value} {w : World} {S : Rs} (h : Rf B w qb lv sv S) : RfStep B qb lv sv w S w := ⟨lv, sv, h, fun _ hk => Or.inl hk, Turn.refl _ w⟩

/-! ### at -/
theorem refat_no {B qb : Nat} {lv sv : Value} {S : Rs} {w : World} {n : List UInt8} (h : Rf B w qb lv sv S) (hf : look S.obs n = none) (hcs : S.obs.length < 1000000000) :
    Calls Tryz.prog 67 #[.pointer (some ⟨qb, 0, none⟩), .string (bs n)] w fun e w' => e = .returned (.int .i64 (-1)) ∧ w = w' := by
  obtain ⟨c1, c2, c3, fz⟩ := h.cells
  clear fz
  obtain ⟨a, cap, hv⟩ := objs_form h.row
  obtain ⟨L, hL⟩ : ∃ L, L = S.obs.length := ⟨_, rfl⟩
  have hrow := h.row
  rw [hv] at hrow c1
  rw [← hL] at hrow c1 hcs
  have HL := Lib.hid hL; have HR := Lib.hid hrow; have HF := Lib.hid (look_none hf)
  clear hL hrow hf hv
  go_enter Tryz.func67, Tryz.ntmps67
  go_wp2
  go_loopg [5] L (fun g it wr => ∃ i : Nat, i + g = L ∧ it = .int .i64 i ∧ w = wr)
  case atStart => exact ⟨0, by omega, rfl, rfl⟩
  case round =>
    obtain ⟨i, hi, rfl, rfl⟩ := hrel
    by_cases hlt : i < L
    · obtain ⟨f, hf⟩ : ∃ f, S.obs[i]? = some f := ⟨S.obs[i]'(by have := HL.out; omega), List.getElem?_eq_getElem _⟩
      obtain ⟨g, hg, _, _, d0, d1⟩ := objs_at HR.out hf
      subst hg
      have hne := HF.out f (List.mem_of_getElem? hf)
      have hneq : ((bs f.nm).toList == (bs n).toList) = false := by rw [bs_toList, bs_toList]; simpa using hne
      have HF2 := Lib.hid hf; clear hf hne
      go_wp2
      go_roundg (gk - 1)
      case measure => omega
      case rel => exact ⟨i + 1, by omega, by go_num, rfl⟩
    · obtain rfl : i = L := by omega
      go_wp2
      go_ret
      exact ⟨rfl, rfl⟩

theorem refat_yes {B qb : Nat} {lv sv : Value} {S : Rs} {w : World} {n : List UInt8} {f : Ob} {i : Nat} (h : Rf B w qb lv sv S) (hi : S.obs[i]? = some f) (hf : f.nm = n) (hcs : S.obs.length < 1000000000) :
    Calls Tryz.prog 67 #[.pointer (some ⟨qb, 0, none⟩), .string (bs n)] w fun e w' => e = .returned (.int .i64 i) ∧ w = w' := by
  obtain ⟨c1, c2, c3, fz⟩ := h.cells
  clear fz
  obtain ⟨a, cap, hv⟩ := objs_form h.row
  obtain ⟨L, hL⟩ : ∃ L, L = S.obs.length := ⟨_, rfl⟩
  have hrow := h.row
  have hup := h.ok.up
  rw [hv] at hrow c1
  rw [← hL] at hrow c1 hcs
  have hil : i < L := by rw [hL]; exact (List.getElem?_eq_some_iff.1 hi).1
  have hbef : ∀ j g, j < i → S.obs[j]? = some g → g.nm ≠ n := fun j g hj hg e => by
    have h1 : f ∈ S.obs := List.mem_of_getElem? hi
    have h2 : g ∈ S.obs := List.mem_of_getElem? hg
    have e2 := up_inj hup h2 h1 (e.trans hf.symm)
    subst e2
    have hp : S.obs.Pairwise (fun a b => lt a.nm b.nm = true) := hup
    have hjl : j < S.obs.length := (List.getElem?_eq_some_iff.1 hg).1
    have hil' : i < S.obs.length := (List.getElem?_eq_some_iff.1 hi).1
    have hlt := List.pairwise_iff_getElem.1 hp j i hjl hil' hj
    rw [(List.getElem?_eq_some_iff.1 hg).2, (List.getElem?_eq_some_iff.1 hi).2, lt_irrefl] at hlt
    cases hlt
  have HL := Lib.hid hL; have HR := Lib.hid hrow; have HB := Lib.hid hbef; have HI := Lib.hid hi; have HF := Lib.hid hf
  clear hL hrow hbef hi hv hf hup
  go_enter Tryz.func67, Tryz.ntmps67
  go_wp2
  go_loopg [5] i (fun g it wr => ∃ j : Nat, j + g = i ∧ it = .int .i64 j ∧ w = wr)
  case atStart => exact ⟨0, by omega, rfl, rfl⟩
  case round =>
    obtain ⟨j, hj, rfl, rfl⟩ := hrel
    have hjL : j < L := by omega
    obtain ⟨x, hx⟩ : ∃ x, S.obs[j]? = some x := ⟨S.obs[j]'(by have := HL.out; omega), List.getElem?_eq_getElem _⟩
    obtain ⟨g, hg, _, _, d0, d1⟩ := objs_at HR.out hx
    subst hg
    by_cases hlt : j < i
    · have hne := HB.out j x hlt hx
      have hneq : ((bs x.nm).toList == (bs n).toList) = false := by rw [bs_toList, bs_toList]; simpa using hne
      have HX := Lib.hid hx; clear hx hne
      go_wp2
      go_roundg (gk - 1)
      case measure => omega
      case rel => exact ⟨j + 1, by omega, by go_num, rfl⟩
    · obtain rfl : j = i := by omega
      have hxf : x = f := by rw [HI.out] at hx; exact (Option.some.inj hx).symm
      have heq : ((bs x.nm).toList == (bs n).toList) = true := by rw [bs_toList, bs_toList, hxf, HF.out]; simp
      clear hx hxf
      go_wp2
      go_ret
      exact ⟨rfl, rfl⟩

end Go.Proofs.YtkdidinekoaobaaGreatDoor.M

/- The document's fate of a call. -/
namespace Go.Proofs.YtkdidinekoaobaaGreatDoor.M
open Go.RowKit
set_option linter.unusedVariables false

theorem Rf.count {B qb : Nat} {lv sv : Value} {S : Rs} {w : World} (h : Rf B w qb lv sv S) (hn : S.n < 1000000000000) : Rf B (w.setCell ⟨qb, 2, none⟩ (.int .i64 (S.n + 1))) qb lv sv (counted S) :=
  h.set (S' := counted S) 2 _ rfl rfl (h.script.setOwn 2 _) (ok_counted h.ok hn)

/-- The script is cut by one. -/
theorem Rf.cut {B qb : Nat} {lv : Value} {S : Rs} {w : World} {y : Int} {r : List Int} {g off cap off' cap' : Nat} (hs : S.sc = y :: r) (h : Rf B w qb lv (.slice (some ⟨g, off, none⟩) (r.length + 1) cap) S) (hc : ∀ i z, (y :: r)[i]? = some z → w.cell? ⟨g, off + i, none⟩ = some (.int .i64 z))
    (hg : B ≤ g ∧ g < w.heap.size ∧ g ≠ qb) (ho : off' = off + 1 ∨ r = []) (h1 : r.length ≤ cap') (h2 : cap' ≤ maxLen) :
    Rf B (w.setCell ⟨qb, 1, none⟩ (.slice (some ⟨g, off', none⟩) r.length cap')) qb lv (.slice (some ⟨g, off', none⟩) r.length cap') { S with sc := S.sc.tail } := by
  obtain ⟨g1, g2, g3⟩ := hg
  refine h.set (S' := { S with sc := S.sc.tail }) 1 _ rfl rfl ?_ (ok_tail h.ok)
  rw [hs]
  refine ⟨_, cap', rfl, h1, h2, (fun e => by cases e), fun A hA => ?_⟩
  cases hA
  refine ⟨g, off', rfl, g1, by simpa [World.setCell] using g2, g3, g3, fun i z hz => ?_⟩
  have hb : (w.setCell ⟨qb, 1, none⟩ (.slice (some ⟨g, off', none⟩) r.length cap')).heap[g]? = w.heap[g]? := Below.heap_setCell _ _ _ _ g3
  have e : off' = off + 1 := by
    rcases ho with e | e
    · exact e
    · subst e; simp at hz
  subst e
  have := hc (i + 1) z (by simpa using hz)
  rw [show off + (i + 1) = off + 1 + i by omega] at this
  simp only [World.cell?, hb] at this ⊢
  exact this

def rfatePost (B qb : Nat) (lv sv : Value) (S : Rs) (w : World) (e : Ending) (w' : World) : Prop := e = .returned (.int .i64 (fateOf S)) ∧ RfStep B qb lv sv w (used S) w'

theorem reffate_any {B qb : Nat} {lv sv : Value} {S : Rs} {w : World} (h : Rf B w qb lv sv S) (hn : S.n < 1000000000000) :
    Calls Tryz.prog 52 #[.pointer (some ⟨qb, 0, none⟩)] w (rfatePost B qb lv sv S w) := by
  have hcl := h.ok.calls
  obtain ⟨a, cap, hv, h1, h2, h3, h4⟩ := h.script
  subst hv
  have hcount := h.count hn
  have ht := turn_head w qb 2 (.int .i64 (S.n + 1))
  obtain ⟨c0, c1, c2, fz⟩ := h.cells
  have f1 := fz 1
  have f2 := fz 2
  clear fz
  have hlt := (h.lt (Or.inl rfl)).2
  cases hs : S.sc with
  | nil =>
    rw [hs] at c1 h1
    have HC := Lib.hid hcount; have HT := Lib.hid ht; clear h hcount ht
    have HS := Lib.hid hs; clear hs
    go_enter Tryz.func52, Tryz.ntmps52
    go_wp2
    go_ret
    refine ⟨ret_int (by rw [fateOf, HS.out]; rfl), ?_⟩
    have e : used S = counted S := by
      have hs := HS.out
      obtain ⟨o, sc, n⟩ := S
      dsimp only at hs
      subst hs
      rfl
    rw [e, show 0 = S.sc.length by rw [HS.out]; rfl]
    exact ⟨_, _, HC.out, fun _ hk => Or.inl hk, HT.out⟩
  | cons y r =>
    rw [hs] at c1 h1 h4
    rw [List.length_cons] at c1 h1
    have ha : a ≠ none := fun e => by have := h3 e; rw [hs] at this; cases this
    obtain ⟨A, rfl⟩ := Option.ne_none_iff_exists'.1 ha
    obtain ⟨g, off, rfl, hB, hg, n1, _, hc⟩ := h4 A rfl
    have hy := hc 0 y rfl
    rw [Nat.add_zero] at hy
    rw [hs, List.length_cons] at hcount
    have hcw : ∀ i z, (y :: r)[i]? = some z → (w.setCell ⟨qb, 2, none⟩ (.int .i64 (S.n + 1))).cell? ⟨g, off + i, none⟩ = some (.int .i64 z) := fun i z hz => by
      have := hc i z hz
      have hb : (w.setCell ⟨qb, 2, none⟩ (.int .i64 (S.n + 1))).heap[g]? = w.heap[g]? := Below.heap_setCell _ _ _ _ n1
      simp only [World.cell?, hb] at this ⊢
      exact this
    clear hc h3 h4 ha
    have HB : B ≤ g ∧ g < (w.setCell ⟨qb, 2, none⟩ (.int .i64 (S.n + 1))).heap.size ∧ g ≠ qb := ⟨hB, by simpa [World.setCell] using hg, n1⟩
    have hm : cap ≤ 9223372036854775807 := by unfold maxLen at h2; omega
    have HM := Lib.hid h2; clear h2
    have hfoot : ∀ (off' cap' : Nat) k, rfoot qb lv (.slice (some ⟨g, off', none⟩) r.length cap') k → rfoot qb lv (.slice (some ⟨g, off, none⟩) (r.length + 1) cap) k := fun off' cap' k hk => by
      rcases hk with hk | hk | ⟨o, n, c, e⟩
      · exact Or.inl hk
      · exact Or.inr (Or.inl hk)
      · injection e with e1 e2 e3
        injection e1 with e1
        injection e1 with e1
        subst e1
        exact Or.inr (Or.inr ⟨_, _, _, rfl⟩)
    have hs' : (counted S).sc = y :: r := hs
    by_cases h1c : cap = 1
    · subst h1c
      obtain rfl : r = [] := List.eq_nil_of_length_eq_zero (by omega)
      have HE := Lib.hid (Rf.cut (off' := off) (cap' := 0) hs' hcount hcw HB (Or.inr rfl) (Nat.le_refl _) (by unfold maxLen; omega))
      have HS := Lib.hid hs; have HT := Lib.hid ht; have HF := Lib.hid (hfoot off 0); clear hs h hcount ht hcw hfoot hs'
      go_enter Tryz.func52, Tryz.ntmps52
      go_wp2
      go_ret
      exact ⟨ret_int (by rw [fateOf, HS.out]; rfl), ⟨_, _, HE.out, fun k hk => Or.inl (HF.out k hk), HT.out.trans (turn_head _ qb 1 _)⟩⟩
    · have HE := Lib.hid (Rf.cut (off' := off + 1) (cap' := cap - 1) hs' hcount hcw HB (Or.inl rfl) (by omega) (by have := HM.out; unfold maxLen at this ⊢; omega))
      have HS := Lib.hid hs; have HT := Lib.hid ht; have HF := Lib.hid (hfoot (off + 1) (cap - 1)); clear hs h hcount ht hcw hfoot hs'
      go_enter Tryz.func52, Tryz.ntmps52
      go_wp2
      all_goals
        go_ret
        exact ⟨ret_int (by rw [fateOf, HS.out]; rfl), ⟨_, _, HE.out, fun k hk => Or.inl (HF.out k hk), HT.out.trans (turn_head _ qb 1 _)⟩⟩
end Go.Proofs.YtkdidinekoaobaaGreatDoor.M

/- Rows of objects: appended to; all but one; one more in its place. -/
namespace Go.Proofs.YtkdidinekoaobaaGreatDoor.M
open Go.RowKit
set_option linter.unusedVariables false

theorem infoObj : (Tryz.prog.info? 116).map (fun i => (i.zero, i.size, i.bytes)) = some (some (.agg #[.string ⟨#[]⟩, .string ⟨#[]⟩]), 2, 32) := by kernel_rfl

/-- Objs are appended to a row of files that the program owns. -/
theorem run_append_objs {B : Nat} {v : Value} {l : List Ob} {w : World} (h : Objs w B v l) (x : Value) (b : List Ob) (hs : Src Tryz.prog 2 27 x b.length (oflat b) w) (hb : l.length + b.length ≤ 1099511627776) (hB : B ≤ w.heap.size) (ty : TypeId) :
    ∃ v' w', (Builtin.append_ #[27, 27] ty #[v, x]).run Tryz.prog w = .ok v' w' ∧ Objs w' B v' (l ++ b) ∧ w.grownBy w' v.ownBlock ∧ (v'.ownBlock = v.ownBlock ∨ v'.ownBlock = some w.heap.size) := by
  obtain ⟨i0, hi, hz0, hz1, hz2⟩ := info_parts infoObj
  have hsrc : Src Tryz.prog i0.size 27 x b.length (oflat b) w := by rw [hz1]; exact hs
  have hlen : (l ++ b).length = l.length + b.length := List.length_append
  have hz : ∀ k, (Builtin.zeroCells (Value.agg #[.string ⟨#[]⟩, .string ⟨#[]⟩]).cells k).size = k * 2 := fun k => by rw [size_zeroCells]; simp [Value.cells]
  have grow : ∀ (base : Option Addr) (cap : Nat), cap < l.length + b.length → (Builtin.firstCells i0.size l.length (.slice base l.length cap)).run Tryz.prog w.drew = .ok (oflat l).toArray w.drew →
      v = .slice base l.length cap → ∃ v' w', (Builtin.append_ #[27, 27] ty #[v, x]).run Tryz.prog w = .ok v' w' ∧ Objs w' B v' (l ++ b) ∧ w.grownBy w' v.ownBlock ∧ (v'.ownBlock = v.ownBlock ∨ v'.ownBlock = some w.heap.size) := by
    intro base cap hcap hold hv
    have hr := run_append_grow_src (P := Tryz.prog) w 27 27 ty 116 i0 _ Tryz.underlying27 hi hz0 base l.length cap (oflat l) hold x b.length (oflat b) hsrc hcap (by omega)
      (growslice_fits (by omega) (by rw [hz2]; omega))
    have hge := grownCap_ge w (l.length + b.length) cap 116
    have hgm := grownCap_le_maxLen w (l.length + b.length) cap 116 (by unfold maxLen; omega)
    refine ⟨_, _, by rw [hv]; exact hr, ?_, (grown_drewN 1 w _).trans (World.grownBy_alloc _ _ _), Or.inr rfl⟩
    refine ⟨by rw [oflat_len], Or.inr ⟨w.heap.size, _, _, by rw [hlen], hB, heap_alloc_new _ _, by rw [hlen]; exact hge, hgm, ?_, ?_⟩⟩
    · simp only [Array.size_append, List.size_toArray, List.length_append, oflat_len, hz]
      omega
    · rw [hlen, oflat_append]
      have : (oflat l ++ oflat b).length = (l.length + b.length) * 2 := by rw [List.length_append, oflat_len, oflat_len]; omega
      rw [← this]
      simp only [Array.toList_append]
      exact List.take_left
  rcases objs_cases h with ⟨rfl, rfl⟩ | ⟨g, cap, cur, rfl, hBg, hgl, hg, hcap, hcm, hsz, hcell, hfz⟩
  · by_cases hb0 : b = []
    · subst hb0
      have hr := run_append_nothing w 27 27 ty 116 i0 Tryz.underlying27 hi none 0 0 (Nat.le_refl _) x hsrc
      exact ⟨_, _, hr, World.ownsRow_nil _ _ _ _, ⟨rfl, rfl, rfl, Nat.le_refl _, fun _ _ _ => rfl⟩, Or.inl rfl⟩
    · have hbp : 0 < b.length := List.length_pos_iff.2 hb0
      exact grow none 0 (by simpa using hbp) (by rw [hz1]; exact run_firstCells_none w.drew 2 0 0 0) rfl
  · by_cases hroom : l.length + b.length ≤ cap
    · have hsome : ∀ j, j < cap * 2 → (w.cell? ⟨g, j, none⟩).isSome = true := fun j hj => by
        rw [cell_of_row w g j cur _ (0, 0) hg, Array.getElem?_eq_getElem (by omega)]; rfl
      have hr := run_append_room_src (P := Tryz.prog) w 27 27 ty 116 i0 Tryz.underlying27 hi g 0 l.length cap x b.length (oflat b) hsrc hroom
        (fun j hj => by rw [hz1, Nat.zero_add]; rw [oflat_len] at hj; exact hsome _ (by omega)) (fun j _ => by rw [Nat.zero_add]; exact hfz _)
      rw [hz1, Nat.zero_add] at hr
      obtain ⟨cur1, k1, k2, k3⟩ := block_setCells g 116 (oflat b) (l.length * 2) w cur hg (by rw [oflat_len]; omega)
      refine ⟨_, _, hr, ?_, grown_setCells g _ _ _, Or.inl rfl⟩
      refine ⟨by rw [oflat_len], Or.inr ⟨g, cap, cur1, by rw [hlen], hBg, k1, by rw [hlen]; exact hroom, hcm, by omega, ?_⟩⟩
      apply List.ext_getElem?
      intro j
      rw [List.getElem?_take, hlen]
      by_cases hj : j < (l.length + b.length) * 2
      · rw [if_pos hj, oflat_append, Array.getElem?_toList, k3 j, oflat_len]
        by_cases hj2 : j < l.length * 2
        · have := hcell j hj2
          rw [cell_of_row w g j cur _ (0, 0) hg] at this
          rw [if_neg (by omega), List.getElem?_append_left (by rw [oflat_len]; omega), this]
        · rw [if_pos (by omega), List.getElem?_append_right (by rw [oflat_len]; omega), oflat_len]
      · rw [if_neg hj, List.getElem?_eq_none (by rw [oflat_len, hlen]; omega)]
    · refine grow _ cap (by omega) ?_ rfl
      rw [hz1]
      refine run_firstCells_some w.drew 2 l.length ⟨g, 0, none⟩ l.length cap (oflat l) (by rw [oflat_len]) (fun j u hu => ?_)
      have hj : j < l.length * 2 := by rw [← oflat_len l]; exact (List.getElem?_eq_some_iff.1 hu).1
      rw [Addr.add_lit, Nat.zero_add]
      show w.cell? _ = _
      rw [hcell j hj, hu]

/-- A source: one file that lies in a block of its own. -/
theorem src_ob (f : Ob) (w : World) (b : Nat) (hb : w.heap[b]? = some (.cells #[.string (bs f.nm), .string (bs f.bt)] 116 (0, 0))) :
    Src Tryz.prog 2 27 (.slice (some ⟨b, 0, none⟩) 1 1) [f].length (oflat [f]) w :=
  Src.ofSlice w Tryz.underlying27 ⟨b, 0, none⟩ 1 1 (oflat [f]) rfl (fun j u hu => by
    rw [Addr.add_lit, Nat.zero_add, cell_of_row w b j _ _ (0, 0) hb]
    simpa [oflat] using hu) (oflat_one _)

/-- .. or a piece of another row. -/
theorem src_obs {w : World} {B : Nat} {v : Value} {l : List Ob} (h : Objs w B v l) (i : Nat) (hi : i ≤ l.length) :
    ∃ a cap, v = .slice a l.length cap ∧ l.length ≤ cap ∧
      (∀ W, (Instr.slice 27 v none (some (.int .i64 (i : Int))) none).run Tryz.prog W = .ok (.slice a i cap) W) ∧
      (∃ A c, (∀ W, (Instr.slice 27 v (some (.int .i64 (i : Int))) none none).run Tryz.prog W = .ok (.slice A (l.length - i) c) W) ∧
        (∀ W, (∀ g, v.ownBlock = some g → W.heap[g]? = w.heap[g]?) → Src Tryz.prog 2 27 (.slice A (l.length - i) c) (l.drop i).length (oflat (l.drop i)) W)) ∧
      (∀ W, (∀ g, v.ownBlock = some g → W.heap[g]? = w.heap[g]?) → Src Tryz.prog 2 27 (.slice a i cap) (l.take i).length (oflat (l.take i)) W) := by
  have hsz : ∀ W : World, (Go.sizeOf (Tryz.prog.elem 27)).run Tryz.prog W = .ok 2 W := fun W => by kernel_rfl
  rcases objs_cases h with ⟨rfl, rfl⟩ | ⟨g, cap, cur, rfl, hBg, hgl, hg, hcap, hcm, hcs, hcell, hfz⟩
  · have hi0 : i = 0 := by simpa using hi
    subst hi0
    refine ⟨none, 0, rfl, Nat.le_refl _, fun W => ?_, ⟨none, 0, fun W => ?_, fun W _ => Src.ofNil W Tryz.underlying27 0⟩, fun W _ => Src.ofNil W Tryz.underlying27 0⟩
    · rw [run_slice_h (P := Tryz.prog) (t := 27) (ht := by kernel_rfl) (kh := .i64) (h := ((0 : Nat) : Int)) (h0 := by omega) (h2 := by omega), hsz]
      simp [Result.andThen, sliced]
    · rw [run_slice_l (P := Tryz.prog) (t := 27) (ht := by kernel_rfl) (kl := .i64) (l := ((0 : Nat) : Int)) (h0 := by omega) (h1 := by simp), hsz]
      simp [Result.andThen, sliced]
  · refine ⟨some ⟨g, 0, none⟩, cap, rfl, hcap, fun W => ?_, ⟨(if cap = i then some ⟨g, 0, none⟩ else some ⟨g, i * 2, none⟩), cap - i, fun W => ?_, fun W hW => ?_⟩, fun W hW => ?_⟩
    · rw [run_slice_h (P := Tryz.prog) (t := 27) (ht := by kernel_rfl) (kh := .i64) (h := (i : Int)) (h0 := by omega) (h2 := by omega), hsz]
      simp only [Result.andThen, sliced, Int.toNat_natCast, Nat.sub_zero, Nat.zero_mul]
      by_cases h0 : cap = 0
      · simp [h0]
      · rw [if_neg h0]; simp [Addr.add]
    · rw [run_slice_l (P := Tryz.prog) (t := 27) (ht := by kernel_rfl) (kl := .i64) (l := (i : Int)) (h0 := by omega) (h1 := by omega), hsz]
      simp only [Result.andThen, sliced, Int.toNat_natCast]
      by_cases h0 : cap = i
      · rw [if_pos h0, if_pos h0]
      · rw [if_neg h0, if_neg h0]
        simp only [Option.map_some, Addr.add_lit, Nat.zero_add]
    · have hdl : (l.drop i).length = l.length - i := List.length_drop
      have key : ∀ A : Addr, (∀ t, t < (l.length - i) * 2 → A.add t = ⟨g, i * 2 + t, none⟩) → Src Tryz.prog 2 27 (.slice (some A) (l.length - i) (cap - i)) (l.drop i).length (oflat (l.drop i)) W := fun A hA => by
        rw [hdl]
        refine Src.ofSlice W Tryz.underlying27 A _ _ _ (by rw [oflat_len, hdl]) (fun j u hu => ?_) (oflat_one _)
        have hj : j < (l.length - i) * 2 := by rw [← hdl, ← oflat_len]; exact (List.getElem?_eq_some_iff.1 hu).1
        rw [hA j hj]
        have e : W.cell? ⟨g, i * 2 + j, none⟩ = w.cell? ⟨g, i * 2 + j, none⟩ := World.cell?_of_block (w := w) (hW g rfl)
        rw [e, hcell _ (by omega)]
        rw [oflat_drop, List.getElem?_drop] at hu
        exact hu
      by_cases h0 : cap = i
      · rw [if_pos h0]
        exact key _ (fun t ht => by omega)
      · rw [if_neg h0]
        exact key _ (fun t _ => by rw [Addr.add_lit])
    · have htl : (l.take i).length = i := by rw [List.length_take]; omega
      have hx : ∀ n, n = i → Src Tryz.prog 2 27 (.slice (some ⟨g, 0, none⟩) i cap) n (oflat (l.take i)) W := fun n hn => by
        subst hn
        refine Src.ofSlice W Tryz.underlying27 ⟨g, 0, none⟩ _ _ _ (by rw [oflat_len, htl]) (fun j u hu => ?_) (oflat_one _)
        have hj : j < n * 2 := by
          have := (List.getElem?_eq_some_iff.1 hu).1
          rw [oflat_len, htl] at this; exact this
        rw [Addr.add_lit, Nat.zero_add]
        have e : W.cell? ⟨g, j, none⟩ = w.cell? ⟨g, j, none⟩ := World.cell?_of_block (w := w) (hW g rfl)
        rw [e, hcell _ (by omega)]
        rw [oflat_take, List.getElem?_take, if_pos hj] at hu
        exact hu
      exact hx _ htl
end Go.Proofs.YtkdidinekoaobaaGreatDoor.M

/- The document's remote: an object goes; an object is laid. -/
namespace Go.Proofs.YtkdidinekoaobaaGreatDoor.M
open Go.RowKit
set_option linter.unusedVariables false
set_option maxRecDepth 100000

theorem owo_snoc (l : List Ob) (f : Ob) (n : List UInt8) : wo Ob.nm (l ++ [f]) n = if f.nm = n then wo Ob.nm l n else wo Ob.nm l n ++ [f] := by
  unfold wo
  rw [List.filter_append]
  by_cases h : f.nm = n <;> simp [h]

/-- An append of objects as one step of a region that draws its order. -/
theorem step_append_objs {ops : Array Oper} {o : Oper} {a : Act} {w : World} {K : Act → World → Prop} {Q : Exit → Act → World → Prop} {E : Prop} (hgd : o.guard = none) (s x : Operand)
    (ho : o.op = .call { callee := .builtin .append, args := #[s, x], argTypes := #[27, 27] }) (B : Nat) (v : Value) (l : List Ob) (hs : a.eval s = v) (hown : Objs w B v l) (xv : Value) (b : List Ob) (hx : a.eval x = xv)
    (hsrc : Src Tryz.prog 2 27 xv b.length (oflat b) w) (hb : l.length + b.length ≤ 1099511627776) (hB : B ≤ w.heap.size)
    (h : ∀ a' n' c' w', Objs w' B (.slice a' n' c') (l ++ b) → Below B w w' → w.grownBy w' v.ownBlock → K (a.put o.dst (.slice a' n' c')) w') :
    if Region.wanted o (yielded ops a.tmps) = true then Oper.wp Tryz.prog o a w K Q else E := by
  have hw : Region.wanted o (yielded ops a.tmps) = true := by simp [Region.wanted, hgd]
  rw [if_pos hw]
  obtain ⟨v', w', q1, q2, q3, q4⟩ := run_append_objs hown xv b hsrc hb hB o.type
  obtain ⟨a', c', rfl⟩ := objs_form q2
  unfold Oper.wp execOp
  simp only [ho, resolve, invoke, builtin, Sem.run_bind, Sem.run_pure, Result.andThen_ok, List.map_toArray, List.map_cons, List.map_nil, hs, hx, q1]
  exact h a' _ c' w' q2 ((Below.refl B w).grown q3 hB (fun k hk => (hown.lt k hk).1)) q3

theorem Objs.alloc {w : World} {B : Nat} {v : Value} {l : List Ob} (h : Objs w B v l) (o : Obj) : Objs (w.alloc o) B v l := World.ownsRow.alloc h o
theorem objs_base {w : World} {B B' : Nat} {v : Value} {l : List Ob} (h : Objs w B v l) (hB : B' ≤ B) : Objs w B' v l := by
  obtain ⟨h1, h2⟩ := h
  refine ⟨h1, h2.imp id ?_⟩
  rintro ⟨g, cap, cur, hv, hb, r⟩
  exact ⟨g, cap, cur, hv, Nat.le_trans hB hb, r⟩
theorem Objs.drew {w : World} {B : Nat} {v : Value} {l : List Ob} (h : Objs w B v l) : Objs w.drew B v l := h
theorem objs_empty {w : World} {B b : Nat} (hB : B ≤ b) (hb : w.heap[b]? = some (.cells #[] 116 (0, 0))) : Objs w B (.slice (some ⟨b, 0, none⟩) 0 0) [] :=
  ⟨rfl, Or.inr ⟨b, 0, #[], rfl, hB, hb, Nat.le_refl _, by unfold maxLen; omega, rfl, rfl⟩⟩
theorem heap2_new (w : World) (o1 o2 : Obj) : ((w.alloc o1).alloc o2).heap[w.heap.size + 1]? = some o2 := by
  have := heap_alloc_new (w.alloc o1) o2
  simpa using this
theorem heap2_old (w : World) (o1 o2 : Obj) : ((w.alloc o1).alloc o2).heap[w.heap.size]? = some o1 := by
  rw [Below.heap_alloc _ _ _ (by simp)]
  exact heap_alloc_new w o1

/-- What was there when the call had laid its file is as it was. -/
def Elder (w1 W : World) : Prop := Below w1.heap.size w1 W
theorem Elder.refl (w1 : World) : Elder w1 w1 := Below.refl _ _
theorem Elder.alloc {w1 W : World} (h : Elder w1 W) (o : Obj) : Elder w1 (W.alloc o) := Below.alloc h h.size o
theorem Elder.drew {w1 W : World} (h : Elder w1 W) : Elder w1 W.drew := Below.drew h
theorem Elder.drewN {w1 W : World} (h : Elder w1 W) (q : Nat) : Elder w1 (W.drewN q) := ⟨h.os, h.tape, h.output, h.size, h.block⟩
theorem Elder.below {w1 W W' : World} (h : Elder w1 W) (k : Below w1.heap.size W W') : Elder w1 W' := Below.trans h k

/-- How many files stand ahead. -/
theorem pos_step {l : List Ob} {n : List UInt8} {i : Nat} {f : Ob} (hi : l[i]? = some f) (hu : Up Ob.nm l) : (i < pos Ob.nm l n ↔ lt f.nm n = true ∧ i ≤ pos Ob.nm l n) := by
  constructor
  · intro h
    exact ⟨pos_before (k := Ob.nm) h hi, by omega⟩
  · rintro ⟨h1, h2⟩
    rcases Nat.lt_or_ge i (pos Ob.nm l n) with h | h
    · exact h
    · have := pos_behind (k := Ob.nm) hu h hi
      rw [h1] at this; cases this

set_option maxHeartbeats 1000000 in
theorem without_any {B qb : Nat} {lv sv : Value} {S : Rs} {w : World} (h : Rf B w qb lv sv S) (n : List UInt8) (hcs : S.obs.length < 1000000000) :
    Calls Tryz.prog 55 #[.pointer (some ⟨qb, 0, none⟩), .string (bs n)] w fun e w' => e = .returned (.tuple #[]) ∧ RfStep B qb lv sv w { S with obs := wo Ob.nm S.obs n } w' := by
  obtain ⟨c1, c2, c3, fz⟩ := h.cells
  have fz0 := fz 0
  clear fz
  have hok := ok_wo h.ok n
  obtain ⟨a, cap, hv⟩ := objs_form h.row
  obtain ⟨L, hL⟩ : ∃ L, L = S.obs.length := ⟨_, rfl⟩
  have hrow := h.row
  have hq := (h.lt (Or.inl rfl)).2
  have HH := Lib.hid h
  rw [hv] at hrow c1
  rw [← hL] at hrow c1 hcs
  have HL := Lib.hid hL; have HR := Lib.hid hrow
  clear hL hrow h
  subst hv
  go_enter Tryz.func55, Tryz.ntmps55
  go_wp2
  go_loopg [4, 5] L (fun g s it wr => ∃ (i : Nat) (u : Value), i + g = L ∧ it = .int .i64 i ∧ u = s ∧ Objs wr w.heap.size u (wo Ob.nm (S.obs.take i) n) ∧ Below w.heap.size w wr)
  case atStart => exact ⟨0, _, by omega, rfl, rfl, World.ownsRow_nil _ _ _ _, Below.refl _ _⟩
  case round =>
    obtain ⟨i, u, hi, rfl, rfl, hown, hbw⟩ := hrel
    rw [← hbw.cell (p := ⟨qb, 0, none⟩) hq] at c1
    by_cases hlt : i < L
    · obtain ⟨f, hf⟩ : ∃ f, S.obs[i]? = some f := ⟨S.obs[i]'(by have := HL.out; omega), List.getElem?_eq_getElem _⟩
      obtain ⟨g, hg, _, hgl, d0, d1⟩ := objs_at HR.out hf
      subst hg
      rw [← hbw.cell (p := ⟨g, _, none⟩) hgl] at d0 d1
      have htk : wo Ob.nm (S.obs.take (i + 1)) n = if f.nm = n then wo Ob.nm (S.obs.take i) n else wo Ob.nm (S.obs.take i) n ++ [f] := by rw [List.take_add_one, hf]; exact owo_snoc _ _ _
      have hml : (wo Ob.nm (S.obs.take i) n).length ≤ i := Nat.le_trans (List.length_filter_le _ _) (List.length_take_le _ _)
      have hbz := hbw.size
      have HBW := Lib.hid hbw
      clear hf
      by_cases hn : f.nm = n
      · have heq : ((bs f.nm).toList == (bs n).toList) = true := by rw [bs_toList, bs_toList, hn]; simp
        rw [if_pos hn] at htk
        have HT := Lib.hid htk; have HO := Lib.hid hown; clear htk hown hn
        go_wp2
        go_roundg (gk - 1)
        case measure => omega
        case rel => exact ⟨i + 1, _, by omega, by go_num, rfl, by rw [HT.out]; exact HO.out, hbw⟩
      · have heq : ((bs f.nm).toList == (bs n).toList) = false := by rw [bs_toList, bs_toList]; simpa using hn
        rw [if_neg hn] at htk
        have HT := Lib.hid htk; clear htk hn
        obtain ⟨v', w1, hrun, hown', hgrow, hloc⟩ : ∃ v' w1, (∀ ty, (Builtin.append_ #[27, 27] ty #[u, .slice (some ⟨wr.heap.size, 0, none⟩) 1 1]).run Tryz.prog (wr.alloc (.cells #[.string (bs f.nm), .string (bs f.bt)] 116)) = .ok v' w1) ∧
            Objs w1 w.heap.size v' (wo Ob.nm (S.obs.take i) n ++ [f]) ∧ (wr.alloc (.cells #[.string (bs f.nm), .string (bs f.bt)] 116)).grownBy w1 u.ownBlock ∧ True := by
          obtain ⟨v', w1, q1, q2, q3, q4⟩ := run_append_objs (hown.alloc (.cells #[.string (bs f.nm), .string (bs f.bt)] 116)) (.slice (some ⟨wr.heap.size, 0, none⟩) 1 1) [f] (src_ob f _ wr.heap.size (heap_alloc_new wr _)) (by simp; omega) (by simp; omega) 0
          exact ⟨v', w1, fun _ => q1, q2, q3, trivial⟩
        have HO := Lib.hid hown; have HRUN := Lib.hid hrun; have HO' := Lib.hid hown'; have HG := Lib.hid hgrow
        clear hown hrun hown' hgrow
        go_wp2_with (first
          | (at_builtin; refine wpList_append_run _ rfl _ _ _ _ rfl _ _ rfl rfl _ _ HRUN.out ?_)
          | fail)
        go_roundg (gk - 1)
        case measure => omega
        case rel =>
          refine ⟨i + 1, _, by omega, by go_num, rfl, by rw [HT.out]; exact HO'.out, Below.grown (HBW.out.alloc hbz _) HG.out (by simp; omega) (fun j hj => (HO.out.lt _ hj).1)⟩
    · obtain rfl : i = L := by omega
      have hall : S.obs.take i = S.obs := List.take_of_length_le (by rw [HL.out]; exact Nat.le_refl _)
      rw [hall] at hown
      clear hall
      obtain ⟨ua, uc, hu⟩ := objs_form hown
      obtain ⟨M, hM⟩ : ∃ M, M = (wo Ob.nm S.obs n).length := ⟨_, rfl⟩
      rw [← hM] at hu
      subst hu
      have hq2 : qb < wr.heap.size := Nat.lt_of_lt_of_le hq hbw.size
      have fr : wr.frozen? ⟨qb, 0, none⟩ = false := by rw [hbw.frozen (p := ⟨qb, 0, none⟩) hq]; exact fz0
      have h2 : Rf B wr qb (.slice a S.obs.length cap) sv S := HH.out.below hbw
      have ht := turn_head wr qb 0 (.slice ua M uc)
      have hne : ∀ g, (Value.slice ua M uc).ownBlock = some g → g ≠ qb := fun g hg e => by have := (hown.lt g hg).1; omega
      have hend : RfStep B qb (.slice a S.obs.length cap) sv w { S with obs := wo Ob.nm S.obs n } (wr.setCell ⟨qb, 0, none⟩ (.slice ua M uc)) :=
        ⟨_, _, h2.head (S' := { S with obs := wo Ob.nm S.obs n }) ht (h2.setAt 0 _) (owns_kept (objs_base hown HH.out.base.2.2) (fun g hg => Below.heap_setCell _ _ _ _ (hne g hg))) (fun e => hne qb e rfl) (h2.script.setOwn 0 _) hok,
          fun k hk => by
            rcases hk with hk | hk | hk
            · exact Or.inl (Or.inl hk)
            · exact Or.inr (hown.lt k hk).1
            · exact Or.inl (Or.inr (Or.inr hk)), (Turn.of_below _ hbw (Nat.le_refl _)).trans ht⟩
      have HE := Lib.hid hend
      clear hown hM hend ht h2 hne
      go_wp2
      go_end0
      exact ⟨rfl, HE.out⟩

end Go.Proofs.YtkdidinekoaobaaGreatDoor.M

/- The document's remote: an object is laid. -/
namespace Go.Proofs.YtkdidinekoaobaaGreatDoor.M
open Go.RowKit
set_option linter.unusedVariables false
set_option linter.unusedSimpArgs false
set_option maxRecDepth 100000

/-- A row of objects has been laid behind the remote that is there. -/
theorem RfStep.laid {B qb : Nat} {lv sv lv1 sv1 : Value} {S S1 : Rs} {w w1 w5 : World} {l : List Ob} {a : Option Addr} {k c : Nat} (hs : (∀ k, rfoot qb lv1 sv1 k → rfoot qb lv sv k ∨ w.heap.size ≤ k) ∧ Turn (fun k => k = qb) w w1) (h1 : Rf B w1 qb lv1 sv1 S1) (hb : Below w1.heap.size w1 w5) (hf : Objs w5 w1.heap.size (.slice a k c) l)
    (hok : Ok { S1 with obs := l }) : RfStep B qb lv sv w { S1 with obs := l } (w5.setCell ⟨qb, 0, none⟩ (.slice a k c)) := by
  have h5 := h1.below hb
  have ht := turn_head w5 qb 0 (.slice a k c)
  have hq := (h1.lt (Or.inl rfl)).2
  have hne : ∀ g, (Value.slice a k c).ownBlock = some g → g ≠ qb := fun g hg e => by have := (hf.lt g hg).1; omega
  refine ⟨_, _, h5.head (S' := { S1 with obs := l }) ht (h5.setAt 0 _) (owns_kept (objs_base hf h1.base.2.2) (fun g hg => Below.heap_setCell _ _ _ _ (hne g hg))) (fun e => hne qb e rfl) (h5.script.setOwn 0 _) hok, fun k hk => ?_, hs.2.trans ((Turn.of_below _ hb (Nat.le_refl _)).trans ht)⟩
  rcases hk with hk | hk | hk
  · exact Or.inl (Or.inl hk)
  · exact Or.inr (Nat.le_trans hs.2.size (hf.lt k hk).1)
  · exact hs.1 k (Or.inr (Or.inr hk))

set_option maxHeartbeats 4000000 in
theorem lay_any {B qb : Nat} {lv sv : Value} {S : Rs} {w : World} (h : Rf B w qb lv sv S) (n b : List UInt8) (hn : n.length ≤ 9223372036854775807) (hcs : S.obs.length < 1000000000) :
    Calls Tryz.prog 53 #[.pointer (some ⟨qb, 0, none⟩), .string (bs n), .string (bs b)] w fun e w' => e = .returned (.tuple #[]) ∧ RfStep B qb lv sv w { S with obs := lays S.obs n b } w' := by
  have hokl := ok_lays (b := b) h.ok hn hcs
  have hwo := Lib.hid (without_any h n hcs)
  have hwl : (wo Ob.nm S.obs n).length ≤ S.obs.length := List.length_filter_le _ _
  obtain ⟨S1, hS1⟩ : ∃ S1, S1 = ({ S with obs := wo Ob.nm S.obs n } : Rs) := ⟨_, rfl⟩
  have hSo : S1.obs = wo Ob.nm S.obs n := by rw [hS1]
  have hlay : ({ S with obs := lays S.obs n b } : Rs) = { S1 with obs := S1.obs.take (pos Ob.nm S1.obs n) ++ [⟨n, b⟩] ++ S1.obs.drop (pos Ob.nm S1.obs n) } := by
    have := ins_at (k := Ob.nm) S1.obs ⟨n, b⟩
    rw [lays, ← hSo, this, hS1]
  rw [hlay] at hokl ⊢
  rw [← hSo] at hwl
  have hple := pos_le (k := Ob.nm) S1.obs n
  obtain ⟨p, hp⟩ : ∃ p, p = pos Ob.nm S1.obs n := ⟨_, rfl⟩
  rw [← hp] at hple hokl ⊢
  rw [← hS1] at hwo
  clear h hlay hSo hS1
  have HP := Lib.hid hp; have HOK := Lib.hid hokl
  clear hp hokl
  go_enter Tryz.func53, Tryz.ntmps53
  go_wp2_with fail
  refine hwo.out.mono ?_
  rintro e w1 ⟨rfl, lv1, sv1, h1, f1, t1⟩
  clear hwo
  have hu := h1.ok.up
  obtain ⟨la, lc, hlv, hlc, hcut, ⟨A, c, htail, hsrc2⟩, hsrc1⟩ := src_obs h1.row p hple
  obtain ⟨L, hL⟩ : ∃ L, L = S1.obs.length := ⟨_, rfl⟩
  rw [← hL] at hlv hlc htail hsrc2 hple hwl
  have hrow := h1.row
  have hlt := h1.row.lt
  have hcells := h1.cells
  subst hlv
  have hlw : ∀ W, Elder w1 W → ∀ k, (Value.slice la L lc).ownBlock = some k → W.heap[k]? = w1.heap[k]? := fun W hW k hk => hW.block k (hlt k hk).2
  obtain ⟨c0, _, _, _⟩ := hcells
  have HT := Lib.hid (And.intro f1 t1)
  have HL := Lib.hid hL; have HR := Lib.hid hrow; have HU := Lib.hid hu; have HS1 := Lib.hid hsrc1; have HS2 := Lib.hid hsrc2; have HLW := Lib.hid hlw
  clear hL hrow hu hsrc1 hsrc2 hlt hlw f1 t1
  go_wp2_with fail
  go_loopg [6] p (fun g it wr => ∃ i : Nat, i + g = p ∧ it = .int .i64 i ∧ w1 = wr)
  case atStart => exact ⟨0, by omega, rfl, rfl⟩
  case round =>
    obtain ⟨i, hi, rfl, rfl⟩ := hrel
    by_cases hiL : i < L
    · obtain ⟨x, hx⟩ : ∃ x, S1.obs[i]? = some x := ⟨S1.obs[i]'(by have := HL.out; omega), List.getElem?_eq_getElem _⟩
      obtain ⟨g, hg, _, hgl, d0, d1⟩ := objs_at HR.out hx
      subst hg
      by_cases hip : i < p
      · have hlt : lt x.nm n = true := pos_before (k := Ob.nm) (by rw [← HP.out]; exact hip) hx
        have hbl : Op.bytesLess (bs x.nm).toList (bs n).toList = true := by rw [bs_toList, bs_toList]; exact hlt
        have HX := Lib.hid hx; clear hx hlt
        go_wp2
        go_roundg (gk - 1)
        case measure => omega
        case rel => exact ⟨i + 1, by omega, by go_num, rfl⟩
      · obtain rfl : i = p := by omega
        have hlt : lt x.nm n = false := pos_behind (k := Ob.nm) HU.out (by rw [← HP.out]; exact Nat.le_refl _) hx
        have hbl : Op.bytesLess (bs x.nm).toList (bs n).toList = false := by rw [bs_toList, bs_toList]; exact hlt
        have HX := Lib.hid hx; clear hx hlt
        go_wp2
        clear d0 d1 c0
        have hq2 := (h1.lt (Or.inl rfl)).2
        obtain ⟨q0, q1, q2, qz⟩ := h1.cells
        have hQ0 : ∀ W, Elder w1 W → W.cell? ⟨qb, 0, none⟩ = some (Value.slice (some ⟨g, 0, none⟩) L lc) := fun W hW => by rw [Below.cell (p := ⟨qb, 0, none⟩) hW hq2]; exact q0
        have hQf : ∀ W, Elder w1 W → W.frozen? ⟨qb, 0, none⟩ = false := fun W hW => by rw [Below.frozen (p := ⟨qb, 0, none⟩) hW hq2]; exact qz 0
        have K0 : Elder w1 w1 := Elder.refl _
        have hl9 : S1.obs.length ≤ 1000000000 := by have := HL.out; omega
        have HQ0 := Lib.hid hQ0; have HQf := Lib.hid hQf; have H1 := Lib.hid h1
        clear q1 q2 qz h1 hQf
        refine wp_region_last (S := Elder w1) (k := 23) (by kernel_rfl) rfl (by kernel_rfl) (by kernel_rfl) (by kernel_rfl) ?_
        have hHeld : Elder w1 w1.drew := K0.drew
        refine wpAnyH_take (i := 0) (v := ?_) rfl (by kernel_rfl) (by kernel_rfl) (by kernel_rfl) (fun _ _ _ h => h) (Or.inl ⟨by rfl, ?_⟩) hHeld ?_
        rotate_left
        · intro W hSw
          go_simp
          try with_reducible rfl
        try simp only [Act.put, List.setIfInBounds_toArray, List.set_cons_zero, List.set_cons_succ]
        refine wpAnyH_take (i := 2) (v := ?_) rfl (by kernel_rfl) (by kernel_rfl) (by kernel_rfl) (fun _ _ _ h => h) (Or.inl ⟨by rfl, ?_⟩) hHeld ?_
        rotate_left
        · intro W hSw
          go_simp
          try with_reducible rfl
        try simp only [Act.put, List.setIfInBounds_toArray, List.set_cons_zero, List.set_cons_succ]
        refine wpAnyH_take (i := 3) (v := ?_) rfl (by kernel_rfl) (by kernel_rfl) (by kernel_rfl) (fun _ _ _ h => h) (Or.inl ⟨by rfl, ?_⟩) hHeld ?_
        rotate_left
        · intro W hSw
          go_simp
          try with_reducible rfl
        try simp only [Act.put, List.setIfInBounds_toArray, List.set_cons_zero, List.set_cons_succ]
        refine wpAnyH_take (i := 4) (v := ?_) rfl (by kernel_rfl) (by kernel_rfl) (by kernel_rfl) (fun _ _ _ h => h) (Or.inl ⟨by rfl, ?_⟩) hHeld ?_
        rotate_left
        · intro W hSw
          go_simp
          try with_reducible rfl
        try simp only [Act.put, List.setIfInBounds_toArray, List.set_cons_zero, List.set_cons_succ]
        refine wpAnyH_take (i := 5) (v := ?_) rfl (by kernel_rfl) (by kernel_rfl) (by kernel_rfl) (fun _ _ _ h => h) (Or.inl ⟨by rfl, ?_⟩) hHeld ?_
        rotate_left
        · intro W hSw
          go_simp
          try with_reducible rfl
        try simp only [Act.put, List.setIfInBounds_toArray, List.set_cons_zero, List.set_cons_succ]
        refine wpAnyH_take (i := 6) (v := ?_) rfl (by kernel_rfl) (by kernel_rfl) (by kernel_rfl) (fun _ _ _ h => h) (Or.inl ⟨by rfl, ?_⟩) hHeld ?_
        rotate_left
        · intro W hSw
          go_simp
          try with_reducible rfl
        try simp only [Act.put, List.setIfInBounds_toArray, List.set_cons_zero, List.set_cons_succ]
        refine wpAnyH_take (i := 7) (v := ?_) rfl (by kernel_rfl) (by kernel_rfl) (by kernel_rfl) (fun _ _ _ h => h) (Or.inl ⟨by rfl, ?_⟩) hHeld ?_
        rotate_left
        · intro W hSw
          go_simp
          try with_reducible rfl
        try simp only [Act.put, List.setIfInBounds_toArray, List.set_cons_zero, List.set_cons_succ]
        refine wpAnyH_take (i := 9) (v := ?_) rfl (by kernel_rfl) (by kernel_rfl) (by kernel_rfl) (fun _ _ _ h => h) (Or.inl ⟨by rfl, ?_⟩) hHeld ?_
        rotate_left
        · intro W hSw
          go_simp
          try with_reducible rfl
        try simp only [Act.put, List.setIfInBounds_toArray, List.set_cons_zero, List.set_cons_succ]
        refine wpAnyH_take (i := 10) (v := ?_) rfl (by kernel_rfl) (by kernel_rfl) (by kernel_rfl) (fun _ _ _ h => h) (Or.inl ⟨by rfl, ?_⟩) hHeld ?_
        rotate_left
        · intro W hSw
          go_simp
          try with_reducible rfl
        try simp only [Act.put, List.setIfInBounds_toArray, List.set_cons_zero, List.set_cons_succ]
        refine wpAnyH_take (i := 11) (v := ?_) rfl (by kernel_rfl) (by kernel_rfl) (by kernel_rfl) (fun _ _ _ h => h) (Or.inl ⟨by rfl, ?_⟩) hHeld ?_
        rotate_left
        · intro W hSw
          go_simp
          try with_reducible rfl
        try simp only [Act.put, List.setIfInBounds_toArray, List.set_cons_zero, List.set_cons_succ]
        refine wpAnyH_take (i := 14) (v := ?_) rfl (by kernel_rfl) (by kernel_rfl) (by kernel_rfl) (fun _ _ _ h => h) (Or.inl ⟨by rfl, ?_⟩) hHeld ?_
        rotate_left
        · intro W hSw
          go_simp
          try with_reducible rfl
        try simp only [Act.put, List.setIfInBounds_toArray, List.set_cons_zero, List.set_cons_succ]
        refine wpAnyH_take (i := 15) (v := ?_) rfl (by kernel_rfl) (by kernel_rfl) (by kernel_rfl) (fun _ _ _ h => h) (Or.inl ⟨by rfl, ?_⟩) hHeld ?_
        rotate_left
        · intro W hSw
          go_simp
          try with_reducible rfl
        try simp only [Act.put, List.setIfInBounds_toArray, List.set_cons_zero, List.set_cons_succ]
        refine wpAnyH_take (i := 16) (v := ?_) rfl (by kernel_rfl) (by kernel_rfl) (by kernel_rfl) (fun _ _ _ h => h) (Or.inl ⟨by rfl, ?_⟩) hHeld ?_
        rotate_left
        · intro W hSw
          go_simp
          try with_reducible rfl
        try simp only [Act.put, List.setIfInBounds_toArray, List.set_cons_zero, List.set_cons_succ]
        refine wpAnyH_take (i := 17) (v := ?_) rfl (by kernel_rfl) (by kernel_rfl) (by kernel_rfl) (fun _ _ _ h => h) (Or.inl ⟨by rfl, ?_⟩) hHeld ?_
        rotate_left
        · intro W hSw
          go_simp
          try with_reducible rfl
        try simp only [Act.put, List.setIfInBounds_toArray, List.set_cons_zero, List.set_cons_succ]
        refine wpAnyH_take (i := 18) (v := ?_) rfl (by kernel_rfl) (by kernel_rfl) (by kernel_rfl) (fun _ _ _ h => h) (Or.inl ⟨by rfl, ?_⟩) hHeld ?_
        rotate_left
        · intro W hSw
          go_simp
          try with_reducible rfl
        try simp only [Act.put, List.setIfInBounds_toArray, List.set_cons_zero, List.set_cons_succ]
        refine wpAnyH_take (i := 19) (v := ?_) rfl (by kernel_rfl) (by kernel_rfl) (by kernel_rfl) (fun _ _ _ h => h) (Or.inl ⟨by rfl, ?_⟩) hHeld ?_
        rotate_left
        · intro W hSw
          go_simp
          try with_reducible rfl
        try simp only [Act.put, List.setIfInBounds_toArray, List.set_cons_zero, List.set_cons_succ]
        refine wpAnyH_ready (rs := [1, 12]) (by kernel_rfl) (by simp) ?_
        refine AllReadyH.cons rfl (fun K hK => ?_) ?_
        · go_simp
          refine hK.out _ _ (by first | assumption | exact K0 | exact K0.drew | exact Elder.drew ‹_› | exact Elder.alloc ‹_› _ | exact (K0.alloc _).drew | exact ((K0.alloc _).alloc _).drew | exact K0.drew.alloc _) (fun hHeld => ?_)
          clear hK K
          try simp only [Act.put, List.setIfInBounds_toArray, List.set_cons_zero, List.set_cons_succ]
          refine wpAnyH_ready (rs := [8, 12]) (by kernel_rfl) (by simp) ?_
          refine AllReadyH.cons rfl (fun K hK => ?_) ?_
          · refine step_append_objs rfl (.tmp 32) (.tmp 38) (by rfl) w1.heap.size _ [] (by rfl) (objs_empty (by omega) (by first | exact heap_alloc_new _ _ | exact heap2_new _ _ _ | exact heap2_old _ _ _)) _ (S1.obs.take i) (by rfl) (HS1.out _ (HLW.out _ (by assumption))) (by rw [List.length_take, List.length_nil]; omega) (by first | (simp; done) | (simp; omega)) ?_
            intro a3 n3 c3 w3 hf3 hb3 hg3
            have hO3 : Elder w1 w3 := Elder.below (by assumption) hb3
            refine hK.out _ _ (by first | assumption | exact K0 | exact K0.drew | exact Elder.drew ‹_› | exact Elder.alloc ‹_› _ | exact (K0.alloc _).drew | exact ((K0.alloc _).alloc _).drew | exact K0.drew.alloc _) (fun hHeld => ?_)
            clear hK K
            try simp only [Act.put, List.setIfInBounds_toArray, List.set_cons_zero, List.set_cons_succ]
            refine wpAnyH_ready (rs := [12]) (by kernel_rfl) (by simp) ?_
            refine AllReadyH.cons rfl (fun K hK => ?_) ?_
            · go_simp
              refine hK.out _ _ (by first | assumption | exact K0 | exact K0.drew | exact Elder.drew ‹_› | exact Elder.alloc ‹_› _ | exact (K0.alloc _).drew | exact ((K0.alloc _).alloc _).drew | exact K0.drew.alloc _) (fun hHeld => ?_)
              clear hK K
              try simp only [Act.put, List.setIfInBounds_toArray, List.set_cons_zero, List.set_cons_succ]
              refine wpAnyH_ready (rs := [13]) (by kernel_rfl) (by simp) ?_
              refine AllReadyH.cons rfl (fun K hK => ?_) ?_
              · refine step_append_objs rfl (.tmp 39) (.tmp 43) (by rfl) w1.heap.size _ ([] ++ S1.obs.take i) (by rfl) (by first | exact hf3 | exact hf3.drew | exact hf3.alloc _ | exact (hf3.alloc _).drew) _ [⟨n, b⟩] (by rfl) (src_ob ⟨n, b⟩ _ _ (by first | exact heap_alloc_new _ _ | exact (hg3.block _ (by first | (simp; done) | (simp; omega)) (by first | (simp [Value.ownBlock]; done) | (simp [Value.ownBlock]; omega))).trans (heap2_new _ _ _) | exact (hg3.block _ (by first | (simp; done) | (simp; omega)) (by first | (simp [Value.ownBlock]; done) | (simp [Value.ownBlock]; omega))).trans (heap2_old _ _ _))) (by first | (simp; done) | (simp; omega)) (by have := hO3.size; first | (simp; omega) | (simp; done)) ?_
                intro a4 n4 c4 w4 hf4 hb4 hg4
                have hO4 : Elder w1 w4 := Elder.below (by assumption) hb4
                refine hK.out _ _ (by first | assumption | exact K0 | exact K0.drew | exact Elder.drew ‹_› | exact Elder.alloc ‹_› _ | exact (K0.alloc _).drew | exact ((K0.alloc _).alloc _).drew | exact K0.drew.alloc _) (fun hHeld => ?_)
                clear hK K
                try simp only [Act.put, List.setIfInBounds_toArray, List.set_cons_zero, List.set_cons_succ]
                refine wpAnyH_ready (rs := [20]) (by kernel_rfl) (by simp) ?_
                refine AllReadyH.cons rfl (fun K hK => ?_) ?_
                · refine step_append_objs rfl (.tmp 44) (.tmp 50) (by rfl) w1.heap.size _ ([] ++ S1.obs.take i ++ [⟨n, b⟩]) (by rfl) (by first | exact hf4 | exact hf4.drew) _ (S1.obs.drop i) (by rfl) (HS2.out _ (HLW.out _ (by assumption))) (by first | (simp; omega) | (simp; done)) (by have := hO4.size; first | (simp; omega) | (simp; done)) ?_
                  intro a5 n5 c5 w5 hf5 hb5 hg5
                  have hO5 : Elder w1 w5 := Elder.below (by assumption) hb5
                  refine hK.out _ _ (by first | assumption | exact K0 | exact K0.drew | exact Elder.drew ‹_› | exact Elder.alloc ‹_› _ | exact (K0.alloc _).drew | exact ((K0.alloc _).alloc _).drew | exact K0.drew.alloc _) (fun hHeld => ?_)
                  clear hK K
                  try simp only [Act.put, List.setIfInBounds_toArray, List.set_cons_zero, List.set_cons_succ]
                  refine wpAnyH_take (i := 21) (v := ?_) rfl (by kernel_rfl) (by kernel_rfl) (by kernel_rfl) (fun _ _ _ h => h) (Or.inl ⟨by rfl, ?_⟩) hHeld ?_
                  rotate_left
                  · intro W hSw
                    go_simp
                    try with_reducible rfl
                  try simp only [Act.put, List.setIfInBounds_toArray, List.set_cons_zero, List.set_cons_succ]
                  refine wpAnyH_take (i := 22) (v := ?_) rfl (by kernel_rfl) (by kernel_rfl) (by kernel_rfl) (fun _ _ _ h => h) (Or.inl ⟨by rfl, ?_⟩) hHeld ?_
                  rotate_left
                  · intro W hSw
                    go_simp
                    try with_reducible rfl
                  try simp only [Act.put, List.setIfInBounds_toArray, List.set_cons_zero, List.set_cons_succ]
                  refine wpAnyH_done (by kernel_rfl) ?_ _
                  have q0 := HQ0.out w5 hO5
                  have qf := HQf.out w5 hO5
                  unfold AtLast
                  refine wpOp_step rfl (fun K hK => ?_)
                  have HK := Lib.hid hK
                  clear hK
                  go_simp
                  refine HK.out _ _ ?_
                  clear HK K
                  go_wp2
                  go_end0
                  exact ⟨rfl, RfStep.laid (S := S1) HT.out H1.out hO5 hf5 HOK.out⟩
                exact AllReadyH.nil
              exact AllReadyH.nil
            exact AllReadyH.nil
          refine AllReadyH.cons rfl (fun K hK => ?_) ?_
          · go_simp
            refine hK.out _ _ (by first | assumption | exact K0 | exact K0.drew | exact Elder.drew ‹_› | exact Elder.alloc ‹_› _ | exact (K0.alloc _).drew | exact ((K0.alloc _).alloc _).drew | exact K0.drew.alloc _) (fun hHeld => ?_)
            clear hK K
            try simp only [Act.put, List.setIfInBounds_toArray, List.set_cons_zero, List.set_cons_succ]
            refine wpAnyH_ready (rs := [8]) (by kernel_rfl) (by simp) ?_
            refine AllReadyH.cons rfl (fun K hK => ?_) ?_
            · refine step_append_objs rfl (.tmp 32) (.tmp 38) (by rfl) w1.heap.size _ [] (by rfl) (objs_empty (by omega) (by first | exact heap_alloc_new _ _ | exact heap2_new _ _ _ | exact heap2_old _ _ _)) _ (S1.obs.take i) (by rfl) (HS1.out _ (HLW.out _ (by assumption))) (by rw [List.length_take, List.length_nil]; omega) (by first | (simp; done) | (simp; omega)) ?_
              intro a3 n3 c3 w3 hf3 hb3 hg3
              have hO3 : Elder w1 w3 := Elder.below (by assumption) hb3
              refine hK.out _ _ (by first | assumption | exact K0 | exact K0.drew | exact Elder.drew ‹_› | exact Elder.alloc ‹_› _ | exact (K0.alloc _).drew | exact ((K0.alloc _).alloc _).drew | exact K0.drew.alloc _) (fun hHeld => ?_)
              clear hK K
              try simp only [Act.put, List.setIfInBounds_toArray, List.set_cons_zero, List.set_cons_succ]
              refine wpAnyH_ready (rs := [13]) (by kernel_rfl) (by simp) ?_
              refine AllReadyH.cons rfl (fun K hK => ?_) ?_
              · refine step_append_objs rfl (.tmp 39) (.tmp 43) (by rfl) w1.heap.size _ ([] ++ S1.obs.take i) (by rfl) (by first | exact hf3 | exact hf3.drew | exact hf3.alloc _ | exact (hf3.alloc _).drew) _ [⟨n, b⟩] (by rfl) (src_ob ⟨n, b⟩ _ _ (by first | exact heap_alloc_new _ _ | exact (hg3.block _ (by first | (simp; done) | (simp; omega)) (by first | (simp [Value.ownBlock]; done) | (simp [Value.ownBlock]; omega))).trans (heap2_new _ _ _) | exact (hg3.block _ (by first | (simp; done) | (simp; omega)) (by first | (simp [Value.ownBlock]; done) | (simp [Value.ownBlock]; omega))).trans (heap2_old _ _ _))) (by first | (simp; done) | (simp; omega)) (by have := hO3.size; first | (simp; omega) | (simp; done)) ?_
                intro a4 n4 c4 w4 hf4 hb4 hg4
                have hO4 : Elder w1 w4 := Elder.below (by assumption) hb4
                refine hK.out _ _ (by first | assumption | exact K0 | exact K0.drew | exact Elder.drew ‹_› | exact Elder.alloc ‹_› _ | exact (K0.alloc _).drew | exact ((K0.alloc _).alloc _).drew | exact K0.drew.alloc _) (fun hHeld => ?_)
                clear hK K
                try simp only [Act.put, List.setIfInBounds_toArray, List.set_cons_zero, List.set_cons_succ]
                refine wpAnyH_ready (rs := [20]) (by kernel_rfl) (by simp) ?_
                refine AllReadyH.cons rfl (fun K hK => ?_) ?_
                · refine step_append_objs rfl (.tmp 44) (.tmp 50) (by rfl) w1.heap.size _ ([] ++ S1.obs.take i ++ [⟨n, b⟩]) (by rfl) (by first | exact hf4 | exact hf4.drew) _ (S1.obs.drop i) (by rfl) (HS2.out _ (HLW.out _ (by assumption))) (by first | (simp; omega) | (simp; done)) (by have := hO4.size; first | (simp; omega) | (simp; done)) ?_
                  intro a5 n5 c5 w5 hf5 hb5 hg5
                  have hO5 : Elder w1 w5 := Elder.below (by assumption) hb5
                  refine hK.out _ _ (by first | assumption | exact K0 | exact K0.drew | exact Elder.drew ‹_› | exact Elder.alloc ‹_› _ | exact (K0.alloc _).drew | exact ((K0.alloc _).alloc _).drew | exact K0.drew.alloc _) (fun hHeld => ?_)
                  clear hK K
                  try simp only [Act.put, List.setIfInBounds_toArray, List.set_cons_zero, List.set_cons_succ]
                  refine wpAnyH_take (i := 21) (v := ?_) rfl (by kernel_rfl) (by kernel_rfl) (by kernel_rfl) (fun _ _ _ h => h) (Or.inl ⟨by rfl, ?_⟩) hHeld ?_
                  rotate_left
                  · intro W hSw
                    go_simp
                    try with_reducible rfl
                  try simp only [Act.put, List.setIfInBounds_toArray, List.set_cons_zero, List.set_cons_succ]
                  refine wpAnyH_take (i := 22) (v := ?_) rfl (by kernel_rfl) (by kernel_rfl) (by kernel_rfl) (fun _ _ _ h => h) (Or.inl ⟨by rfl, ?_⟩) hHeld ?_
                  rotate_left
                  · intro W hSw
                    go_simp
                    try with_reducible rfl
                  try simp only [Act.put, List.setIfInBounds_toArray, List.set_cons_zero, List.set_cons_succ]
                  refine wpAnyH_done (by kernel_rfl) ?_ _
                  have q0 := HQ0.out w5 hO5
                  have qf := HQf.out w5 hO5
                  unfold AtLast
                  refine wpOp_step rfl (fun K hK => ?_)
                  have HK := Lib.hid hK
                  clear hK
                  go_simp
                  refine HK.out _ _ ?_
                  clear HK K
                  go_wp2
                  go_end0
                  exact ⟨rfl, RfStep.laid (S := S1) HT.out H1.out hO5 hf5 HOK.out⟩
                exact AllReadyH.nil
              exact AllReadyH.nil
            exact AllReadyH.nil
          exact AllReadyH.nil
        refine AllReadyH.cons rfl (fun K hK => ?_) ?_
        · go_simp
          refine hK.out _ _ (by first | assumption | exact K0 | exact K0.drew | exact Elder.drew ‹_› | exact Elder.alloc ‹_› _ | exact (K0.alloc _).drew | exact ((K0.alloc _).alloc _).drew | exact K0.drew.alloc _) (fun hHeld => ?_)
          clear hK K
          try simp only [Act.put, List.setIfInBounds_toArray, List.set_cons_zero, List.set_cons_succ]
          refine wpAnyH_ready (rs := [1]) (by kernel_rfl) (by simp) ?_
          refine AllReadyH.cons rfl (fun K hK => ?_) ?_
          · go_simp
            refine hK.out _ _ (by first | assumption | exact K0 | exact K0.drew | exact Elder.drew ‹_› | exact Elder.alloc ‹_› _ | exact (K0.alloc _).drew | exact ((K0.alloc _).alloc _).drew | exact K0.drew.alloc _) (fun hHeld => ?_)
            clear hK K
            try simp only [Act.put, List.setIfInBounds_toArray, List.set_cons_zero, List.set_cons_succ]
            refine wpAnyH_ready (rs := [8]) (by kernel_rfl) (by simp) ?_
            refine AllReadyH.cons rfl (fun K hK => ?_) ?_
            · refine step_append_objs rfl (.tmp 32) (.tmp 38) (by rfl) w1.heap.size _ [] (by rfl) (objs_empty (by omega) (by first | exact heap_alloc_new _ _ | exact heap2_new _ _ _ | exact heap2_old _ _ _)) _ (S1.obs.take i) (by rfl) (HS1.out _ (HLW.out _ (by assumption))) (by rw [List.length_take, List.length_nil]; omega) (by first | (simp; done) | (simp; omega)) ?_
              intro a3 n3 c3 w3 hf3 hb3 hg3
              have hO3 : Elder w1 w3 := Elder.below (by assumption) hb3
              refine hK.out _ _ (by first | assumption | exact K0 | exact K0.drew | exact Elder.drew ‹_› | exact Elder.alloc ‹_› _ | exact (K0.alloc _).drew | exact ((K0.alloc _).alloc _).drew | exact K0.drew.alloc _) (fun hHeld => ?_)
              clear hK K
              try simp only [Act.put, List.setIfInBounds_toArray, List.set_cons_zero, List.set_cons_succ]
              refine wpAnyH_ready (rs := [13]) (by kernel_rfl) (by simp) ?_
              refine AllReadyH.cons rfl (fun K hK => ?_) ?_
              · refine step_append_objs rfl (.tmp 39) (.tmp 43) (by rfl) w1.heap.size _ ([] ++ S1.obs.take i) (by rfl) (by first | exact hf3 | exact hf3.drew | exact hf3.alloc _ | exact (hf3.alloc _).drew) _ [⟨n, b⟩] (by rfl) (src_ob ⟨n, b⟩ _ _ (by first | exact heap_alloc_new _ _ | exact (hg3.block _ (by first | (simp; done) | (simp; omega)) (by first | (simp [Value.ownBlock]; done) | (simp [Value.ownBlock]; omega))).trans (heap2_new _ _ _) | exact (hg3.block _ (by first | (simp; done) | (simp; omega)) (by first | (simp [Value.ownBlock]; done) | (simp [Value.ownBlock]; omega))).trans (heap2_old _ _ _))) (by first | (simp; done) | (simp; omega)) (by have := hO3.size; first | (simp; omega) | (simp; done)) ?_
                intro a4 n4 c4 w4 hf4 hb4 hg4
                have hO4 : Elder w1 w4 := Elder.below (by assumption) hb4
                refine hK.out _ _ (by first | assumption | exact K0 | exact K0.drew | exact Elder.drew ‹_› | exact Elder.alloc ‹_› _ | exact (K0.alloc _).drew | exact ((K0.alloc _).alloc _).drew | exact K0.drew.alloc _) (fun hHeld => ?_)
                clear hK K
                try simp only [Act.put, List.setIfInBounds_toArray, List.set_cons_zero, List.set_cons_succ]
                refine wpAnyH_ready (rs := [20]) (by kernel_rfl) (by simp) ?_
                refine AllReadyH.cons rfl (fun K hK => ?_) ?_
                · refine step_append_objs rfl (.tmp 44) (.tmp 50) (by rfl) w1.heap.size _ ([] ++ S1.obs.take i ++ [⟨n, b⟩]) (by rfl) (by first | exact hf4 | exact hf4.drew) _ (S1.obs.drop i) (by rfl) (HS2.out _ (HLW.out _ (by assumption))) (by first | (simp; omega) | (simp; done)) (by have := hO4.size; first | (simp; omega) | (simp; done)) ?_
                  intro a5 n5 c5 w5 hf5 hb5 hg5
                  have hO5 : Elder w1 w5 := Elder.below (by assumption) hb5
                  refine hK.out _ _ (by first | assumption | exact K0 | exact K0.drew | exact Elder.drew ‹_› | exact Elder.alloc ‹_› _ | exact (K0.alloc _).drew | exact ((K0.alloc _).alloc _).drew | exact K0.drew.alloc _) (fun hHeld => ?_)
                  clear hK K
                  try simp only [Act.put, List.setIfInBounds_toArray, List.set_cons_zero, List.set_cons_succ]
                  refine wpAnyH_take (i := 21) (v := ?_) rfl (by kernel_rfl) (by kernel_rfl) (by kernel_rfl) (fun _ _ _ h => h) (Or.inl ⟨by rfl, ?_⟩) hHeld ?_
                  rotate_left
                  · intro W hSw
                    go_simp
                    try with_reducible rfl
                  try simp only [Act.put, List.setIfInBounds_toArray, List.set_cons_zero, List.set_cons_succ]
                  refine wpAnyH_take (i := 22) (v := ?_) rfl (by kernel_rfl) (by kernel_rfl) (by kernel_rfl) (fun _ _ _ h => h) (Or.inl ⟨by rfl, ?_⟩) hHeld ?_
                  rotate_left
                  · intro W hSw
                    go_simp
                    try with_reducible rfl
                  try simp only [Act.put, List.setIfInBounds_toArray, List.set_cons_zero, List.set_cons_succ]
                  refine wpAnyH_done (by kernel_rfl) ?_ _
                  have q0 := HQ0.out w5 hO5
                  have qf := HQf.out w5 hO5
                  unfold AtLast
                  refine wpOp_step rfl (fun K hK => ?_)
                  have HK := Lib.hid hK
                  clear hK
                  go_simp
                  refine HK.out _ _ ?_
                  clear HK K
                  go_wp2
                  go_end0
                  exact ⟨rfl, RfStep.laid (S := S1) HT.out H1.out hO5 hf5 HOK.out⟩
                exact AllReadyH.nil
              exact AllReadyH.nil
            exact AllReadyH.nil
          exact AllReadyH.nil
        exact AllReadyH.nil
    · obtain rfl : i = p := by omega
      obtain rfl : i = L := by omega
      rw [Nat.sub_self] at htail
      have hs2' := HS2.out
      rw [Nat.sub_self] at hs2'
      have HS2' := Lib.hid hs2'
      clear hs2' HS2
      go_wp2
      clear c0
      have hq2 := (h1.lt (Or.inl rfl)).2
      obtain ⟨q0, q1, q2, qz⟩ := h1.cells
      have hQ0 : ∀ W, Elder w1 W → W.cell? ⟨qb, 0, none⟩ = some (Value.slice la i lc) := fun W hW => by rw [Below.cell (p := ⟨qb, 0, none⟩) hW hq2]; exact q0
      have hQf : ∀ W, Elder w1 W → W.frozen? ⟨qb, 0, none⟩ = false := fun W hW => by rw [Below.frozen (p := ⟨qb, 0, none⟩) hW hq2]; exact qz 0
      have K0 : Elder w1 w1 := Elder.refl _
      have hl9 : S1.obs.length ≤ 1000000000 := by have := HL.out; omega
      have HQ0 := Lib.hid hQ0; have HQf := Lib.hid hQf; have H1 := Lib.hid h1
      clear q1 q2 qz h1 hQf
      refine wp_region_last (S := Elder w1) (k := 23) (by kernel_rfl) rfl (by kernel_rfl) (by kernel_rfl) (by kernel_rfl) ?_
      have hHeld : Elder w1 w1.drew := K0.drew
      refine wpAnyH_take (i := 0) (v := ?_) rfl (by kernel_rfl) (by kernel_rfl) (by kernel_rfl) (fun _ _ _ h => h) (Or.inl ⟨by rfl, ?_⟩) hHeld ?_
      rotate_left
      · intro W hSw
        go_simp
        try with_reducible rfl
      try simp only [Act.put, List.setIfInBounds_toArray, List.set_cons_zero, List.set_cons_succ]
      refine wpAnyH_take (i := 2) (v := ?_) rfl (by kernel_rfl) (by kernel_rfl) (by kernel_rfl) (fun _ _ _ h => h) (Or.inl ⟨by rfl, ?_⟩) hHeld ?_
      rotate_left
      · intro W hSw
        go_simp
        try with_reducible rfl
      try simp only [Act.put, List.setIfInBounds_toArray, List.set_cons_zero, List.set_cons_succ]
      refine wpAnyH_take (i := 3) (v := ?_) rfl (by kernel_rfl) (by kernel_rfl) (by kernel_rfl) (fun _ _ _ h => h) (Or.inl ⟨by rfl, ?_⟩) hHeld ?_
      rotate_left
      · intro W hSw
        go_simp
        try with_reducible rfl
      try simp only [Act.put, List.setIfInBounds_toArray, List.set_cons_zero, List.set_cons_succ]
      refine wpAnyH_take (i := 4) (v := ?_) rfl (by kernel_rfl) (by kernel_rfl) (by kernel_rfl) (fun _ _ _ h => h) (Or.inl ⟨by rfl, ?_⟩) hHeld ?_
      rotate_left
      · intro W hSw
        go_simp
        try with_reducible rfl
      try simp only [Act.put, List.setIfInBounds_toArray, List.set_cons_zero, List.set_cons_succ]
      refine wpAnyH_take (i := 5) (v := ?_) rfl (by kernel_rfl) (by kernel_rfl) (by kernel_rfl) (fun _ _ _ h => h) (Or.inl ⟨by rfl, ?_⟩) hHeld ?_
      rotate_left
      · intro W hSw
        go_simp
        try with_reducible rfl
      try simp only [Act.put, List.setIfInBounds_toArray, List.set_cons_zero, List.set_cons_succ]
      refine wpAnyH_take (i := 6) (v := ?_) rfl (by kernel_rfl) (by kernel_rfl) (by kernel_rfl) (fun _ _ _ h => h) (Or.inl ⟨by rfl, ?_⟩) hHeld ?_
      rotate_left
      · intro W hSw
        go_simp
        try with_reducible rfl
      try simp only [Act.put, List.setIfInBounds_toArray, List.set_cons_zero, List.set_cons_succ]
      refine wpAnyH_take (i := 7) (v := ?_) rfl (by kernel_rfl) (by kernel_rfl) (by kernel_rfl) (fun _ _ _ h => h) (Or.inl ⟨by rfl, ?_⟩) hHeld ?_
      rotate_left
      · intro W hSw
        go_simp
        try with_reducible rfl
      try simp only [Act.put, List.setIfInBounds_toArray, List.set_cons_zero, List.set_cons_succ]
      refine wpAnyH_take (i := 9) (v := ?_) rfl (by kernel_rfl) (by kernel_rfl) (by kernel_rfl) (fun _ _ _ h => h) (Or.inl ⟨by rfl, ?_⟩) hHeld ?_
      rotate_left
      · intro W hSw
        go_simp
        try with_reducible rfl
      try simp only [Act.put, List.setIfInBounds_toArray, List.set_cons_zero, List.set_cons_succ]
      refine wpAnyH_take (i := 10) (v := ?_) rfl (by kernel_rfl) (by kernel_rfl) (by kernel_rfl) (fun _ _ _ h => h) (Or.inl ⟨by rfl, ?_⟩) hHeld ?_
      rotate_left
      · intro W hSw
        go_simp
        try with_reducible rfl
      try simp only [Act.put, List.setIfInBounds_toArray, List.set_cons_zero, List.set_cons_succ]
      refine wpAnyH_take (i := 11) (v := ?_) rfl (by kernel_rfl) (by kernel_rfl) (by kernel_rfl) (fun _ _ _ h => h) (Or.inl ⟨by rfl, ?_⟩) hHeld ?_
      rotate_left
      · intro W hSw
        go_simp
        try with_reducible rfl
      try simp only [Act.put, List.setIfInBounds_toArray, List.set_cons_zero, List.set_cons_succ]
      refine wpAnyH_take (i := 14) (v := ?_) rfl (by kernel_rfl) (by kernel_rfl) (by kernel_rfl) (fun _ _ _ h => h) (Or.inl ⟨by rfl, ?_⟩) hHeld ?_
      rotate_left
      · intro W hSw
        go_simp
        try with_reducible rfl
      try simp only [Act.put, List.setIfInBounds_toArray, List.set_cons_zero, List.set_cons_succ]
      refine wpAnyH_take (i := 15) (v := ?_) rfl (by kernel_rfl) (by kernel_rfl) (by kernel_rfl) (fun _ _ _ h => h) (Or.inl ⟨by rfl, ?_⟩) hHeld ?_
      rotate_left
      · intro W hSw
        go_simp
        try with_reducible rfl
      try simp only [Act.put, List.setIfInBounds_toArray, List.set_cons_zero, List.set_cons_succ]
      refine wpAnyH_take (i := 16) (v := ?_) rfl (by kernel_rfl) (by kernel_rfl) (by kernel_rfl) (fun _ _ _ h => h) (Or.inl ⟨by rfl, ?_⟩) hHeld ?_
      rotate_left
      · intro W hSw
        go_simp
        try with_reducible rfl
      try simp only [Act.put, List.setIfInBounds_toArray, List.set_cons_zero, List.set_cons_succ]
      refine wpAnyH_take (i := 17) (v := ?_) rfl (by kernel_rfl) (by kernel_rfl) (by kernel_rfl) (fun _ _ _ h => h) (Or.inl ⟨by rfl, ?_⟩) hHeld ?_
      rotate_left
      · intro W hSw
        go_simp
        try with_reducible rfl
      try simp only [Act.put, List.setIfInBounds_toArray, List.set_cons_zero, List.set_cons_succ]
      refine wpAnyH_take (i := 18) (v := ?_) rfl (by kernel_rfl) (by kernel_rfl) (by kernel_rfl) (fun _ _ _ h => h) (Or.inl ⟨by rfl, ?_⟩) hHeld ?_
      rotate_left
      · intro W hSw
        go_simp
        try with_reducible rfl
      try simp only [Act.put, List.setIfInBounds_toArray, List.set_cons_zero, List.set_cons_succ]
      refine wpAnyH_take (i := 19) (v := ?_) rfl (by kernel_rfl) (by kernel_rfl) (by kernel_rfl) (fun _ _ _ h => h) (Or.inl ⟨by rfl, ?_⟩) hHeld ?_
      rotate_left
      · intro W hSw
        go_simp
        try with_reducible rfl
      try simp only [Act.put, List.setIfInBounds_toArray, List.set_cons_zero, List.set_cons_succ]
      refine wpAnyH_ready (rs := [1, 12]) (by kernel_rfl) (by simp) ?_
      refine AllReadyH.cons rfl (fun K hK => ?_) ?_
      · go_simp
        refine hK.out _ _ (by first | assumption | exact K0 | exact K0.drew | exact Elder.drew ‹_› | exact Elder.alloc ‹_› _ | exact (K0.alloc _).drew | exact ((K0.alloc _).alloc _).drew | exact K0.drew.alloc _) (fun hHeld => ?_)
        clear hK K
        try simp only [Act.put, List.setIfInBounds_toArray, List.set_cons_zero, List.set_cons_succ]
        refine wpAnyH_ready (rs := [8, 12]) (by kernel_rfl) (by simp) ?_
        refine AllReadyH.cons rfl (fun K hK => ?_) ?_
        · refine step_append_objs rfl (.tmp 32) (.tmp 38) (by rfl) w1.heap.size _ [] (by rfl) (objs_empty (by omega) (by first | exact heap_alloc_new _ _ | exact heap2_new _ _ _ | exact heap2_old _ _ _)) _ (S1.obs.take i) (by rfl) (HS1.out _ (HLW.out _ (by assumption))) (by rw [List.length_take, List.length_nil]; omega) (by first | (simp; done) | (simp; omega)) ?_
          intro a3 n3 c3 w3 hf3 hb3 hg3
          have hO3 : Elder w1 w3 := Elder.below (by assumption) hb3
          refine hK.out _ _ (by first | assumption | exact K0 | exact K0.drew | exact Elder.drew ‹_› | exact Elder.alloc ‹_› _ | exact (K0.alloc _).drew | exact ((K0.alloc _).alloc _).drew | exact K0.drew.alloc _) (fun hHeld => ?_)
          clear hK K
          try simp only [Act.put, List.setIfInBounds_toArray, List.set_cons_zero, List.set_cons_succ]
          refine wpAnyH_ready (rs := [12]) (by kernel_rfl) (by simp) ?_
          refine AllReadyH.cons rfl (fun K hK => ?_) ?_
          · go_simp
            refine hK.out _ _ (by first | assumption | exact K0 | exact K0.drew | exact Elder.drew ‹_› | exact Elder.alloc ‹_› _ | exact (K0.alloc _).drew | exact ((K0.alloc _).alloc _).drew | exact K0.drew.alloc _) (fun hHeld => ?_)
            clear hK K
            try simp only [Act.put, List.setIfInBounds_toArray, List.set_cons_zero, List.set_cons_succ]
            refine wpAnyH_ready (rs := [13]) (by kernel_rfl) (by simp) ?_
            refine AllReadyH.cons rfl (fun K hK => ?_) ?_
            · refine step_append_objs rfl (.tmp 39) (.tmp 43) (by rfl) w1.heap.size _ ([] ++ S1.obs.take i) (by rfl) (by first | exact hf3 | exact hf3.drew | exact hf3.alloc _ | exact (hf3.alloc _).drew) _ [⟨n, b⟩] (by rfl) (src_ob ⟨n, b⟩ _ _ (by first | exact heap_alloc_new _ _ | exact (hg3.block _ (by first | (simp; done) | (simp; omega)) (by first | (simp [Value.ownBlock]; done) | (simp [Value.ownBlock]; omega))).trans (heap2_new _ _ _) | exact (hg3.block _ (by first | (simp; done) | (simp; omega)) (by first | (simp [Value.ownBlock]; done) | (simp [Value.ownBlock]; omega))).trans (heap2_old _ _ _))) (by first | (simp; done) | (simp; omega)) (by have := hO3.size; first | (simp; omega) | (simp; done)) ?_
              intro a4 n4 c4 w4 hf4 hb4 hg4
              have hO4 : Elder w1 w4 := Elder.below (by assumption) hb4
              refine hK.out _ _ (by first | assumption | exact K0 | exact K0.drew | exact Elder.drew ‹_› | exact Elder.alloc ‹_› _ | exact (K0.alloc _).drew | exact ((K0.alloc _).alloc _).drew | exact K0.drew.alloc _) (fun hHeld => ?_)
              clear hK K
              try simp only [Act.put, List.setIfInBounds_toArray, List.set_cons_zero, List.set_cons_succ]
              refine wpAnyH_ready (rs := [20]) (by kernel_rfl) (by simp) ?_
              refine AllReadyH.cons rfl (fun K hK => ?_) ?_
              · refine step_append_objs rfl (.tmp 44) (.tmp 50) (by rfl) w1.heap.size _ ([] ++ S1.obs.take i ++ [⟨n, b⟩]) (by rfl) (by first | exact hf4 | exact hf4.drew) _ (S1.obs.drop i) (by rfl) (HS2'.out _ (HLW.out _ (by assumption))) (by first | (simp; omega) | (simp; done)) (by have := hO4.size; first | (simp; omega) | (simp; done)) ?_
                intro a5 n5 c5 w5 hf5 hb5 hg5
                have hO5 : Elder w1 w5 := Elder.below (by assumption) hb5
                refine hK.out _ _ (by first | assumption | exact K0 | exact K0.drew | exact Elder.drew ‹_› | exact Elder.alloc ‹_› _ | exact (K0.alloc _).drew | exact ((K0.alloc _).alloc _).drew | exact K0.drew.alloc _) (fun hHeld => ?_)
                clear hK K
                try simp only [Act.put, List.setIfInBounds_toArray, List.set_cons_zero, List.set_cons_succ]
                refine wpAnyH_take (i := 21) (v := ?_) rfl (by kernel_rfl) (by kernel_rfl) (by kernel_rfl) (fun _ _ _ h => h) (Or.inl ⟨by rfl, ?_⟩) hHeld ?_
                rotate_left
                · intro W hSw
                  go_simp
                  try with_reducible rfl
                try simp only [Act.put, List.setIfInBounds_toArray, List.set_cons_zero, List.set_cons_succ]
                refine wpAnyH_take (i := 22) (v := ?_) rfl (by kernel_rfl) (by kernel_rfl) (by kernel_rfl) (fun _ _ _ h => h) (Or.inl ⟨by rfl, ?_⟩) hHeld ?_
                rotate_left
                · intro W hSw
                  go_simp
                  try with_reducible rfl
                try simp only [Act.put, List.setIfInBounds_toArray, List.set_cons_zero, List.set_cons_succ]
                refine wpAnyH_done (by kernel_rfl) ?_ _
                have q0 := HQ0.out w5 hO5
                have qf := HQf.out w5 hO5
                unfold AtLast
                refine wpOp_step rfl (fun K hK => ?_)
                have HK := Lib.hid hK
                clear hK
                go_simp
                refine HK.out _ _ ?_
                clear HK K
                go_wp2
                go_end0
                exact ⟨rfl, RfStep.laid (S := S1) HT.out H1.out hO5 hf5 HOK.out⟩
              exact AllReadyH.nil
            exact AllReadyH.nil
          exact AllReadyH.nil
        refine AllReadyH.cons rfl (fun K hK => ?_) ?_
        · go_simp
          refine hK.out _ _ (by first | assumption | exact K0 | exact K0.drew | exact Elder.drew ‹_› | exact Elder.alloc ‹_› _ | exact (K0.alloc _).drew | exact ((K0.alloc _).alloc _).drew | exact K0.drew.alloc _) (fun hHeld => ?_)
          clear hK K
          try simp only [Act.put, List.setIfInBounds_toArray, List.set_cons_zero, List.set_cons_succ]
          refine wpAnyH_ready (rs := [8]) (by kernel_rfl) (by simp) ?_
          refine AllReadyH.cons rfl (fun K hK => ?_) ?_
          · refine step_append_objs rfl (.tmp 32) (.tmp 38) (by rfl) w1.heap.size _ [] (by rfl) (objs_empty (by omega) (by first | exact heap_alloc_new _ _ | exact heap2_new _ _ _ | exact heap2_old _ _ _)) _ (S1.obs.take i) (by rfl) (HS1.out _ (HLW.out _ (by assumption))) (by rw [List.length_take, List.length_nil]; omega) (by first | (simp; done) | (simp; omega)) ?_
            intro a3 n3 c3 w3 hf3 hb3 hg3
            have hO3 : Elder w1 w3 := Elder.below (by assumption) hb3
            refine hK.out _ _ (by first | assumption | exact K0 | exact K0.drew | exact Elder.drew ‹_› | exact Elder.alloc ‹_› _ | exact (K0.alloc _).drew | exact ((K0.alloc _).alloc _).drew | exact K0.drew.alloc _) (fun hHeld => ?_)
            clear hK K
            try simp only [Act.put, List.setIfInBounds_toArray, List.set_cons_zero, List.set_cons_succ]
            refine wpAnyH_ready (rs := [13]) (by kernel_rfl) (by simp) ?_
            refine AllReadyH.cons rfl (fun K hK => ?_) ?_
            · refine step_append_objs rfl (.tmp 39) (.tmp 43) (by rfl) w1.heap.size _ ([] ++ S1.obs.take i) (by rfl) (by first | exact hf3 | exact hf3.drew | exact hf3.alloc _ | exact (hf3.alloc _).drew) _ [⟨n, b⟩] (by rfl) (src_ob ⟨n, b⟩ _ _ (by first | exact heap_alloc_new _ _ | exact (hg3.block _ (by first | (simp; done) | (simp; omega)) (by first | (simp [Value.ownBlock]; done) | (simp [Value.ownBlock]; omega))).trans (heap2_new _ _ _) | exact (hg3.block _ (by first | (simp; done) | (simp; omega)) (by first | (simp [Value.ownBlock]; done) | (simp [Value.ownBlock]; omega))).trans (heap2_old _ _ _))) (by first | (simp; done) | (simp; omega)) (by have := hO3.size; first | (simp; omega) | (simp; done)) ?_
              intro a4 n4 c4 w4 hf4 hb4 hg4
              have hO4 : Elder w1 w4 := Elder.below (by assumption) hb4
              refine hK.out _ _ (by first | assumption | exact K0 | exact K0.drew | exact Elder.drew ‹_› | exact Elder.alloc ‹_› _ | exact (K0.alloc _).drew | exact ((K0.alloc _).alloc _).drew | exact K0.drew.alloc _) (fun hHeld => ?_)
              clear hK K
              try simp only [Act.put, List.setIfInBounds_toArray, List.set_cons_zero, List.set_cons_succ]
              refine wpAnyH_ready (rs := [20]) (by kernel_rfl) (by simp) ?_
              refine AllReadyH.cons rfl (fun K hK => ?_) ?_
              · refine step_append_objs rfl (.tmp 44) (.tmp 50) (by rfl) w1.heap.size _ ([] ++ S1.obs.take i ++ [⟨n, b⟩]) (by rfl) (by first | exact hf4 | exact hf4.drew) _ (S1.obs.drop i) (by rfl) (HS2'.out _ (HLW.out _ (by assumption))) (by first | (simp; omega) | (simp; done)) (by have := hO4.size; first | (simp; omega) | (simp; done)) ?_
                intro a5 n5 c5 w5 hf5 hb5 hg5
                have hO5 : Elder w1 w5 := Elder.below (by assumption) hb5
                refine hK.out _ _ (by first | assumption | exact K0 | exact K0.drew | exact Elder.drew ‹_› | exact Elder.alloc ‹_› _ | exact (K0.alloc _).drew | exact ((K0.alloc _).alloc _).drew | exact K0.drew.alloc _) (fun hHeld => ?_)
                clear hK K
                try simp only [Act.put, List.setIfInBounds_toArray, List.set_cons_zero, List.set_cons_succ]
                refine wpAnyH_take (i := 21) (v := ?_) rfl (by kernel_rfl) (by kernel_rfl) (by kernel_rfl) (fun _ _ _ h => h) (Or.inl ⟨by rfl, ?_⟩) hHeld ?_
                rotate_left
                · intro W hSw
                  go_simp
                  try with_reducible rfl
                try simp only [Act.put, List.setIfInBounds_toArray, List.set_cons_zero, List.set_cons_succ]
                refine wpAnyH_take (i := 22) (v := ?_) rfl (by kernel_rfl) (by kernel_rfl) (by kernel_rfl) (fun _ _ _ h => h) (Or.inl ⟨by rfl, ?_⟩) hHeld ?_
                rotate_left
                · intro W hSw
                  go_simp
                  try with_reducible rfl
                try simp only [Act.put, List.setIfInBounds_toArray, List.set_cons_zero, List.set_cons_succ]
                refine wpAnyH_done (by kernel_rfl) ?_ _
                have q0 := HQ0.out w5 hO5
                have qf := HQf.out w5 hO5
                unfold AtLast
                refine wpOp_step rfl (fun K hK => ?_)
                have HK := Lib.hid hK
                clear hK
                go_simp
                refine HK.out _ _ ?_
                clear HK K
                go_wp2
                go_end0
                exact ⟨rfl, RfStep.laid (S := S1) HT.out H1.out hO5 hf5 HOK.out⟩
              exact AllReadyH.nil
            exact AllReadyH.nil
          exact AllReadyH.nil
        exact AllReadyH.nil
      refine AllReadyH.cons rfl (fun K hK => ?_) ?_
      · go_simp
        refine hK.out _ _ (by first | assumption | exact K0 | exact K0.drew | exact Elder.drew ‹_› | exact Elder.alloc ‹_› _ | exact (K0.alloc _).drew | exact ((K0.alloc _).alloc _).drew | exact K0.drew.alloc _) (fun hHeld => ?_)
        clear hK K
        try simp only [Act.put, List.setIfInBounds_toArray, List.set_cons_zero, List.set_cons_succ]
        refine wpAnyH_ready (rs := [1]) (by kernel_rfl) (by simp) ?_
        refine AllReadyH.cons rfl (fun K hK => ?_) ?_
        · go_simp
          refine hK.out _ _ (by first | assumption | exact K0 | exact K0.drew | exact Elder.drew ‹_› | exact Elder.alloc ‹_› _ | exact (K0.alloc _).drew | exact ((K0.alloc _).alloc _).drew | exact K0.drew.alloc _) (fun hHeld => ?_)
          clear hK K
          try simp only [Act.put, List.setIfInBounds_toArray, List.set_cons_zero, List.set_cons_succ]
          refine wpAnyH_ready (rs := [8]) (by kernel_rfl) (by simp) ?_
          refine AllReadyH.cons rfl (fun K hK => ?_) ?_
          · refine step_append_objs rfl (.tmp 32) (.tmp 38) (by rfl) w1.heap.size _ [] (by rfl) (objs_empty (by omega) (by first | exact heap_alloc_new _ _ | exact heap2_new _ _ _ | exact heap2_old _ _ _)) _ (S1.obs.take i) (by rfl) (HS1.out _ (HLW.out _ (by assumption))) (by rw [List.length_take, List.length_nil]; omega) (by first | (simp; done) | (simp; omega)) ?_
            intro a3 n3 c3 w3 hf3 hb3 hg3
            have hO3 : Elder w1 w3 := Elder.below (by assumption) hb3
            refine hK.out _ _ (by first | assumption | exact K0 | exact K0.drew | exact Elder.drew ‹_› | exact Elder.alloc ‹_› _ | exact (K0.alloc _).drew | exact ((K0.alloc _).alloc _).drew | exact K0.drew.alloc _) (fun hHeld => ?_)
            clear hK K
            try simp only [Act.put, List.setIfInBounds_toArray, List.set_cons_zero, List.set_cons_succ]
            refine wpAnyH_ready (rs := [13]) (by kernel_rfl) (by simp) ?_
            refine AllReadyH.cons rfl (fun K hK => ?_) ?_
            · refine step_append_objs rfl (.tmp 39) (.tmp 43) (by rfl) w1.heap.size _ ([] ++ S1.obs.take i) (by rfl) (by first | exact hf3 | exact hf3.drew | exact hf3.alloc _ | exact (hf3.alloc _).drew) _ [⟨n, b⟩] (by rfl) (src_ob ⟨n, b⟩ _ _ (by first | exact heap_alloc_new _ _ | exact (hg3.block _ (by first | (simp; done) | (simp; omega)) (by first | (simp [Value.ownBlock]; done) | (simp [Value.ownBlock]; omega))).trans (heap2_new _ _ _) | exact (hg3.block _ (by first | (simp; done) | (simp; omega)) (by first | (simp [Value.ownBlock]; done) | (simp [Value.ownBlock]; omega))).trans (heap2_old _ _ _))) (by first | (simp; done) | (simp; omega)) (by have := hO3.size; first | (simp; omega) | (simp; done)) ?_
              intro a4 n4 c4 w4 hf4 hb4 hg4
              have hO4 : Elder w1 w4 := Elder.below (by assumption) hb4
              refine hK.out _ _ (by first | assumption | exact K0 | exact K0.drew | exact Elder.drew ‹_› | exact Elder.alloc ‹_› _ | exact (K0.alloc _).drew | exact ((K0.alloc _).alloc _).drew | exact K0.drew.alloc _) (fun hHeld => ?_)
              clear hK K
              try simp only [Act.put, List.setIfInBounds_toArray, List.set_cons_zero, List.set_cons_succ]
              refine wpAnyH_ready (rs := [20]) (by kernel_rfl) (by simp) ?_
              refine AllReadyH.cons rfl (fun K hK => ?_) ?_
              · refine step_append_objs rfl (.tmp 44) (.tmp 50) (by rfl) w1.heap.size _ ([] ++ S1.obs.take i ++ [⟨n, b⟩]) (by rfl) (by first | exact hf4 | exact hf4.drew) _ (S1.obs.drop i) (by rfl) (HS2'.out _ (HLW.out _ (by assumption))) (by first | (simp; omega) | (simp; done)) (by have := hO4.size; first | (simp; omega) | (simp; done)) ?_
                intro a5 n5 c5 w5 hf5 hb5 hg5
                have hO5 : Elder w1 w5 := Elder.below (by assumption) hb5
                refine hK.out _ _ (by first | assumption | exact K0 | exact K0.drew | exact Elder.drew ‹_› | exact Elder.alloc ‹_› _ | exact (K0.alloc _).drew | exact ((K0.alloc _).alloc _).drew | exact K0.drew.alloc _) (fun hHeld => ?_)
                clear hK K
                try simp only [Act.put, List.setIfInBounds_toArray, List.set_cons_zero, List.set_cons_succ]
                refine wpAnyH_take (i := 21) (v := ?_) rfl (by kernel_rfl) (by kernel_rfl) (by kernel_rfl) (fun _ _ _ h => h) (Or.inl ⟨by rfl, ?_⟩) hHeld ?_
                rotate_left
                · intro W hSw
                  go_simp
                  try with_reducible rfl
                try simp only [Act.put, List.setIfInBounds_toArray, List.set_cons_zero, List.set_cons_succ]
                refine wpAnyH_take (i := 22) (v := ?_) rfl (by kernel_rfl) (by kernel_rfl) (by kernel_rfl) (fun _ _ _ h => h) (Or.inl ⟨by rfl, ?_⟩) hHeld ?_
                rotate_left
                · intro W hSw
                  go_simp
                  try with_reducible rfl
                try simp only [Act.put, List.setIfInBounds_toArray, List.set_cons_zero, List.set_cons_succ]
                refine wpAnyH_done (by kernel_rfl) ?_ _
                have q0 := HQ0.out w5 hO5
                have qf := HQf.out w5 hO5
                unfold AtLast
                refine wpOp_step rfl (fun K hK => ?_)
                have HK := Lib.hid hK
                clear hK
                go_simp
                refine HK.out _ _ ?_
                clear HK K
                go_wp2
                go_end0
                exact ⟨rfl, RfStep.laid (S := S1) HT.out H1.out hO5 hf5 HOK.out⟩
              exact AllReadyH.nil
            exact AllReadyH.nil
          exact AllReadyH.nil
        exact AllReadyH.nil
      exact AllReadyH.nil
end Go.Proofs.YtkdidinekoaobaaGreatDoor.M

/- The document's remote: its calls, one by one. -/
namespace Go.Proofs.YtkdidinekoaobaaGreatDoor.M
open Go.RowKit
set_option linter.unusedVariables false

/-- What is behind a call of the document's remote. -/
def RfPost (B qb : Nat) (lv sv : Value) (S' : Rs) (r : Value) (w : World) (e : Ending) (w' : World) : Prop := e = .returned r ∧ RfStep B qb lv sv w S' w'

/-- A step behind a step. -/
theorem RfStep.on {B qb : Nat} {lv sv lv1 sv1 : Value} {w w1 w2 : World} {S' : Rs} (f1 : ∀ k, rfoot qb lv1 sv1 k → rfoot qb lv sv k ∨ w.heap.size ≤ k) (t1 : Turn (fun k => k = qb) w w1) (h : RfStep B qb lv1 sv1 w1 S' w2) : RfStep B qb lv sv w S' w2 := by
  obtain ⟨lv2, sv2, k1, k2, k3⟩ := h
  refine ⟨lv2, sv2, k1, fun k hk => ?_, t1.trans k3⟩
  rcases k2 k hk with hk | hk
  · exact f1 k hk
  · exact Or.inr (Nat.le_trans t1.size hk)

set_option maxHeartbeats 1000000 in
theorem refput_any {B qb : Nat} {lv sv : Value} {S : Rs} {w : World} {n b : List UInt8} (h : Rf B w qb lv sv S) (hc : S.n < 1000000000000) (hf : S.obs.length < 1000000000) (hn : n.length ≤ 9223372036854775807) :
    Calls Tryz.prog 22 #[.pointer (some ⟨qb, 0, none⟩), .string (bs n), .string (bs b)] w (RfPost B qb lv sv (takes S (lays S.obs n b)) (.int .i64 (errOf S 0)) w) := by
  have HF := Lib.hid (reffate_any h hc)
  rcases fate_three S with hk | hk | hk
  · rw [takes_lost _ hk, err_far _ (Or.inl hk)]
    have HK := Lib.hid hk
    clear h hk
    go_enter Tryz.func22, Tryz.ntmps22
    go_wp2_with fail
    refine HF.out.mono ?_
    rintro e w1 ⟨rfl, hs⟩
    rw [HK.out]
    go_wp2_with fail
    go_ret
    exact ⟨rfl, hs⟩
  · rw [takes_other _ (by omega), err_far _ (Or.inr hk)]
    have HK := Lib.hid hk
    clear h hk
    go_enter Tryz.func22, Tryz.ntmps22
    go_wp2_with fail
    refine HF.out.mono ?_
    rintro e w1 ⟨rfl, lv1, sv1, h1, f1, t1⟩
    rw [HK.out]
    have HL := Lib.hid (lay_any h1 n b hn hf)
    have HT := Lib.hid (And.intro f1 t1)
    clear h1 f1 t1
    go_wp2_with fail
    refine HL.out.mono ?_
    rintro e w2 ⟨rfl, hs2⟩
    have HS2 := Lib.hid hs2; clear hs2
    go_wp2_with fail
    go_ret
    exact ⟨rfl, RfStep.on HT.out.1 HT.out.2 HS2.out⟩
  · rw [takes_other _ hk.1, err_fine _ (by unfold far; omega)]
    obtain ⟨k1, k2⟩ := hk
    clear h
    go_enter Tryz.func22, Tryz.ntmps22
    go_wp2_with fail
    refine HF.out.mono ?_
    rintro e w1 ⟨rfl, lv1, sv1, h1, f1, t1⟩
    have HL := Lib.hid (lay_any h1 n b hn hf)
    have HT := Lib.hid (And.intro f1 t1)
    have j1 : (fateOf S == 1) = false := by simpa using k1
    have j2 : (fateOf S == 2) = false := by simpa using k2
    clear h1 f1 t1 k1 k2
    go_wp2_with fail
    refine HL.out.mono ?_
    rintro e w2 ⟨rfl, hs2⟩
    have HS2 := Lib.hid hs2; clear hs2
    go_wp2_with fail
    go_ret
    exact ⟨rfl, RfStep.on HT.out.1 HT.out.2 HS2.out⟩

set_option maxHeartbeats 1000000 in
theorem refdelete_any {B qb : Nat} {lv sv : Value} {S : Rs} {w : World} {n : List UInt8} (h : Rf B w qb lv sv S) (hc : S.n < 1000000000000) (hf : S.obs.length < 1000000000) :
    Calls Tryz.prog 24 #[.pointer (some ⟨qb, 0, none⟩), .string (bs n)] w (RfPost B qb lv sv (takes S (wo Ob.nm S.obs n)) (.int .i64 (errOf S 0)) w) := by
  have HF := Lib.hid (reffate_any h hc)
  rcases fate_three S with hk | hk | hk
  · rw [takes_lost _ hk, err_far _ (Or.inl hk)]
    have HK := Lib.hid hk
    clear h hk
    go_enter Tryz.func24, Tryz.ntmps24
    go_wp2_with fail
    refine HF.out.mono ?_
    rintro e w1 ⟨rfl, hs⟩
    rw [HK.out]
    go_wp2_with fail
    go_ret
    exact ⟨rfl, hs⟩
  · rw [takes_other _ (by omega), err_far _ (Or.inr hk)]
    have HK := Lib.hid hk
    clear h hk
    go_enter Tryz.func24, Tryz.ntmps24
    go_wp2_with fail
    refine HF.out.mono ?_
    rintro e w1 ⟨rfl, lv1, sv1, h1, f1, t1⟩
    rw [HK.out]
    have HL := Lib.hid (without_any h1 n hf)
    have HT := Lib.hid (And.intro f1 t1)
    clear h1 f1 t1
    go_wp2_with fail
    refine HL.out.mono ?_
    rintro e w2 ⟨rfl, hs2⟩
    have HS2 := Lib.hid hs2; clear hs2
    go_wp2_with fail
    go_ret
    exact ⟨rfl, RfStep.on HT.out.1 HT.out.2 HS2.out⟩
  · rw [takes_other _ hk.1, err_fine _ (by unfold far; omega)]
    obtain ⟨k1, k2⟩ := hk
    clear h
    go_enter Tryz.func24, Tryz.ntmps24
    go_wp2_with fail
    refine HF.out.mono ?_
    rintro e w1 ⟨rfl, lv1, sv1, h1, f1, t1⟩
    have HL := Lib.hid (without_any h1 n hf)
    have HT := Lib.hid (And.intro f1 t1)
    have j1 : (fateOf S == 1) = false := by simpa using k1
    have j2 : (fateOf S == 2) = false := by simpa using k2
    clear h1 f1 t1 k1 k2
    go_wp2_with fail
    refine HL.out.mono ?_
    rintro e w2 ⟨rfl, hs2⟩
    have HS2 := Lib.hid hs2; clear hs2
    go_wp2_with fail
    go_ret
    exact ⟨rfl, RfStep.on HT.out.1 HT.out.2 HS2.out⟩

/-- Where the object of a name stands. -/
theorem look_at {l : List Ob} {n : List UInt8} {f : Ob} (h : look l n = some f) : ∃ i : Nat, l[i]? = some f ∧ f.nm = n := by
  obtain ⟨h1, h2⟩ := look_mem h
  obtain ⟨i, hi, e⟩ := List.mem_iff_getElem.1 h1
  exact ⟨i, by rw [← e]; exact List.getElem?_eq_getElem hi, h2⟩
/-- What at tells. -/
def atOf (l : List Ob) (n : List UInt8) (x : Int) : Prop := (look l n = none ∧ x = -1) ∨ ∃ (i : Nat) (f : Ob), look l n = some f ∧ l[i]? = some f ∧ f.nm = n ∧ x = i
theorem refat_any {B qb : Nat} {lv sv : Value} {S : Rs} {w : World} {n : List UInt8} (h : Rf B w qb lv sv S) (hcs : S.obs.length < 1000000000) :
    ∃ x, atOf S.obs n x ∧ Calls Tryz.prog 67 #[.pointer (some ⟨qb, 0, none⟩), .string (bs n)] w fun e w' => e = .returned (.int .i64 x) ∧ w = w' := by
  cases hf : look S.obs n with
  | none => exact ⟨-1, Or.inl ⟨hf, rfl⟩, refat_no h hf hcs⟩
  | some f =>
    obtain ⟨i, hi, hfn⟩ := look_at hf
    exact ⟨i, Or.inr ⟨i, f, hf, hi, hfn, rfl⟩, refat_yes h hi hfn hcs⟩

end Go.Proofs.YtkdidinekoaobaaGreatDoor.M

/- The document's remote: PutNew, Get. -/
namespace Go.Proofs.YtkdidinekoaobaaGreatDoor.M
open Go.RowKit
set_option linter.unusedVariables false

theorem newL_none {l : List Ob} {n b : List UInt8} (h : look l n = none) : newL l n b = lays l n b := by unfold newL; rw [h]
theorem newL_some {l : List Ob} {n b : List UInt8} {f : Ob} (h : look l n = some f) : newL l n b = l := by unfold newL; rw [h]
theorem newE_none {l : List Ob} {n : List UInt8} (h : look l n = none) : newE l n = 0 := by unfold newE; rw [h]
theorem newE_some {l : List Ob} {n : List UInt8} {f : Ob} (h : look l n = some f) : newE l n = 7 := by unfold newE; rw [h]
theorem getB_none {l : List Ob} {n : List UInt8} (h : look l n = none) : getB l n = [] := by unfold getB; rw [h]
theorem getB_some {l : List Ob} {n : List UInt8} {f : Ob} (h : look l n = some f) : getB l n = f.bt := by unfold getB; rw [h]
theorem getE_none {l : List Ob} {n : List UInt8} (h : look l n = none) : getE l n = 5 := by unfold getE; rw [h]
theorem getE_some {l : List Ob} {n : List UInt8} {f : Ob} (h : look l n = some f) : getE l n = 0 := by unfold getE; rw [h]

set_option maxHeartbeats 2000000 in
theorem refputNew_any {B qb : Nat} {lv sv : Value} {S : Rs} {w : World} {n b : List UInt8} (h : Rf B w qb lv sv S) (hc : S.n < 1000000000000) (hf : S.obs.length < 1000000000) (hn : n.length ≤ 9223372036854775807) :
    Calls Tryz.prog 42 #[.pointer (some ⟨qb, 0, none⟩), .string (bs n), .string (bs b)] w (RfPost B qb lv sv (takes S (newL S.obs n b)) (.int .i64 (errOf S (newE S.obs n))) w) := by
  have HF := Lib.hid (reffate_any h hc)
  rcases hl : look S.obs n with _ | o <;> rcases fate_three S with hk | hk | hk
  · rw [newL_none hl, newE_none hl, takes_lost _ hk, err_far _ (Or.inl hk)]
    have HK := Lib.hid hk; have HL0 := Lib.hid hl
    clear h hk hl
    go_enter Tryz.func42, Tryz.ntmps42
    go_wp2_with fail
    refine HF.out.mono ?_
    rintro e w1 ⟨rfl, lv1, sv1, h1, f1, t1⟩
    rw [HK.out]
    have HA := Lib.hid (refat_no h1 HL0.out hf)
    have H1 := Lib.hid h1; have HT := Lib.hid (And.intro f1 t1)
    clear h1 f1 t1
    go_wp2_with fail
    refine HA.out.mono ?_
    rintro e w1' ⟨rfl, rfl⟩
    clear HA
    go_wp2_with fail
    go_ret
    exact ⟨rfl, ⟨lv1, sv1, H1.out, HT.out.1, HT.out.2⟩⟩
  · rw [newL_none hl, newE_none hl, takes_other _ (by omega), err_far _ (Or.inr hk)]
    have HK := Lib.hid hk; have HL0 := Lib.hid hl
    clear h hk hl
    go_enter Tryz.func42, Tryz.ntmps42
    go_wp2_with fail
    refine HF.out.mono ?_
    rintro e w1 ⟨rfl, lv1, sv1, h1, f1, t1⟩
    rw [HK.out]
    have HA := Lib.hid (refat_no h1 HL0.out hf)
    have H1 := Lib.hid h1; have HT := Lib.hid (And.intro f1 t1)
    clear h1 f1 t1
    go_wp2_with fail
    refine HA.out.mono ?_
    rintro e w1' ⟨rfl, rfl⟩
    clear HA
    have HL := Lib.hid (lay_any H1.out n b hn hf)
    go_wp2_with fail
    refine HL.out.mono ?_
    rintro e w2 ⟨rfl, hs2⟩
    have HS2 := Lib.hid hs2; clear hs2
    go_wp2_with fail
    go_ret
    exact ⟨rfl, RfStep.on HT.out.1 HT.out.2 HS2.out⟩
  · rw [newL_none hl, newE_none hl, takes_other _ hk.1, err_fine _ (by unfold far; omega)]
    have j1 : (fateOf S == 1) = false := by simpa using hk.1
    have j2 : (fateOf S == 2) = false := by simpa using hk.2
    have j3 : (fateOf S != 1) = true := by simp [bne, j1]
    obtain ⟨k1, k2⟩ := hk
    have HL0 := Lib.hid hl
    clear h hl
    go_enter Tryz.func42, Tryz.ntmps42
    go_wp2_with fail
    refine HF.out.mono ?_
    rintro e w1 ⟨rfl, lv1, sv1, h1, f1, t1⟩
    have HA := Lib.hid (refat_no h1 HL0.out hf)
    have H1 := Lib.hid h1; have HT := Lib.hid (And.intro f1 t1)
    clear h1 f1 t1
    go_wp2_with fail
    refine HA.out.mono ?_
    rintro e w1' ⟨rfl, rfl⟩
    clear HA
    have HL := Lib.hid (lay_any H1.out n b hn hf)
    go_wp2_with fail
    refine HL.out.mono ?_
    rintro e w2 ⟨rfl, hs2⟩
    have HS2 := Lib.hid hs2; clear hs2
    go_wp2_with fail
    go_ret
    exact ⟨rfl, RfStep.on HT.out.1 HT.out.2 HS2.out⟩
  · rw [newL_some hl, newE_some hl, takes_same, err_far _ (Or.inl hk)]
    have HK := Lib.hid hk; have HL0 := Lib.hid hl
    clear h hk hl
    go_enter Tryz.func42, Tryz.ntmps42
    go_wp2_with fail
    refine HF.out.mono ?_
    rintro e w1 ⟨rfl, lv1, sv1, h1, f1, t1⟩
    rw [HK.out]
    obtain ⟨i, hi, hfn⟩ := look_at HL0.out
    have HA := Lib.hid (refat_yes h1 hi hfn hf)
    clear hi hfn
    have H1 := Lib.hid h1; have HT := Lib.hid (And.intro f1 t1)
    clear h1 f1 t1
    go_wp2_with fail
    refine HA.out.mono ?_
    rintro e w1' ⟨rfl, rfl⟩
    clear HA
    go_wp2_with fail
    go_ret
    exact ⟨rfl, ⟨lv1, sv1, H1.out, HT.out.1, HT.out.2⟩⟩
  · rw [newL_some hl, newE_some hl, takes_same, err_far _ (Or.inr hk)]
    have HK := Lib.hid hk; have HL0 := Lib.hid hl
    clear h hk hl
    go_enter Tryz.func42, Tryz.ntmps42
    go_wp2_with fail
    refine HF.out.mono ?_
    rintro e w1 ⟨rfl, lv1, sv1, h1, f1, t1⟩
    rw [HK.out]
    obtain ⟨i, hi, hfn⟩ := look_at HL0.out
    have HA := Lib.hid (refat_yes h1 hi hfn hf)
    clear hi hfn
    have H1 := Lib.hid h1; have HT := Lib.hid (And.intro f1 t1)
    clear h1 f1 t1
    go_wp2_with fail
    refine HA.out.mono ?_
    rintro e w1' ⟨rfl, rfl⟩
    clear HA
    go_wp2_with fail
    go_ret
    exact ⟨rfl, ⟨lv1, sv1, H1.out, HT.out.1, HT.out.2⟩⟩
  · rw [newL_some hl, newE_some hl, takes_same, err_fine _ (by unfold far; omega)]
    have j1 : (fateOf S == 1) = false := by simpa using hk.1
    have j2 : (fateOf S == 2) = false := by simpa using hk.2
    have j3 : (fateOf S != 1) = true := by simp [bne, j1]
    obtain ⟨k1, k2⟩ := hk
    have HL0 := Lib.hid hl
    clear h hl
    go_enter Tryz.func42, Tryz.ntmps42
    go_wp2_with fail
    refine HF.out.mono ?_
    rintro e w1 ⟨rfl, lv1, sv1, h1, f1, t1⟩
    obtain ⟨i, hi, hfn⟩ := look_at HL0.out
    have HA := Lib.hid (refat_yes h1 hi hfn hf)
    clear hi hfn
    have H1 := Lib.hid h1; have HT := Lib.hid (And.intro f1 t1)
    clear h1 f1 t1
    go_wp2_with fail
    refine HA.out.mono ?_
    rintro e w1' ⟨rfl, rfl⟩
    clear HA
    go_wp2_with fail
    go_ret
    exact ⟨rfl, ⟨lv1, sv1, H1.out, HT.out.1, HT.out.2⟩⟩

set_option maxHeartbeats 2000000 in
theorem refget_any {B qb : Nat} {lv sv : Value} {S : Rs} {w : World} {n : List UInt8} (h : Rf B w qb lv sv S) (hc : S.n < 1000000000000) (hf : S.obs.length < 1000000000) :
    Calls Tryz.prog 35 #[.pointer (some ⟨qb, 0, none⟩), .string (bs n)] w (RfPost B qb lv sv (used S) (.tuple #[.string (bs (bytesIf S (getB S.obs n))), .int .i64 (errOf S (getE S.obs n))]) w) := by
  have HF := Lib.hid (reffate_any h hc)
  rcases fate_three S with hk | hk | hk
  · rw [err_far _ (Or.inl hk), bytes_far _ (Or.inl hk)]
    have HK := Lib.hid hk
    clear h hk
    go_enter Tryz.func35, Tryz.ntmps35
    go_wp2_with fail
    refine HF.out.mono ?_
    rintro e w1 ⟨rfl, hs⟩
    rw [HK.out]
    go_wp2_with fail
    go_ret2
    exact ⟨rfl, hs⟩
  · rw [err_far _ (Or.inr hk), bytes_far _ (Or.inr hk)]
    have HK := Lib.hid hk
    clear h hk
    go_enter Tryz.func35, Tryz.ntmps35
    go_wp2_with fail
    refine HF.out.mono ?_
    rintro e w1 ⟨rfl, hs⟩
    rw [HK.out]
    go_wp2_with fail
    go_ret2
    exact ⟨rfl, hs⟩
  · rw [err_fine _ (by unfold far; omega), bytes_fine _ (by unfold far; omega)]
    have j1 : (fateOf S == 1) = false := by simpa using hk.1
    have j2 : (fateOf S == 2) = false := by simpa using hk.2
    clear h hk
    rcases hl : look S.obs n with _ | o
    · rw [getB_none hl, getE_none hl]
      have HL0 := Lib.hid hl; clear hl
      go_enter Tryz.func35, Tryz.ntmps35
      go_wp2_with fail
      refine HF.out.mono ?_
      rintro e w1 ⟨rfl, lv1, sv1, h1, f1, t1⟩
      have HA := Lib.hid (refat_no h1 HL0.out hf)
      have H1 := Lib.hid h1; have HT := Lib.hid (And.intro f1 t1)
      clear h1 f1 t1
      go_wp2_with fail
      refine HA.out.mono ?_
      rintro e w1' ⟨rfl, rfl⟩
      clear HA
      go_wp2_with fail
      go_ret2
      exact ⟨rfl, ⟨lv1, sv1, H1.out, HT.out.1, HT.out.2⟩⟩
    · rw [getB_some hl, getE_some hl]
      have HL0 := Lib.hid hl; clear hl
      go_enter Tryz.func35, Tryz.ntmps35
      go_wp2_with fail
      refine HF.out.mono ?_
      rintro e w1 ⟨rfl, lv1, sv1, h1, f1, t1⟩
      obtain ⟨i, hi, hfn⟩ := look_at HL0.out
      have HA := Lib.hid (refat_yes h1 hi hfn hf)
      obtain ⟨c0, _, _, _⟩ := h1.cells
      obtain ⟨a, cap, hv⟩ := objs_form h1.row
      have hrow := h1.row
      subst hv
      obtain ⟨g, hg, _, hgl, d0, d1⟩ := objs_at hrow hi
      subst hg
      obtain ⟨L, hL⟩ : ∃ L, L = (used S).obs.length := ⟨_, rfl⟩
      have hil : i < L := by rw [hL]; exact (List.getElem?_eq_some_iff.1 hi).1
      have H1 := Lib.hid h1; have HT := Lib.hid (And.intro f1 t1)
      rw [← hL] at c0
      have hLf : L < 1000000000 := by rw [hL]; exact hf
      clear h1 f1 t1 hi hfn hrow hL
      go_wp2_with fail
      refine HA.out.mono ?_
      rintro e w1' ⟨rfl, rfl⟩
      clear HA
      go_wp2_with fail
      go_ret2
      exact ⟨rfl, ⟨_, sv1, H1.out, HT.out.1, HT.out.2⟩⟩
end Go.Proofs.YtkdidinekoaobaaGreatDoor.M

/- The document's remote: List; two lists that are the same. -/
namespace Go.Proofs.YtkdidinekoaobaaGreatDoor.M
open Go.RowKit Go.Maps
set_option linter.unusedVariables false

theorem infoStr : (Tryz.prog.info? 9).map (fun i => (i.zero, i.size, i.bytes)) = some (some (.string ⟨#[]⟩), 1, 16) := by kernel_rfl
theorem strs_snoc (ns : List (List UInt8)) (n : List UInt8) : strs (ns ++ [n]) = strs ns ++ [.string (bs n)] := by simp [strs]
theorem owns_form {w : World} {B n : Nat} {e : TypeId} {v : Value} {xs : List Value} (h : w.ownsRow B e 1 v n xs) : ∃ a cap, v = .slice a n cap := by
  rcases owns_cases h with ⟨rfl, rfl, _⟩ | ⟨g, cap, cur, hv, _⟩
  · exact ⟨none, 0, rfl⟩
  · exact ⟨_, cap, hv⟩
theorem cell_one_new (w : World) (c0 : Value) (t : TypeId) : ∀ j u, [c0][j]? = some u → (w.alloc (.cells #[c0] t)).cell? ((⟨w.heap.size, 0, none⟩ : Addr).add j) = some u := by
  intro j u hu
  rw [show (⟨w.heap.size, 0, none⟩ : Addr).add j = ⟨w.heap.size, j, none⟩ from by simp [Addr.add]; omega, World.cell?_alloc_mark]
  simpa using hu

/-- What is behind the document's List. -/
def rlistPost (B qb : Nat) (lv sv : Value) (S' : Rs) (ns : List (List UInt8)) (x : Int) (w : World) (e : Ending) (w' : World) : Prop :=
  ∃ va vc, e = .returned (.tuple #[.slice va ns.length vc, .int .i64 x]) ∧ Names w w' (.slice va ns.length vc) ns ∧ RfStep B qb lv sv w S' w'

set_option maxHeartbeats 1000000 in
set_option maxRecDepth 100000 in
theorem reflist_any {B qb : Nat} {lv sv : Value} {S : Rs} {w : World} (h : Rf B w qb lv sv S) (hc : S.n < 1000000000000) (hf : S.obs.length < 1000000000) :
    Calls Tryz.prog 33 #[.pointer (some ⟨qb, 0, none⟩)] w (rlistPost B qb lv sv (used S) (namesIf S) (errOf S 0) w) := by
  have HF := Lib.hid (reffate_any h hc)
  rcases fate_three S with hk | hk | hk
  · rw [err_far _ (Or.inl hk), names_far (Or.inl hk)]
    have HK := Lib.hid hk
    clear h hk
    go_enter Tryz.func33, Tryz.ntmps33
    go_wp2_with fail
    refine HF.out.mono ?_
    rintro e w1 ⟨rfl, hs⟩
    rw [HK.out]
    go_wp2_with fail
    go_ret2
    exact ⟨none, 0, rfl, World.ownsRow_nil _ _ _ _, hs⟩
  · rw [err_far _ (Or.inr hk), names_far (Or.inr hk)]
    have HK := Lib.hid hk
    clear h hk
    go_enter Tryz.func33, Tryz.ntmps33
    go_wp2_with fail
    refine HF.out.mono ?_
    rintro e w1 ⟨rfl, hs⟩
    rw [HK.out]
    go_wp2_with fail
    go_ret2
    exact ⟨none, 0, rfl, World.ownsRow_nil _ _ _ _, hs⟩
  · rw [err_fine _ (by unfold far; omega), names_fine (by unfold far; omega)]
    have j1 : (fateOf S == 1) = false := by simpa using hk.1
    have j2 : (fateOf S == 2) = false := by simpa using hk.2
    obtain ⟨i0, hi0, hz0, hz1, hz2⟩ := info_parts infoStr
    have HI0 := Lib.hid (And.intro hi0 (And.intro hz0 (And.intro hz1 hz2)))
    clear hi0 hz0 hz1 hz2 h hk
    go_enter Tryz.func33, Tryz.ntmps33
    go_wp2_with fail
    refine HF.out.mono ?_
    rintro e w1 ⟨rfl, lv1, sv1, h1, f1, t1⟩
    obtain ⟨c1, _, _, _⟩ := h1.cells
    obtain ⟨a, cap, hv⟩ := objs_form h1.row
    obtain ⟨L, hL⟩ : ∃ L, L = S.obs.length := ⟨_, rfl⟩
    have hrow := h1.row
    have hq := (h1.lt (Or.inl rfl)).2
    subst hv
    rw [show (used S).obs = S.obs from rfl, ← hL] at hrow c1
    rw [← hL] at hf
    have HL := Lib.hid hL; have HR := Lib.hid hrow; have H1 := Lib.hid h1; have HT := Lib.hid (And.intro f1 t1)
    clear hL hrow h1 f1 t1
    go_wp2_with fail
    go_loopg [5, 6] L (fun g s it wr => ∃ (i : Nat) (u : Value), i + g = L ∧ it = .int .i64 i ∧ u = s ∧ wr.ownsRow w1.heap.size 9 1 u (((S.obs.take i).map Ob.nm).length) (strs ((S.obs.take i).map Ob.nm)) ∧ Below w1.heap.size w1 wr)
    case atStart => exact ⟨0, _, by omega, rfl, rfl, World.ownsRow_nil _ _ _ _, Below.refl _ _⟩
    case round =>
      obtain ⟨i, u, hi, rfl, rfl, hown, hbw⟩ := hrel
      rw [← hbw.cell (p := ⟨qb, 0, none⟩) hq] at c1
      by_cases hlt : i < L
      · obtain ⟨f, hf⟩ : ∃ f, S.obs[i]? = some f := ⟨S.obs[i]'(by have := HL.out; omega), List.getElem?_eq_getElem _⟩
        obtain ⟨g, hg, _, hgl, d0, d1⟩ := objs_at HR.out hf
        subst hg
        rw [← hbw.cell (p := ⟨g, _, none⟩) hgl] at d0
        have htk : (S.obs.take (i + 1)).map Ob.nm = (S.obs.take i).map Ob.nm ++ [f.nm] := by rw [List.take_add_one, hf]; simp
        have HT2 := Lib.hid htk
        have hml : ((S.obs.take i).map Ob.nm).length ≤ i := by rw [List.length_map]; exact List.length_take_le _ _
        have hbz := hbw.size
        clear htk hf d1
        have HO := Lib.hid hown; have HBW := Lib.hid hbw; clear hown
        go_wp2_with (first
          | (at_builtin; refine wpList_append_own_at _ rfl _ _ 65 rfl w1.heap.size 9 i0 _ 1 16 Tryz.underlying65 HI0.out.1 HI0.out.2.1 HI0.out.2.2.1 HI0.out.2.2.2 rfl (by decide) _ _ _ rfl (HO.out.alloc _) ⟨wr.heap.size, 0, none⟩ 1 1 [.string (bs f.nm)] rfl rfl (cell_one_new _ _ _) (by simp [Value.oneCell']) (by unfold maxLen; omega) (by omega) (by simp; omega) ?_; intro v' w2 hown' hgrow hnil hloc)
          | fail)
        go_roundg (gk - 1)
        case measure => omega
        case rel =>
          refine ⟨i + 1, _, by omega, by go_num, rfl, ?_, Below.grown (HBW.out.alloc hbz _) hgrow (by simp; omega) (fun j hj => (HO.out.lt _ hj).1)⟩
          rw [HT2.out, strs_snoc, List.length_append]
          exact hown'
      · obtain rfl : i = L := by omega
        have hall : S.obs.take i = S.obs := List.take_of_length_le (by rw [HL.out]; exact Nat.le_refl _)
        rw [hall] at hown
        clear hall
        obtain ⟨ua, uc, hu⟩ := owns_form hown
        obtain ⟨M, hM⟩ : ∃ M, M = (S.obs.map Ob.nm).length := ⟨_, rfl⟩
        rw [← hM] at hown hu
        subst hu
        have HM := Lib.hid hM; have HO := Lib.hid hown; have HBW := Lib.hid hbw; clear hM hown
        go_wp2_with fail
        go_ret2
        have hsz := HT.out.2.size
        refine ⟨ua, uc, by rw [← HM.out]; rfl, ?_, RfStep.on HT.out.1 HT.out.2 ⟨_, sv1, H1.out.below HBW.out, fun k hk => Or.inl hk, Turn.of_below _ HBW.out (Nat.le_refl _)⟩⟩
        unfold Names
        rw [← HM.out]
        exact ownsRow_base_a HO.out hsz

/-- Two lists of the same names. -/
theorem strings_same {w : World} {Ba Bb : Nat} {a b : Option Addr} {ca cb : Nat} {ns : List (List UInt8)} (ha : w.ownsRow Ba 9 1 (.slice a ns.length ca) ns.length (strs ns)) (hb : w.ownsRow Bb 9 1 (.slice b ns.length cb) ns.length (strs ns)) (hn : ns.length < 1000000000) :
    Calls Tryz.prog 26 #[.slice a ns.length ca, .slice b ns.length cb] w fun e w' => e = .returned (.bool true) ∧ Below w.heap.size w w' := by
  obtain ⟨L, hL⟩ : ∃ L, L = ns.length := ⟨_, rfl⟩
  rw [← hL] at ha hb hn ⊢
  have HL := Lib.hid hL; have HA := Lib.hid ha; have HB := Lib.hid hb
  clear hL ha hb
  go_enter Tryz.func26, Tryz.ntmps26
  go_wp2
  go_loopg [5] L (fun g it wr => ∃ (i q : Nat), i + g = L ∧ it = .int .i64 i ∧ wr = w.drewN q)
  case atStart => exact ⟨0, 0, by omega, rfl, rfl⟩
  case round =>
    obtain ⟨i, q, hi, rfl, rfl⟩ := hrel
    by_cases hlt : i < L
    · obtain ⟨n, hn'⟩ : ∃ n, ns[i]? = some n := ⟨ns[i]'(by have := HL.out; omega), List.getElem?_eq_getElem _⟩
      have hcell : ∀ {B : Nat} {a : Option Addr} {c : Nat}, w.ownsRow B 9 1 (.slice a L c) L (strs ns) → ∃ g, a = some ⟨g, 0, none⟩ ∧ w.cell? ⟨g, i, none⟩ = some (.string (bs n)) := by
        intro B a c h
        rcases owns_cases h with ⟨_, h0, _⟩ | ⟨g, cap', cur, hv, _, _, _, _, _, _, _, _, hce, _⟩
        · omega
        · injection hv with e1 e2 e3
          exact ⟨g, e1, by rw [hce i hlt, strs_at, hn']; rfl⟩
      obtain ⟨ga, hga, da⟩ := hcell HA.out
      obtain ⟨gb, hgb, db⟩ := hcell HB.out
      subst hga hgb
      clear hcell hn'
      go_wp2
      go_quiet (fail)
      go_wp2
      go_roundg (gk - 1)
      case measure => omega
      case rel => exact ⟨i + 1, _, by omega, by go_num, rfl⟩
    · obtain rfl : i = L := by omega
      go_wp2
      go_ret
      exact ⟨rfl, ⟨rfl, rfl, rfl, Nat.le_refl _, fun _ _ => rfl⟩⟩
end Go.Proofs.YtkdidinekoaobaaGreatDoor.M

/- The program's remote and the document's, side by side. -/
namespace Go.Proofs.YtkdidinekoaobaaGreatDoor.M
open Go.RowKit Go.Maps
set_option linter.unusedVariables false

/-- Both remotes, apart from one another and from the blocks X. -/
def Bo (B : Nat) (w : World) (pb qb : Nat) (X : Nat → Prop) (Sd Sr : Rs) : Prop :=
  ∃ F lv sv, RkS B w pb F Sd ∧ Rf B w qb lv sv Sr ∧ (∀ k, F k → ¬ rfoot qb lv sv k) ∧ ∀ k, X k → k < w.heap.size ∧ ¬ F k ∧ ¬ rfoot qb lv sv k

/-- Nothing below B has turned, and none of the blocks X. -/
def Fr (B : Nat) (X : Nat → Prop) (w w' : World) : Prop := Below B w w' ∧ ∀ k, X k → w'.heap[k]? = w.heap[k]?

section
variable {B pb qb : Nat} {X : Nat → Prop} {Sd Sr Sd' Sr' : Rs} {w w' : World} {fn : Nat} {args : Array Value} {R : Ending → World → Prop}

theorem Fr.refl : Fr B X w w := ⟨Below.refl _ _, fun _ _ => rfl⟩
theorem Fr.trans {a b c : World} (h : Fr B X a b) (k : Fr B X b c) : Fr B X a c := ⟨h.1.trans k.1, fun i hi => (k.2 i hi).trans (h.2 i hi)⟩

theorem Bo.size (h : Bo B w pb qb X Sd Sr) : B ≤ w.heap.size := by obtain ⟨F, lv, sv, _, hr, _⟩ := h; exact hr.base.2.2
theorem Bo.qlt (h : Bo B w pb qb X Sd Sr) : B ≤ qb ∧ qb < w.heap.size := by obtain ⟨F, lv, sv, _, hr, _⟩ := h; exact hr.lt (Or.inl rfl)

/-- What only makes new blocks leaves them as they are. -/
theorem Bo.below (h : Bo B w pb qb X Sd Sr) (hb : Below w.heap.size w w') : Bo B w' pb qb X Sd Sr := by
  obtain ⟨F, lv, sv, hd, hr, h1, h2⟩ := h
  exact ⟨F, lv, sv, hd.below hb, hr.below hb, h1, fun k hk => by
    obtain ⟨a1, a2⟩ := h2 k hk
    exact ⟨Nat.lt_of_lt_of_le a1 hb.size, a2⟩⟩
theorem Bo.drew (h : Bo B w pb qb X Sd Sr) : Bo B w.drew pb qb X Sd Sr := h.below ⟨rfl, rfl, rfl, Nat.le_refl _, fun _ _ => rfl⟩
theorem Fr.below (h : Bo B w pb qb X Sd Sr) (hb : Below w.heap.size w w') : Fr B X w w' := ⟨hb.mono h.size, fun k hk => by
  obtain ⟨F, lv, sv, hd, hr, h1, h2⟩ := h
  exact hb.block k (h2 k hk).1⟩

/-- A new block may be watched. -/
theorem Bo.watch (h : Bo B w pb qb (fun _ => False) Sd Sr) (o : Obj) : Bo B (w.alloc o) pb qb (fun k => k = w.heap.size) Sd Sr := by
  have hb : Below w.heap.size w (w.alloc o) := (Below.refl _ w).alloc (Nat.le_refl _) _
  obtain ⟨F, lv, sv, hd, hr, h1, h2⟩ := h
  refine ⟨F, lv, sv, hd.below hb, hr.below hb, h1, ?_⟩
  rintro k rfl
  exact ⟨by simp, fun hf => by have := (hd.lt hf).2; omega, fun e => by have := (hr.lt e).2; omega⟩
theorem Bo.drop (h : Bo B w pb qb X Sd Sr) : Bo B w pb qb (fun _ => False) Sd Sr := by
  obtain ⟨F, lv, sv, hd, hr, h1, h2⟩ := h
  exact ⟨F, lv, sv, hd, hr, h1, fun k hk => hk.elim⟩

theorem bo_d (h : Bo B w pb qb X Sd Sr) (hc : ∀ F, RkS B w pb F Sd → Calls Tryz.prog fn args w fun e w' => R e w' ∧ ∃ F', RkS B w' pb F' Sd' ∧ (∀ k, F' k → F k ∨ w.heap.size ≤ k) ∧ Turn F w w') :
    Calls Tryz.prog fn args w fun e w' => R e w' ∧ Bo B w' pb qb X Sd' Sr ∧ Fr B X w w' := by
  obtain ⟨F, lv, sv, hd, hr, h1, h2⟩ := h
  refine (hc F hd).mono ?_
  rintro e w' ⟨hR, F', hd', hF', t⟩
  have hB := hr.base.2.2
  refine ⟨hR, ⟨F', lv, sv, hd', hr.kept t (fun k hk hkk hf => h1 k hf hkk), fun k hk hkk => ?_, fun k hk => ?_⟩, t.below (fun k hk => (hd.lt hk).1) hB, fun k hk => t.block k (h2 k hk).1 (h2 k hk).2.1⟩
  · rcases hF' k hk with hk | hk
    · exact h1 k hk hkk
    · have := (hr.lt hkk).2; omega
  · obtain ⟨a1, a2, a3⟩ := h2 k hk
    exact ⟨Nat.lt_of_lt_of_le a1 t.size, fun hf => by
      rcases hF' k hf with hf | hf
      · exact a2 hf
      · omega, a3⟩

theorem bo_r (h : Bo B w pb qb X Sd Sr) (hc : ∀ lv sv, Rf B w qb lv sv Sr → Calls Tryz.prog fn args w fun e w' => R e w' ∧ RfStep B qb lv sv w Sr' w') :
    Calls Tryz.prog fn args w fun e w' => R e w' ∧ (Bo B w' pb qb X Sd Sr' ∧ Turn (fun k => k = qb) w w') ∧ Fr B X w w' := by
  obtain ⟨F, lv, sv, hd, hr, h1, h2⟩ := h
  refine (hc lv sv hr).mono ?_
  rintro e w' ⟨hR, lv', sv', hr', hl, t⟩
  have hB := hr.base.2.2
  refine ⟨hR, ⟨⟨F, lv', sv', hd.kept t (fun k hk hf e => h1 k hf (Or.inl e)), hr', fun k hk hkk => ?_, fun k hk => ?_⟩, t⟩, t.below (fun k hk => by rw [hk]; exact hr.base.1) hB, fun k hk => t.block k (h2 k hk).1 (fun e => (h2 k hk).2.2 (Or.inl e))⟩
  · rcases hl k hkk with e | e
    · exact h1 k hk e
    · have := (hd.lt hk).2; omega
  · obtain ⟨a1, a2, a3⟩ := h2 k hk
    exact ⟨Nat.lt_of_lt_of_le a1 t.size, a2, fun e => by
      rcases hl k e with e | e
      · exact a3 e
      · omega⟩
end

section
variable {B pb qb : Nat} {X : Nat → Prop} {Sd Sr : Rs} {w : World} {n b : List UInt8} (h : Bo B w pb qb X Sd Sr)
include h
theorem bo_calls : Calls Tryz.prog 25 #[.pointer (some ⟨pb, 0, none⟩)] w fun e w' => e = .returned (.int .i64 Sd.n) ∧ w = w' := by
  obtain ⟨F, lv, sv, hd, _⟩ := h
  exact calls_any hd
theorem bo_n : w.cell? ⟨qb, 2, none⟩ = some (.int .i64 Sr.n) := by
  obtain ⟨F, lv, sv, hd, hr, _⟩ := h
  exact hr.cells.2.2.1

def RetR (r : Value) (e : Ending) (_ : World) : Prop := e = .returned r

theorem bo_put (hn : n.length ≤ 9223372036854775807) (hc : Sd.n < 1000000000000) (hf : Sd.obs.length < 1000000000) : Calls Tryz.prog 21 #[.pointer (some ⟨pb, 0, none⟩), .string (bs n), .string (bs b)] w fun e w' => RetR (.int .i64 (errOf Sd 0)) e w' ∧ Bo B w' pb qb X (takes Sd (lays Sd.obs n b)) Sr ∧ Fr B X w w' :=
  bo_d h (fun F hd => put_m hd (by unfold maxLen; omega) hc hf)
theorem bo_refput (hn : n.length ≤ 9223372036854775807) (hc : Sr.n < 1000000000000) (hf : Sr.obs.length < 1000000000) : Calls Tryz.prog 22 #[.pointer (some ⟨qb, 0, none⟩), .string (bs n), .string (bs b)] w fun e w' => RetR (.int .i64 (errOf Sr 0)) e w' ∧ (Bo B w' pb qb X Sd (takes Sr (lays Sr.obs n b)) ∧ Turn (fun k => k = qb) w w') ∧ Fr B X w w' :=
  bo_r h (fun lv sv hr => refput_any hr hc hf hn)
theorem bo_putNew (hn : n.length ≤ 9223372036854775807) (hc : Sd.n < 1000000000000) (hf : Sd.obs.length < 1000000000) : Calls Tryz.prog 75 #[.pointer (some ⟨pb, 0, none⟩), .string (bs n), .string (bs b)] w fun e w' => RetR (.int .i64 (errOf Sd (newE Sd.obs n))) e w' ∧ Bo B w' pb qb X (takes Sd (newL Sd.obs n b)) Sr ∧ Fr B X w w' :=
  bo_d h (fun F hd => putNew_m hd (by unfold maxLen; omega) hc hf)
theorem bo_refputNew (hn : n.length ≤ 9223372036854775807) (hc : Sr.n < 1000000000000) (hf : Sr.obs.length < 1000000000) : Calls Tryz.prog 42 #[.pointer (some ⟨qb, 0, none⟩), .string (bs n), .string (bs b)] w fun e w' => RetR (.int .i64 (errOf Sr (newE Sr.obs n))) e w' ∧ (Bo B w' pb qb X Sd (takes Sr (newL Sr.obs n b)) ∧ Turn (fun k => k = qb) w w') ∧ Fr B X w w' :=
  bo_r h (fun lv sv hr => refputNew_any hr hc hf hn)
theorem bo_delete (hn : n.length ≤ 9223372036854775807) (hc : Sd.n < 1000000000000) : Calls Tryz.prog 23 #[.pointer (some ⟨pb, 0, none⟩), .string (bs n)] w fun e w' => RetR (.int .i64 (errOf Sd 0)) e w' ∧ Bo B w' pb qb X (takes Sd (wo Ob.nm Sd.obs n)) Sr ∧ Fr B X w w' :=
  bo_d h (fun F hd => delete_m hd (by unfold maxLen; omega) hc)
theorem bo_refdelete (hc : Sr.n < 1000000000000) (hf : Sr.obs.length < 1000000000) : Calls Tryz.prog 24 #[.pointer (some ⟨qb, 0, none⟩), .string (bs n)] w fun e w' => RetR (.int .i64 (errOf Sr 0)) e w' ∧ (Bo B w' pb qb X Sd (takes Sr (wo Ob.nm Sr.obs n)) ∧ Turn (fun k => k = qb) w w') ∧ Fr B X w w' :=
  bo_r h (fun lv sv hr => refdelete_any hr hc hf)
theorem bo_get (hn : n.length ≤ 9223372036854775807) (hc : Sd.n < 1000000000000) : Calls Tryz.prog 45 #[.pointer (some ⟨pb, 0, none⟩), .string (bs n)] w fun e w' => RetR (.tuple #[.string (bs (bytesIf Sd (getB Sd.obs n))), .int .i64 (errOf Sd (getE Sd.obs n))]) e w' ∧ Bo B w' pb qb X (used Sd) Sr ∧ Fr B X w w' :=
  bo_d h (fun F hd => get_m hd (by unfold maxLen; omega) hc)
theorem bo_refget (hc : Sr.n < 1000000000000) (hf : Sr.obs.length < 1000000000) : Calls Tryz.prog 35 #[.pointer (some ⟨qb, 0, none⟩), .string (bs n)] w fun e w' => RetR (.tuple #[.string (bs (bytesIf Sr (getB Sr.obs n))), .int .i64 (errOf Sr (getE Sr.obs n))]) e w' ∧ (Bo B w' pb qb X Sd (used Sr) ∧ Turn (fun k => k = qb) w w') ∧ Fr B X w w' :=
  bo_r h (fun lv sv hr => refget_any hr hc hf)
theorem bo_list (hc : Sd.n < 1000000000000) : Calls Tryz.prog 29 #[.pointer (some ⟨pb, 0, none⟩)] w fun e w' => (∃ va vc, e = .returned (.tuple #[.slice va (namesIf Sd).length vc, .int .i64 (errOf Sd 0)]) ∧ Names w w' (.slice va (namesIf Sd).length vc) (namesIf Sd)) ∧ Bo B w' pb qb X (used Sd) Sr ∧ Fr B X w w' :=
  bo_d (R := fun e w' => ∃ va vc, e = .returned (.tuple #[.slice va (namesIf Sd).length vc, .int .i64 (errOf Sd 0)]) ∧ Names w w' (.slice va (namesIf Sd).length vc) (namesIf Sd)) h (fun F hd => (list_m hd hc).mono fun e w' ⟨va, vc, h1, h2, h3⟩ => ⟨⟨va, vc, h1, h2⟩, h3⟩)
theorem bo_reflist (hc : Sr.n < 1000000000000) (hf : Sr.obs.length < 1000000000) : Calls Tryz.prog 33 #[.pointer (some ⟨qb, 0, none⟩)] w fun e w' => (∃ va vc, e = .returned (.tuple #[.slice va (namesIf Sr).length vc, .int .i64 (errOf Sr 0)]) ∧ Names w w' (.slice va (namesIf Sr).length vc) (namesIf Sr)) ∧ (Bo B w' pb qb X Sd (used Sr) ∧ Turn (fun k => k = qb) w w') ∧ Fr B X w w' :=
  bo_r (R := fun e w' => ∃ va vc, e = .returned (.tuple #[.slice va (namesIf Sr).length vc, .int .i64 (errOf Sr 0)]) ∧ Names w w' (.slice va (namesIf Sr).length vc) (namesIf Sr)) h (fun lv sv hr => (reflist_any hr hc hf).mono fun e w' ⟨va, vc, h1, h2, h3⟩ => ⟨⟨va, vc, h1, h2⟩, h3⟩)
theorem bo_script (a : Option Addr) (l : List Int) (c : Nat) (hl : IntsAt w a l) (hb : l.length ≤ 17592186044416) (hr : ∀ y ∈ l, -9223372036854775808 ≤ y ∧ y ≤ 9223372036854775807) :
    Calls Tryz.prog 20 #[.pointer (some ⟨pb, 0, none⟩), .slice a l.length c] w fun e w' => RetR (.tuple #[]) e w' ∧ Bo B w' pb qb X (setS Sd l) Sr ∧ Fr B X w w' :=
  bo_d h (fun F hd => script_m hd a l c hl hb hr)
end

/-! ### what a call leaves of a remote's size -/
theorem n_takes (S : Rs) (l : List Ob) : (takes S l).n = S.n + 1 := rfl
theorem len_takes (S : Rs) (l : List Ob) (h : l.length ≤ S.obs.length + 1) : (takes S l).obs.length ≤ S.obs.length + 1 := by
  unfold takes
  dsimp only
  split
  · omega
  · exact h
end Go.Proofs.YtkdidinekoaobaaGreatDoor.M
