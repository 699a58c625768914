/- Rows of records that a function owns: what is read out of them, pieces of them as sources of an append, and one more laid over. -/
import Derived.Test.YtfcfleeiffmjdaaGmath
import Derived.Test.YtfcfleeiffmjdaaBrow
namespace Go.Proofs.Ytfcfleeiffmjdaa.G
open Go.RowKit
set_option linter.unusedVariables false
set_option linter.unusedSimpArgs false

def fl4 (r : Rc) : List Value := [.int .u64 ((r.q : Nat) : Int), .string (bs r.k), .string (bs r.v), .bool r.g]
theorem flat_cons (r : Rc) (l : List Rc) : flat (r :: l) = fl4 r ++ flat l := rfl
theorem flat_append (a b : List Rc) : flat (a ++ b) = flat a ++ flat b := by simp [flat]
theorem flat_sing (r : Rc) : flat [r] = fl4 r := rfl
theorem flat_len : ∀ l : List Rc, (flat l).length = l.length * 4
  | [] => rfl
  | r :: l => by rw [flat_cons, List.length_append, flat_len l, List.length_cons]; simp [fl4]; omega
theorem flat_one : ∀ l : List Rc, ∀ v ∈ flat l, v.oneCell' = true
  | [], v, h => by simp [flat] at h
  | r :: l, v, h => by
    rw [flat_cons, List.mem_append] at h
    rcases h with h | h
    · simp only [fl4, List.mem_cons, List.not_mem_nil, or_false] at h
      rcases h with rfl | rfl | rfl | rfl <;> rfl
    · exact flat_one l v h
theorem flat_take : ∀ (l : List Rc) (i : Nat), flat (l.take i) = (flat l).take (i * 4)
  | [], i => by simp [flat]
  | r :: l, 0 => by simp [flat]
  | r :: l, i + 1 => by simp [flat_cons, fl4, flat_take l i, show (i + 1) * 4 = i * 4 + 1 + 1 + 1 + 1 by omega]
theorem flat_drop : ∀ (l : List Rc) (i : Nat), flat (l.drop i) = (flat l).drop (i * 4)
  | [], i => by simp [flat]
  | r :: l, 0 => by simp [flat]
  | r :: l, i + 1 => by simp [flat_cons, fl4, flat_drop l i, show (i + 1) * 4 = i * 4 + 1 + 1 + 1 + 1 by omega]

/-- A row of records. -/
def Rw (w : World) (B : Nat) (v : Value) (l : List Rc) : Prop := w.ownsRow B 35 4 v l.length (flat l)
theorem Rw.nil (w : World) (B : Nat) : Rw w B (.slice none 0 0) [] := World.ownsRow_nil _ _ _ _
theorem rw_cases {w : World} {B : Nat} {v : Value} {l : List Rc} (h : Rw w B v l) : (v = .slice none 0 0 ∧ l = []) ∨ ∃ g cap cur, v = .slice (some ⟨g, 0, none⟩) l.length cap ∧ B ≤ g ∧ g < w.heap.size ∧ w.heap[g]? = some (.cells cur 35 (0, 0)) ∧ l.length ≤ cap ∧ cap ≤ maxLen ∧
    cur.size = cap * 4 ∧ (∀ j, j < l.length * 4 → w.cell? ⟨g, j, none⟩ = (flat l)[j]?) ∧ (∀ j, w.frozen? ⟨g, j, none⟩ = false) := by
  obtain ⟨hl, h⟩ := h
  rcases h with ⟨rfl, h0⟩ | ⟨g, cap, cur, rfl, hB, hg, hn, hc, hs, ht⟩
  · exact Or.inl ⟨rfl, List.eq_nil_of_length_eq_zero h0⟩
  · refine Or.inr ⟨g, cap, cur, rfl, hB, (Array.getElem?_eq_some_iff.1 hg).1, hg, hn, hc, hs, fun j hj => ?_, fun j => by simp [World.frozen?, hg]⟩
    rw [cell_of_row w g j cur _ (0, 0) hg, ← ht, List.getElem?_take, if_pos hj]; simp
theorem rw_form {w : World} {B : Nat} {v : Value} {l : List Rc} (h : Rw w B v l) : ∃ a cap, v = .slice a l.length cap ∧ l.length ≤ cap ∧ cap ≤ maxLen := by
  rcases rw_cases h with ⟨rfl, rfl⟩ | ⟨g, cap, _, hv, _, _, _, h1, h2, _⟩
  · exact ⟨none, 0, rfl, Nat.le_refl _, by unfold maxLen; omega⟩
  · exact ⟨_, cap, hv, h1, h2⟩
theorem Rw.later {w w' : World} {B : Nat} {v : Value} {l : List Rc} (h : Rw w B v l) (hb : Below w.heap.size w w') : Rw w' B v l := owns_later h hb
theorem Rw.base {w : World} {B B' : Nat} {v : Value} {l : List Rc} (h : Rw w B v l) (hB : B' ≤ B) : Rw w B' v l := row_base h hB
theorem Rw.recs {w : World} {B : Nat} {v : Value} {l : List Rc} (h : Rw w B v l) : ∃ a cap, v = .slice a l.length cap ∧ RecsT w a l := owns_recs h
/-- The cells of record i. -/
theorem rw_at {w : World} {B : Nat} {a : Option Addr} {cap n : Nat} {l : List Rc} (h : Rw w B (.slice a n cap) l) {i : Nat} {r : Rc} (hr : l[i]? = some r) :
    ∃ g, a = some ⟨g, 0, none⟩ ∧ B ≤ g ∧ g < w.heap.size ∧ w.cell? ⟨g, i * 4, none⟩ = some (.int .u64 ((r.q : Nat) : Int)) ∧ w.cell? ⟨g, i * 4 + 1, none⟩ = some (.string (bs r.k)) ∧
      w.cell? ⟨g, i * 4 + 2, none⟩ = some (.string (bs r.v)) ∧ w.cell? ⟨g, i * 4 + 3, none⟩ = some (.bool r.g) ∧ (∀ j, w.frozen? ⟨g, j, none⟩ = false) := by
  obtain ⟨hi, e⟩ := List.getElem?_eq_some_iff.1 hr
  rcases rw_cases h with ⟨_, rfl⟩ | ⟨g, cap', cur, hv, hB, hg, _, _, _, _, hc, hf⟩
  · simp at hi
  · injection hv with e1 e2 e3
    obtain ⟨h0, h1, h2, h3⟩ := flat_get l i hi
    rw [e] at h0 h1 h2 h3
    exact ⟨g, e1, hB, hg, by rw [hc _ (by omega)]; exact h0, by rw [hc _ (by omega)]; exact h1, by rw [hc _ (by omega)]; exact h2, by rw [hc _ (by omega)]; exact h3, hf⟩
/-- One that lies in a block of its own. -/
theorem rec_row {W : World} {B lb : Nat} {r : Rc} (hB : B ≤ lb) (h : W.heap[lb]? = some (.cells #[.int .u64 ((r.q : Nat) : Int), .string (bs r.k), .string (bs r.v), .bool r.g] 35 (0, 0))) : Rw W B (.slice (some ⟨lb, 0, none⟩) 1 1) [r] :=
  ⟨rfl, Or.inr ⟨lb, 1, _, rfl, hB, h, Nat.le_refl _, by unfold maxLen; decide, rfl, rfl⟩⟩
theorem none_row {W : World} {B lb : Nat} (hB : B ≤ lb) (h : W.heap[lb]? = some (.cells #[] 35 (0, 0))) : Rw W B (.slice (some ⟨lb, 0, none⟩) 0 0) [] :=
  ⟨rfl, Or.inr ⟨lb, 0, #[], rfl, hB, h, Nat.le_refl _, by unfold maxLen; omega, rfl, rfl⟩⟩
theorem src_rw {w W : World} {B : Nat} {v : Value} {l : List Rc} (h : Rw w B v l) (hW : ∀ g, v.ownBlock = some g → W.heap[g]? = w.heap[g]?) : Src Try.prog 4 25 v l.length (flat l) W := src_row Try.underlying25 h (flat_one _) hW

/-- A source: a piece of a row. -/
theorem src_recs {w : World} {B : Nat} {v : Value} {l : List Rc} (h : Rw w B v l) (i : Nat) (hi : i ≤ l.length) :
    ∃ a cap, v = .slice a l.length cap ∧ l.length ≤ cap ∧
      (∀ W, (Instr.slice 25 v none (some (.int .i64 (i : Int))) none).run Try.prog W = .ok (.slice a i cap) W) ∧
      (∃ A c, (∀ W, (Instr.slice 25 v (some (.int .i64 (i : Int))) none none).run Try.prog W = .ok (.slice A (l.length - i) c) W) ∧
        (∀ W, (∀ g, v.ownBlock = some g → W.heap[g]? = w.heap[g]?) → Src Try.prog 4 25 (.slice A (l.length - i) c) (l.drop i).length (flat (l.drop i)) W)) ∧
      (∀ W, (∀ g, v.ownBlock = some g → W.heap[g]? = w.heap[g]?) → Src Try.prog 4 25 (.slice a i cap) (l.take i).length (flat (l.take i)) W) := by
  have hsz : ∀ W : World, (Go.sizeOf (Try.prog.elem 25)).run Try.prog W = .ok 4 W := fun W => by kernel_rfl
  rcases rw_cases h with ⟨rfl, rfl⟩ | ⟨g, cap, cur, rfl, hBg, hgl, hg, hcap, hcm, hcs, hcell, hfz⟩
  · have hi0 : i = 0 := by simpa using hi
    subst hi0
    refine ⟨none, 0, rfl, Nat.le_refl _, fun W => ?_, ⟨none, 0, fun W => ?_, fun W _ => Src.ofNil W Try.underlying25 0⟩, fun W _ => Src.ofNil W Try.underlying25 0⟩
    · rw [run_slice_h (P := Try.prog) (t := 25) (ht := by kernel_rfl) (kh := .i64) (h := ((0 : Nat) : Int)) (h0 := by omega) (h2 := by omega), hsz]
      simp [Result.andThen, sliced]
    · rw [run_slice_l (P := Try.prog) (t := 25) (ht := by kernel_rfl) (kl := .i64) (l := ((0 : Nat) : Int)) (h0 := by omega) (h1 := by simp), hsz]
      simp [Result.andThen, sliced]
  · refine ⟨some ⟨g, 0, none⟩, cap, rfl, hcap, fun W => ?_, ⟨(if cap = i then some ⟨g, 0, none⟩ else some ⟨g, i * 4, none⟩), cap - i, fun W => ?_, fun W hW => ?_⟩, fun W hW => ?_⟩
    · rw [run_slice_h (P := Try.prog) (t := 25) (ht := by kernel_rfl) (kh := .i64) (h := (i : Int)) (h0 := by omega) (h2 := by omega), hsz]
      simp only [Result.andThen, sliced, Int.toNat_natCast, Nat.sub_zero, Nat.zero_mul]
      by_cases h0 : cap = 0
      · simp [h0]
      · rw [if_neg h0]; simp [Addr.add]
    · rw [run_slice_l (P := Try.prog) (t := 25) (ht := by kernel_rfl) (kl := .i64) (l := (i : Int)) (h0 := by omega) (h1 := by omega), hsz]
      simp only [Result.andThen, sliced, Int.toNat_natCast]
      by_cases h0 : cap = i
      · rw [if_pos h0, if_pos h0]
      · rw [if_neg h0, if_neg h0]
        simp only [Option.map_some, Addr.add_lit, Nat.zero_add]
    · have hdl : (l.drop i).length = l.length - i := List.length_drop
      have key : ∀ A : Addr, (∀ t, t < (l.length - i) * 4 → A.add t = ⟨g, i * 4 + t, none⟩) → Src Try.prog 4 25 (.slice (some A) (l.length - i) (cap - i)) (l.drop i).length (flat (l.drop i)) W := fun A hA => by
        rw [hdl]
        refine Src.ofSlice W Try.underlying25 A _ _ _ (by rw [flat_len, hdl]) (fun j u hu => ?_) (flat_one _)
        have hj : j < (l.length - i) * 4 := by rw [← hdl, ← flat_len]; exact (List.getElem?_eq_some_iff.1 hu).1
        rw [hA j hj]
        have e : W.cell? ⟨g, i * 4 + j, none⟩ = w.cell? ⟨g, i * 4 + j, none⟩ := World.cell?_of_block (w := w) (hW g rfl)
        rw [e, hcell _ (by omega)]
        rw [flat_drop, List.getElem?_drop] at hu
        exact hu
      by_cases h0 : cap = i
      · rw [if_pos h0]
        exact key _ (fun t ht => by omega)
      · rw [if_neg h0]
        exact key _ (fun t _ => by rw [Addr.add_lit])
    · have htl : (l.take i).length = i := by rw [List.length_take]; omega
      have hx : ∀ n, n = i → Src Try.prog 4 25 (.slice (some ⟨g, 0, none⟩) i cap) n (flat (l.take i)) W := fun n hn => by
        subst hn
        refine Src.ofSlice W Try.underlying25 ⟨g, 0, none⟩ _ _ _ (by rw [flat_len, htl]) (fun j u hu => ?_) (flat_one _)
        have hj : j < n * 4 := by
          have := (List.getElem?_eq_some_iff.1 hu).1
          rw [flat_len, htl] at this; exact this
        rw [Addr.add_lit, Nat.zero_add]
        have e : W.cell? ⟨g, j, none⟩ = w.cell? ⟨g, j, none⟩ := World.cell?_of_block (w := w) (hW g rfl)
        rw [e, hcell _ (by omega)]
        rw [flat_take, List.getElem?_take, if_pos hj] at hu
        exact hu
      exact hx _ htl

theorem src_blk {W : World} {b : Nat} {c0 c1 c2 c3 : Value} (h : W.heap[b]? = some (.cells #[c0, c1, c2, c3] 35 (0, 0))) (h1 : ∀ u ∈ [c0, c1, c2, c3], u.oneCell' = true) : Src Try.prog 4 25 (.slice (some ⟨b, 0, none⟩) 1 1) 1 [c0, c1, c2, c3] W :=
  Src.ofSlice W Try.underlying25 ⟨b, 0, none⟩ 1 1 _ rfl (fun j u hu => by
    rw [Addr.add_lit, Nat.zero_add, cell_of_row W b j _ _ (0, 0) h]
    simpa using hu) h1
theorem drew_block {W : World} {k : Nat} {o : Option Obj} (h : W.heap[k]? = o) : W.drew.heap[k]? = o := h
theorem two_blocks (w : World) (cs ds : Array Value) (T U : TypeId) : ((w.alloc (.cells cs T)).alloc (.cells ds U)).heap[w.heap.size]? = some (.cells cs T (0, 0)) ∧ ((w.alloc (.cells cs T)).alloc (.cells ds U)).heap[w.heap.size + 1]? = some (.cells ds U (0, 0)) := by
  have h1 := heap_alloc_new w (.cells cs T)
  have h2 := heap_alloc_new (w.alloc (.cells cs T)) (.cells ds U)
  have e : (w.alloc (.cells cs T)).heap.size = w.heap.size + 1 := by simp
  rw [e] at h2
  have b := (Below.refl (w.alloc (.cells cs T)).heap.size (w.alloc (.cells cs T))).alloc (Nat.le_refl _) (.cells ds U)
  exact ⟨(b.block w.heap.size (by omega)).trans h1, h2⟩

theorem flat_set {l : List Rc} {i : Nat} (hi : i < l.length) (r : Rc) (j : Nat) : (flat (l.set i r))[j]? = if i * 4 ≤ j ∧ j < i * 4 + 4 then (fl4 r)[j - i * 4]? else (flat l)[j]? := by
  rw [List.set_eq_take_append_cons_drop, if_pos hi, flat_append, flat_cons, flat_take, flat_drop]
  have hl := flat_len l
  have h4 : (fl4 r).length = 4 := rfl
  have ht : ((flat l).take (i * 4)).length = i * 4 := by rw [List.length_take]; omega
  by_cases h1 : j < i * 4
  · rw [if_neg (by omega), List.getElem?_append_left (by omega), List.getElem?_take, if_pos h1]
  · rw [List.getElem?_append_right (by omega), ht]
    by_cases h2 : j < i * 4 + 4
    · rw [if_pos ⟨by omega, h2⟩, List.getElem?_append_left (by omega)]
    · rw [if_neg (by omega), List.getElem?_append_right (by omega), h4, List.getElem?_drop]
      congr 1
      omega
/-- One is laid over another. -/
theorem rw_set {w : World} {B g n cap : Nat} {l : List Rc} (h : Rw w B (.slice (some ⟨g, 0, none⟩) n cap) l) {i : Nat} (hi : i < l.length) (r : Rc) :
    Rw ((((w.setCell ⟨g, i * 4, none⟩ (.int .u64 ((r.q : Nat) : Int))).setCell ⟨g, i * 4 + 1, none⟩ (.string (bs r.k))).setCell ⟨g, i * 4 + 2, none⟩ (.string (bs r.v))).setCell ⟨g, i * 4 + 3, none⟩ (.bool r.g)) B (.slice (some ⟨g, 0, none⟩) n cap) (l.set i r) ∧
    (w.setCell ⟨g, i * 4, none⟩ (.int .u64 ((r.q : Nat) : Int))).frozen? ⟨g, i * 4 + 1, none⟩ = false := by
  obtain ⟨hl, h2⟩ := h
  rcases h2 with ⟨e, _⟩ | ⟨g', cap', cur, hv, hB, hg, hn, hc, hs, ht⟩
  · cases e
  · injection hv with e1 e2 e3
    injection e1 with e1
    injection e1 with e1
    subst e1 e2 e3
    obtain ⟨cur', k1, k2, k3⟩ := block_setCells g 35 (fl4 r) (i * 4) w cur hg (by rw [show (fl4 r).length = 4 from rfl]; omega)
    refine ⟨⟨by rw [flat_len], Or.inr ⟨g, cap, cur', by rw [List.length_set], hB, k1, by rw [List.length_set]; exact hn, hc, by omega, ?_⟩⟩, ?_⟩
    · apply List.ext_getElem?
      intro j
      rw [List.getElem?_take, List.length_set]
      by_cases hj : j < l.length * 4
      · rw [if_pos hj, Array.getElem?_toList, k3 j, flat_set hi]
        rw [show (fl4 r).length = 4 from rfl]
        by_cases h4 : i * 4 ≤ j ∧ j < i * 4 + 4
        · rw [if_pos h4, if_pos h4]
        · rw [if_neg h4, if_neg h4, ← ht, List.getElem?_take, if_pos hj]; simp
      · rw [if_neg hj, List.getElem?_eq_none (by rw [flat_len, List.length_set]; omega)]
    · have := heap_setCell_same w g (i * 4) cur _ (.int .u64 ((r.q : Nat) : Int)) hg
      simp [World.frozen?, this]
end Go.Proofs.Ytfcfleeiffmjdaa.G
