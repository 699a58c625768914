/- The program's order of records, and the library's sort by it. -/
import Derived.Test.YtfcfleeiffmjdaaGpcomb
import Derived.Test.YtfcfleeiffmjdaaGplaid
import Derived.Shelf.SlSortCmp.NoneTotal
namespace Go.Proofs.Ytfcfleeiffmjdaa.G
open Go.RowKit Go.Shelf Go.Sort
set_option linter.unusedVariables false

theorem cmpB_lt : ∀ a b : List UInt8, decide (Lib.compareBytes a b < 0) = lt a b
  | [], [] => by rw [lt_irrefl]; rfl
  | [], b :: ys => by
    rw [show lt [] (b :: ys) = true from (lt_iff _ _).2 (by simp)]; rfl
  | a :: xs, [] => by
    cases h : lt (a :: xs) []
    · rfl
    · have := (lt_iff _ _).1 h; simp at this
  | a :: xs, b :: ys => by
    unfold Lib.compareBytes
    have ih := cmpB_lt xs ys
    by_cases h1 : a < b
    · rw [if_pos h1, show lt (a :: xs) (b :: ys) = true from (lt_iff _ _).2 (List.cons_lt_cons_iff.2 (Or.inl h1))]; rfl
    · rw [if_neg h1]
      by_cases h2 : b < a
      · rw [if_pos h2]
        cases h : lt (a :: xs) (b :: ys)
        · rfl
        · rcases List.cons_lt_cons_iff.1 ((lt_iff _ _).1 h) with g | ⟨g, _⟩
          · exact absurd g h1
          · subst g; exact absurd h2 (UInt8.lt_irrefl _)
      · rw [if_neg h2, ih]
        have e : a = b := UInt8.le_antisymm (UInt8.not_lt.1 h2) (UInt8.not_lt.1 h1)
        subst e
        cases h : lt xs ys
        · cases k : lt (a :: xs) (a :: ys)
          · rfl
          · rcases List.cons_lt_cons_iff.1 ((lt_iff _ _).1 k) with g | ⟨_, g⟩
            · exact absurd g h1
            · rw [(lt_iff _ _).2 g] at h; cases h
        · exact ((lt_iff _ _).2 (List.cons_lt_cons_iff.2 (Or.inr ⟨rfl, (lt_iff _ _).1 h⟩))).symm
/-- The order of records. -/
def cfR (x y : Rc) : Int := Lib.compareBytes x.k y.k
theorem ltR (x y : Rc) : ltOf cfR x y = lt x.k y.k := by unfold ltOf cfR; exact cmpB_lt _ _
theorem swoR : SWO (ltOf cfR) where
  irrefl x := by rw [ltR]; exact lt_irrefl _
  trans x y z h1 h2 := by rw [ltR] at *; exact lt_trans h1 h2
  ntrans x y z h1 h2 := by
    rw [ltR] at *
    cases h : lt x.k z.k
    · rfl
    · by_cases e : y.k = x.k
      · rw [e] at h2; rw [h2] at h; cases h
      · have g := lt_total h1 (fun e' => e e'.symm)
        rw [lt_trans g h] at h2; cases h2
theorem bs_lst (l : List UInt8) : (bs l).data.toList = l := bs_list l
set_option maxHeartbeats 400000 in
theorem pcompare_any (x y : Rc) (W : World) : Calls Try.prog 23 #[rv x, rv y] W fun e w' => e = .returned (.int .i64 (cfR x y)) ∧ ∃ q os', w' = Go.Sort.grow (W.drewN q) os' := by
  have hcon := fun W' => Any.strings_Compare layCmp (bs x.k) (bs y.k) W'
  change ∀ W', Calls Try.prog 31 _ _ _ at hcon
  rw [show Lib.compareBytes (bs x.k).data.toList (bs y.k).data.toList = cfR x y by unfold cfR; rw [bs_lst, bs_lst]] at hcon
  generalize cfR x y = r at hcon ⊢
  unfold rv
  go_enter Try.func23, Try.ntmps23
  go_wp2_with (go_at_call 31; refine (hcon _).mono ?_; rintro e w' ⟨rfl, rfl⟩)
  go_ret
  exact ⟨rfl, 0, _, by rw [alloc_eq_grow, alloc_eq_grow, grow_grow]; rfl⟩
theorem fl4_one (r : Rc) : ∀ v ∈ fl4 r, v.oneCell' = true := fun v hv => by
  simp only [fl4, List.mem_cons, List.not_mem_nil, or_false] at hv
  rcases hv with rfl | rfl | rfl | rfl <;> rfl
theorem cmpLays (blk off size : Nat) (w : World) : CmpLays Try.prog 23 #[] fl4 4 cfR blk off size w :=
  fun _ _ _ _ x y => pcompare_any x y _
theorem flat_flatK {l : List Rc} {j : Nat} (hj : j < l.length * 4) : (flat l)[j]? = some ((flatK fl4 4 l.toArray)[j]!) := by
  obtain ⟨q, r, hr, rfl⟩ : ∃ q r, r < 4 ∧ j = q * 4 + r := ⟨j / 4, j % 4, Nat.mod_lt _ (by omega), by omega⟩
  have hq : q < l.length := by omega
  have e1 : (q * 4 + r) / 4 = q := by omega
  have e2 : (q * 4 + r) % 4 = r := by omega
  have e3 : l.toArray[q]! = l[q] := by rw [getElem!_pos l.toArray q (by simpa using hq)]; simp
  have e4 : (flat l)[q * 4 + r]? = (fl4 l[q])[r]? := by
    obtain ⟨h0, h1, h2, h3⟩ := flat_get l q hq
    rcases (by omega : r = 0 ∨ r = 1 ∨ r = 2 ∨ r = 3) with rfl | rfl | rfl | rfl
    · rw [Nat.add_zero, h0]; rfl
    · rw [h1]; rfl
    · rw [h2]; rfl
    · rw [h3]; rfl
  rw [e4, get_flatK _ _ _ _ (by simpa using hj), e1, e2, e3]
  rw [List.getElem?_eq_getElem (by simp [fl4]; omega), getElem!_pos _ r (by simp [fl4]; omega)]
theorem holds_rw {B : Nat} {w : World} {g cap n : Nat} {l : List Rc} (h : Rw w B (.slice (some ⟨g, 0, none⟩) n cap) l) : HoldsK fl4 4 w g 0 l.toArray := by
  intro j hj
  rw [size_flatK] at hj
  have hj' : j < l.length * 4 := by simpa using hj
  rw [Nat.zero_add]
  rcases rw_cases h with ⟨h0, _⟩ | ⟨g', cap', cur, hv, hB, hgl, hg, hn, hc, hs, ht, hf⟩
  · cases h0
  · injection hv with e1 e2 e3
    injection e1 with e1
    injection e1 with e1
    subst e1
    exact ⟨by rw [ht j hj', flat_flatK hj']; rfl, hf j⟩
theorem block_sorted {w : World} {g n : Nat} {cur : Array Value} {e : TypeId} {d : Array Rc} {os : Array Obj} (h : w.heap[g]? = some (.cells cur e (0, 0))) :
    (sortWorldK fl4 4 w g 0 n d os).heap[g]? = some (.cells (putCells id 0 (flatK fl4 4 d) cur) e (0, 0)) := by
  have hlt := (Array.getElem?_eq_some_iff.1 h).1
  unfold sortWorldK putRowK putRow mapBlock Go.Sort.grow Go.Sort.ahead
  show ((w.heap.modify g _) ++ os)[g]? = _
  rw [Array.getElem?_append_left (by simpa using hlt), Array.getElem?_modify, if_pos rfl, h]
  rfl
theorem turn_sorted {w : World} {g n : Nat} {d : Array Rc} {os : Array Obj} : Turn (fun k => k = g) w (sortWorldK fl4 4 w g 0 n d os) := by
  refine ⟨rfl, rfl, rfl, size_sortWorldK_c fl4 4 w g 0 n d os, fun k hk hn => ?_⟩
  unfold sortWorldK putRowK putRow mapBlock Go.Sort.grow Go.Sort.ahead
  show ((w.heap.modify g _) ++ os)[k]? = _
  rw [Array.getElem?_append_left (by simpa using hk), Array.getElem?_modify, if_neg (fun e => hn e.symm)]
theorem row_sorted {B : Nat} {w : World} {g cap n k : Nat} {l m : List Rc} {d : Array Rc} {os : Array Obj} (h : Rw w B (.slice (some ⟨g, 0, none⟩) k cap) l) (hd : d.toList = m) (hl : m.length = l.length) :
    Rw (sortWorldK fl4 4 w g 0 n d os) B (.slice (some ⟨g, 0, none⟩) m.length cap) m := by
  refine ⟨flat_len m, Or.inr ?_⟩
  rcases rw_cases h with ⟨h0, _⟩ | ⟨g', cap', cur, hv, hB, hgl, hg, hn, hc, hs, ht, hf⟩
  · cases h0
  · injection hv with e1 e2 e3
    injection e1 with e1
    injection e1 with e1
    subst e1 e3
    refine ⟨g, cap, _, rfl, hB, block_sorted hg, by rw [hl]; exact hn, hc, by unfold putCells; simpa using hs, ?_⟩
    apply List.ext_getElem?
    intro j
    rw [List.getElem?_take]
    have hdm : d = m.toArray := by rw [← hd]
    by_cases hj : j < m.length * 4
    · have hjc : j < cur.size := by rw [hs]; omega
      rw [if_pos hj, flat_flatK hj, hdm]
      unfold putCells
      rw [Array.getElem?_toList, Array.getElem?_mapIdx, Array.getElem?_eq_getElem hjc, Option.map_some, if_pos ⟨Nat.zero_le _, by rw [size_flatK]; simpa using hj⟩]
      rfl
    · rw [if_neg hj, List.getElem?_eq_none (by rw [flat_len]; omega)]

def cmpF : Value := .func (.func 23) #[] #[]
/-- Sorted, whatever the row. -/
theorem psort_any {B n cap : Nat} {w : World} {a : Option Addr} {l : List Rc} (h : Rw w B (.slice a n cap) l) (hl : l.length ≤ 1000000) (hB : B ≤ w.heap.size) :
    Calls Try.prog 22 #[.slice a n cap, cmpF] w fun e w' => e = .returned (.tuple #[]) ∧ ∃ m : List Rc, m.Perm l ∧ m.Pairwise (fun x y => lt y.k x.k = false) ∧ Rw w' B (.slice a n cap) m ∧ Below B w w' := by
  have hnl : n = l.length := by
    rcases rw_cases h with ⟨h0, rfl⟩ | ⟨_, _, _, h0, _⟩
    · injection h0
    · injection h0
  subst hnl
  by_cases he : l.length = 0
  · have hnil := List.eq_nil_of_length_eq_zero he
    subst hnil
    have hcon := AnyF.slices_SortFunc_none laySort a cap cmpF w
    change Calls Try.prog 22 _ _ _ at hcon
    refine hcon.mono ?_
    rintro e w' ⟨rfl, rfl⟩
    exact ⟨rfl, [], List.Perm.refl _, List.Pairwise.nil, h, Below.refl _ _⟩
  · obtain ⟨r, hr⟩ : ∃ r, l[0]? = some r := ⟨_, List.getElem?_eq_getElem (by omega)⟩
    obtain ⟨g, rfl, hgB, hgl, _⟩ := rw_at h hr
    have hcon := AnyQ.slices_SortFunc laySort 4 Try.isAgg35 Try.sizeOf35 fl4 (fun x => rfl) fl4_one cfR swoR 23 #[] g 0 cap l.toArray w
      (enters_of Try.func23 (by kernel_rfl) rfl) (cmpLays g 0 _ w) (holds_rw h) hgl (by simp; omega)
    change Calls Try.prog 22 _ _ _ at hcon
    rw [show l.toArray.size = l.length by simp] at hcon
    refine hcon.mono ?_
    rintro e w' ⟨rfl, d, n', os, hp, hs, rfl⟩
    obtain ⟨h1, _, h2⟩ := hp
    have e1 : (l.toArray.extract 0 l.length).toList = l := by simp
    have e2 : (d.extract 0 l.length).toList = d.toList := by
      have : d.size = l.length := by rw [h1]; simp
      rw [← this]; simp
    rw [e1, e2] at h2
    have hdl : d.toList.length = l.length := h2.length_eq
    refine ⟨rfl, d.toList, h2, ?_, by rw [← hdl]; exact row_sorted h rfl hdl, (turn_sorted (w := w) (g := g)).below (fun k hk => by have hk : k = g := hk; omega) hB⟩
    rw [List.pairwise_iff_getElem]
    intro i j hi hj hij
    have := hs i j (Nat.zero_le _) hij (by rw [← hdl]; exact hj)
    rw [ltR] at this
    simp only [Array.length_toList] at hi hj
    rw [getElem!_pos d i hi, getElem!_pos d j hj] at this
    simpa using this
end Go.Proofs.Ytfcfleeiffmjdaa.G
