/- Rows of strings that the program owns: appended to; a piece of one; one more in its place. (As rows of files are in disk's own texts.) -/
import Derived.Test.YtbjginlhgedjdaaDoorKnew
import Derived.Deep.Upon
namespace Go.Proofs.YtbjginlhgedjdaaDoor.K
open Go.RowKit
set_option linter.unusedVariables false

theorem infoStr1 : (Tryd.prog.info? 9).map (fun i => (i.zero, i.size, i.bytes)) = some (some (.string ⟨#[]⟩), 1, 16) := by kernel_rfl
theorem strs_len1 (l : List (List UInt8)) : (strs l).length = l.length * 1 := by rw [strs_len, Nat.mul_one]
theorem strs_append (a b : List (List UInt8)) : strs (a ++ b) = strs a ++ strs b := by simp [strs]
theorem strs_take (l : List (List UInt8)) (i : Nat) : strs (l.take i) = (strs l).take (i * 1) := by simp [strs, List.map_take]
theorem strs_drop (l : List (List UInt8)) (i : Nat) : strs (l.drop i) = (strs l).drop (i * 1) := by simp [strs, List.map_drop]
/-- A row of strings that lies among the blocks from B on. -/
def Strs (w : World) (B : Nat) (v : Value) (l : List (List UInt8)) : Prop := w.ownsRow B 9 1 v l.length (strs l)

theorem ss_cases {w : World} {B : Nat} {v : Value} {l : List (List UInt8)} (h : Strs w B v l) : (v = .slice none 0 0 ∧ l = []) ∨ ∃ g cap cur, v = .slice (some ⟨g, 0, none⟩) l.length cap ∧ B ≤ g ∧ g < w.heap.size ∧ w.heap[g]? = some (.cells cur 9 (0, 0)) ∧ l.length ≤ cap ∧ cap ≤ maxLen ∧
    cur.size = cap * 1 ∧ (∀ j, j < l.length * 1 → w.cell? ⟨g, j, none⟩ = (strs l)[j]?) ∧ (∀ j, w.frozen? ⟨g, j, none⟩ = false) := by
  obtain ⟨hl, h⟩ := h
  rcases h with ⟨rfl, h0⟩ | ⟨g, cap, cur, rfl, hB, hg, hn, hc, hs, ht⟩
  · exact Or.inl ⟨rfl, List.eq_nil_of_length_eq_zero h0⟩
  · refine Or.inr ⟨g, cap, cur, rfl, hB, (Array.getElem?_eq_some_iff.1 hg).1, hg, hn, hc, hs, fun j hj => ?_, fun j => by simp [World.frozen?, hg]⟩
    rw [cell_of_row w g j cur _ (0, 0) hg, ← ht, List.getElem?_take, if_pos hj]; simp

theorem ss_form {w : World} {B : Nat} {v : Value} {l : List (List UInt8)} (h : Strs w B v l) : ∃ a cap, v = .slice a l.length cap := by
  rcases ss_cases h with ⟨rfl, rfl⟩ | ⟨g, cap, _, hv, _⟩
  · exact ⟨none, 0, rfl⟩
  · exact ⟨_, cap, hv⟩


/-- Strs are appended to a row of files that the program owns. -/
theorem run_append_ss {B : Nat} {v : Value} {l : List (List UInt8)} {w : World} (h : Strs w B v l) (x : Value) (b : List (List UInt8)) (hs : Src Tryd.prog 1 38 x b.length (strs b) w) (hb : l.length + b.length ≤ 1099511627776) (hB : B ≤ w.heap.size) (ty : TypeId) :
    ∃ v' w', (Builtin.append_ #[38, 38] ty #[v, x]).run Tryd.prog w = .ok v' w' ∧ Strs w' B v' (l ++ b) ∧ w.grownBy w' v.ownBlock ∧ (v'.ownBlock = v.ownBlock ∨ v'.ownBlock = some w.heap.size) := by
  obtain ⟨i0, hi, hz0, hz1, hz2⟩ := info_parts infoStr1
  have hsrc : Src Tryd.prog i0.size 38 x b.length (strs b) w := by rw [hz1]; exact hs
  have hlen : (l ++ b).length = l.length + b.length := List.length_append
  have hz : ∀ k, (Builtin.zeroCells (Value.string ⟨#[]⟩).cells k).size = k * 1 := fun k => by rw [size_zeroCells]; simp [Value.cells]
  have grow : ∀ (base : Option Addr) (cap : Nat), cap < l.length + b.length → (Builtin.firstCells i0.size l.length (.slice base l.length cap)).run Tryd.prog w.drew = .ok (strs l).toArray w.drew →
      v = .slice base l.length cap → ∃ v' w', (Builtin.append_ #[38, 38] ty #[v, x]).run Tryd.prog w = .ok v' w' ∧ Strs w' B v' (l ++ b) ∧ w.grownBy w' v.ownBlock ∧ (v'.ownBlock = v.ownBlock ∨ v'.ownBlock = some w.heap.size) := by
    intro base cap hcap hold hv
    have hr := run_append_grow_src (P := Tryd.prog) w 38 38 ty 9 i0 _ Tryd.underlying38 hi hz0 base l.length cap (strs l) hold x b.length (strs b) hsrc hcap (by omega)
      (growslice_fits (by omega) (by rw [hz2]; omega))
    have hge := grownCap_ge w (l.length + b.length) cap 9
    have hgm := grownCap_le_maxLen w (l.length + b.length) cap 9 (by unfold maxLen; omega)
    refine ⟨_, _, by rw [hv]; exact hr, ?_, (grown_drewN 1 w _).trans (World.grownBy_alloc _ _ _), Or.inr rfl⟩
    refine ⟨by rw [strs_len1], Or.inr ⟨w.heap.size, _, _, by rw [hlen], hB, heap_alloc_new _ _, by rw [hlen]; exact hge, hgm, ?_, ?_⟩⟩
    · simp only [Array.size_append, List.size_toArray, List.length_append, strs_len1, hz]
      omega
    · rw [hlen, strs_append]
      have : (strs l ++ strs b).length = (l.length + b.length) * 1 := by rw [List.length_append, strs_len1, strs_len1]; omega
      rw [← this]
      simp only [Array.toList_append]
      exact List.take_left
  rcases ss_cases h with ⟨rfl, rfl⟩ | ⟨g, cap, cur, rfl, hBg, hgl, hg, hcap, hcm, hsz, hcell, hfz⟩
  · by_cases hb0 : b = []
    · subst hb0
      have hr := run_append_nothing w 38 38 ty 9 i0 Tryd.underlying38 hi none 0 0 (Nat.le_refl _) x hsrc
      exact ⟨_, _, hr, World.ownsRow_nil _ _ _ _, ⟨rfl, rfl, rfl, Nat.le_refl _, fun _ _ _ => rfl⟩, Or.inl rfl⟩
    · have hbp : 0 < b.length := List.length_pos_iff.2 hb0
      exact grow none 0 (by simpa using hbp) (by rw [hz1]; exact run_firstCells_none w.drew 1 0 0 0) rfl
  · by_cases hroom : l.length + b.length ≤ cap
    · have hsome : ∀ j, j < cap * 1 → (w.cell? ⟨g, j, none⟩).isSome = true := fun j hj => by
        rw [cell_of_row w g j cur _ (0, 0) hg, Array.getElem?_eq_getElem (by omega)]; rfl
      have hr := run_append_room_src (P := Tryd.prog) w 38 38 ty 9 i0 Tryd.underlying38 hi g 0 l.length cap x b.length (strs b) hsrc hroom
        (fun j hj => by rw [hz1, Nat.zero_add]; rw [strs_len1] at hj; exact hsome _ (by omega)) (fun j _ => by rw [Nat.zero_add]; exact hfz _)
      rw [hz1, Nat.zero_add] at hr
      obtain ⟨cur1, k1, k2, k3⟩ := block_setCells g 9 (strs b) (l.length * 1) w cur hg (by rw [strs_len1]; omega)
      refine ⟨_, _, hr, ?_, grown_setCells g _ _ _, Or.inl rfl⟩
      refine ⟨by rw [strs_len1], Or.inr ⟨g, cap, cur1, by rw [hlen], hBg, k1, by rw [hlen]; exact hroom, hcm, by omega, ?_⟩⟩
      apply List.ext_getElem?
      intro j
      rw [List.getElem?_take, hlen]
      by_cases hj : j < (l.length + b.length) * 1
      · rw [if_pos hj, strs_append, Array.getElem?_toList, k3 j, strs_len1]
        by_cases hj2 : j < l.length * 1
        · have := hcell j hj2
          rw [cell_of_row w g j cur _ (0, 0) hg] at this
          rw [if_neg (by omega), List.getElem?_append_left (by rw [strs_len1]; omega), this]
        · rw [if_pos (by omega), List.getElem?_append_right (by rw [strs_len1]; omega), strs_len1]
      · rw [if_neg hj, List.getElem?_eq_none (by rw [strs_len1, hlen]; omega)]
    · refine grow _ cap (by omega) ?_ rfl
      rw [hz1]
      refine run_firstCells_some w.drew 1 l.length ⟨g, 0, none⟩ l.length cap (strs l) (by rw [strs_len1]) (fun j u hu => ?_)
      have hj : j < l.length * 1 := by rw [← strs_len1 l]; exact (List.getElem?_eq_some_iff.1 hu).1
      rw [Addr.add_lit, Nat.zero_add]
      show w.cell? _ = _
      rw [hcell j hj, hu]


/-- A source: one file that lies in a block of its own. -/
theorem ss_one (f : (List UInt8)) (w : World) (b : Nat) (hb : w.heap[b]? = some (.cells #[.string (bs f)] 9 (0, 0))) :
    Src Tryd.prog 1 38 (.slice (some ⟨b, 0, none⟩) 1 1) [f].length (strs [f]) w :=
  Src.ofSlice w Tryd.underlying38 ⟨b, 0, none⟩ 1 1 (strs [f]) rfl (fun j u hu => by
    rw [Addr.add_lit, Nat.zero_add, cell_of_row w b j _ _ (0, 0) hb]
    simpa [strs] using hu) (strs_one _)

/-- .. or a piece of another row. -/
theorem ss_piece {w : World} {B : Nat} {v : Value} {l : List (List UInt8)} (h : Strs w B v l) (i : Nat) (hi : i ≤ l.length) :
    ∃ a cap, v = .slice a l.length cap ∧ l.length ≤ cap ∧
      (∀ W, (Instr.slice 38 v none (some (.int .i64 (i : Int))) none).run Tryd.prog W = .ok (.slice a i cap) W) ∧
      (∃ A c, (∀ W, (Instr.slice 38 v (some (.int .i64 (i : Int))) none none).run Tryd.prog W = .ok (.slice A (l.length - i) c) W) ∧
        (∀ W, (∀ g, v.ownBlock = some g → W.heap[g]? = w.heap[g]?) → Src Tryd.prog 1 38 (.slice A (l.length - i) c) (l.drop i).length (strs (l.drop i)) W)) ∧
      (∀ W, (∀ g, v.ownBlock = some g → W.heap[g]? = w.heap[g]?) → Src Tryd.prog 1 38 (.slice a i cap) (l.take i).length (strs (l.take i)) W) := by
  have hsz : ∀ W : World, (Go.sizeOf (Tryd.prog.elem 38)).run Tryd.prog W = .ok 1 W := fun W => by kernel_rfl
  rcases ss_cases h with ⟨rfl, rfl⟩ | ⟨g, cap, cur, rfl, hBg, hgl, hg, hcap, hcm, hcs, hcell, hfz⟩
  · have hi0 : i = 0 := by simpa using hi
    subst hi0
    refine ⟨none, 0, rfl, Nat.le_refl _, fun W => ?_, ⟨none, 0, fun W => ?_, fun W _ => Src.ofNil W Tryd.underlying38 0⟩, fun W _ => Src.ofNil W Tryd.underlying38 0⟩
    · rw [run_slice_h (P := Tryd.prog) (t := 38) (ht := by kernel_rfl) (kh := .i64) (h := ((0 : Nat) : Int)) (h0 := by omega) (h2 := by omega), hsz]
      simp [Result.andThen, sliced]
    · rw [run_slice_l (P := Tryd.prog) (t := 38) (ht := by kernel_rfl) (kl := .i64) (l := ((0 : Nat) : Int)) (h0 := by omega) (h1 := by simp), hsz]
      simp [Result.andThen, sliced]
  · refine ⟨some ⟨g, 0, none⟩, cap, rfl, hcap, fun W => ?_, ⟨(if cap = i then some ⟨g, 0, none⟩ else some ⟨g, i * 1, none⟩), cap - i, fun W => ?_, fun W hW => ?_⟩, fun W hW => ?_⟩
    · rw [run_slice_h (P := Tryd.prog) (t := 38) (ht := by kernel_rfl) (kh := .i64) (h := (i : Int)) (h0 := by omega) (h2 := by omega), hsz]
      simp only [Result.andThen, sliced, Int.toNat_natCast, Nat.sub_zero, Nat.zero_mul]
      by_cases h0 : cap = 0
      · simp [h0]
      · rw [if_neg h0]; simp [Addr.add]
    · rw [run_slice_l (P := Tryd.prog) (t := 38) (ht := by kernel_rfl) (kl := .i64) (l := (i : Int)) (h0 := by omega) (h1 := by omega), hsz]
      simp only [Result.andThen, sliced, Int.toNat_natCast]
      by_cases h0 : cap = i
      · rw [if_pos h0, if_pos h0]
      · rw [if_neg h0, if_neg h0]
        simp only [Option.map_some, Addr.add_lit, Nat.zero_add]
    · have hdl : (l.drop i).length = l.length - i := List.length_drop
      have key : ∀ A : Addr, (∀ t, t < (l.length - i) * 1 → A.add t = ⟨g, i * 1 + t, none⟩) → Src Tryd.prog 1 38 (.slice (some A) (l.length - i) (cap - i)) (l.drop i).length (strs (l.drop i)) W := fun A hA => by
        rw [hdl]
        refine Src.ofSlice W Tryd.underlying38 A _ _ _ (by rw [strs_len1, hdl]) (fun j u hu => ?_) (strs_one _)
        have hj : j < (l.length - i) * 1 := by rw [← hdl, ← strs_len1]; exact (List.getElem?_eq_some_iff.1 hu).1
        rw [hA j hj]
        have e : W.cell? ⟨g, i * 1 + j, none⟩ = w.cell? ⟨g, i * 1 + j, none⟩ := World.cell?_of_block (w := w) (hW g rfl)
        rw [e, hcell _ (by omega)]
        rw [strs_drop, List.getElem?_drop] at hu
        exact hu
      by_cases h0 : cap = i
      · rw [if_pos h0]
        exact key _ (fun t ht => by omega)
      · rw [if_neg h0]
        exact key _ (fun t _ => by rw [Addr.add_lit])
    · have htl : (l.take i).length = i := by rw [List.length_take]; omega
      have hx : ∀ n, n = i → Src Tryd.prog 1 38 (.slice (some ⟨g, 0, none⟩) i cap) n (strs (l.take i)) W := fun n hn => by
        subst hn
        refine Src.ofSlice W Tryd.underlying38 ⟨g, 0, none⟩ _ _ _ (by rw [strs_len1, htl]) (fun j u hu => ?_) (strs_one _)
        have hj : j < n * 1 := by
          have := (List.getElem?_eq_some_iff.1 hu).1
          rw [strs_len1, htl] at this; exact this
        rw [Addr.add_lit, Nat.zero_add]
        have e : W.cell? ⟨g, j, none⟩ = w.cell? ⟨g, j, none⟩ := World.cell?_of_block (w := w) (hW g rfl)
        rw [e, hcell _ (by omega)]
        rw [strs_take, List.getElem?_take, if_pos hj] at hu
        exact hu
      exact hx _ htl

/-- An append of files as one step of a region that draws its order. -/
theorem step_append_ss {ops : Array Oper} {o : Oper} {a : Act} {w : World} {K : Act → World → Prop} {Q : Exit → Act → World → Prop} {E : Prop} (hgd : o.guard = none) (s x : Operand)
    (ho : o.op = .call { callee := .builtin .append, args := #[s, x], argTypes := #[38, 38] }) (B : Nat) (v : Value) (l : List (List UInt8)) (hs : a.eval s = v) (hown : Strs w B v l) (xv : Value) (b : List (List UInt8)) (hx : a.eval x = xv)
    (hsrc : Src Tryd.prog 1 38 xv b.length (strs b) w) (hb : l.length + b.length ≤ 1099511627776) (hB : B ≤ w.heap.size)
    (h : ∀ a' n' c' w', Strs w' B (.slice a' n' c') (l ++ b) → Below B w w' → w.grownBy w' v.ownBlock → K (a.put o.dst (.slice a' n' c')) w') :
    if Region.wanted o (yielded ops a.tmps) = true then Oper.wp Tryd.prog o a w K Q else E := by
  have hw : Region.wanted o (yielded ops a.tmps) = true := by simp [Region.wanted, hgd]
  rw [if_pos hw]
  obtain ⟨v', w', q1, q2, q3, q4⟩ := run_append_ss hown xv b hsrc hb hB o.type
  obtain ⟨a', c', rfl⟩ := ss_form q2
  unfold Oper.wp execOp
  simp only [ho, resolve, invoke, builtin, Sem.run_bind, Sem.run_pure, Result.andThen_ok, List.map_toArray, List.map_cons, List.map_nil, hs, hx, q1]
  exact h a' _ c' w' q2 ((Below.refl B w).grown q3 hB (fun k hk => (hown.lt k hk).1)) q3

theorem Strs.alloc {w : World} {B : Nat} {v : Value} {l : List (List UInt8)} (h : Strs w B v l) (o : Obj) : Strs (w.alloc o) B v l := World.ownsRow.alloc h o
theorem ss_base {w : World} {B B' : Nat} {v : Value} {l : List (List UInt8)} (h : Strs w B v l) (hB : B' ≤ B) : Strs w B' v l := by
  obtain ⟨h1, h2⟩ := h
  refine ⟨h1, h2.imp id ?_⟩
  rintro ⟨g, cap, cur, hv, hb, r⟩
  exact ⟨g, cap, cur, hv, Nat.le_trans hB hb, r⟩
theorem Strs.drew {w : World} {B : Nat} {v : Value} {l : List (List UInt8)} (h : Strs w B v l) : Strs w.drew B v l := h
theorem ss_empty {w : World} {B b : Nat} (hB : B ≤ b) (hb : w.heap[b]? = some (.cells #[] 9 (0, 0))) : Strs w B (.slice (some ⟨b, 0, none⟩) 0 0) [] :=
  ⟨rfl, Or.inr ⟨b, 0, #[], rfl, hB, hb, Nat.le_refl _, by unfold maxLen; omega, rfl, rfl⟩⟩

end Go.Proofs.YtbjginlhgedjdaaDoor.K
