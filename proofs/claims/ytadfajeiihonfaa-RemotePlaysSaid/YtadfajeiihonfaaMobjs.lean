/- Rows of objects: appended to; all but one; one more in its place. -/
import Derived.Test.YtadfajeiihonfaaMreffate
import Derived.Deep.Upon
namespace Go.Proofs.Ytadfajeiihonfaa
open Go.RowKit
set_option linter.unusedVariables false

theorem infoObj : (Try.prog.info? 56).map (fun i => (i.zero, i.size, i.bytes)) = some (some (.agg #[.string ⟨#[]⟩, .string ⟨#[]⟩]), 2, 32) := by kernel_rfl

/-- Objs are appended to a row of files that the program owns. -/
theorem run_append_objs {B : Nat} {v : Value} {l : List Ob} {w : World} (h : Objs w B v l) (x : Value) (b : List Ob) (hs : Src Try.prog 2 27 x b.length (oflat b) w) (hb : l.length + b.length ≤ 1099511627776) (hB : B ≤ w.heap.size) (ty : TypeId) :
    ∃ v' w', (Builtin.append_ #[27, 27] ty #[v, x]).run Try.prog w = .ok v' w' ∧ Objs w' B v' (l ++ b) ∧ w.grownBy w' v.ownBlock ∧ (v'.ownBlock = v.ownBlock ∨ v'.ownBlock = some w.heap.size) := by
  obtain ⟨i0, hi, hz0, hz1, hz2⟩ := info_parts infoObj
  have hsrc : Src Try.prog i0.size 27 x b.length (oflat b) w := by rw [hz1]; exact hs
  have hlen : (l ++ b).length = l.length + b.length := List.length_append
  have hz : ∀ k, (Builtin.zeroCells (Value.agg #[.string ⟨#[]⟩, .string ⟨#[]⟩]).cells k).size = k * 2 := fun k => by rw [size_zeroCells]; simp [Value.cells]
  have grow : ∀ (base : Option Addr) (cap : Nat), cap < l.length + b.length → (Builtin.firstCells i0.size l.length (.slice base l.length cap)).run Try.prog w.drew = .ok (oflat l).toArray w.drew →
      v = .slice base l.length cap → ∃ v' w', (Builtin.append_ #[27, 27] ty #[v, x]).run Try.prog w = .ok v' w' ∧ Objs w' B v' (l ++ b) ∧ w.grownBy w' v.ownBlock ∧ (v'.ownBlock = v.ownBlock ∨ v'.ownBlock = some w.heap.size) := by
    intro base cap hcap hold hv
    have hr := run_append_grow_src (P := Try.prog) w 27 27 ty 56 i0 _ Try.underlying27 hi hz0 base l.length cap (oflat l) hold x b.length (oflat b) hsrc hcap (by omega)
      (growslice_fits (by omega) (by rw [hz2]; omega))
    have hge := grownCap_ge w (l.length + b.length) cap 56
    have hgm := grownCap_le_maxLen w (l.length + b.length) cap 56 (by unfold maxLen; omega)
    refine ⟨_, _, by rw [hv]; exact hr, ?_, (grown_drewN 1 w _).trans (World.grownBy_alloc _ _ _), Or.inr rfl⟩
    refine ⟨by rw [oflat_len], Or.inr ⟨w.heap.size, _, _, by rw [hlen], hB, heap_alloc_new _ _, by rw [hlen]; exact hge, hgm, ?_, ?_⟩⟩
    · simp only [Array.size_append, List.size_toArray, List.length_append, oflat_len, hz]
      omega
    · rw [hlen, oflat_append]
      have : (oflat l ++ oflat b).length = (l.length + b.length) * 2 := by rw [List.length_append, oflat_len, oflat_len]; omega
      rw [← this]
      simp only [Array.toList_append]
      exact List.take_left
  rcases objs_cases h with ⟨rfl, rfl⟩ | ⟨g, cap, cur, rfl, hBg, hgl, hg, hcap, hcm, hsz, hcell, hfz⟩
  · by_cases hb0 : b = []
    · subst hb0
      have hr := run_append_nothing w 27 27 ty 56 i0 Try.underlying27 hi none 0 0 (Nat.le_refl _) x hsrc
      exact ⟨_, _, hr, World.ownsRow_nil _ _ _ _, ⟨rfl, rfl, rfl, Nat.le_refl _, fun _ _ _ => rfl⟩, Or.inl rfl⟩
    · have hbp : 0 < b.length := List.length_pos_iff.2 hb0
      exact grow none 0 (by simpa using hbp) (by rw [hz1]; exact run_firstCells_none w.drew 2 0 0 0) rfl
  · by_cases hroom : l.length + b.length ≤ cap
    · have hsome : ∀ j, j < cap * 2 → (w.cell? ⟨g, j, none⟩).isSome = true := fun j hj => by
        rw [cell_of_row w g j cur _ (0, 0) hg, Array.getElem?_eq_getElem (by omega)]; rfl
      have hr := run_append_room_src (P := Try.prog) w 27 27 ty 56 i0 Try.underlying27 hi g 0 l.length cap x b.length (oflat b) hsrc hroom
        (fun j hj => by rw [hz1, Nat.zero_add]; rw [oflat_len] at hj; exact hsome _ (by omega)) (fun j _ => by rw [Nat.zero_add]; exact hfz _)
      rw [hz1, Nat.zero_add] at hr
      obtain ⟨cur1, k1, k2, k3⟩ := block_setCells g 56 (oflat b) (l.length * 2) w cur hg (by rw [oflat_len]; omega)
      refine ⟨_, _, hr, ?_, grown_setCells g _ _ _, Or.inl rfl⟩
      refine ⟨by rw [oflat_len], Or.inr ⟨g, cap, cur1, by rw [hlen], hBg, k1, by rw [hlen]; exact hroom, hcm, by omega, ?_⟩⟩
      apply List.ext_getElem?
      intro j
      rw [List.getElem?_take, hlen]
      by_cases hj : j < (l.length + b.length) * 2
      · rw [if_pos hj, oflat_append, Array.getElem?_toList, k3 j, oflat_len]
        by_cases hj2 : j < l.length * 2
        · have := hcell j hj2
          rw [cell_of_row w g j cur _ (0, 0) hg] at this
          rw [if_neg (by omega), List.getElem?_append_left (by rw [oflat_len]; omega), this]
        · rw [if_pos (by omega), List.getElem?_append_right (by rw [oflat_len]; omega), oflat_len]
      · rw [if_neg hj, List.getElem?_eq_none (by rw [oflat_len, hlen]; omega)]
    · refine grow _ cap (by omega) ?_ rfl
      rw [hz1]
      refine run_firstCells_some w.drew 2 l.length ⟨g, 0, none⟩ l.length cap (oflat l) (by rw [oflat_len]) (fun j u hu => ?_)
      have hj : j < l.length * 2 := by rw [← oflat_len l]; exact (List.getElem?_eq_some_iff.1 hu).1
      rw [Addr.add_lit, Nat.zero_add]
      show w.cell? _ = _
      rw [hcell j hj, hu]

/-- A source: one file that lies in a block of its own. -/
theorem src_ob (f : Ob) (w : World) (b : Nat) (hb : w.heap[b]? = some (.cells #[.string (bs f.nm), .string (bs f.bt)] 56 (0, 0))) :
    Src Try.prog 2 27 (.slice (some ⟨b, 0, none⟩) 1 1) [f].length (oflat [f]) w :=
  Src.ofSlice w Try.underlying27 ⟨b, 0, none⟩ 1 1 (oflat [f]) rfl (fun j u hu => by
    rw [Addr.add_lit, Nat.zero_add, cell_of_row w b j _ _ (0, 0) hb]
    simpa [oflat] using hu) (oflat_one _)

/-- .. or a piece of another row. -/
theorem src_obs {w : World} {B : Nat} {v : Value} {l : List Ob} (h : Objs w B v l) (i : Nat) (hi : i ≤ l.length) :
    ∃ a cap, v = .slice a l.length cap ∧ l.length ≤ cap ∧
      (∀ W, (Instr.slice 27 v none (some (.int .i64 (i : Int))) none).run Try.prog W = .ok (.slice a i cap) W) ∧
      (∃ A c, (∀ W, (Instr.slice 27 v (some (.int .i64 (i : Int))) none none).run Try.prog W = .ok (.slice A (l.length - i) c) W) ∧
        (∀ W, (∀ g, v.ownBlock = some g → W.heap[g]? = w.heap[g]?) → Src Try.prog 2 27 (.slice A (l.length - i) c) (l.drop i).length (oflat (l.drop i)) W)) ∧
      (∀ W, (∀ g, v.ownBlock = some g → W.heap[g]? = w.heap[g]?) → Src Try.prog 2 27 (.slice a i cap) (l.take i).length (oflat (l.take i)) W) := by
  have hsz : ∀ W : World, (Go.sizeOf (Try.prog.elem 27)).run Try.prog W = .ok 2 W := fun W => by kernel_rfl
  rcases objs_cases h with ⟨rfl, rfl⟩ | ⟨g, cap, cur, rfl, hBg, hgl, hg, hcap, hcm, hcs, hcell, hfz⟩
  · have hi0 : i = 0 := by simpa using hi
    subst hi0
    refine ⟨none, 0, rfl, Nat.le_refl _, fun W => ?_, ⟨none, 0, fun W => ?_, fun W _ => Src.ofNil W Try.underlying27 0⟩, fun W _ => Src.ofNil W Try.underlying27 0⟩
    · rw [run_slice_h (P := Try.prog) (t := 27) (ht := by kernel_rfl) (kh := .i64) (h := ((0 : Nat) : Int)) (h0 := by omega) (h2 := by omega), hsz]
      simp [Result.andThen, sliced]
    · rw [run_slice_l (P := Try.prog) (t := 27) (ht := by kernel_rfl) (kl := .i64) (l := ((0 : Nat) : Int)) (h0 := by omega) (h1 := by simp), hsz]
      simp [Result.andThen, sliced]
  · refine ⟨some ⟨g, 0, none⟩, cap, rfl, hcap, fun W => ?_, ⟨(if cap = i then some ⟨g, 0, none⟩ else some ⟨g, i * 2, none⟩), cap - i, fun W => ?_, fun W hW => ?_⟩, fun W hW => ?_⟩
    · rw [run_slice_h (P := Try.prog) (t := 27) (ht := by kernel_rfl) (kh := .i64) (h := (i : Int)) (h0 := by omega) (h2 := by omega), hsz]
      simp only [Result.andThen, sliced, Int.toNat_natCast, Nat.sub_zero, Nat.zero_mul]
      by_cases h0 : cap = 0
      · simp [h0]
      · rw [if_neg h0]; simp [Addr.add]
    · rw [run_slice_l (P := Try.prog) (t := 27) (ht := by kernel_rfl) (kl := .i64) (l := (i : Int)) (h0 := by omega) (h1 := by omega), hsz]
      simp only [Result.andThen, sliced, Int.toNat_natCast]
      by_cases h0 : cap = i
      · rw [if_pos h0, if_pos h0]
      · rw [if_neg h0, if_neg h0]
        simp only [Option.map_some, Addr.add_lit, Nat.zero_add]
    · have hdl : (l.drop i).length = l.length - i := List.length_drop
      have key : ∀ A : Addr, (∀ t, t < (l.length - i) * 2 → A.add t = ⟨g, i * 2 + t, none⟩) → Src Try.prog 2 27 (.slice (some A) (l.length - i) (cap - i)) (l.drop i).length (oflat (l.drop i)) W := fun A hA => by
        rw [hdl]
        refine Src.ofSlice W Try.underlying27 A _ _ _ (by rw [oflat_len, hdl]) (fun j u hu => ?_) (oflat_one _)
        have hj : j < (l.length - i) * 2 := by rw [← hdl, ← oflat_len]; exact (List.getElem?_eq_some_iff.1 hu).1
        rw [hA j hj]
        have e : W.cell? ⟨g, i * 2 + j, none⟩ = w.cell? ⟨g, i * 2 + j, none⟩ := World.cell?_of_block (w := w) (hW g rfl)
        rw [e, hcell _ (by omega)]
        rw [oflat_drop, List.getElem?_drop] at hu
        exact hu
      by_cases h0 : cap = i
      · rw [if_pos h0]
        exact key _ (fun t ht => by omega)
      · rw [if_neg h0]
        exact key _ (fun t _ => by rw [Addr.add_lit])
    · have htl : (l.take i).length = i := by rw [List.length_take]; omega
      have hx : ∀ n, n = i → Src Try.prog 2 27 (.slice (some ⟨g, 0, none⟩) i cap) n (oflat (l.take i)) W := fun n hn => by
        subst hn
        refine Src.ofSlice W Try.underlying27 ⟨g, 0, none⟩ _ _ _ (by rw [oflat_len, htl]) (fun j u hu => ?_) (oflat_one _)
        have hj : j < n * 2 := by
          have := (List.getElem?_eq_some_iff.1 hu).1
          rw [oflat_len, htl] at this; exact this
        rw [Addr.add_lit, Nat.zero_add]
        have e : W.cell? ⟨g, j, none⟩ = w.cell? ⟨g, j, none⟩ := World.cell?_of_block (w := w) (hW g rfl)
        rw [e, hcell _ (by omega)]
        rw [oflat_take, List.getElem?_take, if_pos hj] at hu
        exact hu
      exact hx _ htl
end Go.Proofs.Ytadfajeiihonfaa
