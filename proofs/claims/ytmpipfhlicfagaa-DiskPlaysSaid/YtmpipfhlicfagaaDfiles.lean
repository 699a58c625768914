/- Rows of files: appended to; all but one; one more in its place. -/
import Derived.Test.YtmpipfhlicfagaaDref
import Derived.Deep.Upon
namespace Go.Proofs.Ytmpipfhlicfagaa
open Go.RowKit
set_option linter.unusedVariables false

theorem infoFile : (Try.prog.info? 50).map (fun i => (i.zero, i.size, i.bytes)) = some (some (.agg #[.string ⟨#[]⟩, .string ⟨#[]⟩, .int .i64 0]), 3, 40) := by kernel_rfl

/-- Files are appended to a row of files that the program owns. -/
theorem run_append_files {B : Nat} {v : Value} {l : List Fl} {w : World} (h : Files w B v l) (x : Value) (b : List Fl) (hs : Src Try.prog 3 51 x b.length (flat b) w) (hb : l.length + b.length ≤ 1099511627776) (hB : B ≤ w.heap.size) (ty : TypeId) :
    ∃ v' w', (Builtin.append_ #[51, 51] ty #[v, x]).run Try.prog w = .ok v' w' ∧ Files w' B v' (l ++ b) ∧ w.grownBy w' v.ownBlock ∧ (v'.ownBlock = v.ownBlock ∨ v'.ownBlock = some w.heap.size) := by
  obtain ⟨i0, hi, hz0, hz1, hz2⟩ := info_parts infoFile
  have hsrc : Src Try.prog i0.size 51 x b.length (flat b) w := by rw [hz1]; exact hs
  have hlen : (l ++ b).length = l.length + b.length := List.length_append
  have hz : ∀ k, (Builtin.zeroCells (Value.agg #[.string ⟨#[]⟩, .string ⟨#[]⟩, .int .i64 0]).cells k).size = k * 3 := fun k => by rw [size_zeroCells]; simp [Value.cells]
  have grow : ∀ (base : Option Addr) (cap : Nat), cap < l.length + b.length → (Builtin.firstCells i0.size l.length (.slice base l.length cap)).run Try.prog w.drew = .ok (flat l).toArray w.drew →
      v = .slice base l.length cap → ∃ v' w', (Builtin.append_ #[51, 51] ty #[v, x]).run Try.prog w = .ok v' w' ∧ Files w' B v' (l ++ b) ∧ w.grownBy w' v.ownBlock ∧ (v'.ownBlock = v.ownBlock ∨ v'.ownBlock = some w.heap.size) := by
    intro base cap hcap hold hv
    have hr := run_append_grow_src (P := Try.prog) w 51 51 ty 50 i0 _ Try.underlying51 hi hz0 base l.length cap (flat l) hold x b.length (flat b) hsrc hcap (by omega)
      (growslice_fits (by omega) (by rw [hz2]; omega))
    have hge := grownCap_ge w (l.length + b.length) cap 50
    have hgm := grownCap_le_maxLen w (l.length + b.length) cap 50 (by unfold maxLen; omega)
    refine ⟨_, _, by rw [hv]; exact hr, ?_, (grown_drewN 1 w _).trans (World.grownBy_alloc _ _ _), Or.inr rfl⟩
    refine ⟨by rw [flat_len], Or.inr ⟨w.heap.size, _, _, by rw [hlen], hB, heap_alloc_new _ _, by rw [hlen]; exact hge, hgm, ?_, ?_⟩⟩
    · simp only [Array.size_append, List.size_toArray, List.length_append, flat_len, hz]
      omega
    · rw [hlen, flat_append]
      have : (flat l ++ flat b).length = (l.length + b.length) * 3 := by rw [List.length_append, flat_len, flat_len]; omega
      rw [← this]
      simp only [Array.toList_append]
      exact List.take_left
  rcases files_cases h with ⟨rfl, rfl⟩ | ⟨g, cap, cur, rfl, hBg, hgl, hg, hcap, hcm, hsz, hcell, hfz⟩
  · by_cases hb0 : b = []
    · subst hb0
      have hr := run_append_nothing w 51 51 ty 50 i0 Try.underlying51 hi none 0 0 (Nat.le_refl _) x hsrc
      exact ⟨_, _, hr, World.ownsRow_nil _ _ _ _, ⟨rfl, rfl, rfl, Nat.le_refl _, fun _ _ _ => rfl⟩, Or.inl rfl⟩
    · have hbp : 0 < b.length := List.length_pos_iff.2 hb0
      exact grow none 0 (by simpa using hbp) (by rw [hz1]; exact run_firstCells_none w.drew 3 0 0 0) rfl
  · by_cases hroom : l.length + b.length ≤ cap
    · have hsome : ∀ j, j < cap * 3 → (w.cell? ⟨g, j, none⟩).isSome = true := fun j hj => by
        rw [cell_of_row w g j cur _ (0, 0) hg, Array.getElem?_eq_getElem (by omega)]; rfl
      have hr := run_append_room_src (P := Try.prog) w 51 51 ty 50 i0 Try.underlying51 hi g 0 l.length cap x b.length (flat b) hsrc hroom
        (fun j hj => by rw [hz1, Nat.zero_add]; rw [flat_len] at hj; exact hsome _ (by omega)) (fun j _ => by rw [Nat.zero_add]; exact hfz _)
      rw [hz1, Nat.zero_add] at hr
      obtain ⟨cur1, k1, k2, k3⟩ := block_setCells g 50 (flat b) (l.length * 3) w cur hg (by rw [flat_len]; omega)
      refine ⟨_, _, hr, ?_, grown_setCells g _ _ _, Or.inl rfl⟩
      refine ⟨by rw [flat_len], Or.inr ⟨g, cap, cur1, by rw [hlen], hBg, k1, by rw [hlen]; exact hroom, hcm, by omega, ?_⟩⟩
      apply List.ext_getElem?
      intro j
      rw [List.getElem?_take, hlen]
      by_cases hj : j < (l.length + b.length) * 3
      · rw [if_pos hj, flat_append, Array.getElem?_toList, k3 j, flat_len]
        by_cases hj2 : j < l.length * 3
        · have := hcell j hj2
          rw [cell_of_row w g j cur _ (0, 0) hg] at this
          rw [if_neg (by omega), List.getElem?_append_left (by rw [flat_len]; omega), this]
        · rw [if_pos (by omega), List.getElem?_append_right (by rw [flat_len]; omega), flat_len]
      · rw [if_neg hj, List.getElem?_eq_none (by rw [flat_len, hlen]; omega)]
    · refine grow _ cap (by omega) ?_ rfl
      rw [hz1]
      refine run_firstCells_some w.drew 3 l.length ⟨g, 0, none⟩ l.length cap (flat l) (by rw [flat_len]) (fun j u hu => ?_)
      have hj : j < l.length * 3 := by rw [← flat_len l]; exact (List.getElem?_eq_some_iff.1 hu).1
      rw [Addr.add_lit, Nat.zero_add]
      show w.cell? _ = _
      rw [hcell j hj, hu]

/-- A source: one file that lies in a block of its own. -/
theorem src_one (f : Fl) (w : World) (b : Nat) (hb : w.heap[b]? = some (.cells #[.string (bs f.nm), .string (bs f.bt), .int .i64 f.sure] 50 (0, 0))) :
    Src Try.prog 3 51 (.slice (some ⟨b, 0, none⟩) 1 1) [f].length (flat [f]) w :=
  Src.ofSlice w Try.underlying51 ⟨b, 0, none⟩ 1 1 (flat [f]) rfl (fun j u hu => by
    rw [Addr.add_lit, Nat.zero_add, cell_of_row w b j _ _ (0, 0) hb]
    simpa [flat] using hu) (flat_one _)

/-- .. or a piece of another row. -/
theorem src_piece {w : World} {B : Nat} {v : Value} {l : List Fl} (h : Files w B v l) (i : Nat) (hi : i ≤ l.length) :
    ∃ a cap, v = .slice a l.length cap ∧ l.length ≤ cap ∧
      (∀ W, (Instr.slice 51 v none (some (.int .i64 (i : Int))) none).run Try.prog W = .ok (.slice a i cap) W) ∧
      (∃ A c, (∀ W, (Instr.slice 51 v (some (.int .i64 (i : Int))) none none).run Try.prog W = .ok (.slice A (l.length - i) c) W) ∧
        (∀ W, (∀ g, v.ownBlock = some g → W.heap[g]? = w.heap[g]?) → Src Try.prog 3 51 (.slice A (l.length - i) c) (l.drop i).length (flat (l.drop i)) W)) ∧
      (∀ W, (∀ g, v.ownBlock = some g → W.heap[g]? = w.heap[g]?) → Src Try.prog 3 51 (.slice a i cap) (l.take i).length (flat (l.take i)) W) := by
  have hsz : ∀ W : World, (Go.sizeOf (Try.prog.elem 51)).run Try.prog W = .ok 3 W := fun W => by kernel_rfl
  rcases files_cases h with ⟨rfl, rfl⟩ | ⟨g, cap, cur, rfl, hBg, hgl, hg, hcap, hcm, hcs, hcell, hfz⟩
  · have hi0 : i = 0 := by simpa using hi
    subst hi0
    refine ⟨none, 0, rfl, Nat.le_refl _, fun W => ?_, ⟨none, 0, fun W => ?_, fun W _ => Src.ofNil W Try.underlying51 0⟩, fun W _ => Src.ofNil W Try.underlying51 0⟩
    · rw [run_slice_h (P := Try.prog) (t := 51) (ht := by kernel_rfl) (kh := .i64) (h := ((0 : Nat) : Int)) (h0 := by omega) (h2 := by omega), hsz]
      simp [Result.andThen, sliced]
    · rw [run_slice_l (P := Try.prog) (t := 51) (ht := by kernel_rfl) (kl := .i64) (l := ((0 : Nat) : Int)) (h0 := by omega) (h1 := by simp), hsz]
      simp [Result.andThen, sliced]
  · refine ⟨some ⟨g, 0, none⟩, cap, rfl, hcap, fun W => ?_, ⟨(if cap = i then some ⟨g, 0, none⟩ else some ⟨g, i * 3, none⟩), cap - i, fun W => ?_, fun W hW => ?_⟩, fun W hW => ?_⟩
    · rw [run_slice_h (P := Try.prog) (t := 51) (ht := by kernel_rfl) (kh := .i64) (h := (i : Int)) (h0 := by omega) (h2 := by omega), hsz]
      simp only [Result.andThen, sliced, Int.toNat_natCast, Nat.sub_zero, Nat.zero_mul]
      by_cases h0 : cap = 0
      · simp [h0]
      · rw [if_neg h0]; simp [Addr.add]
    · rw [run_slice_l (P := Try.prog) (t := 51) (ht := by kernel_rfl) (kl := .i64) (l := (i : Int)) (h0 := by omega) (h1 := by omega), hsz]
      simp only [Result.andThen, sliced, Int.toNat_natCast]
      by_cases h0 : cap = i
      · rw [if_pos h0, if_pos h0]
      · rw [if_neg h0, if_neg h0]
        simp only [Option.map_some, Addr.add_lit, Nat.zero_add]
    · have hdl : (l.drop i).length = l.length - i := List.length_drop
      have key : ∀ A : Addr, (∀ t, t < (l.length - i) * 3 → A.add t = ⟨g, i * 3 + t, none⟩) → Src Try.prog 3 51 (.slice (some A) (l.length - i) (cap - i)) (l.drop i).length (flat (l.drop i)) W := fun A hA => by
        rw [hdl]
        refine Src.ofSlice W Try.underlying51 A _ _ _ (by rw [flat_len, hdl]) (fun j u hu => ?_) (flat_one _)
        have hj : j < (l.length - i) * 3 := by rw [← hdl, ← flat_len]; exact (List.getElem?_eq_some_iff.1 hu).1
        rw [hA j hj]
        have e : W.cell? ⟨g, i * 3 + j, none⟩ = w.cell? ⟨g, i * 3 + j, none⟩ := World.cell?_of_block (w := w) (hW g rfl)
        rw [e, hcell _ (by omega)]
        rw [flat_drop, List.getElem?_drop] at hu
        exact hu
      by_cases h0 : cap = i
      · rw [if_pos h0]
        exact key _ (fun t ht => by omega)
      · rw [if_neg h0]
        exact key _ (fun t _ => by rw [Addr.add_lit])
    · have htl : (l.take i).length = i := by rw [List.length_take]; omega
      have hx : ∀ n, n = i → Src Try.prog 3 51 (.slice (some ⟨g, 0, none⟩) i cap) n (flat (l.take i)) W := fun n hn => by
        subst hn
        refine Src.ofSlice W Try.underlying51 ⟨g, 0, none⟩ _ _ _ (by rw [flat_len, htl]) (fun j u hu => ?_) (flat_one _)
        have hj : j < n * 3 := by
          have := (List.getElem?_eq_some_iff.1 hu).1
          rw [flat_len, htl] at this; exact this
        rw [Addr.add_lit, Nat.zero_add]
        have e : W.cell? ⟨g, j, none⟩ = w.cell? ⟨g, j, none⟩ := World.cell?_of_block (w := w) (hW g rfl)
        rw [e, hcell _ (by omega)]
        rw [flat_take, List.getElem?_take, if_pos hj] at hu
        exact hu
      exact hx _ htl
end Go.Proofs.Ytmpipfhlicfagaa
