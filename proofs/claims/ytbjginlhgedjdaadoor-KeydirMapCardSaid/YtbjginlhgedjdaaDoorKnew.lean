/- The document's directory: places are made; New. -/
import Derived.Test.YtbjginlhgedjdaaDoorKcalls
import Derived.Laws.MakeOwn
namespace Go.Proofs.YtbjginlhgedjdaaDoor.K
open Go.RowKit
set_option linter.unusedVariables false

theorem infoSlotB : (Tryd.prog.info? 63).map (fun i => (i.zero, i.size, decide (i.bytes ≤ 1000))) = some (some (.agg #[.string ⟨#[]⟩, .int .i64 0, .int .i64 0, .int .i64 0, .int .u64 0, .bool false]), 6, true) := by kernel_rfl
theorem slot_parts : ∃ i, Tryd.prog.info? 63 = some i ∧ i.zero = some (.agg #[.string ⟨#[]⟩, .int .i64 0, .int .i64 0, .int .i64 0, .int .u64 0, .bool false]) ∧ i.size = 6 ∧ i.bytes ≤ 1000 := by
  obtain ⟨i, hi, hzz⟩ := Option.map_eq_some_iff.1 infoSlotB
  simp only [Prod.mk.injEq, decide_eq_true_eq] at hzz
  exact ⟨i, hi, hzz.1, hzz.2.1, hzz.2.2⟩
theorem made_slots (n : Nat) : madeCells #[.string ⟨#[]⟩, .int .i64 0, .int .i64 0, .int .i64 0, .int .u64 0, .bool false] (n * 6) = (srows (none' n)).toArray := by
  apply Array.ext_getElem?
  intro j
  by_cases hj : j < n * 6
  · obtain ⟨q, r, hr, rfl⟩ : ∃ q r, r < 6 ∧ j = q * 6 + r := ⟨j / 6, j % 6, Nat.mod_lt _ (by omega), by omega⟩
    have hq : q < n := by omega
    have e : (srows (none' n)).toArray[q * 6 + r]? = (srows (none' n))[q * 6 + r]? := List.getElem?_toArray
    rw [e, srows_at (none' n) q r none (by simp [none', hq]) hr]
    have hm : (q * 6 + r) % 6 = r := by omega
    simp only [madeCells, Array.getElem?_map, Array.getElem?_range, hj, if_true, Option.map_some, List.size_toArray, List.length_cons, List.length_nil, Nat.zero_add, Nat.reduceAdd, hm, slotv]
    rcases (show r = 0 ∨ r = 1 ∨ r = 2 ∨ r = 3 ∨ r = 4 ∨ r = 5 by omega) with rfl | rfl | rfl | rfl | rfl | rfl <;> rfl
  · rw [Array.getElem?_eq_none (by rw [size_madeCells]; omega), Array.getElem?_eq_none (by simp only [List.size_toArray, srows_len]; simp [none']; omega)]
theorem makeSlots (w : World) (n : Nat) (h : n ≤ 2048) : (Instr.makeSlice 41 (.int .i64 (n : Int)) (.int .i64 (n : Int))).run Tryd.prog w = .ok (.slice (some ⟨w.heap.size, 0, none⟩) n n) (w.alloc (.cells (srows (none' n)).toArray 63)) := by
  obtain ⟨i, hi, hz, hs, hb⟩ := slot_parts
  have := run_make (P := Tryd.prog) w 41 63 i _ Tryd.underlying41 hi hz .i64 .i64 n n (by omega) (Int.le_refl _) (by
    have : (i.bytes : Int) * (n : Int) ≤ 1000 * 2048 := Int.mul_le_mul (by omega) (by omega) (by omega) (by omega)
    omega) (by omega)
  rw [Int.toNat_natCast, hs] at this
  rw [← made_slots]
  exact this

set_option maxRecDepth 100000 in
set_option maxHeartbeats 400000 in
theorem refnew_any (w : World) : Calls Tryd.prog 9 #[] w fun e w' => ∃ qb gb, e = .returned (.pointer (some ⟨qb, 0, none⟩)) ∧ Rk w.heap.size w' qb gb (none' 8) ∧ Below w.heap.size w w' := by
  have hM : ∀ W, (Instr.makeSlice 41 (.int .i64 8) (.int .i64 8)).run Tryd.prog W = .ok (.slice (some ⟨W.heap.size, 0, none⟩) 8 8) (W.alloc (.cells (srows (none' 8)).toArray 63)) := fun W => makeSlots W 8 (by omega)
  generalize hr : (srows (none' 8)).toArray = rs at hM
  go_enter Tryd.func9, Tryd.ntmps9
  go_wp2_with fail
  go_ret
  subst hr
  have b1 : Below w.heap.size w ((w.alloc (.cells (srows (none' 8)).toArray 63)).alloc (.cells #[.slice (some ⟨w.heap.size, 0, none⟩) 8 8] 43)) := ((Below.refl _ _).alloc (Nat.le_refl _) _).alloc (by simp) _
  refine ⟨w.heap.size + 1, w.heap.size, rfl, ⟨?_, ?_, ⟨by omega, Nat.le_refl _, by omega, b1.size⟩, by simp [none']⟩, b1⟩
  · exact heap_alloc2_new w _ _
  · exact heap_alloc2_old w _ _
end Go.Proofs.YtbjginlhgedjdaaDoor.K
