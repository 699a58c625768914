/- The program's directory: an empty one is made. -/
import Derived.Test.YtbjginlhgedjdaaDoorKpput
import Derived.Test.YtbjginlhgedjdaaDoorKnew
namespace Go.Proofs.YtbjginlhgedjdaaDoor.K
open Go.RowKit
set_option linter.unusedVariables false

theorem infoPlaceB : (Tryd.prog.info? 61).map (fun i => (i.zero, i.size, decide (i.bytes ≤ 1000))) = some (some (.agg #[.string ⟨#[]⟩, .int .i64 0, .int .i64 0, .int .i64 0, .int .u64 0, .bool false]), 6, true) := by kernel_rfl
theorem place_parts : ∃ i, Tryd.prog.info? 61 = some i ∧ i.zero = some (.agg #[.string ⟨#[]⟩, .int .i64 0, .int .i64 0, .int .i64 0, .int .u64 0, .bool false]) ∧ i.size = 6 ∧ i.bytes ≤ 1000 := by
  obtain ⟨i, hi, hzz⟩ := Option.map_eq_some_iff.1 infoPlaceB
  simp only [Prod.mk.injEq, decide_eq_true_eq] at hzz
  exact ⟨i, hi, hzz.1, hzz.2.1, hzz.2.2⟩
theorem makePlaces (w : World) (n : Nat) (h : n ≤ 2048) : (Instr.makeSlice 55 (.int .i64 (n : Int)) (.int .i64 (n : Int))).run Tryd.prog w = .ok (.slice (some ⟨w.heap.size, 0, none⟩) n n) (w.alloc (.cells (srows (none' n)).toArray 61)) := by
  obtain ⟨i, hi, hz, hs, hb⟩ := place_parts
  have := run_make (P := Tryd.prog) w 55 61 i _ Tryd.underlying55 hi hz .i64 .i64 n n (by omega) (Int.le_refl _) (by
    have : (i.bytes : Int) * (n : Int) ≤ 1000 * 2048 := Int.mul_le_mul (by omega) (by omega) (by omega) (by omega)
    omega) (by omega)
  rw [Int.toNat_natCast, hs] at this
  rw [← made_slots]
  exact this

set_option maxRecDepth 100000 in
set_option maxHeartbeats 400000 in
theorem psized_any (w : World) (m : Nat) (hm : m ≤ 1024) : Calls Tryd.prog 23 #[.int .i64 m] w fun e w' => ∃ pb rb, e = .returned (.pointer (some ⟨pb, 0, none⟩)) ∧ Pk w.heap.size w' pb rb 0 (none' m) ∧ Below w.heap.size w w' := by
  have hM : ∀ W, (Instr.makeSlice 55 (.int .i64 m) (.int .i64 m)).run Tryd.prog W = .ok (.slice (some ⟨W.heap.size, 0, none⟩) m m) (W.alloc (.cells (srows (none' m)).toArray 61)) := fun W => makePlaces W m (by omega)
  generalize hr : (srows (none' m)).toArray = rs at hM
  go_enter Tryd.func23, Tryd.ntmps23
  go_wp2_with fail
  go_ret
  subst hr
  have b1 : Below w.heap.size w ((w.alloc (.cells (srows (none' m)).toArray 61)).alloc (.cells #[.slice (some ⟨w.heap.size, 0, none⟩) m m, .int .i64 0] 57)) := ((Below.refl _ _).alloc (Nat.le_refl _) _).alloc (by simp) _
  refine ⟨w.heap.size + 1, w.heap.size, rfl, ⟨?_, ?_, ⟨by omega, Nat.le_refl _, by omega, b1.size⟩, by simp [none']; exact hm, by omega⟩, b1⟩
  · rw [show (none' m : Dr).length = m by simp [none']]; exact heap_alloc2_new w _ _
  · exact heap_alloc2_old w _ _

set_option maxHeartbeats 400000 in
theorem pnew_any (w : World) : Calls Tryd.prog 8 #[] w fun e w' => ∃ pb rb, e = .returned (.pointer (some ⟨pb, 0, none⟩)) ∧ Pk w.heap.size w' pb rb 0 (none' 8) ∧ Below w.heap.size w w' := by
  have HS := Lib.hid (psized_any w 8 (by omega))
  go_enter Tryd.func8, Tryd.ntmps8
  go_wp2_with (go_at_call 23; refine HS.out.mono ?_; rintro e w' ⟨pb, rb, rfl, h1, h2⟩)
  go_ret
  exact ⟨pb, rb, rfl, h1, h2⟩
end Go.Proofs.YtbjginlhgedjdaaDoor.K
