/- The program's New. -/
import Derived.Test.YtbndhhlekfdppaaLpblocks
namespace Go.Proofs.Ytbndhhlekfdppaa.L
open Go.RowKit Go.Maps
set_option linter.unusedVariables false
def zeroB : Bk := ⟨0, 0⟩
theorem pnew_no (most : Int) (w : World) (hm : most < 1 ∨ 64 < most) : Calls Try.prog 6 #[.int .i64 most] w fun e w' => e = .returned (.tuple #[.pointer none, .int .i64 1]) ∧ Below w.heap.size w w' := by
  rcases hm with hm | hm
  · go_enter Try.func6, Try.ntmps6
    go_wp2
    go_ret2
    exact ⟨rfl, Below.refl _ _⟩
  · have h2 : ¬ most < 1 := by omega
    go_enter Try.func6, Try.ntmps6
    go_wp2
    go_ret2
    exact ⟨rfl, Below.refl _ _⟩
/-- The array as it is at first. -/
def os0 : List Bk := List.replicate 64 zeroB
theorem os0_len : os0.length = 64 := List.length_replicate
def zeroC : List Value := .map none :: (bflat os0 ++ [.int .i64 0])
theorem zeroC_run (w : World) : (zeroValue 50).run Try.prog w = .ok (.agg zeroC.toArray) w := by kernel_rfl
theorem zeroC_set (m most : Nat) : (zeroC.toArray.setIfInBounds 0 (.map (some m))).setIfInBounds 129 (.int .i64 (most : Int)) = (cc m os0 most).toArray := by
  have hl : (bflat os0).length = 128 := by rw [bflat_len, os0_len]
  unfold zeroC cc
  generalize bflat os0 = L at *
  simp only [List.setIfInBounds_toArray, List.set_cons_zero]
  rw [show (129 : Nat) = 128 + 1 from rfl, List.set_cons_succ, List.set_append_right _ _ (by omega), hl]
  rfl
theorem zeroC_size : zeroC.toArray.size = 130 := by simp [zeroC, bflat_len, os0_len]
set_option maxHeartbeats 1000000 in
set_option maxRecDepth 100000 in
theorem pnew_yes (most : Nat) (w : World) (h1 : 1 ≤ most) (h2 : most ≤ 64) : Calls Try.prog 6 #[.int .i64 (most : Int)] w fun e w' => ∃ pb, e = .returned (.tuple #[.pointer (some ⟨pb, 0, none⟩), .int .i64 0]) ∧ (∃ mb, Pm w.heap.size w' pb mb most os0 []) ∧ Below w.heap.size w w' := by
  have q1 : ¬ (most : Int) < 1 := by omega
  have q2 : ¬ (64 : Int) < (most : Int) := by omega
  have hmk : ∀ w : World, (Instr.makeMap 47 none).run Try.prog w = .ok (.map (some w.heap.size)) (w.alloc (.map #[] 0)) := fun w => by kernel_rfl
  obtain ⟨Z, hz, hZs, hset⟩ : ∃ Z : Array Value, (∀ w, (zeroValue 50).run Try.prog w = .ok (.agg Z) w) ∧ Z.size = 130 ∧ (Z.setIfInBounds 0 (.map (some w.heap.size))).setIfInBounds 129 (.int .i64 (most : Int)) = (cc w.heap.size os0 most).toArray :=
    ⟨_, zeroC_run, zeroC_size, zeroC_set _ _⟩
  have hZ0 : ¬ (Z = #[]) := fun e => by rw [e] at hZs; simp at hZs
  go_enter Try.func6, Try.ntmps6
  go_wp2_with fail
  go_ret2
  have hb1 : Below w.heap.size w (w.alloc (.map #[] 0)) := (Below.refl _ _).alloc (Nat.le_refl _) _
  have hb2 := hb1.alloc (by simp) (.cells (cc w.heap.size os0 most).toArray 50)
  refine ⟨_, rfl, ⟨w.heap.size, ?_⟩, hb2⟩
  have hn := heap_alloc_new (w.alloc (.map #[] 0)) (.cells (cc w.heap.size os0 most).toArray 50)
  rw [World.size_alloc] at hn
  exact ⟨hn, (mapI_new w).kept (Below.heap_alloc _ _ _ (by simp)), os0_len, ⟨by omega, Nat.le_refl _, by omega, by simp; omega⟩⟩
end Go.Proofs.Ytbndhhlekfdppaa.L
