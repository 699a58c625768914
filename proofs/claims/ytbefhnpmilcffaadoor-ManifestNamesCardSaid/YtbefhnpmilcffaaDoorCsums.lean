/- What the calls of package crc that make checks return: step, byteSums, More and Sum. -/
import Derived.Test.YtbefhnpmilcffaaDoorVtakes
import Derived.Test.YtbefhnpmilcffaaDoorCmath
import Derived.WalkKit
import Derived.WalkSpells
import Derived.WalkLawsBesides
import Derived.Deep.QuietTactic
import Derived.BigQuiet
import Derived.Lib.Hide
import Derived.Lib.Strings
import Derived.Laws.BitsAllLaws
import Derived.Laws.IdiomStrings
import Derived.Laws.Rows
import Derived.Laws.Tables
import Derived.Deep.WholeRow
import Derived.Deep.RegionWith
import Derived.IntWalk
namespace Go.Proofs.YtbefhnpmilcffaaDoor
open Go.RowKit

set_option maxHeartbeats 400000 in
theorem step_any (n : Nat) (w : World) (h : n < 4294967296) :
    Calls Tryd.prog 77 #[.int .u32 (n : Int)] w fun e w' => e = .returned (.int .u32 ((step n : Nat) : Int)) ∧ w = w' := by
  by_cases ho : n % 2 = 1
  · have hx : bits .xor .u32 ((n : Int) / 2) 2197175160 = ((step n : Nat) : Int) := by
      rw [step_odd ho, ← u32_xor_nat (n / 2) 2197175160 (by omega) (by omega)]; rfl
    generalize step n = s at *
    have hb : ((n : Int) % 2 == 1) = true := by rw [beq_iff_eq]; omega
    clear ho
    go_enter Tryd.func77, Tryd.ntmps77
    go_wp2
    go_ret
    exact ⟨rfl, rfl⟩
  · rw [step_even ho]
    have hb : ((n : Int) % 2 == 1) = false := by rw [beq_eq_false_iff_ne]; omega
    clear ho
    go_enter Tryd.func77, Tryd.ntmps77
    go_wp2
    go_ret
    exact ⟨ret_int (by omega), rfl⟩

/-- The array of the bytes' sums, filled up to place k. -/
def tab (k : Nat) : Array Value := ((List.range 256).map fun i => Value.int .u32 ((if i < k then steps 8 i else 0 : Nat) : Int)).toArray

theorem tab_size (k : Nat) : (tab k).size = 256 := by simp [tab]
theorem tab_get (k i : Nat) (h : i < 256) : (tab k)[i]? = some (.int .u32 ((if i < k then steps 8 i else 0 : Nat) : Int)) := by
  simp [tab, h]
theorem tab_set (k : Nat) (h : k < 256) : (tab k).setIfInBounds k (.int .u32 ((steps 8 k : Nat) : Int)) = tab (k + 1) := by
  apply Array.ext_getElem?
  intro i
  rw [Array.getElem?_setIfInBounds]
  by_cases hi : i < 256
  · rw [tab_get (k + 1) i hi, tab_get k i hi, tab_size]
    by_cases e : k = i
    · subst e; rw [if_pos rfl, if_pos h, if_pos (by omega)]
    · rw [if_neg e]
      by_cases hl : i < k
      · rw [if_pos hl, if_pos (by omega)]
      · rw [if_neg hl, if_neg (by omega)]
  · rw [if_neg (by omega), Array.getElem?_eq_none (by rw [tab_size]; omega), Array.getElem?_eq_none (by rw [tab_size]; omega)]

theorem tab_one (k : Nat) : (tab k).all (·.oneCell') = true := by
  rw [Array.all_eq_true_iff_forall_mem]
  intro v hv
  unfold tab at hv
  rw [List.mem_toArray, List.mem_map] at hv
  obtain ⟨i, _, rfl⟩ := hv
  rfl
theorem below_setRow {B g : Nat} {w w' : World} (h : Below B w w') (hg : B ≤ g) (cs : Array Value) : Below B w (w'.setRow g cs) :=
  h.trans ⟨rfl, rfl, rfl, by simp [World.setRow], fun k hk => setRow_other w' g k cs (by omega)⟩

theorem info256 : (Tryd.prog.info? 96).map (·.size) = some 256 := by kernel_rfl
theorem zero256 (w : World) : (zeroValue 96).run Tryd.prog w = .ok (.agg (tab 0)) w := by kernel_rfl
theorem alloc256 (w : World) : (Instr.alloc 96 true (.tuple #[])).run Tryd.prog w = .ok (.pointer (some ⟨w.heap.size, 0, none⟩)) (w.alloc (.cells (tab 0) 96)) := by
  simp only [Instr.alloc, Sem.run_bind, zero256, Result.andThen]
  rfl

set_option maxRecDepth 100000 in
set_option maxHeartbeats 400000 in
theorem table_any (w : World) :
    Calls Tryd.prog 65 #[] w fun e w' => e = .returned (.agg (tab 256)) ∧ Below w.heap.size w w' := by
  have ha := zero256
  go_enter Tryd.func65, Tryd.ntmps65
  go_wp2
  go_loopw [4] (fun i wr => ∃ (k : Nat), k ≤ 256 ∧ i = .int .i64 k ∧ wr = (w.alloc (.cells (tab 0) 96)).alloc (.cells (tab k) 96)) (fun i _ => 256 - (intOf i).toNat)
  case atStart => exact ⟨0, by omega, rfl, rfl⟩
  case round =>
    obtain ⟨k, hk, rfl, rfl⟩ := hrel
    by_cases hlt : k < 256
    · have hg := tab_get k k hlt
      have hlti : (k : Int) < 256 := by omega
      go_wp2
      go_loop [3, 9] (fun c i => ∃ j : Nat, j ≤ 8 ∧ i = .int .i64 j ∧ c = .int .u32 ((steps j k : Nat) : Int)) (fun _ i => 8 - (intOf i).toNat)
      case atStart => exact ⟨0, by omega, rfl, by rw [steps]⟩
      case round =>
        obtain ⟨j, hj, rfl, rfl⟩ := hrel
        by_cases hj8 : j < 8
        · have hs := step_any (steps j k) ((w.alloc (.cells (tab 0) 96)).alloc (.cells (tab k) 96)) (steps_lt j (by omega))
          rw [steps_snoc] at hs
          have HS := Lib.hid hs
          clear hs
          go_wp2_with fail
          refine HS.out.mono ?_
          rintro e w' ⟨rfl, rfl⟩
          go_wp2_with fail
          go_round
          case rel => exact ⟨j + 1, by omega, by go_num, rfl⟩
          case measure => simp [intOf]; omega
        · have e8 : j = 8 := by omega
          subst e8
          have HT := Lib.hid (tab_set k hlt)
          generalize steps 8 k = x at *
          go_wp2
          go_roundw
          case rel => exact ⟨k + 1, by omega, by go_num, by rw [HT.out]⟩
          case measure => simp [intOf]; omega
    · have e : k = 256 := by omega
      subst e
      clear hlt hk ha
      have g1 := heap_alloc2_new w (.cells (tab 0) 96) (.cells (tab 256) 96)
      have g0 := heap_alloc2_old w (.cells (tab 0) 96) (.cells (tab 256) 96)
      have G1 := Lib.hid g1
      have G0 := Lib.hid g0
      have G2 := Lib.hid (setRow_heap _ _ _ (tab 256) _ _ g0)
      have b1 : Below w.heap.size w ((w.alloc (.cells (tab 0) 96)).alloc (.cells (tab 256) 96)) := ((Below.refl _ _).alloc (Nat.le_refl _) _).alloc (by simp) _
      have B1 := Lib.hid (below_setRow b1 (Nat.le_refl _) (tab 256))
      clear g1 g0 b1
      go_wp2_with (first | (refine wpList_load_row rfl 96 _ rfl _ rfl 96 _ _ _ G1.out Tryd.underlying96 rfl (by rw [tab_size]; exact info256) ?_) | (refine wpList_store_row rfl 96 _ _ rfl _ (tab 256) rfl rfl 96 _ G0.out (by rw [tab_size]; exact info256) (by rw [tab_size, tab_size]) (tab_one _) ?_))
      refine bodyPost_ret (v := .agg (tab 256)) ?_ rfl ⟨rfl, B1.out⟩
      exact results_cell_row rfl _ _ _ _ _ _ _ rfl G2.out Tryd.underlying96 rfl (by rw [tab_size]; exact info256)

theorem not32 (n : Nat) (h : n < 4294967296) : bits .xor .u32 IntKind.u32.max (n : Int) = ((inv n : Nat) : Int) := by
  rw [inv, Nat.xor_comm, ← u32_xor_nat 4294967295 n (by omega) h]; rfl

set_option maxRecDepth 100000 in
set_option maxHeartbeats 400000 in
theorem more_any (n : Nat) (b : ByteArray) (w : World) (hn : n < 4294967296) (hb : b.size ≤ 9223372036854775807) :
    Calls Tryd.prog 53 #[.int .u32 (n : Int), .string b] w fun e w' => e = .returned (.int .u32 ((more n b.data.toList : Nat) : Int)) ∧ Below w.heap.size w w' := by
  have ha := zero256
  go_enter Tryd.func53, Tryd.ntmps53
  go_wp2_with fail
  refine (table_any w).mono ?_
  rintro e w1 ⟨rfl, b1⟩
  have G0 := Lib.hid (heap_alloc_last w1 (.cells (tab 0) 96))
  go_wp2_with (refine wpList_store_row rfl 96 _ _ rfl _ (tab 256) rfl rfl 96 _ G0.out (by rw [tab_size]; exact info256) (by rw [tab_size, tab_size]) (tab_one _) ?_)
  rw [World.setRow_alloc_new]
  have HN := Lib.hid (not32 n hn)
  go_loop [6, 13] (fun c i => ∃ k x : Nat, k ≤ b.size ∧ i = .int .i64 k ∧ c = .int .u32 x ∧ x = upd (inv n) (b.data.toList.take k)) (fun _ i => b.size - (intOf i).toNat)
  case atStart => exact ⟨0, inv n, by omega, rfl, by rw [HN.out], by rw [List.take_zero, upd_nil]⟩
  case round =>
    obtain ⟨k, x, hk, rfl, rfl, hx⟩ := hrel
    have hxl : x < 4294967296 := by rw [hx]; exact upd_lt _ (inv_lt hn)
    have HX := Lib.hid hx
    clear hx ha
    by_cases hlt : k < b.size
    · have hc := u8_lt b[k]
      have hi : x % 256 ^^^ b[k].toNat < 256 := Nat.xor_lt_two_pow (n := 8) (by omega) (by omega)
      have e1 : bits .xor .u8 ((x : Int) % 256) (b[k].toNat : Int) = ((x % 256 ^^^ b[k].toNat : Nat) : Int) := by
        rw [← u8_xor_nat (x % 256) b[k].toNat (by omega) (by omega)]; rfl
      have hg := tab_get 256 _ hi
      rw [if_pos hi] at hg
      have hy : steps 8 (x % 256 ^^^ b[k].toNat) < 4294967296 := steps_lt 8 (by omega)
      have e2 : bits .xor .u32 ((x : Int) / 256) ((steps 8 (x % 256 ^^^ b[k].toNat) : Nat) : Int) = ((steps 8 (x ^^^ b[k].toNat) : Nat) : Int) := by
        rw [← lookup x, ← u32_xor_nat (x / 256) _ (by omega) hy]; rfl
      have HS := Lib.hid (upd_snoc (inv n) (b.data.toList.take k) b[k])
      generalize steps 8 (x % 256 ^^^ b[k].toNat) = y at *
      generalize x % 256 ^^^ b[k].toNat = z at *
      go_wp2
      go_round
      case rel => exact ⟨k + 1, _, by omega, by go_num, rfl, by rw [take_snoc b k hlt, HS.out, HX.out]⟩
      case measure => simp [intOf]; omega
    · have HM := Lib.hid (not32 x hxl)
      go_wp2
      go_ret
      refine ⟨ret_int ?_, ?_⟩
      · rw [HM.out, HX.out, List.take_of_length_le (by rw [len_size]; omega), more]
      · exact b1.alloc b1.size _

set_option maxRecDepth 100000 in
set_option maxHeartbeats 400000 in
theorem sum_any (b : ByteArray) (w : World) (hb : b.size ≤ 9223372036854775807) :
    Calls Tryd.prog 38 #[.string b] w fun e w' => e = .returned (.int .u32 ((sum b.data.toList : Nat) : Int)) ∧ Below w.heap.size w w' := by
  go_enter Tryd.func38, Tryd.ntmps38
  go_wp2_with fail
  refine (more_any 0 b w (by omega) hb).mono ?_
  rintro e w1 ⟨rfl, b1⟩
  go_wp2
  go_ret
  exact ⟨rfl, b1⟩

end Go.Proofs.YtbefhnpmilcffaaDoor
