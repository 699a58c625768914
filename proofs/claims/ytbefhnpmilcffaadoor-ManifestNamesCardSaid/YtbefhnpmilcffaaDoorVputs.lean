/- What the calls of package varint that lay bytes return: Put and Text. -/
import Derived.Test.YtbefhnpmilcffaaDoorRows
import Derived.Test.YtbefhnpmilcffaaDoorVmath
import Derived.WalkKit
import Derived.WalkSpells
import Derived.WalkLawsBesides
import Derived.Deep.QuietTactic
import Derived.BigQuiet
import Derived.Lib.Hide
import Derived.Lib.Strings
import Derived.Laws.DeepNot64
import Derived.Laws.IdiomStrings
import Derived.Deep.RegionWith
import Derived.IntWalk
namespace Go.Proofs.YtbefhnpmilcffaaDoor
open Go.RowKit

/-- Bytes as a Go string. -/
def bs (l : List UInt8) : ByteArray := ⟨l.toArray⟩
theorem bs_list (l : List UInt8) : (bs l).data.toList = l := rfl
theorem bs_size (l : List UInt8) : (bs l).size = l.length := by simp [bs, ByteArray.size]
theorem bs_of (b : ByteArray) : bs b.data.toList = b := Lib.mk_data b

theorem ret_int {k : IntKind} {a b : Int} (h : a = b) : Ending.returned (.int k a) = .returned (.int k b) := by rw [h]

/-- The array of ten bytes that holds the groups so far. -/
def rowOf (l : List UInt8) : Array Value := (l.map (fun c => Value.int .u8 c.toNat) ++ List.replicate (10 - l.length) (Value.int .u8 0)).toArray

theorem row_cell (l : List UInt8) (k : Nat) (hl : l.length = k) (hk : k ≤ 9) : (rowOf l)[k]? = some (Value.int .u8 0) := by
  subst hl
  obtain ⟨j, hj⟩ : ∃ j, 10 - l.length = j + 1 := ⟨9 - l.length, by omega⟩
  unfold rowOf
  rw [List.getElem?_toArray, List.getElem?_append_right (by simp), hj]
  simp

theorem row_push (l : List UInt8) (k : Nat) (c : UInt8) (hl : l.length = k) (hk : k ≤ 9) : (rowOf l).setIfInBounds k (Value.int .u8 c.toNat) = rowOf (l ++ [c]) := by
  subst hl
  obtain ⟨j, hj⟩ : ∃ j, 10 - l.length = j + 1 := ⟨9 - l.length, by omega⟩
  have hj2 : 10 - (l ++ [c]).length = j := by simp; omega
  unfold rowOf
  rw [hj2, hj, List.setIfInBounds_toArray, List.replicate_succ]
  simp

theorem row_next (l : List UInt8) (k x : Nat) (hl : l.length = k) (hk : k ≤ 9) : (rowOf l).setIfInBounds k (Value.int .u8 ((x : Int) % 128 + 128)) = rowOf (l ++ [UInt8.ofNat (128 + x % 128)]) := by
  have e : ((UInt8.ofNat (128 + x % 128)).toNat : Int) = (x : Int) % 128 + 128 := by rw [toNat_hi]; omega
  rw [← e]
  exact row_push l k _ hl hk

theorem row_last (l : List UInt8) (k x : Nat) (hl : l.length = k) (hk : k ≤ 9) (hx : x < 128) : (rowOf l).setIfInBounds k (Value.int .u8 (x : Int)) = rowOf (l ++ put x) := by
  have e : ((UInt8.ofNat x).toNat : Int) = (x : Int) := by rw [toNat_lo hx]
  rw [put_lo hx, ← e]
  exact row_push l k _ hl hk

theorem few {n x k : Nat} (hn : n ≤ 18446744073709551615) (hk : k ≤ 9) (h : x * 128 ^ k ≤ n) (hx : 128 ≤ x) : k ≤ 8 := by
  by_cases h9 : k = 9
  · subst h9
    have : 128 * 128 ^ 9 ≤ x * 128 ^ 9 := Nat.mul_le_mul_right _ hx
    have e : (128 * 128 ^ 9 : Nat) = 1180591620717411303424 := by decide
    omega
  · omega
theorem less {n x k : Nat} (h : x * 128 ^ k ≤ n) : x ≤ n := Nat.le_trans (Nat.le_mul_of_pos_right x (Nat.pow_pos (by omega))) h
theorem next_le {n x k : Nat} (h : x * 128 ^ k ≤ n) : x / 128 * 128 ^ (k + 1) ≤ n := by
  refine Nat.le_trans ?_ h
  rw [Nat.pow_succ, Nat.mul_comm (128 ^ k), ← Nat.mul_assoc]
  exact Nat.mul_le_mul_right _ (Nat.div_mul_le_self x 128)

theorem arrLen : Tryd.prog.arrayLen 87 = 10 := by kernel_rfl
theorem arrElem : Tryd.prog.elem 87 = 5 := by kernel_rfl
theorem size8 (w : World) : (Go.sizeOf 5).run Tryd.prog w = .ok 1 w := by kernel_rfl
theorem run_cut (b : Nat) (i : Int) (h0 : 0 ≤ i) (h1 : i ≤ 10) (w : World) :
    (Instr.sliceAt 87 (.pointer (some ⟨b, 0, none⟩)) none (some (.int .i64 i)) (some (.int .i64 i))).run Tryd.prog w = .ok (.slice (some ⟨b, 0, none⟩) i.toNat i.toNat) w := by
  rw [run_sliceAt_array_hm w 87 ⟨b, 0, none⟩ (by kernel_rfl) .i64 .i64 i i h0 (Int.le_refl _) (by rw [arrLen]; omega), arrElem, size8]
  simp [Result.andThen, slicedAt, Addr.add]

set_option maxRecDepth 100000 in
set_option maxHeartbeats 400000 in
theorem groups_any (n : Int) (w : World) (h0 : 0 ≤ n) (h1 : n ≤ 18446744073709551615) :
    Calls Tryd.prog 43 #[.int .u64 n] w fun e w' => e = .returned (.slice (some ⟨w.heap.size, 0, none⟩) (put n.toNat).length (put n.toNat).length) ∧ w' = w.alloc (.cells (rowOf (put n.toNat)) 87) := by
  go_enter Tryd.func43, Tryd.ntmps43
  go_wp2
  go_loopw [0, 4] (fun m u wr => ∃ (k x : Nat) (l : List UInt8), l.length = k ∧ k ≤ 9 ∧ x * 128 ^ k ≤ n.toNat ∧ u = .int .i64 k ∧ m = .int .u64 x ∧ put n.toNat = l ++ put x ∧ wr = w.alloc (.cells (rowOf l) 87)) (fun m _ _ => (intOf m).toNat)
  case atStart => exact ⟨0, n.toNat, [], rfl, by omega, by simp, rfl, by go_num, rfl, rfl⟩
  case round =>
    obtain ⟨k, x, l, hl, hk, hx, rfl, rfl, hp, rfl⟩ := hrel
    have hcell := row_cell l k hl hk
    have HL := Lib.hid hl
    have HX := Lib.hid hx
    have HP := Lib.hid hp
    clear hl hx hp
    by_cases hb : 128 ≤ x
    · have hk8 : k ≤ 8 := few (by omega) hk HX.out hb
      have hbi : (128 : Int) ≤ (x : Int) := by omega
      have hxm : (x : Int) ≤ 18446744073709551615 := by have := less HX.out; omega
      go_wp2
      go_roundw
      case rel =>
        exact ⟨k + 1, x / 128, l ++ [UInt8.ofNat (128 + x % 128)], by simp [HL.out], by omega, next_le HX.out, by go_num, by go_num, by rw [HP.out, put_hi (n := x) (by omega)]; simp, by rw [row_next l k x HL.out hk]⟩
      case measure => simp [intOf]; omega
    · have hbi : (x : Int) < 128 := by omega
      clear h1
      have hcut := run_cut w.heap.size ((k : Int) + 1) (by omega) (by omega)
      go_wp2
      go_ret
      refine ⟨?_, ?_⟩
      · have e : (put n.toNat).length = ((k : Int) + 1).toNat := by rw [HP.out, List.length_append, HL.out, put_lo (by omega)]; rfl
        rw [e]; rfl
      · rw [HP.out, row_last l k x HL.out hk (by omega)]

theorem conv_row (l : List UInt8) (w : World) (cap : Nat) :
    (convert 54 9 (.slice (some ⟨w.heap.size, 0, none⟩) l.length cap)).run Tryd.prog (w.alloc (.cells (rowOf l) 87)) = .ok (.string (bs l)) (w.alloc (.cells (rowOf l) 87)) := by
  refine run_convert_bytes_back _ 54 9 5 ⟨w.heap.size, 0, none⟩ cap l (by kernel_rfl) (by kernel_rfl) (by kernel_rfl) fun j hj => ?_
  have e : (⟨w.heap.size, 0, none⟩ : Addr).add j = ⟨w.heap.size, j, none⟩ := by simp [Addr.add]; omega
  rw [e, World.cell?_alloc_mark]
  unfold rowOf
  rw [List.getElem?_toArray, List.getElem?_append_left (by simpa using hj)]
  simp [hj]

set_option maxRecDepth 100000 in
set_option maxHeartbeats 400000 in
theorem put_any (n : Int) (w : World) (h0 : 0 ≤ n) (h1 : n ≤ 18446744073709551615) :
    Calls Tryd.prog 25 #[.int .u64 n] w fun e w' => e = .returned (.string (bs (put n.toNat))) ∧ Below w.heap.size w w' := by
  have hc := conv_row (put n.toNat) w
  go_enter Tryd.func25, Tryd.ntmps25
  go_wp2_with fail
  refine (groups_any n w h0 h1).mono ?_
  rintro e w' ⟨rfl, rfl⟩
  go_wp2
  go_ret
  exact ⟨rfl, (Below.refl _ _).alloc (Nat.le_refl _) _⟩



end Go.Proofs.YtbefhnpmilcffaaDoor

