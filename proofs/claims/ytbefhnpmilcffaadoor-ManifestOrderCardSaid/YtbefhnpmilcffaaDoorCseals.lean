/- What the calls of package crc on sealed bytes return: sumText, Seal and Open. -/
import Derived.Test.YtbefhnpmilcffaaDoorCsums
namespace Go.Proofs.YtbefhnpmilcffaaDoor
open Go.RowKit

/-- The array of four bytes that holds those so far. -/
def row4 (l : List UInt8) : Array Value := (l.map (fun c => Value.int .u8 c.toNat) ++ List.replicate (4 - l.length) (Value.int .u8 0)).toArray

theorem row4_cell (l : List UInt8) (k : Nat) (hl : l.length = k) (hk : k ≤ 3) : (row4 l)[k]? = some (Value.int .u8 0) := by
  subst hl
  obtain ⟨j, hj⟩ : ∃ j, 4 - l.length = j + 1 := ⟨3 - l.length, by omega⟩
  unfold row4
  rw [List.getElem?_toArray, List.getElem?_append_right (by simp), hj]
  simp

theorem row4_push (l : List UInt8) (k : Nat) (c : UInt8) (hl : l.length = k) (hk : k ≤ 3) : (row4 l).setIfInBounds k (Value.int .u8 c.toNat) = row4 (l ++ [c]) := by
  subst hl
  obtain ⟨j, hj⟩ : ∃ j, 4 - l.length = j + 1 := ⟨3 - l.length, by omega⟩
  have hj2 : 4 - (l ++ [c]).length = j := by simp; omega
  unfold row4
  rw [hj2, hj, List.setIfInBounds_toArray, List.replicate_succ]
  simp

theorem row4_next (n k : Nat) (hk : k < 4) : (row4 ((four n).take k)).setIfInBounds k (Value.int .u8 ((n : Int) / 2 ^ (8 * k) % 256)) = row4 ((four n).take (k + 1)) := by
  have key : ∀ (m : Nat) (l : List UInt8), l.length = k → (row4 l).setIfInBounds k (Value.int .u8 ((m : Int) % 256)) = row4 (l ++ [UInt8.ofNat m]) := by
    intro m l hl
    have e : ((UInt8.ofNat m).toNat : Int) = (m : Int) % 256 := by rw [UInt8.toNat_ofNat']; omega
    rw [← e]
    exact row4_push l k _ hl (by omega)
  obtain rfl | rfl | rfl | rfl : k = 0 ∨ k = 1 ∨ k = 2 ∨ k = 3 := by omega
  · rw [show (n : Int) / 2 ^ (8 * 0) = (n : Int) from by simp]
    exact key n [] rfl
  · exact key (n / 256) _ rfl
  · exact key (n / 65536) _ rfl
  · exact key (n / 16777216) _ rfl

theorem conv4 (l : List UInt8) (w : World) (hl : l.length = 4) :
    (convert 54 9 (.slice (some ⟨w.heap.size, 0, none⟩) 4 4)).run Tryd.prog (w.alloc (.cells (row4 l) 88)) = .ok (.string (bs l)) (w.alloc (.cells (row4 l) 88)) := by
  rw [show (Value.slice (some ⟨w.heap.size, 0, none⟩) 4 4) = Value.slice (some ⟨w.heap.size, 0, none⟩) l.length 4 from by rw [hl]]
  refine run_convert_bytes_back _ 54 9 5 ⟨w.heap.size, 0, none⟩ 4 l (by kernel_rfl) (by kernel_rfl) (by kernel_rfl) fun j hj => ?_
  have e : (⟨w.heap.size, 0, none⟩ : Addr).add j = ⟨w.heap.size, j, none⟩ := by simp [Addr.add]; omega
  rw [e, World.cell?_alloc_mark]
  unfold row4
  rw [List.getElem?_toArray, List.getElem?_append_left (by simpa using hj)]
  simp [hj]

set_option maxRecDepth 100000 in
set_option maxHeartbeats 400000 in
theorem text4_any (b : ByteArray) (w : World) (hb : b.size ≤ 9223372036854775807) :
    Calls Tryd.prog 44 #[.string b] w fun e w' => e = .returned (.string (bs (four (sum b.data.toList)))) ∧ Below w.heap.size w w' := by
  have hs := sum_any b w hb
  have hl := sum_lt b.data.toList
  generalize sum b.data.toList = n at *
  have HS := Lib.hid hs
  clear hs
  go_enter Tryd.func44, Tryd.ntmps44
  go_wp2_with fail
  refine HS.out.mono ?_
  rintro e w1 ⟨rfl, b1⟩
  go_wp2
  go_loopw [8] (fun i wr => ∃ k : Nat, k ≤ 4 ∧ i = .int .i64 k ∧ wr = w1.alloc (.cells (row4 ((four n).take k)) 88)) (fun i _ => 4 - (intOf i).toNat)
  case atStart => exact ⟨0, by omega, rfl, rfl⟩
  case round =>
    obtain ⟨k, hk, rfl, rfl⟩ := hrel
    by_cases hlt : k < 4
    · have hcell := row4_cell ((four n).take k) k (by simp [four_length]; omega) (by omega)
      go_wp2
      go_roundw
      case rel => exact ⟨k + 1, by omega, by go_num, by rw [row4_next n k hlt]⟩
      case measure => simp [intOf]; omega
    · have e : k = 4 := by omega
      subst e
      have hc := conv4 ((four n).take 4) w1 rfl
      go_wp2
      go_ret
      exact ⟨rfl, b1.alloc b1.size _⟩

theorem bs_append (l r : List UInt8) : bs (l ++ r) = bs l ++ bs r := (ByteArray.mk_append_mk l r).symm
theorem bs_add (l : List UInt8) (r : ByteArray) : bs l ++ r = bs (l ++ r.data.toList) := by rw [bs_append, bs_of]

set_option maxRecDepth 100000 in
set_option maxHeartbeats 400000 in
theorem seal_any (b : ByteArray) (w : World) (hb : b.size ≤ 281474976710656) :
    Calls Tryd.prog 26 #[.string b] w fun e w' => e = .returned (.string (bs (seal4 b.data.toList))) ∧ Below w.heap.size w w' := by
  have ht := text4_any b w (by omega)
  have hz : (bs (four (sum b.data.toList))).size = 4 := bs_size _
  rw [show bs (seal4 b.data.toList) = bs (four (sum b.data.toList)) ++ b from by rw [bs_add]; rfl]
  generalize bs (four (sum b.data.toList)) = q at *
  have HT := Lib.hid ht
  have hz4 : q.size ≤ 4 := by omega
  clear ht hz
  go_enter Tryd.func26, Tryd.ntmps26
  go_wp2_with fail
  refine HT.out.mono ?_
  rintro e w1 ⟨rfl, b1⟩
  go_wp2
  go_ret
  exact ⟨rfl, b1⟩

/-- What Open returns. -/
def opnV (l : List UInt8) : Value := .tuple #[.string (bs (opn l).1), .bool (opn l).2]

set_option maxRecDepth 100000 in
set_option maxHeartbeats 400000 in
theorem open_any (b : ByteArray) (w : World) (hb : b.size ≤ 9223372036854775807) :
    Calls Tryd.prog 30 #[.string b] w fun e w' => e = .returned (opnV b.data.toList) ∧ Below w.heap.size w w' := by
  by_cases hs : b.data.toList.length < 4
  · have e : opnV b.data.toList = .tuple #[.string (bs []), .bool false] := by rw [opnV, opn_short hs]
    rw [e]
    clear e
    rw [len_size] at hs
    go_enter Tryd.func30, Tryd.ntmps30
    go_wp2
    go_ret2
    exact ⟨rfl, Below.refl _ _⟩
  · have hsz : ¬ b.size < 4 := by rw [len_size] at hs; exact hs
    have hsi : ¬ (b.size : Int) < 4 := by omega
    have ht : ∀ w, Calls Tryd.prog 44 #[.string (b.extract 4 b.size)] w fun e w' => e = .returned (.string (bs (four (sum (b.data.toList.drop 4))))) ∧ Below w.heap.size w w' := fun w => by
      have := text4_any (b.extract 4 b.size) w (by rw [ByteArray.size_extract]; omega)
      rwa [ext_from, bs_list, ← ext_from] at this
    have HT := Lib.hid ht
    have HF := Lib.hid (ext_from b 4)
    clear ht
    by_cases hq : four (sum (b.data.toList.drop 4)) = b.data.toList.take 4
    · have e : opnV b.data.toList = .tuple #[.string (b.extract 4 b.size), .bool true] := by rw [opnV, opn_yes hs hq, ext_from]
      have hcmp : ((bs (four (sum (b.data.toList.drop 4)))).toList == (b.extract 0 4).toList) = true := by rw [ext_to, bs_toList, bs_toList, hq]; simp
      rw [e]
      clear e hq hs
      generalize bs (four (sum (b.data.toList.drop 4))) = q at *
      go_enter Tryd.func30, Tryd.ntmps30
      go_wp2_with fail
      go_region_with (go_at_call 44; refine (HT.out _).mono ?_; rintro e w' ⟨rfl, hb1⟩)
      go_wp2
      go_ret2
      exact ⟨rfl, (Below.refl _ _).drew.trans hb1⟩
    · have e : opnV b.data.toList = .tuple #[.string (bs []), .bool false] := by rw [opnV, opn_no hs hq]
      have hcmp : ((bs (four (sum (b.data.toList.drop 4)))).toList == (b.extract 0 4).toList) = false := by rw [ext_to, bs_toList, bs_toList]; simpa using hq
      rw [e]
      clear e hq hs
      generalize bs (four (sum (b.data.toList.drop 4))) = q at *
      go_enter Tryd.func30, Tryd.ntmps30
      go_wp2_with fail
      go_region_with (go_at_call 44; refine (HT.out _).mono ?_; rintro e w' ⟨rfl, hb1⟩)
      go_wp2
      go_ret2
      exact ⟨rfl, (Below.refl _ _).drew.trans hb1⟩

end Go.Proofs.YtbefhnpmilcffaaDoor
