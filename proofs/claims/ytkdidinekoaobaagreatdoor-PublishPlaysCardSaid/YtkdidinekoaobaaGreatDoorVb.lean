/- Merged out of 2 texts, in build order: Vmath, Vputs. -/
import Derived.Test.YtkdidinekoaobaaGreatDoorRows
import Derived.WalkKit
import Derived.WalkSpells
import Derived.WalkLawsBesides
import Derived.Deep.QuietTactic
import Derived.BigQuiet
import Derived.Lib.Hide
import Derived.Lib.Strings
import Derived.Laws.DeepNot64
import Derived.Laws.IdiomStrings
import Derived.Deep.RegionWith
import Derived.IntWalk

/- Plain facts on numbers of variable length: what base-128 groups are, that they come back, and what a row of bytes begins with. Nothing of the program is used here. -/
namespace Go.Proofs.YtkdidinekoaobaaGreatDoor

def M64 : Nat := 18446744073709551616

/-- The groups of seven bits, the lowest first; 128 is added to each but the last. -/
def put (n : Nat) : List UInt8 :=
  if n < 128 then [UInt8.ofNat n] else UInt8.ofNat (128 + n % 128) :: put (n / 128)
termination_by n
decreasing_by omega

theorem put_lo {n : Nat} (h : n < 128) : put n = [UInt8.ofNat n] := by rw [put, if_pos h]
theorem put_hi {n : Nat} (h : ¬ n < 128) : put n = UInt8.ofNat (128 + n % 128) :: put (n / 128) := by rw [put, if_neg h]

theorem put_pos (n : Nat) : 0 < (put n).length := by
  rw [put]; split <;> simp

theorem put_len : ∀ (k n : Nat), n < 128 ^ (k + 1) → (put n).length ≤ k + 1
  | 0, n, h => by rw [put_lo (by simpa using h)]; simp
  | k + 1, n, h => by
    by_cases hn : n < 128
    · rw [put_lo hn]; simp
    · rw [put_hi hn]
      have := put_len k (n / 128) (by rw [Nat.div_lt_iff_lt_mul (by omega)]; rw [Nat.pow_succ] at h; exact h)
      simp; omega

theorem put_ten {n : Nat} (h : n < M64) : (put n).length ≤ 10 :=
  put_len 9 n (Nat.lt_of_lt_of_le h (by unfold M64; decide))

/-- What the groups come to. -/
def val : List UInt8 → Nat
  | [] => 0
  | c :: l => c.toNat % 128 + 128 * val l

theorem toNat_lo {n : Nat} (h : n < 128) : (UInt8.ofNat n).toNat = n := by
  rw [UInt8.toNat_ofNat']; omega
theorem toNat_hi (n : Nat) : (UInt8.ofNat (128 + n % 128)).toNat = 128 + n % 128 := by
  rw [UInt8.toNat_ofNat']; omega

theorem val_put (n : Nat) : val (put n) = n := by
  induction n using Nat.strongRecOn with
  | _ n ih =>
    by_cases hn : n < 128
    · rw [put_lo hn, val, val, toNat_lo hn]; omega
    · rw [put_hi hn, val, toNat_hi, ih (n / 128) (by omega)]; omega

/-- Of a number's bytes the last one alone is less than 128. -/
theorem put_byte : ∀ (n i : Nat) (h : i < (put n).length), (put n)[i].toNat < 128 ↔ i + 1 = (put n).length := by
  intro n
  induction n using Nat.strongRecOn with
  | _ n ih =>
    intro i h
    by_cases hn : n < 128
    · simp only [put_lo hn] at h ⊢
      have : i = 0 := by simpa using h
      subst this
      simp [toNat_lo hn, hn]
    · simp only [put_hi hn] at h ⊢
      have hp := put_pos (n / 128)
      cases i with
      | zero =>
        simp only [List.getElem_cons_zero, toNat_hi, List.length_cons]
        omega
      | succ j =>
        simp only [List.getElem_cons_succ, List.length_cons] at h ⊢
        rw [ih (n / 128) (by omega) j (by omega)]
        omega

/-- How many bytes there are up to the first one that is less than 128, among the first ten; 0 if there is none. -/
def sz (l : List UInt8) : Nat :=
  match (l.take 10).findIdx? (fun c => decide (c.toNat < 128)) with
  | some i => i + 1
  | none => 0

theorem sz_some {l : List UInt8} {i : Nat} (h10 : i < 10) (hi : i < l.length) (h : l[i].toNat < 128) (hb : ∀ j (hj : j < i), ¬ (l[j]'(by omega)).toNat < 128) : sz l = i + 1 := by
  have e : (l.take 10).findIdx? (fun c => decide (c.toNat < 128)) = some i := by
    rw [List.findIdx?_eq_some_iff_getElem]
    refine ⟨by simp; omega, by simpa using h, fun j hj => ?_⟩
    have := hb j hj
    simpa using this
  rw [sz, e]

theorem sz_none {l : List UInt8} (hb : ∀ j (hj : j < l.length), j < 10 → ¬ (l[j]).toNat < 128) : sz l = 0 := by
  have e : (l.take 10).findIdx? (fun c => decide (c.toNat < 128)) = none := by
    rw [List.findIdx?_eq_none_iff]
    intro x hx
    obtain ⟨j, hj, rfl⟩ := List.mem_iff_getElem.1 hx
    have hj' : j < 10 ∧ j < l.length := by simp at hj; omega
    have := hb j hj'.2 hj'.1
    simpa using this
  rw [sz, e]

theorem sz_le (l : List UInt8) : sz l ≤ l.length ∧ sz l ≤ 10 := by
  unfold sz
  split
  · rename_i i h
    rw [List.findIdx?_eq_some_iff_getElem] at h
    obtain ⟨h, _⟩ := h
    simp at h
    omega
  · omega

theorem sz_put {n : Nat} (h : n < M64) (r : List UInt8) : sz (put n ++ r) = (put n).length := by
  have h10 := put_ten h
  have hp := put_pos n
  have := sz_some (l := put n ++ r) (i := (put n).length - 1) (by omega) (by simp; omega) ?_ ?_
  · omega
  · rw [List.getElem_append_left (by omega), put_byte]; omega
  · intro j hj
    rw [List.getElem_append_left (by omega), put_byte]; omega

/-- The groups' number, modulo 2^64. -/
def valM (l : List UInt8) : Nat := val l % M64
theorem valM_lt (l : List UInt8) : valM l < M64 := Nat.mod_lt _ (by unfold M64; omega)

/-- What a row of bytes begins with: the number, what is behind it, the error. -/
def tk (l : List UInt8) : Nat × List UInt8 × Nat :=
  if sz l = 0 then (if l.length < 10 then (0, [], 3) else (0, [], 2))
  else if put (valM (l.take (sz l))) = l.take (sz l) then (valM (l.take (sz l)), l.drop (sz l), 0) else (0, [], 2)

theorem tk_short {l : List UInt8} (h : sz l = 0) (hl : l.length < 10) : tk l = (0, [], 3) := by rw [tk, if_pos h, if_pos hl]
theorem tk_long {l : List UInt8} (h : sz l = 0) (hl : ¬ l.length < 10) : tk l = (0, [], 2) := by rw [tk, if_pos h, if_neg hl]
theorem tk_yes {l : List UInt8} (h : ¬ sz l = 0) (hp : put (valM (l.take (sz l))) = l.take (sz l)) : tk l = (valM (l.take (sz l)), l.drop (sz l), 0) := by rw [tk, if_neg h, if_pos hp]
theorem tk_no {l : List UInt8} (h : ¬ sz l = 0) (hp : ¬ put (valM (l.take (sz l))) = l.take (sz l)) : tk l = (0, [], 2) := by rw [tk, if_neg h, if_neg hp]

/-- The ways that it can go. -/
theorem tk_cases (l : List UInt8) : (tk l = (0, [], 3) ∧ sz l = 0 ∧ l.length < 10) ∨ tk l = (0, [], 2) ∨ ∃ n r, tk l = (n, r, 0) ∧ n < M64 ∧ l = put n ++ r := by
  by_cases h : sz l = 0
  · by_cases hl : l.length < 10
    · exact .inl ⟨tk_short h hl, h, hl⟩
    · exact .inr (.inl (tk_long h hl))
  · by_cases hp : put (valM (l.take (sz l))) = l.take (sz l)
    · refine .inr (.inr ⟨_, _, tk_yes h hp, valM_lt _, ?_⟩)
      rw [hp, List.take_append_drop]
    · exact .inr (.inl (tk_no h hp))

theorem tk_put {n : Nat} (h : n < M64) (r : List UInt8) : tk (put n ++ r) = (n, r, 0) := by
  have hp := put_pos n
  have hs := sz_put h r
  have ht : (put n ++ r).take (sz (put n ++ r)) = put n := by rw [hs, List.take_left]
  have hd : (put n ++ r).drop (sz (put n ++ r)) = r := by rw [hs, List.drop_left]
  have hv : valM ((put n ++ r).take (sz (put n ++ r))) = n := by rw [ht, valM, val_put, Nat.mod_eq_of_lt h]
  have := tk_yes (l := put n ++ r) (by omega) (by rw [hv, ht])
  rw [this, hv, hd]

/-- A beginning of a number's bytes is too short. -/
theorem tk_cut {n k : Nat} (h : n < M64) (hk : k < (put n).length) : tk ((put n).take k) = (0, [], 3) := by
  have h10 := put_ten h
  refine tk_short (sz_none fun j hj _ => ?_) (by simp; omega)
  have hj' : j < k := by simp at hj; omega
  rw [List.getElem_take, put_byte]
  omega

/-- A text with its length ahead, taken: the text, what is behind it, the error. -/
def ot (l : List UInt8) : List UInt8 × List UInt8 × Nat :=
  if (tk l).2.2 ≠ 0 then ([], [], (tk l).2.2)
  else if (tk l).2.1.length < (tk l).1 then ([], [], 3)
  else ((tk l).2.1.take (tk l).1, (tk l).2.1.drop (tk l).1, 0)

theorem ot_err {l : List UInt8} {n : Nat} {r : List UInt8} {e : Nat} (h : tk l = (n, r, e)) (he : e ≠ 0) : ot l = ([], [], e) := by
  rw [ot, h, if_pos he]
theorem ot_short {l : List UInt8} {n : Nat} {r : List UInt8} (h : tk l = (n, r, 0)) (hr : r.length < n) : ot l = ([], [], 3) := by
  rw [ot, h, if_neg (by simp), if_pos hr]
theorem ot_yes {l : List UInt8} {n : Nat} {r : List UInt8} (h : tk l = (n, r, 0)) (hr : ¬ r.length < n) : ot l = (r.take n, r.drop n, 0) := by
  rw [ot, h, if_neg (by simp), if_neg hr]

theorem ot_text {s r : List UInt8} (h : s.length < M64) : ot (put s.length ++ s ++ r) = (s, r, 0) := by
  rw [List.append_assoc, ot_yes (tk_put h (s ++ r)) (by simp), List.take_left, List.drop_left]

theorem ot_cut {s : List UInt8} {k : Nat} (h : s.length < M64) (hk : k < (put s.length ++ s).length) : ot ((put s.length ++ s).take k) = ([], [], 3) := by
  by_cases hp : k < (put s.length).length
  · rw [List.take_append_of_le_length (by omega)]
    exact ot_err (tk_cut h hp) (by omega)
  · have e : (put s.length ++ s).take k = put s.length ++ s.take (k - (put s.length).length) := by
      rw [List.take_append, List.take_of_length_le (by omega)]
    rw [e]
    refine ot_short (tk_put h _) ?_
    simp at hk ⊢
    omega

/-- A number with a sign as one without. -/
def zig (a : Int) : Int := if a < 0 then -2 * a - 1 else 2 * a
def zag (n : Int) : Int := if n % 2 = 0 then n / 2 else -(n / 2) - 1

theorem zag_zig (a : Int) : zag (zig a) = a := by unfold zag zig; split <;> split <;> omega
theorem zig_zag (n : Int) (h : 0 ≤ n) : zig (zag n) = n := by unfold zag zig; split <;> split <;> omega
theorem zig_bd (a : Int) (h0 : -9223372036854775808 ≤ a) (h1 : a ≤ 9223372036854775807) : 0 ≤ zig a ∧ zig a ≤ 18446744073709551615 := by unfold zig; split <;> omega
theorem zag_bd (n : Int) (h0 : 0 ≤ n) (h1 : n ≤ 18446744073709551615) : -9223372036854775808 ≤ zag n ∧ zag n ≤ 9223372036854775807 := by unfold zag; split <;> omega

end Go.Proofs.YtkdidinekoaobaaGreatDoor

/- What the calls of package varint that lay bytes return: Put and Text. -/
namespace Go.Proofs.YtkdidinekoaobaaGreatDoor
open Go.RowKit

/-- Bytes as a Go string. -/
def bs (l : List UInt8) : ByteArray := ⟨l.toArray⟩
theorem bs_list (l : List UInt8) : (bs l).data.toList = l := rfl
theorem bs_size (l : List UInt8) : (bs l).size = l.length := by simp [bs, ByteArray.size]
theorem bs_of (b : ByteArray) : bs b.data.toList = b := Lib.mk_data b

theorem ret_int {k : IntKind} {a b : Int} (h : a = b) : Ending.returned (.int k a) = .returned (.int k b) := by rw [h]

/-- The array of ten bytes that holds the groups so far. -/
def rowOf (l : List UInt8) : Array Value := (l.map (fun c => Value.int .u8 c.toNat) ++ List.replicate (10 - l.length) (Value.int .u8 0)).toArray

theorem row_cell (l : List UInt8) (k : Nat) (hl : l.length = k) (hk : k ≤ 9) : (rowOf l)[k]? = some (Value.int .u8 0) := by
  subst hl
  obtain ⟨j, hj⟩ : ∃ j, 10 - l.length = j + 1 := ⟨9 - l.length, by omega⟩
  unfold rowOf
  rw [List.getElem?_toArray, List.getElem?_append_right (by simp), hj]
  simp

theorem row_push (l : List UInt8) (k : Nat) (c : UInt8) (hl : l.length = k) (hk : k ≤ 9) : (rowOf l).setIfInBounds k (Value.int .u8 c.toNat) = rowOf (l ++ [c]) := by
  subst hl
  obtain ⟨j, hj⟩ : ∃ j, 10 - l.length = j + 1 := ⟨9 - l.length, by omega⟩
  have hj2 : 10 - (l ++ [c]).length = j := by simp; omega
  unfold rowOf
  rw [hj2, hj, List.setIfInBounds_toArray, List.replicate_succ]
  simp

theorem row_next (l : List UInt8) (k x : Nat) (hl : l.length = k) (hk : k ≤ 9) : (rowOf l).setIfInBounds k (Value.int .u8 ((x : Int) % 128 + 128)) = rowOf (l ++ [UInt8.ofNat (128 + x % 128)]) := by
  have e : ((UInt8.ofNat (128 + x % 128)).toNat : Int) = (x : Int) % 128 + 128 := by rw [toNat_hi]; omega
  rw [← e]
  exact row_push l k _ hl hk

theorem row_last (l : List UInt8) (k x : Nat) (hl : l.length = k) (hk : k ≤ 9) (hx : x < 128) : (rowOf l).setIfInBounds k (Value.int .u8 (x : Int)) = rowOf (l ++ put x) := by
  have e : ((UInt8.ofNat x).toNat : Int) = (x : Int) := by rw [toNat_lo hx]
  rw [put_lo hx, ← e]
  exact row_push l k _ hl hk

theorem few {n x k : Nat} (hn : n ≤ 18446744073709551615) (hk : k ≤ 9) (h : x * 128 ^ k ≤ n) (hx : 128 ≤ x) : k ≤ 8 := by
  by_cases h9 : k = 9
  · subst h9
    have : 128 * 128 ^ 9 ≤ x * 128 ^ 9 := Nat.mul_le_mul_right _ hx
    have e : (128 * 128 ^ 9 : Nat) = 1180591620717411303424 := by decide
    omega
  · omega
theorem less {n x k : Nat} (h : x * 128 ^ k ≤ n) : x ≤ n := Nat.le_trans (Nat.le_mul_of_pos_right x (Nat.pow_pos (by omega))) h
theorem next_le {n x k : Nat} (h : x * 128 ^ k ≤ n) : x / 128 * 128 ^ (k + 1) ≤ n := by
  refine Nat.le_trans ?_ h
  rw [Nat.pow_succ, Nat.mul_comm (128 ^ k), ← Nat.mul_assoc]
  exact Nat.mul_le_mul_right _ (Nat.div_mul_le_self x 128)

theorem arrLen : Tryz.prog.arrayLen 173 = 10 := by kernel_rfl
theorem arrElem : Tryz.prog.elem 173 = 5 := by kernel_rfl
theorem size8 (w : World) : (Go.sizeOf 5).run Tryz.prog w = .ok 1 w := by kernel_rfl
theorem run_cut (b : Nat) (i : Int) (h0 : 0 ≤ i) (h1 : i ≤ 10) (w : World) :
    (Instr.sliceAt 173 (.pointer (some ⟨b, 0, none⟩)) none (some (.int .i64 i)) (some (.int .i64 i))).run Tryz.prog w = .ok (.slice (some ⟨b, 0, none⟩) i.toNat i.toNat) w := by
  rw [run_sliceAt_array_hm w 173 ⟨b, 0, none⟩ (by kernel_rfl) .i64 .i64 i i h0 (Int.le_refl _) (by rw [arrLen]; omega), arrElem, size8]
  simp [Result.andThen, slicedAt, Addr.add]

set_option maxRecDepth 100000 in
set_option maxHeartbeats 400000 in
theorem groups_any (n : Int) (w : World) (h0 : 0 ≤ n) (h1 : n ≤ 18446744073709551615) :
    Calls Tryz.prog 97 #[.int .u64 n] w fun e w' => e = .returned (.slice (some ⟨w.heap.size, 0, none⟩) (put n.toNat).length (put n.toNat).length) ∧ w' = w.alloc (.cells (rowOf (put n.toNat)) 173) := by
  go_enter Tryz.func97, Tryz.ntmps97
  go_wp2
  go_loopw [0, 4] (fun m u wr => ∃ (k x : Nat) (l : List UInt8), l.length = k ∧ k ≤ 9 ∧ x * 128 ^ k ≤ n.toNat ∧ u = .int .i64 k ∧ m = .int .u64 x ∧ put n.toNat = l ++ put x ∧ wr = w.alloc (.cells (rowOf l) 173)) (fun m _ _ => (intOf m).toNat)
  case atStart => exact ⟨0, n.toNat, [], rfl, by omega, by simp, rfl, by go_num, rfl, rfl⟩
  case round =>
    obtain ⟨k, x, l, hl, hk, hx, rfl, rfl, hp, rfl⟩ := hrel
    have hcell := row_cell l k hl hk
    have HL := Lib.hid hl
    have HX := Lib.hid hx
    have HP := Lib.hid hp
    clear hl hx hp
    by_cases hb : 128 ≤ x
    · have hk8 : k ≤ 8 := few (by omega) hk HX.out hb
      have hbi : (128 : Int) ≤ (x : Int) := by omega
      have hxm : (x : Int) ≤ 18446744073709551615 := by have := less HX.out; omega
      go_wp2
      go_roundw
      case rel =>
        exact ⟨k + 1, x / 128, l ++ [UInt8.ofNat (128 + x % 128)], by simp [HL.out], by omega, next_le HX.out, by go_num, by go_num, by rw [HP.out, put_hi (n := x) (by omega)]; simp, by rw [row_next l k x HL.out hk]⟩
      case measure => simp [intOf]; omega
    · have hbi : (x : Int) < 128 := by omega
      clear h1
      have hcut := run_cut w.heap.size ((k : Int) + 1) (by omega) (by omega)
      go_wp2
      go_ret
      refine ⟨?_, ?_⟩
      · have e : (put n.toNat).length = ((k : Int) + 1).toNat := by rw [HP.out, List.length_append, HL.out, put_lo (by omega)]; rfl
        rw [e]; rfl
      · rw [HP.out, row_last l k x HL.out hk (by omega)]

theorem conv_row (l : List UInt8) (w : World) (cap : Nat) :
    (convert 125 9 (.slice (some ⟨w.heap.size, 0, none⟩) l.length cap)).run Tryz.prog (w.alloc (.cells (rowOf l) 173)) = .ok (.string (bs l)) (w.alloc (.cells (rowOf l) 173)) := by
  refine run_convert_bytes_back _ 125 9 5 ⟨w.heap.size, 0, none⟩ cap l (by kernel_rfl) (by kernel_rfl) (by kernel_rfl) fun j hj => ?_
  have e : (⟨w.heap.size, 0, none⟩ : Addr).add j = ⟨w.heap.size, j, none⟩ := by simp [Addr.add]; omega
  rw [e, World.cell?_alloc_mark]
  unfold rowOf
  rw [List.getElem?_toArray, List.getElem?_append_left (by simpa using hj)]
  simp [hj]

set_option maxRecDepth 100000 in
set_option maxHeartbeats 400000 in
theorem put_any (n : Int) (w : World) (h0 : 0 ≤ n) (h1 : n ≤ 18446744073709551615) :
    Calls Tryz.prog 72 #[.int .u64 n] w fun e w' => e = .returned (.string (bs (put n.toNat))) ∧ Below w.heap.size w w' := by
  have hc := conv_row (put n.toNat) w
  go_enter Tryz.func72, Tryz.ntmps72
  go_wp2_with fail
  refine (groups_any n w h0 h1).mono ?_
  rintro e w' ⟨rfl, rfl⟩
  go_wp2
  go_ret
  exact ⟨rfl, (Below.refl _ _).alloc (Nat.le_refl _) _⟩



end Go.Proofs.YtkdidinekoaobaaGreatDoor
