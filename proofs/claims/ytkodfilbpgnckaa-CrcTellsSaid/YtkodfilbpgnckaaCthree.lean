/- The walk of the law CrcThree. -/
import Derived.Test.YtkodfilbpgnckaaCwalks
import Derived.Laws.MakeOwn
import Derived.Deep.RegionHeld3
namespace Go.Proofs.Ytkodfilbpgnckaa
open Go.RowKit

theorem run_min4 (w : World) (ts : Array TypeId) (t : TypeId) (x y z u n : Nat) (h1 : n ≤ x) (h2 : n ≤ y) (h3 : n ≤ z) (h4 : n ≤ u) (h : n = x ∨ n = y ∨ n = z ∨ n = u) :
    (Builtin.min_ ts t #[.int .i64 (x : Int), .int .i64 (y : Int), .int .i64 (z : Int), .int .i64 (u : Int)]).run Try.prog w = .ok (.int .i64 (n : Int)) w := by
  simp only [Builtin.min_, Builtin.min2, List.foldlM, Sem.run_bind, Sem.run_pure, Result.andThen]
  congr 2
  split <;> split <;> split <;> omega

/-- A row of n bytes that holds those so far. -/
def rown (n : Nat) (l : List UInt8) : Array Value := (l.map (fun c => Value.int .u8 c.toNat) ++ List.replicate (n - l.length) (Value.int .u8 0)).toArray

theorem rown_cell (n : Nat) (l : List UInt8) (k : Nat) (hl : l.length = k) (hk : k < n) : (rown n l)[k]? = some (Value.int .u8 0) := by
  subst hl
  obtain ⟨j, hj⟩ : ∃ j, n - l.length = j + 1 := ⟨n - 1 - l.length, by omega⟩
  unfold rown
  rw [List.getElem?_toArray, List.getElem?_append_right (by simp), hj]
  simp

theorem rown_push (n : Nat) (l : List UInt8) (k : Nat) (c : UInt8) (hl : l.length = k) (hk : k < n) : (rown n l).setIfInBounds k (Value.int .u8 c.toNat) = rown n (l ++ [c]) := by
  subst hl
  obtain ⟨j, hj⟩ : ∃ j, n - l.length = j + 1 := ⟨n - 1 - l.length, by omega⟩
  have hj2 : n - (l ++ [c]).length = j := by simp; omega
  unfold rown
  rw [hj2, hj, List.setIfInBounds_toArray, List.replicate_succ]
  simp

theorem rown_made (n : Nat) : madeCells #[Value.int .u8 0] (n * 1) = rown n [] := by
  apply Array.ext_getElem?
  intro i
  unfold madeCells rown
  by_cases h : i < n
  · simp [h, Nat.mod_one]
  · simp [h]

theorem make8 (w : World) (n : Nat) (h : n ≤ 300) : (Instr.makeSlice 32 (.int .i64 (n : Int)) (.int .i64 (n : Int))).run Try.prog w = .ok (.slice (some ⟨w.heap.size, 0, none⟩) n n) (w.alloc (.cells (rown n []) 5)) := by
  have := run_make (P := Try.prog) w 32 5 Try.t5 (.int .u8 0) Try.underlying32 (by kernel_rfl) (by kernel_rfl) .i64 .i64 n n (by omega) (Int.le_refl _) (by show ((1 : Nat) : Int) * (n : Int) ≤ _; omega) (by omega)
  rw [Int.toNat_natCast, show (Value.int .u8 0).cells = #[Value.int .u8 0] from rfl, show Try.t5.size = 1 from rfl, rown_made] at this
  exact this

theorem set_row (w : World) (cs : Array Value) (t : TypeId) (k d : Nat) (v : Value) : ((w.alloc (.cells cs t)).drewN d).setCell ⟨w.heap.size, k, none⟩ v = (w.alloc (.cells (cs.setIfInBounds k v) t)).drewN d := by
  show ((w.alloc (.cells cs t)).setCell ⟨w.heap.size, k, none⟩ v).drewN d = _
  simp [go_sem]

/-- Nothing that was there has turned, and block B is as it was laid. -/
def Keeps (w0 : World) (B : Nat) (o : Obj) (W : World) : Prop := Below w0.heap.size w0 W ∧ B < W.heap.size ∧ W.heap[B]? = some o

theorem Keeps.drew {w0 : World} {B : Nat} {o : Obj} {W : World} (h : Keeps w0 B o W) : Keeps w0 B o W.drew := ⟨h.1.drew, h.2⟩
theorem Keeps.call {w0 : World} {B : Nat} {o : Obj} {W W' : World} (h : Keeps w0 B o W) (b : Below W.heap.size W W') : Keeps w0 B o W' :=
  ⟨h.1.trans (b.mono h.1.size), Nat.lt_of_lt_of_le h.2.1 b.size, by rw [b.block B h.2.1]; exact h.2.2⟩

theorem conv8 (l : List UInt8) (n : Nat) (hl : l.length = n) (w0 : World) (B : Nat) (W : World) (h : Keeps w0 B (.cells (rown n l) 5) W) :
    (convert 32 9 (.slice (some ⟨B, 0, none⟩) n n)).run Try.prog W = .ok (.string (bs l)) W := by
  subst hl
  refine run_convert_bytes_back _ 32 9 5 ⟨B, 0, none⟩ l.length l (by kernel_rfl) (by kernel_rfl) (by kernel_rfl) fun j hj => ?_
  have e : (⟨B, 0, none⟩ : Addr).add j = ⟨B, j, none⟩ := by simp [Addr.add]; omega
  rw [e, cell_of_row _ _ _ _ _ _ h.2.2]
  unfold rown
  rw [List.getElem?_toArray, List.getElem?_append_left (by simpa using hj)]
  simp [hj]

set_option maxRecDepth 100000 in
set_option maxHeartbeats 1000000 in
theorem three_walk (a b c : ByteArray) (_w0 : a.size ≤ maxLen) (_w1 : b.size ≤ maxLen) (_w2 : c.size ≤ maxLen) (w : World) :
    Calls Try.prog 6 #[.string a, .string b, .string c] w fun e w' => e = .returned (.bool true) ∧ Below w.heap.size w w' := by
  obtain ⟨n, n1, n2, n3, n4, hn⟩ : ∃ n : Nat, n ≤ a.size ∧ n ≤ b.size ∧ n ≤ c.size ∧ n ≤ 300 ∧ (n = a.size ∨ n = b.size ∨ n = c.size ∨ n = 300) := ⟨min (min (min a.size b.size) c.size) 300, by omega, by omega, by omega, by omega, by omega⟩
  have hmin : ∀ (w : World) (ts : Array TypeId) (t : TypeId), (Builtin.min_ ts t #[.int .i64 (a.size : Int), .int .i64 (b.size : Int), .int .i64 (c.size : Int), .int .i64 300]).run Try.prog w = .ok (.int .i64 (n : Int)) w := fun w ts t => run_min4 w ts t a.size b.size c.size 300 n n1 n2 n3 n4 hn
  clear hn
  go_enter Try.func6, Try.ntmps6
  go_wp2_with fail
  refine (awake_any _).mono ?_
  rintro e w1 ⟨rfl, b1⟩
  have hmk := make8 w1 n n4
  go_wp2_with fail
  clear hmin hmk
  have la : (a.data.toList.take n).length = n := by rw [List.length_take, len_size]; omega
  have lb : (b.data.toList.take n).length = n := by rw [List.length_take, len_size]; omega
  have lc : (c.data.toList.take n).length = n := by rw [List.length_take, len_size]; omega
  have l1 := xors_length (a.data.toList.take n) (b.data.toList.take n) (by omega)
  have l2 := xors_length (xors (a.data.toList.take n) (b.data.toList.take n)) (c.data.toList.take n) (by omega)
  have hsum := sum_three (a.data.toList.take n) (b.data.toList.take n) (c.data.toList.take n) (by omega) (by omega)
  have hget : ∀ k (h : k < n) (h1 : k < a.size) (h2 : k < b.size) (h3 : k < c.size) (hX : k < (xors (xors (a.data.toList.take n) (b.data.toList.take n)) (c.data.toList.take n)).length), (xors (xors (a.data.toList.take n) (b.data.toList.take n)) (c.data.toList.take n))[k] = a[k] ^^^ b[k] ^^^ c[k] := by
    intro k h h1 h2 h3 hX
    rw [xors_get _ _ k (by omega) (by omega), xors_get _ _ k (by omega) (by omega), List.getElem_take, List.getElem_take, List.getElem_take]
    rfl
  have hXl : (xors (xors (a.data.toList.take n) (b.data.toList.take n)) (c.data.toList.take n)).length = n := by omega
  generalize xors (xors (a.data.toList.take n) (b.data.toList.take n)) (c.data.toList.take n) = X at *
  have HS := Lib.hid hsum
  have HG := Lib.hid hget
  have HL := Lib.hid hXl
  clear la lb lc l1 l2 hsum hget hXl
  go_loopw [10] (fun i wr => ∃ k d : Nat, k ≤ n ∧ i = .int .i64 k ∧ wr = (w1.alloc (.cells (rown n (X.take k)) 5)).drewN d) (fun i _ => n - (intOf i).toNat)
  case atStart => exact ⟨0, 0, by omega, rfl, rfl⟩
  case round =>
    obtain ⟨k, d, hk, rfl, rfl⟩ := hrel
    by_cases hlt : k < n
    · have q1 : k < a.size := by omega
      have q2 : k < b.size := by omega
      have q3 : k < c.size := by omega
      have q4 : k < X.length := by rw [HL.out]; exact hlt
      have hlen : (X.take k).length = k := by rw [List.length_take]; omega
      have hcell := rown_cell n (X.take k) k hlen hlt
      have hx : bits .xor .u8 (bits .xor .u8 (a[k].toNat : Int) (b[k].toNat : Int)) (c[k].toNat : Int) = (X[k].toNat : Int) := by
        have y1 := u8_lt a[k]
        have y2 := u8_lt b[k]
        have y3 := u8_lt c[k]
        rw [HG.out k hlt q1 q2 q3 q4, u8_xor_nat _ _ y1 y2, u8_xor_nat _ _ (Nat.xor_lt_two_pow (n := 8) y1 y2) y3, u8_xor_toNat, u8_xor_toNat]
      have HP := Lib.hid (rown_push n (X.take k) k X[k] hlen hlt)
      have HT : Hid (X.take (k + 1) = X.take k ++ [X[k]]) := Lib.hid (List.take_succ_eq_append_getElem q4)
      have HXX := Lib.hid hx
      clear hlen hx
      go_wp2_with fail
      go_region
      go_wp2_with fail
      go_roundw
      case rel => exact ⟨k + 1, d + 1, by omega, by go_num, by rw [set_row, HXX.out, HP.out, HT.out]⟩
      case measure => simp [intOf]; omega
    · have e : k = n := by omega
      subst e
      have hXX : X.take k = X := List.take_of_length_le (by rw [HL.out]; omega)
      rw [hXX]
      have hconv := conv8 X k HL.out w w1.heap.size
      have K0 : Keeps w w1.heap.size (.cells (rown k X) 5) ((w1.alloc (.cells (rown k X) 5)).drewN d) := ⟨below_drewN (b1.alloc b1.size _) d, by simp, heap_alloc_last _ _⟩
      have hc0 : ∀ W, Keeps w w1.heap.size (.cells (rown k X) 5) W → Calls Try.prog 10 #[.string (bs X)] W fun e w' => e = .returned (.int .u32 ((sum X : Nat) : Int)) ∧ Keeps w w1.heap.size (.cells (rown k X) 5) w' := fun W hW => by
        have := sum_any (bs X) W (by rw [bs_size, HL.out]; omega)
        rw [bs_list] at this
        exact this.mono fun e w' ⟨he, hb⟩ => ⟨he, hW.call hb⟩
      have ext : ∀ (s : ByteArray), k ≤ s.size → ∀ W, Keeps w w1.heap.size (.cells (rown k X) 5) W → Calls Try.prog 10 #[.string (s.extract 0 k)] W fun e w' => e = .returned (.int .u32 ((sum (s.data.toList.take k) : Nat) : Int)) ∧ Keeps w w1.heap.size (.cells (rown k X) 5) w' := fun s hs W hW => by
        have := sum_any (s.extract 0 k) W (by rw [ByteArray.size_extract]; omega)
        rw [ext_to, bs_list, ← ext_to] at this
        exact this.mono fun e w' ⟨he, hb⟩ => ⟨he, hW.call hb⟩
      have hc1 := ext a n1
      have hc2 := ext b n2
      have hc3 := ext c n3
      have x1 := sum_lt (a.data.toList.take k)
      have x2 := sum_lt (b.data.toList.take k)
      have x3 := sum_lt (c.data.toList.take k)
      have e1 := u32_xor_nat _ _ x1 x2
      have e2 := u32_xor_nat _ _ (Nat.xor_lt_two_pow (n := 32) x1 x2) x3
      rw [← HS.out] at e2
      generalize sum X = y0 at *
      generalize bs X = sX at *
      generalize sum (a.data.toList.take k) = y1 at *
      generalize sum (b.data.toList.take k) = y2 at *
      generalize sum (c.data.toList.take k) = y3 at *
      generalize y1 ^^^ y2 = y4 at *
      generalize Obj.cells (rown k X) 5 = o at *
      generalize (w1.alloc o).drewN d = W0 at *
      have C0 := Lib.hid hc0
      have C1 := Lib.hid hc1
      have C2 := Lib.hid hc2
      have C3 := Lib.hid hc3
      clear hc0 hc1 hc2 hc3 ext hXX HS HG HL x1 x2 x3 hlt hk
      have r1 : (k : Int) ≤ (a.size : Int) := by omega
      have r2 : (k : Int) ≤ (b.size : Int) := by omega
      have r3 : (k : Int) ≤ (c.size : Int) := by omega
      go_wp2_with fail
      go_region_held3 (fun W => Keeps w w1.heap.size o W) (first | assumption | exact K0 | exact K0.drew | exact Keeps.drew ‹_›)
        (first | (go_at_call 10; (with_reducible refine (C0.out _ ?_).mono ?_); assumption; rintro e w2 ⟨rfl, k2⟩) | (go_at_call 10; (with_reducible refine (C1.out _ ?_).mono ?_); assumption; rintro e w3 ⟨rfl, k3⟩) | (go_at_call 10; (with_reducible refine (C2.out _ ?_).mono ?_); assumption; rintro e w4 ⟨rfl, k4⟩) | (go_at_call 10; (with_reducible refine (C3.out _ ?_).mono ?_); assumption; rintro e w5 ⟨rfl, k5⟩))
      go_wp2
      go_ret
      exact ⟨rfl, k5.1⟩

end Go.Proofs.Ytkodfilbpgnckaa
