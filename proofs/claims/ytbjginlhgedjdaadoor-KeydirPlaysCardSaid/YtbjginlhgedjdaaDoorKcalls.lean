/- The document's directory: New, Get, Far. -/
import Derived.Test.YtbjginlhgedjdaaDoorKlay
namespace Go.Proofs.YtbjginlhgedjdaaDoor.K
open Go.RowKit
set_option linter.unusedVariables false

/-- A position as a value. -/
def locV (l : Lc) : Value := .agg #[.int .i64 l.seg, .int .i64 l.off, .int .i64 l.len, .int .u64 l.seq]
def noLoc : Lc := ⟨0, 0, 0, 0⟩

/-- What was there is as it was. -/
def Old (w1 W : World) : Prop := Below w1.heap.size w1 W
theorem Old.refl (w1 : World) : Old w1 w1 := Below.refl _ _
theorem Old.alloc {w1 W : World} (h : Old w1 W) (o : Obj) : Old w1 (W.alloc o) := Below.alloc h h.size o
theorem Old.drew {w1 W : World} (h : Old w1 W) : Old w1 W.drew := Below.drew h
theorem Old.drewN {w1 W : World} (h : Old w1 W) (q : Nat) : Old w1 (W.drewN q) := ⟨h.os, h.tape, h.output, h.size, h.block⟩
theorem Old.below {w1 W W' : World} (h : Old w1 W) (k : Below w1.heap.size W W') : Old w1 W' := Below.trans h k

theorem infoSlot : (Tryd.prog.info? 63).map (fun i => (i.zero, i.size)) = some (some (.agg #[.string ⟨#[]⟩, .int .i64 0, .int .i64 0, .int .i64 0, .int .u64 0, .bool false]), 6) := by kernel_rfl

set_option maxHeartbeats 400000 in
theorem refget_no {B qb gb : Nat} {S : Dr} {w : World} {k : List UInt8} (h : Rk B w qb gb S) (hn : ∀ i v, ¬ Has S i k v) :
    Calls Tryd.prog 13 #[.pointer (some ⟨qb, 0, none⟩), .string (bs k)] w fun e w' => e = .returned (.tuple #[locV noLoc, .bool false]) ∧ Below w.heap.size w w' := by
  have hb0 : Below w.heap.size w (w.alloc (.cells #[.int .i64 0, .int .i64 0, .int .i64 0, .int .u64 0] 31)) := (Below.refl _ _).alloc (Nat.le_refl _) _
  have HA := Lib.hid (refat_no (h.below hb0) hn)
  clear h hn hb0
  go_enter Tryd.func13, Tryd.ntmps13
  go_wp2_with fail
  refine HA.out.mono ?_
  rintro e w1 ⟨rfl, rfl⟩
  go_wp2_with fail
  have hn := heap_alloc_new w (.cells #[.int .i64 0, .int .i64 0, .int .i64 0, .int .u64 0] 31)
  have hc := fun t => cell_of_row _ w.heap.size t _ _ (0, 0) hn
  have d0 := hc 0; have d1 := hc 1; have d2 := hc 2; have d3 := hc 3
  simp only [List.getElem?_toArray, List.getElem?_cons_succ, List.getElem?_cons_zero] at d0 d1 d2 d3
  exact bodyPost_ret (v := .tuple #[locV noLoc, .bool false]) (by simp [results, Tryd.results13, go_sem, locV, noLoc, d0, d1, d2, d3]) rfl ⟨rfl, (Below.refl _ _).alloc (Nat.le_refl _) _⟩

set_option maxHeartbeats 400000 in
theorem refget_yes {B qb gb : Nat} {S : Dr} {w : World} {k : List UInt8} {v : Lc} {i : Nat} (h : Rk B w qb gb S) (ho : One S) (hi : Has S i k v) :
    Calls Tryd.prog 13 #[.pointer (some ⟨qb, 0, none⟩), .string (bs k)] w fun e w' => e = .returned (.tuple #[locV v, .bool true]) ∧ Below w.heap.size w w' := by
  have hb0 : Below w.heap.size w (w.alloc (.cells #[.int .i64 0, .int .i64 0, .int .i64 0, .int .u64 0] 31)) := (Below.refl _ _).alloc (Nat.le_refl _) _
  have HA := Lib.hid (refat_yes (h.below hb0) ho hi)
  have h1 := h.below hb0
  have c0 := h1.head
  have hcs := h.few
  have hil := has_lt hi
  have d1 := h1.cells hi (show 1 < 6 by omega)
  have d2 := h1.cells hi (show 2 < 6 by omega)
  have d3 := h1.cells hi (show 3 < 6 by omega)
  have d4 := h1.cells hi (show 4 < 6 by omega)
  simp only [slotv, List.getElem?_cons_succ, List.getElem?_cons_zero] at d1 d2 d3 d4
  generalize S.length = L at *
  clear h ho hi h1 hb0
  go_enter Tryd.func13, Tryd.ntmps13
  go_wp2_with fail
  refine HA.out.mono ?_
  rintro e w1 ⟨rfl, rfl⟩
  go_wp2_with fail
  have hn := heap_alloc_new w (.cells #[.int .i64 v.seg, .int .i64 v.off, .int .i64 v.len, .int .u64 v.seq] 31)
  have hc := fun t => cell_of_row _ w.heap.size t _ _ (0, 0) hn
  have d0 := hc 0; have d1 := hc 1; have d2 := hc 2; have d3 := hc 3
  simp only [List.getElem?_toArray, List.getElem?_cons_succ, List.getElem?_cons_zero] at d0 d1 d2 d3
  exact bodyPost_ret (v := .tuple #[locV v, .bool true]) (by simp [results, Tryd.results13, go_sem, locV, d0, d1, d2, d3]) rfl ⟨rfl, (Below.refl _ _).alloc (Nat.le_refl _) _⟩

set_option maxHeartbeats 400000 in
theorem reffar_no {B qb gb : Nat} {S : Dr} {w : World} {k : List UInt8} (h : Rk B w qb gb S) (hn : ∀ i v, ¬ Has S i k v) :
    Calls Tryd.prog 20 #[.pointer (some ⟨qb, 0, none⟩), .string (bs k)] w fun e w' => e = .returned (.tuple #[.int .i64 0, .bool false]) ∧ w = w' := by
  have HA := Lib.hid (refat_no h hn)
  clear h hn
  go_enter Tryd.func20, Tryd.ntmps20
  go_wp2_with fail
  refine HA.out.mono ?_
  rintro e w1 ⟨rfl, rfl⟩
  go_wp2_with fail
  go_ret2
  exact ⟨rfl, rfl⟩

set_option maxHeartbeats 400000 in
theorem reffar_yes {B qb gb : Nat} {S : Dr} {w : World} {k : List UInt8} {v : Lc} {i : Nat} (h : Rk B w qb gb S) (ho : One S) (hi : Has S i k v) (hk : k.length ≤ maxLen) :
    Calls Tryd.prog 20 #[.pointer (some ⟨qb, 0, none⟩), .string (bs k)] w fun e w' => e = .returned (.tuple #[.int .i64 ((dist S.length (hm k S.length) i : Nat) : Int), .bool true]) ∧ Below w.heap.size w w' := by
  have HA := Lib.hid (refat_yes h ho hi)
  have c0 := h.head
  have hcs := h.few
  have hil := has_lt hi
  have hpl := place_hm k (show 0 < S.length by omega)
  have hhm := homeLt k S.length (by omega)
  have hmd := mod_dist hhm hil
  have hP : ∀ W, Calls Tryd.prog 31 #[.string (bs k), .int .i64 S.length] W fun e w' => e = .returned (.int .i64 ((hm k S.length : Nat) : Int)) ∧ W = w' := fun W => by
    have := refplace_any (bs k) (S.length : Int) W (by rw [bs_size]; unfold maxLen at hk; omega) (by omega) (by omega)
    rw [bs_list, hpl] at this
    exact this
  have hq : ((i : Int) - ((hm k S.length : Nat) : Int) + (S.length : Int)) % (S.length : Int) = ((dist S.length (hm k S.length) i : Nat) : Int) := by
    rw [← hmd, show (i : Int) - ((hm k S.length : Nat) : Int) + (S.length : Int) = ((i + S.length - hm k S.length : Nat) : Int) by omega]
    exact (Int.natCast_emod _ _).symm
  have hq2 : (IntKind.i64.wrap (IntKind.i64.wrap ((i : Int) - ((hm k S.length : Nat) : Int)) + (S.length : Int))).tmod (S.length : Int) = ((dist S.length (hm k S.length) i : Nat) : Int) := by
    have w1 : IntKind.i64.wrap ((i : Int) - ((hm k S.length : Nat) : Int)) = (i : Int) - ((hm k S.length : Nat) : Int) := by rw [IntKind.wrap_i64]; omega
    have w2 : IntKind.i64.wrap ((i : Int) - ((hm k S.length : Nat) : Int) + (S.length : Int)) = (i : Int) - ((hm k S.length : Nat) : Int) + (S.length : Int) := by rw [IntKind.wrap_i64]; omega
    rw [w1, w2, Int.tmod_eq_emod_of_nonneg (by omega)]
    exact hq
  have HQ := Lib.hid hq2; have HP := Lib.hid hP
  have hql := h.lt.1
  clear hmd hpl hP hq hq2 h ho hi
  have hL0 : ¬ S.length = 0 := by omega
  generalize dist S.length (hm k S.length) i = D at *
  generalize hm k S.length = H at *
  generalize S.length = L at *
  go_enter Tryd.func20, Tryd.ntmps20
  go_wp2_with fail
  refine HA.out.mono ?_
  rintro e w1 ⟨rfl, rfl⟩
  go_wp2_with fail
  have m0 : ∀ W, Old w W → W.cell? ⟨qb, 0, none⟩ = some (.slice (some ⟨gb, 0, none⟩) L L) := fun W hW => by rw [Below.cell (p := ⟨qb, 0, none⟩) hW hql]; exact c0
  have K0 := Old.refl w
  clear c0
  go_region_held3 (fun W => Old w W) (first | assumption | exact K0 | exact K0.drew | exact Old.drew ‹_›)
    (first
      | (go_at_call 31
         refine (HP.out _).mono ?_
         rintro e8 w8 ⟨rfl, rfl⟩))
  all_goals
    go_wp2_with fail
    go_ret2
    exact ⟨congrArg (fun x => Ending.returned (.tuple #[.int .i64 x, .bool true])) HQ.out, (Below.refl _ _).drew⟩
end Go.Proofs.YtbjginlhgedjdaaDoor.K
