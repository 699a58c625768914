/- The numbers that are still to be decoded: next, seg, end. -/
import Derived.Test.YtbefhnpmilcffaaDoorNpcalls
import Derived.Test.YtbefhnpmilcffaaDoorBmem
namespace Go.Proofs.YtbefhnpmilcffaaDoor.J
open Go.RowKit
set_option linter.unusedVariables false
set_option linter.unusedSimpArgs false

/-- The block of what is left. -/
def Nb (w : World) (q : Nat) (s : List UInt8) : Prop := w.heap[q]? = some (.cells #[.string (bs s)] 79 (0, 0))
theorem Nb.cell {w : World} {q : Nat} {s : List UInt8} (h : Nb w q s) : w.cell? ⟨q, 0, none⟩ = some (.string (bs s)) := by simpa using cell_of_row w q 0 _ _ (0, 0) h
theorem Nb.lt {w : World} {q : Nat} {s : List UInt8} (h : Nb w q s) : q < w.heap.size := (Array.getElem?_eq_some_iff.1 h).1
theorem Nb.later {w w' : World} {q : Nat} {s : List UInt8} (h : Nb w q s) (b : Below w.heap.size w w') : Nb w' q s := (b.block _ h.lt).trans h
theorem Nb.frozen {w : World} {q : Nat} {s : List UInt8} (h : Nb w q s) (t : Nat) : w.frozen? ⟨q, t, none⟩ = false := by unfold Nb at h; simp only [World.frozen?, h]; simp
theorem Nb.set {w : World} {q : Nat} {s : List UInt8} (h : Nb w q s) (r : List UInt8) : Nb (w.setCell ⟨q, 0, none⟩ (.string (bs r))) q r := heap_setCell_same w q 0 _ _ _ h
/-- Nothing but block q has turned. -/
def Tq (q : Nat) (w w' : World) : Prop := Turn (fun k => k = q) w w'
theorem Tq.of (q : Nat) {w w' : World} (b : Below w.heap.size w w') : Tq q w w' := Turn.of_below _ b (Nat.le_refl _)
theorem Tq.set {q : Nat} {w w' : World} (h : Tq q w w') (v : Value) : Tq q w (w'.setCell ⟨q, 0, none⟩ v) := Turn.setCell (p := ⟨q, 0, none⟩) h rfl v
theorem Tq.trans {q : Nat} {a b c : World} (h : Tq q a b) (k : Tq q b c) : Tq q a c := Turn.trans h k

/-- A number that is taken, or none. -/
def nok (s : List UInt8) (most : Nat) : Prop := (tk s).2.2 = 0 ∧ (tk s).1 ≤ most

set_option maxRecDepth 100000 in
theorem next_yes (s : List UInt8) (most n q : Nat) (r : List UInt8) (w : World) (hq : Nb w q s) (hs : s.length ≤ 5000) (h : tk s = (n, r, 0)) (hn : n ≤ most) :
    Calls Tryd.prog 46 #[.pointer (some ⟨q, 0, none⟩), .int .u64 (most : Nat)] w fun e w' => e = .returned (.int .u64 (n : Nat)) ∧ Nb w' q r ∧ Tq q w w' := by
  have HT := Lib.hid (take_any (bs s) w (by rw [bs_size]; omega))
  rw [bs_list, tkV, h] at HT
  have c0 := hq.cell
  have HQ := Lib.hid hq
  have HD := Lib.hid (fun W => dem_yes W)
  have hm : decide (n ≤ most) = true := decide_eq_true hn
  clear hq h
  go_enter Tryd.func46, Tryd.ntmps46
  go_wp2_with fail
  refine HT.out.mono ?_
  rintro e w1 ⟨rfl, b1⟩
  go_wp2_with fail
  refine (HD.out _).mono ?_
  rintro e w2 ⟨rfl, rfl⟩
  have hq1 := HQ.out.later b1
  have c1 := hq1.cell; have f1 := hq1.frozen
  have HN := Lib.hid (hq1.set r)
  have HTq := Lib.hid ((Tq.of q b1).set (.string (bs r)))
  clear hq1 b1
  go_wp2_with fail
  go_ret
  exact ⟨rfl, HN.out, HTq.out⟩
set_option maxRecDepth 100000 in
theorem next_no (s : List UInt8) (most q : Nat) (w : World) (hq : Nb w q s) (hs : s.length ≤ 5000) (h : ¬ nok s most) :
    Calls Tryd.prog 46 #[.pointer (some ⟨q, 0, none⟩), .int .u64 (most : Nat)] w fun e w' => e = mal ∧ Tq q w w' := by
  have HT := Lib.hid (take_any (bs s) w (by rw [bs_size]; omega))
  rw [bs_list, tkV] at HT
  have c0 := hq.cell
  have HD := Lib.hid (fun W => dem_no W)
  unfold nok at h
  obtain ⟨⟨n, r, x⟩, hx⟩ : ∃ y, tk s = y := ⟨_, rfl⟩
  rw [hx] at HT h
  simp only at h HT
  clear hq hx
  go_enter Tryd.func46, Tryd.ntmps46
  go_wp2_with fail
  refine HT.out.mono ?_
  rintro e w1 ⟨rfl, b1⟩
  have HTq := Lib.hid (Tq.of q b1)
  by_cases hq0 : x = 0
  · subst hq0
    have hgt : ¬ n ≤ most := by omega
    have hm : decide (n ≤ most) = false := decide_eq_false hgt
    clear h
    go_wp2_with fail
    refine (HD.out _).mono ?_
    rintro e w2 ⟨rfl, rfl⟩
    unfold mal
    go_wp2_with fail
    exact ⟨rfl, rfl, HTq.out⟩
  · clear h
    go_wp2_with fail
    refine (HD.out _).mono ?_
    rintro e w2 ⟨rfl, rfl⟩
    unfold mal
    go_wp2_with fail
    exact ⟨rfl, rfl, HTq.out⟩
theorem fin_yes (q : Nat) (w : World) (hq : Nb w q []) :
    Calls Tryd.prog 48 #[.pointer (some ⟨q, 0, none⟩)] w fun e w' => e = .returned (.tuple #[]) ∧ w = w' := by
  have c0 := hq.cell
  have HD := Lib.hid (fun W => dem_yes W)
  rw [show bs [] = (⟨#[]⟩ : ByteArray) from rfl] at c0
  clear hq
  go_enter Tryd.func48, Tryd.ntmps48
  go_wp2_with fail
  refine (HD.out _).mono ?_
  rintro e w2 ⟨rfl, rfl⟩
  go_wp2_with fail
  go_end0
  exact ⟨rfl, rfl⟩
set_option maxRecDepth 100000 in
theorem fin_no (q : Nat) (s : List UInt8) (w : World) (hq : Nb w q s) (hs : s ≠ []) :
    Calls Tryd.prog 48 #[.pointer (some ⟨q, 0, none⟩)] w fun e w' => e = mal ∧ w = w' := by
  have c0 := hq.cell
  have HD := Lib.hid (fun W => dem_no W)
  have he : (bs s).toList.isEmpty = false := by
    rw [bs_toList]
    cases s with
    | nil => exact absurd rfl hs
    | cons c r => rfl
  clear hq hs
  generalize bs s = X at *
  go_enter Tryd.func48, Tryd.ntmps48
  go_wp2_with fail
  refine (HD.out _).mono ?_
  rintro e w2 ⟨rfl, rfl⟩
  unfold mal
  go_wp2_with fail
  exact ⟨rfl, rfl, rfl⟩
end Go.Proofs.YtbefhnpmilcffaaDoor.J
