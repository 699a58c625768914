/- Merged out of 7 texts, in build order: Npcalls, Npnums, Npseg, Npmath, Npcatch, Npdec, Npwhole. -/
import Derived.Test.YtkdidinekoaobaaGreatDoorNa
import Derived.Test.YtkdidinekoaobaaGreatDoorCb
import Derived.Test.YtkdidinekoaobaaGreatDoorBb
import Derived.Defers
import Derived.Recover
import Derived.Deep.AppendLies

/- The program's small calls: validVersion, validNumber, demand, Right, Of. -/
namespace Go.Proofs.YtkdidinekoaobaaGreatDoor.J
open Go.RowKit
set_option linter.unusedVariables false
set_option linter.unusedSimpArgs false

theorem vv_any (n : Int) (w : World) : Calls Tryz.prog 76 #[.int .i64 n] w fun e w' => e = .returned (.bool (decide (1 ≤ n ∧ n ≤ 999999))) ∧ w = w' := by
  by_cases h1 : 1 ≤ n
  · by_cases h2 : n ≤ 999999
    · rw [decide_eq_true (show 1 ≤ n ∧ n ≤ 999999 from ⟨h1, h2⟩)]
      go_enter Tryz.func76, Tryz.ntmps76
      go_wp2
      go_ret
      exact ⟨rfl, rfl⟩
    · rw [decide_eq_false (show ¬ (1 ≤ n ∧ n ≤ 999999) from fun h => h2 h.2)]
      go_enter Tryz.func76, Tryz.ntmps76
      go_wp2
      go_ret
      exact ⟨rfl, rfl⟩
  · rw [decide_eq_false (show ¬ (1 ≤ n ∧ n ≤ 999999) from fun h => h1 h.1)]
    go_enter Tryz.func76, Tryz.ntmps76
    go_wp2
    go_ret
    exact ⟨rfl, rfl⟩
theorem vn_any (n : Int) (w : World) : Calls Tryz.prog 82 #[.int .i64 n] w fun e w' => e = .returned (.bool (decide (0 ≤ n ∧ n ≤ 999999))) ∧ w = w' := by
  by_cases h1 : 0 ≤ n
  · by_cases h2 : n ≤ 999999
    · rw [decide_eq_true (show 0 ≤ n ∧ n ≤ 999999 from ⟨h1, h2⟩)]
      go_enter Tryz.func82, Tryz.ntmps82
      go_wp2
      go_ret
      exact ⟨rfl, rfl⟩
    · rw [decide_eq_false (show ¬ (0 ≤ n ∧ n ≤ 999999) from fun h => h2 h.2)]
      go_enter Tryz.func82, Tryz.ntmps82
      go_wp2
      go_ret
      exact ⟨rfl, rfl⟩
  · rw [decide_eq_false (show ¬ (0 ≤ n ∧ n ≤ 999999) from fun h => h1 h.1)]
    go_enter Tryz.func82, Tryz.ntmps82
    go_wp2
    go_ret
    exact ⟨rfl, rfl⟩

/-- The panic of malformed bytes. -/
def mal : Ending := .panicked [{ v := .iface 36 (.int .i64 2), recovered := false }]
theorem dem_yes (w : World) : Calls Tryz.prog 127 #[.bool true] w fun e w' => e = .returned (.tuple #[]) ∧ w = w' := by
  go_enter Tryz.func127, Tryz.ntmps127
  go_wp2_with fail
  go_end0
  exact ⟨rfl, rfl⟩
theorem dem_no (w : World) : Calls Tryz.prog 127 #[.bool false] w fun e w' => e = mal ∧ w = w' := by
  go_enter Tryz.func127, Tryz.ntmps127
  go_wp2_with fail
  exact ⟨rfl, rfl, rfl⟩

/-- The number ahead of segment i's, as the loop keeps it. -/
def bef (l : List Sg) : Nat → Int
  | 0 => -1
  | i + 1 => (l[i]?.map Sg.n).getD 0
theorem okSg_bef {l : List Sg} {i : Nat} {s : Sg} (hs : l[i]? = some s) : okSg l i ↔ (bef l i < s.n ∧ (0 ≤ s.n ∧ s.n ≤ 999999) ∧ 0 ≤ s.size ∧ s.size ≤ 1048576) := by
  have hil := (List.getElem?_eq_some_iff.1 hs).1
  constructor
  · intro h
    obtain ⟨h1, h2, h3⟩ := h s hs
    refine ⟨?_, h1, h2⟩
    cases i with
    | zero => show (-1 : Int) < s.n; omega
    | succ i =>
      have hp : l[i]? = some l[i] := List.getElem?_eq_getElem (by omega)
      have := h3 (by omega) l[i] hp
      show (l[i]?.map Sg.n).getD 0 < s.n
      rw [hp]
      exact this
  · rintro ⟨h1, h2, h3⟩ s' hs'
    rw [hs] at hs'
    obtain rfl := Option.some.inj hs'
    refine ⟨h2, h3, fun h0 p hp => ?_⟩
    cases i with
    | zero => omega
    | succ i =>
      have : (l[i]?.map Sg.n).getD 0 < s.n := h1
      rw [show l[i]? = some p from hp] at this
      exact this

set_option maxRecDepth 100000 in
set_option maxHeartbeats 2000000 in
theorem pright_any (m : Mf) (a : Option Addr) (cap : Nat) (w : World) (hin : SgsIn w a m.segs) (hl : m.segs.length ≤ 1000) :
    Calls Tryz.prog 70 #[mfV m.ver a m.segs.length cap] w fun e w' => e = .returned (.bool (right m)) ∧ Below w.heap.size w w' := by
  have hb0 : Below w.heap.size w (w.alloc (.cells #[.int .i64 m.ver, .slice a m.segs.length cap] 33)) := (Below.refl _ _).alloc (Nat.le_refl _) _
  have hn0 := heap_alloc_new w (.cells #[.int .i64 m.ver, .slice a m.segs.length cap] 33)
  obtain ⟨L, hL⟩ : ∃ L, L = m.segs.length := ⟨_, rfl⟩
  rw [← hL] at hb0 hn0 hl ⊢
  have hw1 : w.heap.size < (w.alloc (.cells #[.int .i64 m.ver, .slice a L cap] 33)).heap.size := by simp
  have HL := Lib.hid hL; have HI := Lib.hid hin; have HB := Lib.hid hb0; have HN := Lib.hid hn0
  have HVV := Lib.hid (vv_any m.ver)
  clear hL hin hb0 hn0
  unfold mfV
  by_cases hv : 1 ≤ m.ver ∧ m.ver ≤ 999999
  · rw [decide_eq_true hv] at HVV
    have HV := Lib.hid hv
    clear hv
    by_cases h2 : 200 < L
    · have HR := Lib.hid (right_no (fun h => by have := h.2.1; have := HL.out; omega) : right m = false)
      go_enter Tryz.func70, Tryz.ntmps70
      go_wp2_with fail
      refine (HVV.out _).mono ?_
      rintro e w2 ⟨rfl, rfl⟩
      go_wp2_with fail
      go_ret
      exact ⟨by rw [HR.out]; rfl, HB.out⟩
    · go_enter Tryz.func70, Tryz.ntmps70
      go_wp2_with fail
      refine (HVV.out _).mono ?_
      rintro e w2 ⟨rfl, rfl⟩
      go_wp2_with fail
      generalize hW : w.alloc _ = w1 at *
      clear hW
      go_loopg [3, 19] L (fun g bv it wr => ∃ i : Nat, i + g = L ∧ bv = .int .i64 (bef m.segs i) ∧ it = .int .i64 i ∧ Sok m.segs i ∧ Below w1.heap.size w1 wr)
      case atStart => exact ⟨0, by omega, rfl, rfl, fun j hj => by omega, Below.refl _ _⟩
      case round =>
        obtain ⟨i, hi, rfl, rfl, hok, hb⟩ := hrel
        have HBW := Lib.hid (HB.out.trans (hb.mono HB.out.size))
        have HBB := Lib.hid hb; have HOK := Lib.hid hok
        have hbz := hb.size
        clear hb hok
        by_cases hlt : i < L
        · obtain ⟨s, hs⟩ : ∃ s, m.segs[i]? = some s := ⟨m.segs[i]'(by have := HL.out; omega), List.getElem?_eq_getElem _⟩
          obtain ⟨b, off, rfl, hbl, d0, d1, d2⟩ := HI.out.at HBW.out (Nat.le_refl _) i s hs
          have hba : Below wr.heap.size wr (wr.alloc (.cells #[.int .i64 s.n, .int .i64 s.size, .int .u32 s.sum] 51)) := (Below.refl _ _).alloc (Nat.le_refl _) _
          have HOI := Lib.hid (okSg_bef hs)
          have HBN := Lib.hid (show bef m.segs (i + 1) = s.n by show (m.segs[i]?.map Sg.n).getD 0 = s.n; rw [hs]; rfl)
          have HVN := Lib.hid (vn_any s.n)
          have HFIN := Lib.hid (HBW.out.trans (hba.mono HBW.out.size))
          have HF1 := Lib.hid (HBB.out.trans (hba.mono HBB.out.size))
          clear hba
          generalize hbe : bef m.segs i = be at *
          have hno : ¬ okSg m.segs i → right m = false := not_right (m := m) (i := i) (by have := HL.out; omega)
          have HNO := Lib.hid hno
          clear hno hs
          by_cases hA : s.n ≤ be
          · have HNR := Lib.hid (HNO.out (fun h => by have := (HOI.out.1 h).1; omega))
            go_wp2_with fail
            go_ret
            exact ⟨by rw [HNR.out]; rfl, HFIN.out⟩
          by_cases hB : 0 ≤ s.n ∧ s.n ≤ 999999
          · have HBD := Lib.hid hB
            rw [decide_eq_true hB] at HVN
            clear hB
            by_cases hC : s.size < 0
            · have HNR := Lib.hid (HNO.out (fun h => by have := (HOI.out.1 h).2.2; omega))
              go_wp2_with fail
              refine (HVN.out _).mono ?_
              rintro e w3 ⟨rfl, rfl⟩
              go_wp2_with fail
              go_ret
              exact ⟨by rw [HNR.out]; rfl, HFIN.out⟩
            by_cases hD : 1048576 < s.size
            · have HNR := Lib.hid (HNO.out (fun h => by have := (HOI.out.1 h).2.2; omega))
              go_wp2_with fail
              refine (HVN.out _).mono ?_
              rintro e w3 ⟨rfl, rfl⟩
              go_wp2_with fail
              go_ret
              exact ⟨by rw [HNR.out]; rfl, HFIN.out⟩
            · have HNX := Lib.hid (Sok.succ.2 ⟨HOK.out, HOI.out.2 ⟨by omega, HBD.out, by omega, by omega⟩⟩ : Sok m.segs (i + 1))
              go_wp2_with fail
              refine (HVN.out _).mono ?_
              rintro e w3 ⟨rfl, rfl⟩
              go_wp2_with fail
              go_roundg (gk - 1)
              case measure => omega
              case rel => exact ⟨i + 1, by omega, by rw [HBN.out], by go_num, HNX.out, HF1.out⟩
          · have HNR := Lib.hid (HNO.out (fun h => hB (HOI.out.1 h).2.1))
            rw [decide_eq_false hB] at HVN
            clear hB
            go_wp2_with fail
            refine (HVN.out _).mono ?_
            rintro e w3 ⟨rfl, rfl⟩
            go_wp2_with fail
            go_ret
            exact ⟨by rw [HNR.out]; rfl, HFIN.out⟩
        · obtain rfl : i = L := by omega
          have HR := Lib.hid (right_iff.2 ⟨HV.out, by have := HL.out; omega, by have := HOK.out; rw [← HL.out]; exact this⟩ : right m = true)
          go_wp2_with fail
          go_ret
          exact ⟨by rw [HR.out]; rfl, HBW.out⟩
  · rw [decide_eq_false hv] at HVV
    have HR := Lib.hid (right_no (fun h => hv h.1) : right m = false)
    clear hv
    go_enter Tryz.func70, Tryz.ntmps70
    go_wp2_with fail
    refine (HVV.out _).mono ?_
    rintro e w2 ⟨rfl, rfl⟩
    go_wp2_with fail
    go_ret
    exact ⟨by rw [HR.out]; rfl, HB.out⟩

/-- Three stores into a block of three cells. -/
theorem three_set {w : World} {q : Nat} {c0 c1 c2 : Value} {T : TypeId} (h : w.heap[q]? = some (.cells #[c0, c1, c2] T (0, 0))) (v0 v1 v2 : Value) :
    w.cell? ⟨q, 0, none⟩ = some c0 ∧ (w.setCell ⟨q, 0, none⟩ v0).cell? ⟨q, 1, none⟩ = some c1 ∧ ((w.setCell ⟨q, 0, none⟩ v0).setCell ⟨q, 1, none⟩ v1).cell? ⟨q, 2, none⟩ = some c2 ∧
    (∀ t, w.frozen? ⟨q, t, none⟩ = false) ∧ (((w.setCell ⟨q, 0, none⟩ v0).setCell ⟨q, 1, none⟩ v1).setCell ⟨q, 2, none⟩ v2).heap[q]? = some (.cells #[v0, v1, v2] T (0, 0)) := by
  have h1 := heap_setCell_same w q 0 _ _ v0 h
  have h2 := heap_setCell_same _ q 1 _ _ v1 h1
  have h3 := heap_setCell_same _ q 2 _ _ v2 h2
  exact ⟨by simpa using cell_of_row w q 0 _ _ (0, 0) h, by simpa using cell_of_row _ q 1 _ _ (0, 0) h1, by simpa using cell_of_row _ q 2 _ _ (0, 0) h2, fun t => by simp only [World.frozen?, h]; simp, h3⟩
theorem three_cells {w : World} {q : Nat} {c0 c1 c2 : Value} {T : TypeId} (h : w.heap[q]? = some (.cells #[c0, c1, c2] T (0, 0))) : w.cell? ⟨q, 0, none⟩ = some c0 ∧ w.cell? ⟨q, 1, none⟩ = some c1 ∧ w.cell? ⟨q, 2, none⟩ = some c2 :=
  ⟨by simpa using cell_of_row w q 0 _ _ (0, 0) h, by simpa using cell_of_row w q 1 _ _ (0, 0) h, by simpa using cell_of_row w q 2 _ _ (0, 0) h⟩
theorem Below.three {B : Nat} {w w' : World} (h : Below B w w') {q : Nat} (hq : B ≤ q) (v0 v1 v2 : Value) : Below B w (((w'.setCell ⟨q, 0, none⟩ v0).setCell ⟨q, 1, none⟩ v1).setCell ⟨q, 2, none⟩ v2) :=
  ((h.setCell (p := ⟨q, 0, none⟩) hq _).setCell (p := ⟨q, 1, none⟩) hq _).setCell (p := ⟨q, 2, none⟩) hq _

set_option maxRecDepth 100000 in
theorem pof_any (n : Int) (b : List UInt8) (w : World) (hn : i64 n) (hb : b.length ≤ 5000) :
    Calls Tryz.prog 46 #[.int .i64 n, .string (bs b)] w fun e w' => e = .returned (.agg #[.int .i64 n, .int .i64 (b.length : Nat), .int .u32 (sum b : Nat)]) ∧ Below w.heap.size w w' := by
  have HS := Lib.hid (fun W => sum_any (bs b) W (by rw [bs_size]; omega))
  rw [bs_list] at HS
  have z2 : ((bs b).size : Int) = (b.length : Int) := by rw [bs_size]
  have HN := Lib.hid (heap_alloc_new w (.cells #[.int .i64 0, .int .i64 0, .int .u32 0] 51))
  have HB := Lib.hid ((Below.refl w.heap.size w).alloc (Nat.le_refl _) (.cells #[.int .i64 0, .int .i64 0, .int .u32 0] 51))
  generalize bs b = X at *
  generalize (b.length : Int) = lb at *
  generalize sum b = sb at *
  go_enter Tryz.func46, Tryz.ntmps46
  go_wp2_with fail
  refine (HS.out _).mono ?_
  rintro e w2 ⟨rfl, b1⟩
  generalize hW : w.alloc _ = w1 at *
  have hn2 : w2.heap[w.heap.size]? = some (.cells #[.int .i64 0, .int .i64 0, .int .u32 0] 51 (0, 0)) := (b1.block _ (Array.getElem?_eq_some_iff.1 HN.out).1).trans HN.out
  have HBW := Lib.hid (HB.out.trans (b1.mono HB.out.size))
  clear hW b1
  have HF := Lib.hid (Below.three HBW.out (Nat.le_refl _) (.int .i64 n) (.int .i64 lb) (.int .u32 sb))
  generalize hqq : w.heap.size = q at *
  obtain ⟨k0, k1, k2, kf, k3⟩ := three_set hn2 (.int .i64 n) (.int .i64 lb) (.int .u32 sb)
  obtain ⟨j0, j1, j2⟩ := three_cells k3
  clear hn2 k3
  go_wp2_with fail
  generalize ((w2.setCell _ _).setCell _ _).setCell _ _ = w3 at *
  exact bodyPost_ret (v := .agg #[.int .i64 n, .int .i64 lb, .int .u32 sb]) (by simp [results, Tryz.results46, go_sem, j0, j1, j2]) rfl ⟨rfl, by rw [hqq]; exact HF.out⟩
end Go.Proofs.YtkdidinekoaobaaGreatDoor.J

/- The numbers that are still to be decoded: next, seg, end. -/
namespace Go.Proofs.YtkdidinekoaobaaGreatDoor.J
open Go.RowKit
set_option linter.unusedVariables false
set_option linter.unusedSimpArgs false

/-- The block of what is left. -/
def Nb (w : World) (q : Nat) (s : List UInt8) : Prop := w.heap[q]? = some (.cells #[.string (bs s)] 167 (0, 0))
theorem Nb.cell {w : World} {q : Nat} {s : List UInt8} (h : Nb w q s) : w.cell? ⟨q, 0, none⟩ = some (.string (bs s)) := by simpa using cell_of_row w q 0 _ _ (0, 0) h
theorem Nb.lt {w : World} {q : Nat} {s : List UInt8} (h : Nb w q s) : q < w.heap.size := (Array.getElem?_eq_some_iff.1 h).1
theorem Nb.later {w w' : World} {q : Nat} {s : List UInt8} (h : Nb w q s) (b : Below w.heap.size w w') : Nb w' q s := (b.block _ h.lt).trans h
theorem Nb.frozen {w : World} {q : Nat} {s : List UInt8} (h : Nb w q s) (t : Nat) : w.frozen? ⟨q, t, none⟩ = false := by unfold Nb at h; simp only [World.frozen?, h]; simp
theorem Nb.set {w : World} {q : Nat} {s : List UInt8} (h : Nb w q s) (r : List UInt8) : Nb (w.setCell ⟨q, 0, none⟩ (.string (bs r))) q r := heap_setCell_same w q 0 _ _ _ h
/-- Nothing but block q has turned. -/
def Tq (q : Nat) (w w' : World) : Prop := Turn (fun k => k = q) w w'
theorem Tq.of (q : Nat) {w w' : World} (b : Below w.heap.size w w') : Tq q w w' := Turn.of_below _ b (Nat.le_refl _)
theorem Tq.set {q : Nat} {w w' : World} (h : Tq q w w') (v : Value) : Tq q w (w'.setCell ⟨q, 0, none⟩ v) := Turn.setCell (p := ⟨q, 0, none⟩) h rfl v
theorem Tq.trans {q : Nat} {a b c : World} (h : Tq q a b) (k : Tq q b c) : Tq q a c := Turn.trans h k

/-- A number that is taken, or none. -/
def nok (s : List UInt8) (most : Nat) : Prop := (tk s).2.2 = 0 ∧ (tk s).1 ≤ most

set_option maxRecDepth 100000 in
theorem next_yes (s : List UInt8) (most n q : Nat) (r : List UInt8) (w : World) (hq : Nb w q s) (hs : s.length ≤ 5000) (h : tk s = (n, r, 0)) (hn : n ≤ most) :
    Calls Tryz.prog 124 #[.pointer (some ⟨q, 0, none⟩), .int .u64 (most : Nat)] w fun e w' => e = .returned (.int .u64 (n : Nat)) ∧ Nb w' q r ∧ Tq q w w' := by
  have HT := Lib.hid (take_any (bs s) w (by rw [bs_size]; omega))
  rw [bs_list, tkV, h] at HT
  have c0 := hq.cell
  have HQ := Lib.hid hq
  have HD := Lib.hid (fun W => dem_yes W)
  have hm : decide (n ≤ most) = true := decide_eq_true hn
  clear hq h
  go_enter Tryz.func124, Tryz.ntmps124
  go_wp2_with fail
  refine HT.out.mono ?_
  rintro e w1 ⟨rfl, b1⟩
  go_wp2_with fail
  refine (HD.out _).mono ?_
  rintro e w2 ⟨rfl, rfl⟩
  have hq1 := HQ.out.later b1
  have c1 := hq1.cell; have f1 := hq1.frozen
  have HN := Lib.hid (hq1.set r)
  have HTq := Lib.hid ((Tq.of q b1).set (.string (bs r)))
  clear hq1 b1
  go_wp2_with fail
  go_ret
  exact ⟨rfl, HN.out, HTq.out⟩
set_option maxRecDepth 100000 in
theorem next_no (s : List UInt8) (most q : Nat) (w : World) (hq : Nb w q s) (hs : s.length ≤ 5000) (h : ¬ nok s most) :
    Calls Tryz.prog 124 #[.pointer (some ⟨q, 0, none⟩), .int .u64 (most : Nat)] w fun e w' => e = mal ∧ Tq q w w' := by
  have HT := Lib.hid (take_any (bs s) w (by rw [bs_size]; omega))
  rw [bs_list, tkV] at HT
  have c0 := hq.cell
  have HD := Lib.hid (fun W => dem_no W)
  unfold nok at h
  obtain ⟨⟨n, r, x⟩, hx⟩ : ∃ y, tk s = y := ⟨_, rfl⟩
  rw [hx] at HT h
  simp only at h HT
  clear hq hx
  go_enter Tryz.func124, Tryz.ntmps124
  go_wp2_with fail
  refine HT.out.mono ?_
  rintro e w1 ⟨rfl, b1⟩
  have HTq := Lib.hid (Tq.of q b1)
  by_cases hq0 : x = 0
  · subst hq0
    have hgt : ¬ n ≤ most := by omega
    have hm : decide (n ≤ most) = false := decide_eq_false hgt
    clear h
    go_wp2_with fail
    refine (HD.out _).mono ?_
    rintro e w2 ⟨rfl, rfl⟩
    unfold mal
    go_wp2_with fail
    exact ⟨rfl, rfl, HTq.out⟩
  · clear h
    go_wp2_with fail
    refine (HD.out _).mono ?_
    rintro e w2 ⟨rfl, rfl⟩
    unfold mal
    go_wp2_with fail
    exact ⟨rfl, rfl, HTq.out⟩
theorem fin_yes (q : Nat) (w : World) (hq : Nb w q []) :
    Calls Tryz.prog 126 #[.pointer (some ⟨q, 0, none⟩)] w fun e w' => e = .returned (.tuple #[]) ∧ w = w' := by
  have c0 := hq.cell
  have HD := Lib.hid (fun W => dem_yes W)
  rw [show bs [] = (⟨#[]⟩ : ByteArray) from rfl] at c0
  clear hq
  go_enter Tryz.func126, Tryz.ntmps126
  go_wp2_with fail
  refine (HD.out _).mono ?_
  rintro e w2 ⟨rfl, rfl⟩
  go_wp2_with fail
  go_end0
  exact ⟨rfl, rfl⟩
set_option maxRecDepth 100000 in
theorem fin_no (q : Nat) (s : List UInt8) (w : World) (hq : Nb w q s) (hs : s ≠ []) :
    Calls Tryz.prog 126 #[.pointer (some ⟨q, 0, none⟩)] w fun e w' => e = mal ∧ w = w' := by
  have c0 := hq.cell
  have HD := Lib.hid (fun W => dem_no W)
  have he : (bs s).toList.isEmpty = false := by
    rw [bs_toList]
    cases s with
    | nil => exact absurd rfl hs
    | cons c r => rfl
  clear hq hs
  generalize bs s = X at *
  go_enter Tryz.func126, Tryz.ntmps126
  go_wp2_with fail
  refine (HD.out _).mono ?_
  rintro e w2 ⟨rfl, rfl⟩
  unfold mal
  go_wp2_with fail
  exact ⟨rfl, rfl, rfl⟩
end Go.Proofs.YtkdidinekoaobaaGreatDoor.J

/- seg: what is told of a segment, decoded. -/
namespace Go.Proofs.YtkdidinekoaobaaGreatDoor.J
open Go.RowKit
set_option linter.unusedVariables false
set_option linter.unusedSimpArgs false

theorem tk_len {s r : List UInt8} {n : Nat} (h : tk s = (n, r, 0)) : s = put n ++ r ∧ n < M64 ∧ r.length ≤ s.length := by
  rcases tk_cases s with ⟨e, _⟩ | e | ⟨n', r', e, h1, h2⟩
  · rw [e] at h; simp at h
  · rw [e] at h; simp at h
  · rw [e] at h
    simp only [Prod.mk.injEq, and_true] at h
    obtain ⟨rfl, rfl⟩ := h
    exact ⟨h2, h1, by rw [h2, List.length_append]; omega⟩
theorem nok_tk {s : List UInt8} {most : Nat} (h : nok s most) : tk s = ((tk s).1, (tk s).2.1, 0) := by
  have := h.1
  exact Prod.ext rfl (Prod.ext rfl this)
/-- The three numbers. -/
def S3 (s : List UInt8) (x : Sg) (r : List UInt8) : Prop := ∃ n1 n2 n3 r1 r2, tk s = (n1, r1, 0) ∧ n1 ≤ 999999 ∧ tk r1 = (n2, r2, 0) ∧ n2 ≤ 1048576 ∧ tk r2 = (n3, r, 0) ∧ n3 ≤ 4294967295 ∧ x = ⟨n1, n2, n3⟩
theorem S3.bytes {s r : List UInt8} {x : Sg} (h : S3 s x r) : s = puts (snums x) ++ r ∧ r.length ≤ s.length ∧ (0 ≤ x.n ∧ x.n ≤ 999999) ∧ (0 ≤ x.size ∧ x.size ≤ 1048576) ∧ x.sum < 4294967296 := by
  obtain ⟨n1, n2, n3, r1, r2, h1, b1, h2, b2, h3, b3, rfl⟩ := h
  obtain ⟨e1, _, l1⟩ := tk_len h1
  obtain ⟨e2, _, l2⟩ := tk_len h2
  obtain ⟨e3, _, l3⟩ := tk_len h3
  refine ⟨?_, by omega, by simp only; omega, by simp only; omega, by simp only; omega⟩
  rw [e1, e2, e3]
  simp [puts, snums]

set_option maxRecDepth 100000 in
set_option maxHeartbeats 1000000 in
theorem seg_yes (s : List UInt8) (x : Sg) (q : Nat) (r : List UInt8) (w : World) (hq : Nb w q s) (hs : s.length ≤ 5000) (h : S3 s x r) :
    Calls Tryz.prog 125 #[.pointer (some ⟨q, 0, none⟩)] w fun e w' => e = .returned (.agg #[.int .i64 x.n, .int .i64 x.size, .int .u32 (x.sum : Nat)]) ∧ Nb w' q r ∧ Tq q w w' := by
  obtain ⟨n1, n2, n3, r1, r2, h1, b1, h2, b2, h3, b3, rfl⟩ := h
  obtain ⟨_, _, l1⟩ := tk_len h1
  obtain ⟨_, _, l2⟩ := tk_len h2
  have H1 := Lib.hid (fun W hW => next_yes s 999999 n1 q r1 W hW hs h1 b1)
  have H2 := Lib.hid (fun W hW => next_yes r1 1048576 n2 q r2 W hW (by omega) h2 b2)
  have H3 := Lib.hid (fun W hW => next_yes r2 4294967295 n3 q r W hW (by omega) h3 b3)
  have HB := Lib.hid ((Below.refl w.heap.size w).alloc (Nat.le_refl _) (.cells #[.int .i64 0, .int .i64 0, .int .u32 0] 51))
  have HQ := Lib.hid (hq.later HB.out)
  have HN := Lib.hid (heap_alloc_new w (.cells #[.int .i64 0, .int .i64 0, .int .u32 0] 51))
  have hql := hq.lt
  have q1 : IntKind.i64.wrap (n1 : Int) = (n1 : Int) := IntWalk.i64_in _ ⟨by omega, by omega⟩
  have q2 : IntKind.i64.wrap (n2 : Int) = (n2 : Int) := IntWalk.i64_in _ ⟨by omega, by omega⟩
  have q3 : IntKind.u32.wrap (n3 : Int) = (n3 : Int) := IntWalk.u32_in _ ⟨by omega, by omega⟩
  clear hq h1 h2 h3 l1 l2
  go_enter Tryz.func125, Tryz.ntmps125
  go_wp2_with fail
  generalize hW : w.alloc _ = w1 at *
  refine (H1.out _ HQ.out).mono ?_
  rintro e w2 ⟨rfl, hq2, t2⟩
  have HQ2 := Lib.hid hq2; have HT2 := Lib.hid t2; clear hq2 t2
  go_wp2_with fail
  refine (H2.out _ HQ2.out).mono ?_
  rintro e w3 ⟨rfl, hq3, t3⟩
  have HQ3 := Lib.hid hq3; have HT3 := Lib.hid (HT2.out.trans t3); clear hq3 t3
  go_wp2_with fail
  refine (H3.out _ HQ3.out).mono ?_
  rintro e w4 ⟨rfl, hq4, t4⟩
  have HQ4 := Lib.hid hq4
  have t5 := HT3.out.trans t4
  have hlt : w.heap.size < w1.heap.size := (Array.getElem?_eq_some_iff.1 HN.out).1
  have hn4 : w4.heap[w.heap.size]? = some (.cells #[.int .i64 0, .int .i64 0, .int .u32 0] 51 (0, 0)) := (t5.block _ hlt (by show ¬ w.heap.size = q; omega)).trans HN.out
  obtain ⟨k0, k1, k2, kf, k3⟩ := three_set hn4 (.int .i64 n1) (.int .i64 n2) (.int .u32 n3)
  obtain ⟨j0, j1, j2⟩ := three_cells k3
  have T0 : Turn (fun k => k = q) w w4 := (Turn.of_below _ HB.out (Nat.le_refl _)).trans t5
  have HTF := Lib.hid (((T0.setNew (p := ⟨w.heap.size, 0, none⟩) (Nat.le_refl _) (.int .i64 n1)).setNew (p := ⟨w.heap.size, 1, none⟩) (Nat.le_refl _) (.int .i64 n2)).setNew (p := ⟨w.heap.size, 2, none⟩) (Nat.le_refl _) (.int .u32 n3))
  have HNF : Hid (Nb (((w4.setCell ⟨w.heap.size, 0, none⟩ (.int .i64 n1)).setCell ⟨w.heap.size, 1, none⟩ (.int .i64 n2)).setCell ⟨w.heap.size, 2, none⟩ (.int .u32 n3)) q r) := Lib.hid (by
    unfold Nb
    rw [Below.heap_setCell _ _ _ _ (by show q ≠ w.heap.size; omega), Below.heap_setCell _ _ _ _ (by show q ≠ w.heap.size; omega), Below.heap_setCell _ _ _ _ (by show q ≠ w.heap.size; omega)]
    exact hq4)
  clear hn4 k3 T0 t5 t4 hq4 hW
  go_wp2_with fail
  generalize ((w4.setCell _ _).setCell _ _).setCell _ _ = w5 at *
  exact bodyPost_ret (v := .agg #[.int .i64 n1, .int .i64 n2, .int .u32 n3]) (by simp [results, Tryz.results125, go_sem, j0, j1, j2]) rfl ⟨rfl, HNF.out, HTF.out⟩

set_option maxRecDepth 100000 in
set_option maxHeartbeats 1000000 in
theorem seg_no (s : List UInt8) (q : Nat) (w : World) (hq : Nb w q s) (hs : s.length ≤ 5000) (h : ∀ x r, ¬ S3 s x r) :
    Calls Tryz.prog 125 #[.pointer (some ⟨q, 0, none⟩)] w fun e w' => e = mal ∧ Tq q w w' := by
  have HB := Lib.hid ((Below.refl w.heap.size w).alloc (Nat.le_refl _) (.cells #[.int .i64 0, .int .i64 0, .int .u32 0] 51))
  have HQ := Lib.hid (hq.later HB.out)
  have HT1 : Hid (Tq q w (w.alloc (.cells #[.int .i64 0, .int .i64 0, .int .u32 0] 51))) := Lib.hid (Turn.of_below _ HB.out (Nat.le_refl _))
  clear hq
  by_cases g1 : nok s 999999
  · have h1 := nok_tk g1
    have b1 := g1.2
    generalize (tk s).1 = n1 at *
    generalize (tk s).2.1 = r1 at *
    obtain ⟨_, _, l1⟩ := tk_len h1
    have H1 := Lib.hid (fun W hW => next_yes s 999999 n1 q r1 W hW hs h1 b1)
    by_cases g2 : nok r1 1048576
    · have h2 := nok_tk g2
      have b2 := g2.2
      generalize (tk r1).1 = n2 at *
      generalize (tk r1).2.1 = r2 at *
      obtain ⟨_, _, l2⟩ := tk_len h2
      have H2 := Lib.hid (fun W hW => next_yes r1 1048576 n2 q r2 W hW (by omega) h2 b2)
      have g3 : ¬ nok r2 4294967295 := fun g3 => h _ _ ⟨n1, n2, _, r1, r2, h1, b1, h2, b2, nok_tk g3, g3.2, rfl⟩
      have H3 := Lib.hid (fun W hW => next_no r2 4294967295 q W hW (by omega) g3)
      clear h g1 g2 g3 h1 h2 l1 l2
      go_enter Tryz.func125, Tryz.ntmps125
      go_wp2_with fail
      generalize w.alloc _ = w1 at *
      refine (H1.out _ HQ.out).mono ?_
      rintro e w2 ⟨rfl, hq2, t2⟩
      have HQ2 := Lib.hid hq2; have HT2 := Lib.hid (HT1.out.trans t2); clear hq2 t2
      go_wp2_with fail
      refine (H2.out _ HQ2.out).mono ?_
      rintro e w3 ⟨rfl, hq3, t3⟩
      have HQ3 := Lib.hid hq3; have HT3 := Lib.hid (HT2.out.trans t3); clear hq3 t3
      go_wp2_with fail
      refine (H3.out _ HQ3.out).mono ?_
      rintro e w4 ⟨rfl, t4⟩
      have HT4 := Lib.hid (HT3.out.trans t4); clear t4
      unfold mal
      go_wp2_with fail
      exact ⟨rfl, rfl, HT4.out⟩
    · have H2 := Lib.hid (fun W hW => next_no r1 1048576 q W hW (by omega) g2)
      clear h g1 g2 h1 l1
      go_enter Tryz.func125, Tryz.ntmps125
      go_wp2_with fail
      generalize w.alloc _ = w1 at *
      refine (H1.out _ HQ.out).mono ?_
      rintro e w2 ⟨rfl, hq2, t2⟩
      have HQ2 := Lib.hid hq2; have HT2 := Lib.hid (HT1.out.trans t2); clear hq2 t2
      go_wp2_with fail
      refine (H2.out _ HQ2.out).mono ?_
      rintro e w3 ⟨rfl, t3⟩
      have HT3 := Lib.hid (HT2.out.trans t3); clear t3
      unfold mal
      go_wp2_with fail
      exact ⟨rfl, rfl, HT3.out⟩
  · have H1 := Lib.hid (fun W hW => next_no s 999999 q W hW hs g1)
    clear h g1
    go_enter Tryz.func125, Tryz.ntmps125
    go_wp2_with fail
    generalize w.alloc _ = w1 at *
    refine (H1.out _ HQ.out).mono ?_
    rintro e w2 ⟨rfl, t2⟩
    have HT2 := Lib.hid (HT1.out.trans t2); clear t2
    unfold mal
    go_wp2_with fail
    exact ⟨rfl, rfl, HT2.out⟩
end Go.Proofs.YtkdidinekoaobaaGreatDoor.J

/- What is read so far is a beginning of the one manifest that it can be. -/
namespace Go.Proofs.YtkdidinekoaobaaGreatDoor.J
set_option linter.unusedVariables false

theorem flat_pre : ∀ (l A : List Sg) (R : List Nat), (∀ s ∈ A, 0 ≤ s.n ∧ 0 ≤ s.size) → (∀ s ∈ l, 0 ≤ s.n ∧ 0 ≤ s.size) → A.flatMap snums = l.flatMap snums ++ R → ∃ l', A = l ++ l' ∧ R = l'.flatMap snums
  | [], A, R, _, _, h => ⟨A, rfl, by simpa using h.symm⟩
  | x :: l, [], R, _, _, h => by simp [snums] at h
  | x :: l, y :: A, R, hA, hl, h => by
    rw [List.flatMap_cons, List.flatMap_cons] at h
    have hx := hl x (List.mem_cons_self ..)
    have hy := hA y (List.mem_cons_self ..)
    simp only [snums, List.cons_append, List.nil_append, List.cons.injEq] at h
    obtain ⟨e1, e2, e3, h⟩ := h
    obtain ⟨l', rfl, hR⟩ := flat_pre l A R (fun s hs => hA s (List.mem_cons_of_mem _ hs)) (fun s hs => hl s (List.mem_cons_of_mem _ hs)) h
    refine ⟨l', ?_, hR⟩
    obtain ⟨n, z, c⟩ := x
    obtain ⟨n', z', c'⟩ := y
    simp only at e1 e2 e3 hx hy
    simp only [List.cons_append, List.cons.injEq, Sg.mk.injEq, and_true]
    omega
/-- A segment's numbers are in their bounds. -/
def okN (s : Sg) : Prop := (0 ≤ s.n ∧ s.n ≤ 999999) ∧ (0 ≤ s.size ∧ s.size ≤ 1048576) ∧ s.sum < 4294967296
theorem okN_lt {s : Sg} (h : okN s) : ∀ x ∈ snums s, x < M64 := by
  obtain ⟨h1, h2, h3⟩ := h
  intro x hx
  simp only [snums, List.mem_cons, List.not_mem_nil, or_false] at hx
  unfold M64
  rcases hx with rfl | rfl | rfl <;> omega
theorem must1 {m : Mf} {s : List UInt8} (hr : Right m) (hw : m.wf) (he : enc m = s) : ∃ r, tk s = (m.ver.toNat, r, 0) ∧ m.ver.toNat ≤ 999999 ∧ r = put m.segs.length ++ puts (m.segs.flatMap snums) ∧ m.segs.length ≤ 200 := by
  refine ⟨_, ?_, by have := hr.1; omega, rfl, hr.2.1⟩
  rw [← he]
  show tk (puts (m.ver.toNat :: m.segs.length :: m.segs.flatMap snums)) = _
  rw [puts_cons, puts_cons]
  exact tk_put (by have := hr.1; unfold M64; omega) _
theorem must {m : Mf} {v c : Nat} {l : List Sg} {rest s : List UInt8} (hr : Right m) (hw : m.wf) (he : enc m = s) (hv : v ≤ 999999) (hc : c ≤ 200) (hl : ∀ x ∈ l, okN x) (hs : s = put v ++ (put c ++ (puts (l.flatMap snums) ++ rest))) :
    m.ver = v ∧ m.segs.length = c ∧ ∃ l', m.segs = l ++ l' ∧ rest = puts (l'.flatMap snums) := by
  have h1 := mnums_lt hr hw
  obtain ⟨R, hR, hrest⟩ := puts_split (v :: c :: l.flatMap snums) (mnums m) rest (fun x hx => by have := h1 x hx; unfold M64; omega)
    (fun x hx => by
      simp only [List.mem_cons, List.mem_flatMap] at hx
      rcases hx with rfl | rfl | ⟨y, hy, hx⟩
      · unfold M64; omega
      · unfold M64; omega
      · exact okN_lt (hl y hy) x hx)
    (by show enc m = _; rw [he, hs, puts_cons, puts_cons]; simp)
  unfold mnums at hR
  simp only [List.cons_append, List.cons.injEq] at hR
  obtain ⟨e1, e2, e3⟩ := hR
  obtain ⟨l', e4, rfl⟩ := flat_pre l m.segs R (fun s hs => by have := sok_mem hr.2.2 hs; exact ⟨this.1.1, this.2.1⟩) (fun s hs => ⟨(hl s hs).1.1, (hl s hs).2.1.1⟩) e3
  exact ⟨by have := hr.1; omega, e2, l', e4, hrest⟩
theorem s3_of {x : Sg} (h : okN x) (r : List UInt8) : S3 (puts (snums x) ++ r) x r := by
  have hk := okN_lt h
  obtain ⟨h1, h2, h3⟩ := h
  have t1 := tk_put (n := x.n.toNat) (hk _ (by simp [snums])) (put x.size.toNat ++ (put x.sum ++ r))
  have t2 := tk_put (n := x.size.toNat) (hk _ (by simp [snums])) (put x.sum ++ r)
  have t3 := tk_put (n := x.sum) (hk _ (by simp [snums])) r
  refine ⟨_, _, _, _, _, by rw [show puts (snums x) ++ r = put x.n.toNat ++ (put x.size.toNat ++ (put x.sum ++ r)) by simp [puts, snums]]; exact t1, by omega, t2, by omega, t3, by omega, ?_⟩
  obtain ⟨n, z, c⟩ := x
  simp only [Sg.mk.injEq, and_true]
  simp only at h1 h2
  omega
/-- Where a segment can't be read there is no manifest. -/
theorem no_seg {v c : Nat} {l : List Sg} {rest s : List UInt8} (hv : v ≤ 999999) (hc : c ≤ 200) (hl : ∀ x ∈ l, okN x) (hs : s = put v ++ (put c ++ (puts (l.flatMap snums) ++ rest))) (hi : l.length < c) (h : ∀ x r, ¬ S3 rest x r) :
    ∀ m, Right m → m.wf → enc m ≠ s := by
  intro m hr hw he
  obtain ⟨_, h2, l', h3, h4⟩ := must hr hw he hv hc hl hs
  cases l' with
  | nil => rw [h3, List.append_nil] at h2; omega
  | cons x l'' =>
    have hx : x ∈ m.segs := by rw [h3]; simp
    have hb := sok_mem hr.2.2 hx
    refine h x (puts (l''.flatMap snums)) ?_
    rw [h4, List.flatMap_cons, puts_append]
    exact s3_of ⟨hb.1, hb.2, hw x hx⟩ _
theorem no_end {v c : Nat} {l : List Sg} {rest s : List UInt8} (hv : v ≤ 999999) (hc : c ≤ 200) (hl : ∀ x ∈ l, okN x) (hs : s = put v ++ (put c ++ (puts (l.flatMap snums) ++ rest))) (hi : l.length = c) (h : rest ≠ [] ∨ ¬ Right ⟨v, l⟩) :
    ∀ m, Right m → m.wf → enc m ≠ s := by
  intro m hr hw he
  obtain ⟨h1, h2, l', h3, h4⟩ := must hr hw he hv hc hl hs
  have hl0 : l'.length = 0 := by rw [h3, List.length_append] at h2; omega
  have e := List.eq_nil_of_length_eq_zero hl0
  subst e
  rw [List.append_nil] at h3
  rcases h with h | h
  · exact h (by rw [h4]; rfl)
  · refine h ?_
    obtain ⟨mv, ms⟩ := m
    simp only at h1 h3
    subst h1; subst h3
    exact hr
theorem yes_end {v c : Nat} {l : List Sg} {s : List UInt8} (hs : s = put v ++ (put c ++ (puts (l.flatMap snums) ++ []))) (hi : l.length = c) : enc ⟨v, l⟩ = s := by
  rw [hs, ← hi]
  show puts (((v : Int)).toNat :: l.length :: l.flatMap snums) = _
  rw [puts_cons, puts_cons, List.append_nil, Int.toNat_natCast]
theorem no_ver {s : List UInt8} (h : ¬ nok s 999999) : ∀ m, Right m → m.wf → enc m ≠ s := by
  intro m hr hw he
  obtain ⟨r, h1, h2, _⟩ := must1 hr hw he
  exact h ⟨by rw [h1], by rw [h1]; exact h2⟩
theorem no_cnt {s r : List UInt8} {v : Nat} (hv : tk s = (v, r, 0)) (h : ¬ nok r 200) : ∀ m, Right m → m.wf → enc m ≠ s := by
  intro m hr hw he
  obtain ⟨r', h1, h2, h3, h4⟩ := must1 hr hw he
  rw [h1] at hv
  simp only [Prod.mk.injEq, and_true] at hv
  obtain ⟨_, rfl⟩ := hv
  have h5 := tk_put (n := m.segs.length) (by unfold M64; omega) (puts (m.segs.flatMap snums))
  rw [← h3] at h5
  exact h ⟨by rw [h5], by rw [h5]; exact h4⟩
end Go.Proofs.YtkdidinekoaobaaGreatDoor.J

/- The deferred function of decode, which recovers a panic; the two named results that it captures. -/
namespace Go.Proofs.YtkdidinekoaobaaGreatDoor.J
open Go.RowKit
set_option linter.unusedVariables false
set_option linter.unusedSimpArgs false

set_option maxRecDepth 100000 in
theorem catch_idle (p q : Addr) (w : World) :
    CallsD Tryz.prog 123 #[.pointer (some p), .pointer (some q)] .returning w fun e u' w' => e = .returned (.tuple #[]) ∧ u' = .returning ∧ w' = w := by
  refine callsD_of_wpS Tryz.func123 rfl fun c₀ cs hu => ?_
  apply wpS_seq
  apply wpS_region
  simp [wpOpsS, go_sem, recoverD, hu, Tryz.ntmps123, Exit.thenS]
  refine wpS_cond (t := false) (by simp [Act.eval, Array.replicate]) ?_
  simp only [Bool.false_eq_true, if_false]
  refine wpS_of_wp (wp_skip ?_)
  cases c₀
  simp_all [bodyPostS, results, Tryz.results123]

/-- The two captured results are as the closure lays them. -/
def Caught (B g k : Nat) (w w' : World) : Prop := w'.heap[g]? = some (.cells #[.int .i64 0, .slice none 0 0] 33 (0, 0)) ∧ w'.heap[k]? = some (.cells #[.int .i64 2] 36 (0, 0)) ∧ Below B w w'

set_option maxRecDepth 100000 in
theorem catch_panicking (B g k : Nat) (u : TypeId) (pv c0 c1 d0 : Value) (older : List PanicEntry) (w : World)
    (hg : w.heap[g]? = some (.cells #[c0, c1] 33 (0, 0))) (hk : w.heap[k]? = some (.cells #[d0] 36 (0, 0))) (hgk : g ≠ k) (hBg : B ≤ g) (hBk : B ≤ k) :
    CallsD Tryz.prog 123 #[.pointer (some ⟨g, 0, none⟩), .pointer (some ⟨k, 0, none⟩)] (.panicking ({ v := .iface u pv, recovered := false } :: older)) w fun e u' w' =>
      e = .returned (.tuple #[]) ∧ u' = .panicking ({ v := .iface u pv, recovered := true } :: older) ∧ Caught B g k w w' := by
  obtain ⟨w3, hw3⟩ : ∃ w3, w3 = (((w.setCell ⟨g, 0, none⟩ (.int .i64 0)).setCell ⟨g, 1, none⟩ (.slice none 0 0)).setCell ⟨k, 0, none⟩ (.int .i64 2)) := ⟨_, rfl⟩
  have h1 := heap_setCell_same w g 0 _ _ (.int .i64 0) hg
  have h2 := heap_setCell_same _ g 1 _ _ (.slice none 0 0) h1
  have h3 : ((w.setCell ⟨g, 0, none⟩ (.int .i64 0)).setCell ⟨g, 1, none⟩ (.slice none 0 0)).heap[k]? = some (.cells #[d0] 36 (0, 0)) := by
    rw [Below.heap_setCell _ _ _ _ (by show k ≠ g; omega), Below.heap_setCell _ _ _ _ (by show k ≠ g; omega)]; exact hk
  have hC : Caught B g k w w3 := by
    rw [hw3]
    exact ⟨by rw [Below.heap_setCell _ _ _ _ (by show g ≠ k; omega)]; exact h2, heap_setCell_same _ k 0 _ _ (.int .i64 2) h3,
      (((Below.refl B w).setCell (p := ⟨g, 0, none⟩) hBg _).setCell (p := ⟨g, 1, none⟩) hBg _).setCell (p := ⟨k, 0, none⟩) hBk _⟩
  have q0 : w.cell? ⟨g, 0, none⟩ = some c0 := by simpa using cell_of_row w g 0 _ _ (0, 0) hg
  have q1 : (w.setCell ⟨g, 0, none⟩ (.int .i64 0)).cell? ⟨g, 1, none⟩ = some c1 := by simpa using cell_of_row _ g 1 _ _ (0, 0) h1
  have q2 : ((w.setCell ⟨g, 0, none⟩ (.int .i64 0)).setCell ⟨g, 1, none⟩ (.slice none 0 0)).cell? ⟨k, 0, none⟩ = some d0 := by simpa using cell_of_row _ k 0 _ _ (0, 0) h3
  clear h1 h2 h3
  have f0 : ∀ t, w.frozen? ⟨g, t, none⟩ = false := fun t => by simp only [World.frozen?, hg]; simp
  have f1 : ∀ t, w.frozen? ⟨k, t, none⟩ = false := fun t => by simp only [World.frozen?, hk]; simp
  refine callsD_of_wpS Tryz.func123 rfl fun c₀ cs hu => ?_
  apply wpS_seq
  apply wpS_region
  simp [wpOpsS, go_sem, recoverD, hu, Tryz.ntmps123, Exit.thenS]
  refine wpS_cond (t := true) (by simp [Act.eval, Array.replicate]) ?_
  simp only [if_true]
  apply wpS_region
  simp [wpOpsS, go_sem, q0, q1, q2, f0, f1, bodyPostS, results, Tryz.results123, ← hw3]
  exact hC

theorem SgsIn.far {w : World} {a : Option Addr} {l : List Sg} (h : SgsIn w a l) (p : Addr) (hp : ∀ x, a = some x → x.block ≠ p.block) (v : Value) : SgsIn (w.setCell p v) a l := fun i hi => by
  obtain ⟨b, off, rfl, h2, h3⟩ := h i hi
  have hne : p.block ≠ b := fun e => hp _ rfl e.symm
  exact ⟨b, off, rfl, by simpa using h2, by unfold SgAt; rw [World.cell?_setCell_far _ _ _ _ hne, World.cell?_setCell_far _ _ _ _ hne, World.cell?_setCell_far _ _ _ _ hne]; exact h3⟩

/-- The two named results, that the closure captures, are the first two new blocks. -/
def Rt (w0 : World) (c0 c1 d : Value) (W : World) : Prop := W.heap[w0.heap.size]? = some (.cells #[c0, c1] 33 (0, 0)) ∧ W.heap[w0.heap.size + 1]? = some (.cells #[d] 36 (0, 0)) ∧ Below w0.heap.size w0 W
theorem Rt.start (w : World) (c0 c1 d : Value) : Rt w c0 c1 d ((w.alloc (.cells #[c0, c1] 33)).alloc (.cells #[d] 36)) := by
  have b1 := (Below.refl w.heap.size w).alloc (Nat.le_refl _) (.cells #[c0, c1] 33)
  have z : (w.alloc (.cells #[c0, c1] 33)).heap.size = w.heap.size + 1 := by simp
  refine ⟨heap_alloc2_old w _ _, ?_, b1.alloc (by omega) _⟩
  have := heap_alloc_new (w.alloc (.cells #[c0, c1] 33)) (.cells #[d] 36)
  rw [z] at this
  exact this
theorem Rt.call {w0 : World} {c0 c1 d : Value} {W W' : World} (h : Rt w0 c0 c1 d W) (b : Below W.heap.size W W') : Rt w0 c0 c1 d W' := by
  have l1 : w0.heap.size + 1 < W.heap.size := (Array.getElem?_eq_some_iff.1 h.2.1).1
  exact ⟨by rw [b.block _ (by omega)]; exact h.1, by rw [b.block _ l1]; exact h.2.1, h.2.2.trans (b.mono h.2.2.size)⟩
theorem Rt.cells {w0 : World} {c0 c1 d : Value} {W : World} (h : Rt w0 c0 c1 d W) :
    W.cell? ⟨w0.heap.size, 0, none⟩ = some c0 ∧ W.cell? ⟨w0.heap.size, 1, none⟩ = some c1 ∧ W.cell? ⟨w0.heap.size + 1, 0, none⟩ = some d ∧ (∀ t, W.frozen? ⟨w0.heap.size, t, none⟩ = false) ∧ (∀ t, W.frozen? ⟨w0.heap.size + 1, t, none⟩ = false) := by
  obtain ⟨hg, hk, _⟩ := h
  exact ⟨by simpa using cell_of_row W w0.heap.size 0 _ _ (0, 0) hg, by simpa using cell_of_row W w0.heap.size 1 _ _ (0, 0) hg, by simpa using cell_of_row W (w0.heap.size + 1) 0 _ _ (0, 0) hk,
    fun t => by simp only [World.frozen?, hg]; simp, fun t => by simp only [World.frozen?, hk]; simp⟩
theorem Rt.set0 {w0 : World} {c0 c1 d : Value} {W : World} (h : Rt w0 c0 c1 d W) (v : Value) : Rt w0 v c1 d (W.setCell ⟨w0.heap.size, 0, none⟩ v) :=
  ⟨heap_setCell_same W _ 0 _ _ v h.1, by rw [Below.heap_setCell _ _ _ _ (by show w0.heap.size + 1 ≠ w0.heap.size; omega)]; exact h.2.1, h.2.2.setCell (p := ⟨w0.heap.size, 0, none⟩) (Nat.le_refl _) _⟩
theorem Rt.set1 {w0 : World} {c0 c1 d : Value} {W : World} (h : Rt w0 c0 c1 d W) (v : Value) : Rt w0 c0 v d (W.setCell ⟨w0.heap.size, 1, none⟩ v) :=
  ⟨heap_setCell_same W _ 1 _ _ v h.1, by rw [Below.heap_setCell _ _ _ _ (by show w0.heap.size + 1 ≠ w0.heap.size; omega)]; exact h.2.1, h.2.2.setCell (p := ⟨w0.heap.size, 1, none⟩) (Nat.le_refl _) _⟩
theorem Rt.set2 {w0 : World} {c0 c1 d : Value} {W : World} (h : Rt w0 c0 c1 d W) (v : Value) : Rt w0 c0 c1 v (W.setCell ⟨w0.heap.size + 1, 0, none⟩ v) :=
  ⟨by rw [Below.heap_setCell _ _ _ _ (by show w0.heap.size ≠ w0.heap.size + 1; omega)]; exact h.1, heap_setCell_same W _ 0 _ _ v h.2.1, h.2.2.setCell (p := ⟨w0.heap.size + 1, 0, none⟩) (Nat.le_succ _) _⟩
/-- All three stores. -/
theorem Rt.sets {w0 : World} {c0 c1 d : Value} {W : World} (h : Rt w0 c0 c1 d W) (v0 v1 v2 : Value) :
    W.cell? ⟨w0.heap.size, 0, none⟩ = some c0 ∧ (W.setCell ⟨w0.heap.size, 0, none⟩ v0).cell? ⟨w0.heap.size, 1, none⟩ = some c1 ∧
    ((W.setCell ⟨w0.heap.size, 0, none⟩ v0).setCell ⟨w0.heap.size, 1, none⟩ v1).cell? ⟨w0.heap.size + 1, 0, none⟩ = some d ∧
    (∀ t, W.frozen? ⟨w0.heap.size, t, none⟩ = false) ∧ (∀ t, W.frozen? ⟨w0.heap.size + 1, t, none⟩ = false) ∧
    Rt w0 v0 v1 v2 (((W.setCell ⟨w0.heap.size, 0, none⟩ v0).setCell ⟨w0.heap.size, 1, none⟩ v1).setCell ⟨w0.heap.size + 1, 0, none⟩ v2) :=
  ⟨h.cells.1, (h.set0 v0).cells.2.1, ((h.set0 v0).set1 v1).cells.2.2.1, h.cells.2.2.2.1, h.cells.2.2.2.2, ((h.set0 v0).set1 v1).set2 v2⟩
theorem Rt.turn {w0 : World} {c0 c1 d : Value} {W W' : World} {q : Nat} (h : Rt w0 c0 c1 d W) (t : Tq q W W') (hq : w0.heap.size + 1 < q) : Rt w0 c0 c1 d W' := by
  have l1 : w0.heap.size + 1 < W.heap.size := (Array.getElem?_eq_some_iff.1 h.2.1).1
  exact ⟨by rw [t.block _ (by omega) (by show ¬ w0.heap.size = q; omega)]; exact h.1, by rw [t.block _ l1 (by show ¬ w0.heap.size + 1 = q; omega)]; exact h.2.1,
    h.2.2.trans (t.below (fun k hk => by have hk : k = q := hk; omega) h.2.2.size)⟩
end Go.Proofs.YtkdidinekoaobaaGreatDoor.J

/- decode: the manifest whose encoding is all of the bytes. -/
namespace Go.Proofs.YtkdidinekoaobaaGreatDoor.J
open Go.RowKit
set_option linter.unusedVariables false
set_option linter.unusedSimpArgs false

/-- What decode hands back. -/
def DecPost (w : World) (s : List UInt8) (e : Ending) (w' : World) : Prop :=
  ((e = .returned (.tuple #[mfV 0 none 0 0, .int .i64 2]) ∧ ∀ m, Right m → m.wf → enc m ≠ s) ∨
    ∃ m a cap, e = .returned (.tuple #[mfV m.ver a m.segs.length cap, .int .i64 0]) ∧ SgsIn w' a m.segs ∧ (∀ x, a = some x → w.heap.size ≤ x.block) ∧ Right m ∧ m.wf ∧ enc m = s) ∧ Below w.heap.size w w'

theorem leaves_tmps {P : Program} {fn : Func} {t t' : Array Value} {R : Ending → World → Prop} (hr : results fn t = results fn t') : ∀ (ds : List Deferred) (u : FrameMode) (w : World), Leaves P fn t R ds u w → Leaves P fn t' R ds u w
  | [], .returning, w, h => by simpa only [Leaves, hr] using h
  | [], .panicking _, w, h => h
  | [], .run, w, h => h
  | d :: ds, u, w, h => by
    obtain ⟨h0, fv, cap, f, args, h1, h2, h3⟩ := h
    refine ⟨h0, fv, cap, f, args, h1, h2, h3.mono fun e u' w' he => ?_⟩
    cases e with
    | returned v => exact leaves_tmps hr ds _ _ he
    | panicked c => exact leaves_tmps hr ds _ _ he
    | outgrown => exact he
theorem dec_put {R : Ending → World → Prop} {c : List PanicEntry} {a : Act} {w : World} {j : Nat} {v : Value} (h2 : j ≠ 2) (h3 : j ≠ 3) (h : bodyPostD Tryz.prog Tryz.f95 R (.panic c) (a.put (some j) v) w) : bodyPostD Tryz.prog Tryz.f95 R (.panic c) a w := by
  refine leaves_tmps ?_ _ _ _ h
  have e2 : (a.put (some j) v).tmps.getD 2 undef = a.tmps.getD 2 undef := by simp [Act.put, Array.getD_eq_getD_getElem?, Array.getElem?_setIfInBounds, h2]
  have e3 : (a.put (some j) v).tmps.getD 3 undef = a.tmps.getD 3 undef := by simp [Act.put, Array.getD_eq_getD_getElem?, Array.getElem?_setIfInBounds, h3]
  simp only [results, Tryz.results95]
  rw [Array.getD_eq_getD_getElem?, Array.getD_eq_getD_getElem?] at e2 e3
  simp [e2, e3]
theorem infoSeg : (Tryz.prog.info? 51).map (fun i => (i.zero, i.size, i.bytes)) = some (some (.agg #[.int .i64 0, .int .i64 0, .int .u32 0]), 3, 24) := by kernel_rfl
/-- What has been decoded so far. -/
def Dec (w : World) (v : Nat) (l : List Sg) (rest : List UInt8) (W : World) : Prop :=
  ∃ sv, Rt w (.int .i64 v) sv (.int .i64 0) W ∧ W.ownsRow (w.heap.size + 3) 51 3 sv l.length (sflat l) ∧ Nb W (w.heap.size + 1 + 1) rest
/-- What lay ahead of the row is as it was, but for block q. -/
def Lq (q B : Nat) (wr W : World) : Prop := Turn (fun k => k = q ∨ B ≤ k) wr W
theorem Lq.cell {q B : Nat} {wr W : World} (h : Lq q B wr W) {g : Nat} (hg : g < wr.heap.size) (hq : g ≠ q) (hB : g < B) (j : Nat) : W.cell? ⟨g, j, none⟩ = wr.cell? ⟨g, j, none⟩ := by
  have := h.block g hg (by rintro (e | e); exact hq e; omega)
  simp [World.cell?, this]
theorem Lq.frozen {q B : Nat} {wr W : World} (h : Lq q B wr W) {g : Nat} (hg : g < wr.heap.size) (hq : g ≠ q) (hB : g < B) {j : Nat} {v : Bool} (hf : wr.frozen? ⟨g, j, none⟩ = v) : W.frozen? ⟨g, j, none⟩ = v := by
  have := h.block g hg (by rintro (e | e); exact hq e; omega)
  rw [← hf]
  simp [World.frozen?, this]
theorem Rt.grown {w0 : World} {c0 c1 d : Value} {W W' : World} {row : Option Nat} (h : Rt w0 c0 c1 d W) (hg : W.grownBy W' row) (hr : ∀ k, row = some k → w0.heap.size + 1 < k) : Rt w0 c0 c1 d W' := by
  have l1 : w0.heap.size + 1 < W.heap.size := (Array.getElem?_eq_some_iff.1 h.2.1).1
  exact ⟨by rw [hg.block _ (by omega) (fun e => by have := hr _ e.symm; omega)]; exact h.1, by rw [hg.block _ l1 (fun e => by have := hr _ e.symm; omega)]; exact h.2.1,
    h.2.2.grown hg h.2.2.size (fun k hk => by have := hr k hk; omega)⟩
theorem Dec.next {w wr w8 w9 : World} {v i gg cap : Nat} {l : List Sg} {x : Sg} {r : List UInt8} {sv : Value} {o : Obj} (hR : Rt w (.int .i64 v) sv (.int .i64 0) wr) (t8 : Tq (w.heap.size + 1 + 1) wr w8) (n8 : Nb w8 (w.heap.size + 1 + 1) r)
    (hg : (w8.alloc o).grownBy w9 sv.ownBlock) (hB : ∀ k, sv.ownBlock = some k → w.heap.size + 3 ≤ k) (ho : w9.ownsRow (w.heap.size + 3) 51 3 (.slice (some ⟨gg, 0, none⟩) (i + 1) cap) (i + 1) (sflat l ++ [.int .i64 x.n, .int .i64 x.size, .int .u32 x.sum])) (hl : l.length = i) :
    Dec w v (l ++ [x]) r (w9.setCell ⟨w.heap.size, 1, none⟩ (.slice (some ⟨gg, 0, none⟩) (i + 1) cap)) := by
  have hR8 := hR.turn t8 (by omega)
  have hRa := hR8.call ((Below.refl w8.heap.size w8).alloc (Nat.le_refl _) o)
  have hR9 := hRa.grown hg (fun k hk => by have := hB k hk; omega)
  have hna : Nb (w8.alloc o) (w.heap.size + 1 + 1) r := n8.later ((Below.refl w8.heap.size w8).alloc (Nat.le_refl _) o)
  have hn9 : Nb w9 (w.heap.size + 1 + 1) r := by
    unfold Nb
    rw [hg.block _ hna.lt (fun e => by have := hB _ e.symm; omega)]
    exact hna
  refine ⟨_, hR9.set1 _, ?_, ?_⟩
  · rw [List.length_append, List.length_singleton, hl, sflat_app]
    refine owns_kept ho (fun q hq => ?_)
    have hq2 := (ho.lt q hq).1
    rw [Below.heap_setCell _ _ _ _ (by show q ≠ w.heap.size; omega)]
  · unfold Nb
    rw [Below.heap_setCell _ _ _ _ (by show w.heap.size + 1 + 1 ≠ w.heap.size; omega)]; exact hn9

set_option maxRecDepth 100000 in
set_option maxHeartbeats 4000000 in
theorem decode_any (s : List UInt8) (w : World) (hs : s.length ≤ 5000) : Calls Tryz.prog 95 #[.string (bs s)] w (DecPost w s) := by
  have hmf : ∀ (fn : Fn) (first cap : Array Value) (w : World), (Instr.makeFunc fn first cap).run Tryz.prog w = .ok (.func fn first cap) w := fun _ _ _ _ => rfl
  obtain ⟨w3, hw3⟩ : ∃ w3, w3 = (((w.alloc (.cells #[.int .i64 0, .slice none 0 0] 33)).alloc (.cells #[.int .i64 0] 36)).alloc (.cells #[.string (bs s)] 167)) := ⟨_, rfl⟩
  have hR0 := Rt.start w (.int .i64 0) (.slice none 0 0) (.int .i64 0)
  have hR3 : Rt w (.int .i64 0) (.slice none 0 0) (.int .i64 0) w3 := by rw [hw3]; exact hR0.call ((Below.refl _ _).alloc (Nat.le_refl _) _)
  have hN3 : Nb w3 (w.heap.size + 1 + 1) s := by
    have := heap_alloc_new ((w.alloc (.cells #[.int .i64 0, .slice none 0 0] 33)).alloc (.cells #[.int .i64 0] 36)) (.cells #[.string (bs s)] 167)
    simp only [World.size_alloc] at this
    rw [hw3]; exact this
  have hz3 : w3.heap.size = w.heap.size + 3 := by rw [hw3]; simp
  have HR3 := Lib.hid hR3; have HN3 := Lib.hid hN3; have HW3 := Lib.hid hw3
  clear hR0 hR3 hN3 hw3
  by_cases g1 : nok s 999999
  · have ht1 := nok_tk g1
    have hv := g1.2
    generalize (tk s).1 = v at *
    generalize (tk s).2.1 = r at *
    obtain ⟨es, _, hrl⟩ := tk_len ht1
    have H1 := Lib.hid (fun W hW => next_yes s 999999 v (w.heap.size + 1 + 1) r W hW hs ht1 hv)
    have HES := Lib.hid es
    have q1 : IntKind.i64.wrap (v : Int) = (v : Int) := IntWalk.i64_in _ ⟨by omega, by omega⟩
    clear g1 es
    by_cases g2 : nok r 200
    · have ht2 := nok_tk g2
      have hc := g2.2
      generalize (tk r).1 = c at *
      generalize (tk r).2.1 = r2 at *
      obtain ⟨er, _, hrl2⟩ := tk_len ht2
      have H2 := Lib.hid (fun W hW => next_yes r 200 c (w.heap.size + 1 + 1) r2 W hW (by omega) ht2 hc)
      have HER := Lib.hid er
      have HT1 := Lib.hid ht1; have HT2 := Lib.hid ht2
      clear g2 ht1 ht2 er
      go_enter_defers Tryz.func95, Tryz.ntmps95
      go_wp2_with fail
      rw [← HW3.out]
      refine (H1.out _ HN3.out).mono ?_
      rintro e w4 ⟨rfl, n4, t4⟩
      have hR4 := HR3.out.turn t4 (by omega)
      have hR5 := hR4.set0 (.int .i64 v)
      have n5 : Nb (w4.setCell ⟨w.heap.size, 0, none⟩ (.int .i64 v)) (w.heap.size + 1 + 1) r := by
        unfold Nb
        rw [Below.heap_setCell _ _ _ _ (by show w.heap.size + 1 + 1 ≠ w.heap.size; omega)]; exact n4
      obtain ⟨j0, j1, j2, f0, f1⟩ := hR4.cells
      have HR5 := Lib.hid hR5; have HN5 := Lib.hid n5
      clear hR4 hR5 n4 n5 t4 HR3 HN3
      go_wp2_with fail
      refine (H2.out _ HN5.out).mono ?_
      generalize w4.setCell _ _ = w5 at *
      rintro e w6 ⟨rfl, n6, t6⟩
      have HR6 := Lib.hid (HR5.out.turn t6 (by omega))
      have HN6 := Lib.hid n6
      clear j0 j1 j2 f0 f1 n6 t6 HR5 HN5
      go_wp2_with fail
      go_loopg [15] c (fun g it wr => ∃ (l : List Sg) (rest : List UInt8), l.length + g = c ∧ it = .int .u64 (l.length : Nat) ∧ (∀ x ∈ l, okN x) ∧ s = put v ++ (put c ++ (puts (l.flatMap snums) ++ rest)) ∧ rest.length ≤ 5000 ∧ Dec w v l rest wr)
      case atStart => exact ⟨[], r2, by simp, rfl, fun x hx => by simp at hx, by rw [HES.out, HER.out]; rfl, by omega, ⟨_, HR6.out, World.ownsRow_nil _ _ _ _, HN6.out⟩⟩
      case round =>
        obtain ⟨l, rest, hi, rfl, hok, hes, hrl3, hD⟩ := hrel
        have HOK := Lib.hid hok; have HE := Lib.hid hes; have HD := Lib.hid hD
        clear hok hes hD HES HER HR6 HN6
        obtain ⟨i, hil⟩ : ∃ i, i = l.length := ⟨_, rfl⟩
        rw [← hil] at hi ⊢
        have HIL := Lib.hid hil
        clear hil
        by_cases hlt : i < c
        · obtain ⟨sv, hRr, hown, hnb⟩ := HD.out
          rw [← HIL.out] at hown
          obtain ⟨va, vc, rfl⟩ := sform hown
          have hsz : w.heap.size + 1 + 1 < wr.heap.size := hnb.lt
          obtain ⟨c0, c1, c2, f0, f1⟩ := hRr.cells
          have HR := Lib.hid hRr; have HOW := Lib.hid hown; have HNB := Lib.hid hnb
          obtain ⟨i0, hi1, hz0, hz1, hz2⟩ := info_parts infoSeg
          have HINF := Lib.hid (And.intro hi1 (And.intro hz0 (And.intro hz1 hz2)))
          clear hi1 hz0 hz1 hz2 hRr hown hnb HD
          have m0 : ∀ W, Lq (w.heap.size + 1 + 1) (w.heap.size + 3) wr W → W.cell? ⟨w.heap.size, 1, none⟩ = some (.slice va i vc) := fun W hW => (hW.cell (by omega) (by omega) (by omega) 1).trans c1
          by_cases hS : ∃ x r, S3 rest x r
          · obtain ⟨x, r3, hx⟩ := hS
            obtain ⟨hxb, hxl, hx1, hx2, hx3⟩ := hx.bytes
            have HSG := Lib.hid (fun W hW => seg_yes rest x (w.heap.size + 1 + 1) r3 W hW (by omega) hx)
            have HOKX : Hid (okN x) := Lib.hid ⟨hx1, hx2, hx3⟩
            have HXB := Lib.hid hxb
            clear hx hxb hx1 hx2 hx3
            go_wp2_with fail
            refine wp_region_last (S := Lq (w.heap.size + 1 + 1) (w.heap.size + 3) wr) (k := 7) (by kernel_rfl) rfl (by kernel_rfl) (by kernel_rfl) (by kernel_rfl) ?_
            have hHeld : Lq (w.heap.size + 1 + 1) (w.heap.size + 3) wr wr.drew := (Turn.refl _ wr).drew 1
            refine wpAnyH_take (i := 0) (v := ?_) rfl (by kernel_rfl) (by kernel_rfl) (by kernel_rfl) (fun _ _ _ h => dec_put (by decide) (by decide) h) (Or.inl ⟨by rfl, ?_⟩) hHeld ?_
            rotate_left
            · intro W hSw
              go_simp
              try with_reducible rfl
            try simp only [Act.put, List.setIfInBounds_toArray, List.set_cons_zero, List.set_cons_succ]
            refine wpAnyH_take (i := 1) (v := ?_) rfl (by kernel_rfl) (by kernel_rfl) (by kernel_rfl) (fun _ _ _ h => dec_put (by decide) (by decide) h) (Or.inl ⟨by rfl, ?_⟩) hHeld ?_
            rotate_left
            · intro W hSw
              go_simp
              try with_reducible rfl
            try simp only [Act.put, List.setIfInBounds_toArray, List.set_cons_zero, List.set_cons_succ]
            refine wpAnyH_take (i := 2) (v := ?_) rfl (by kernel_rfl) (by kernel_rfl) (by kernel_rfl) (fun _ _ _ h => dec_put (by decide) (by decide) h) (Or.inl ⟨by rfl, ?_⟩) hHeld ?_
            rotate_left
            · intro W hSw
              go_simp
              try with_reducible rfl
            try simp only [Act.put, List.setIfInBounds_toArray, List.set_cons_zero, List.set_cons_succ]
            refine wpAnyH_ready (rs := [3]) (by kernel_rfl) (by simp) ?_
            refine AllReadyH.cons rfl (fun K hK => ?_) ?_
            · go_simp
              go_at_call 125
              refine (HSG.out wr.drew HNB.out).mono ?_
              rintro e w8 ⟨rfl, n8, t8⟩
              have t8' : Tq (w.heap.size + 1 + 1) wr w8 := ((Turn.refl _ wr).drew 1).trans t8
              have HOW8 : Hid (w8.ownsRow (w.heap.size + 3) 51 3 (.slice va i vc) i (sflat l)) := Lib.hid (owns_kept HOW.out (fun q hq => by
                have := HOW.out.lt q hq
                exact t8'.block q this.2 (by show ¬ q = w.heap.size + 1 + 1; omega)))
              have hz8 : wr.heap.size ≤ w8.heap.size := t8'.size
              have hL8 : Lq (w.heap.size + 1 + 1) (w.heap.size + 3) wr w8 := hHeld.trans (Turn.mono t8 (fun k _ hk => Or.inl hk))
              go_wp2_with fail
              refine hK.out _ _ (by exact hL8) (fun hHeld => ?_)
              clear hK K
              try simp only [Act.put, List.setIfInBounds_toArray, List.set_cons_zero, List.set_cons_succ]
              refine wpAnyH_ready (rs := [4]) (by kernel_rfl) (by simp) ?_
              refine AllReadyH.cons rfl (fun K hK => ?_) ?_
              · go_simp
                refine hK.out _ _ (by exact hL8.alloc _) (fun hHeld => ?_)
                clear hK K
                try simp only [Act.put, List.setIfInBounds_toArray, List.set_cons_zero, List.set_cons_succ]
                refine wpAnyH_ready (rs := [5]) (by kernel_rfl) (by simp) ?_
                refine AllReadyH.cons rfl (fun K hK => ?_) ?_
                · refine step_append_lies _ rfl (.tmp 18) (.tmp 21) 31 (by rfl) (w.heap.size + 3) 51 i0 _ 3 24 Tryz.underlying31 HINF.out.1 HINF.out.2.1 HINF.out.2.2.1 HINF.out.2.2.2 rfl (by omega) (.slice va i vc) i (sflat l) (by rfl) (HOW8.out.alloc _) ⟨w8.heap.size, 0, none⟩ 1 1 [.int .i64 x.n, .int .i64 x.size, .int .u32 x.sum] (by rfl) (by rfl) (World.news_of_block (cs := #[.int .i64 x.n, .int .i64 x.size, .int .u32 x.sum]) (t := 51) (fr := (0, 0)) (heap_alloc_new w8 _)) (by simp [Value.oneCell']) (by omega) (by unfold maxLen; omega) (by omega) (by simp; omega) _ rfl ?_
                  intro gg cap2 w9 hown9 hgrow hat hlt9
                  have hS9 : Lq (w.heap.size + 1 + 1) (w.heap.size + 3) wr w9 := (hL8.alloc _).grown hgrow (fun j hj => Or.inl (Or.inr (HOW.out.lt j hj).1))
                  refine hK.out _ _ (by exact hS9) (fun hHeld => ?_)
                  clear hK K
                  try simp only [Act.put, List.setIfInBounds_toArray, List.set_cons_zero, List.set_cons_succ]
                  refine wpAnyH_take (i := 6) (v := ?_) rfl (by kernel_rfl) (by kernel_rfl) (by kernel_rfl) (fun _ _ _ h => dec_put (by decide) (by decide) h) (Or.inl ⟨by rfl, ?_⟩) hHeld ?_
                  rotate_left
                  · intro W hSw
                    go_simp
                    try with_reducible rfl
                  try simp only [Act.put, List.setIfInBounds_toArray, List.set_cons_zero, List.set_cons_succ]
                  refine wpAnyH_done (by kernel_rfl) ?_ _
                  have x1 := (hS9.cell (g := w.heap.size) (by omega) (by omega) (by omega) 1).trans c1
                  have fz := hS9.frozen (g := w.heap.size) (by omega) (by omega) (by omega) (f0 1)
                  unfold AtLast
                  refine wpOp_step rfl (fun K hK => ?_)
                  have HK := Lib.hid hK
                  clear hK
                  go_simp
                  refine HK.out _ _ ?_
                  clear HK K
                  have HNX := Lib.hid (Dec.next HR.out t8' n8 hgrow (fun k hk => (HOW.out.lt k hk).1) hown9 HIL.out.symm)
                  clear x1 fz hS9 hown9 hgrow hat hL8 hHeld m0 t8' t8 n8
                  go_wp2_with fail
                  go_roundg (gk - 1)
                  case measure => omega
                  case rel => exact ⟨l ++ [x], r3, by rw [List.length_append, List.length_singleton, ← HIL.out]; omega, by rw [List.length_append, List.length_singleton, ← HIL.out]; go_num, fun y hy => by
                      rcases List.mem_append.1 hy with h | h
                      · exact HOK.out y h
                      · rw [List.mem_singleton.1 h]; exact HOKX.out, by rw [HE.out, HXB.out, List.flatMap_append, puts_append, List.flatMap_singleton]; simp, by omega, HNX.out⟩
                exact AllReadyH.nil
              exact AllReadyH.nil
            exact AllReadyH.nil
          · have HSG := Lib.hid (fun W hW => seg_no rest (w.heap.size + 1 + 1) W hW (by omega) (fun x r h => hS ⟨x, r, h⟩))
            have HNO := Lib.hid (no_seg hv hc HOK.out HE.out (by have := HIL.out; omega) (fun x r h => hS ⟨x, r, h⟩))
            clear hS
            go_wp2_with fail
            refine wp_region_last (S := Lq (w.heap.size + 1 + 1) (w.heap.size + 3) wr) (k := 7) (by kernel_rfl) rfl (by kernel_rfl) (by kernel_rfl) (by kernel_rfl) ?_
            have hHeld : Lq (w.heap.size + 1 + 1) (w.heap.size + 3) wr wr.drew := (Turn.refl _ wr).drew 1
            refine wpAnyH_take (i := 0) (v := ?_) rfl (by kernel_rfl) (by kernel_rfl) (by kernel_rfl) (fun _ _ _ h => dec_put (by decide) (by decide) h) (Or.inl ⟨by rfl, ?_⟩) hHeld ?_
            rotate_left
            · intro W hSw
              go_simp
              try with_reducible rfl
            try simp only [Act.put, List.setIfInBounds_toArray, List.set_cons_zero, List.set_cons_succ]
            refine wpAnyH_take (i := 1) (v := ?_) rfl (by kernel_rfl) (by kernel_rfl) (by kernel_rfl) (fun _ _ _ h => dec_put (by decide) (by decide) h) (Or.inl ⟨by rfl, ?_⟩) hHeld ?_
            rotate_left
            · intro W hSw
              go_simp
              try with_reducible rfl
            try simp only [Act.put, List.setIfInBounds_toArray, List.set_cons_zero, List.set_cons_succ]
            refine wpAnyH_take (i := 2) (v := ?_) rfl (by kernel_rfl) (by kernel_rfl) (by kernel_rfl) (fun _ _ _ h => dec_put (by decide) (by decide) h) (Or.inl ⟨by rfl, ?_⟩) hHeld ?_
            rotate_left
            · intro W hSw
              go_simp
              try with_reducible rfl
            try simp only [Act.put, List.setIfInBounds_toArray, List.set_cons_zero, List.set_cons_succ]
            refine wpAnyH_ready (rs := [3]) (by kernel_rfl) (by simp) ?_
            refine AllReadyH.cons rfl (fun K hK => ?_) ?_
            · go_simp
              go_at_call 125
              refine (HSG.out wr.drew HNB.out).mono ?_
              rintro e w8 ⟨rfl, t8⟩
              have hR8 := HR.out.turn (((Turn.refl _ wr).drew 1).trans t8 : Tq (w.heap.size + 1 + 1) wr w8) (by omega)
              unfold mal
              go_wp2_with fail
              refine leaves_cons (f := 123) (args := #[.pointer (some ⟨w.heap.size, 0, none⟩), .pointer (some ⟨w.heap.size + 1, 0, none⟩)]) (by simp) (by simp [go_sem]) ?_
              refine (catch_panicking w.heap.size w.heap.size (w.heap.size + 1) _ _ _ _ _ [] _ hR8.1 hR8.2.1 (by omega) (Nat.le_refl _) (by omega)).mono ?_
              rintro e u' wz ⟨rfl, rfl, hc⟩
              have hRz : Rt w (.int .i64 0) (.slice none 0 0) (.int .i64 2) wz := ⟨hc.1, hc.2.1, hR8.2.2.trans hc.2.2⟩
              obtain ⟨k0, k1, k2, _, _⟩ := hRz.cells
              simp [Leaves, settle, results, Tryz.results95, go_sem, k0, k1, k2]
              exact ⟨Or.inl ⟨rfl, HNO.out⟩, hRz.2.2⟩
            exact AllReadyH.nil
        · obtain rfl : i = c := by omega
          obtain ⟨sv, hRr, hown, hnb⟩ := HD.out
          obtain ⟨c0, c1, c2, f0, f1⟩ := hRr.cells
          have HR := Lib.hid hRr; have HNB := Lib.hid hnb; have HOW := Lib.hid hown
          clear hRr hown hnb HD
          by_cases hrs : rest = []
          · subst hrs
            have HFN := Lib.hid (fun W hW => fin_yes (w.heap.size + 1 + 1) W hW)
            obtain ⟨va, vc, e0, hsg⟩ := owns_sgs HOW.out
            subst e0
            have hfar : ∀ y, va = some y → w.heap.size + 3 ≤ y.block := fun y hy => by
              rcases HOW.out.2 with ⟨e, _⟩ | ⟨g, cap, cur, e, hB, _⟩
              · rw [hy] at e; simp at e
              · rw [hy] at e; simp at e; rw [e.1]; exact hB
            have HRI := Lib.hid (fun W hW => pright_any ⟨v, l⟩ va vc W hW (by show l.length ≤ 1000; have := HIL.out; omega))
            have HSG := Lib.hid hsg; have HFAR := Lib.hid hfar
            clear hsg hfar
            by_cases hr : Right ⟨v, l⟩
            · have HYE := Lib.hid (yes_end HE.out HIL.out.symm)
              have HDM := Lib.hid (fun W => dem_yes W)
              rw [right_iff.2 hr] at HRI
              have HRR := Lib.hid hr
              clear hr
              unfold mfV at HRI
              go_wp2_with fail
              refine (HFN.out _ HNB.out).mono ?_
              rintro e w8 ⟨rfl, rfl⟩
              go_wp2_with fail
              refine (HRI.out _ HSG.out).mono ?_
              rintro e w9 ⟨rfl, b9⟩
              go_wp2_with fail
              refine (HDM.out _).mono ?_
              rintro e w10 ⟨rfl, rfl⟩
              have hR9 := HR.out.call b9
              obtain ⟨q0, q1, q2, g0, g1, hR5⟩ := hR9.sets (.int .i64 v) (.slice va l.length vc) (.int .i64 0)
              obtain ⟨k0, k1, k2, _, _⟩ := hR9.cells
              have hin4 := HSG.out.later b9 (Nat.le_refl _)
              have hin5 := ((hin4.far ⟨w.heap.size, 0, none⟩ (fun x hx => by have := HFAR.out x hx; show x.block ≠ w.heap.size; omega) (.int .i64 v)).far ⟨w.heap.size, 1, none⟩ (fun x hx => by have := HFAR.out x hx; show x.block ≠ w.heap.size; omega) (.slice va l.length vc)).far
                ⟨w.heap.size + 1, 0, none⟩ (fun x hx => by have := HFAR.out x hx; show x.block ≠ w.heap.size + 1; omega) (.int .i64 0)
              go_wp2_with fail
              generalize (((w9.setCell _ _).setCell _ _).setCell _ _) = w5 at *
              refine leaves_cons (f := 123) (args := #[.pointer (some ⟨w.heap.size, 0, none⟩), .pointer (some ⟨w.heap.size + 1, 0, none⟩)]) (by simp) (by simp [go_sem]) ?_
              refine (catch_idle ⟨w.heap.size, 0, none⟩ ⟨w.heap.size + 1, 0, none⟩ _).mono ?_
              rintro e u' w6 ⟨rfl, rfl, rfl⟩
              obtain ⟨k0, k1, k2, _, _⟩ := hR5.cells
              simp [Leaves, settle, results, Tryz.results95, go_sem, k0, k1, k2]
              exact ⟨Or.inr ⟨⟨v, l⟩, va, vc, rfl, hin5, fun x hx => by have := HFAR.out x hx; omega, HRR.out, fun y hy => (HOK.out y hy).2.2, HYE.out⟩, hR5.2.2⟩
            · have HNO := Lib.hid (no_end hv hc HOK.out HE.out HIL.out.symm (Or.inr hr))
              have HDM := Lib.hid (fun W => dem_no W)
              rw [right_no hr] at HRI
              clear hr
              unfold mfV at HRI
              go_wp2_with fail
              refine (HFN.out _ HNB.out).mono ?_
              rintro e w8 ⟨rfl, rfl⟩
              go_wp2_with fail
              refine (HRI.out _ HSG.out).mono ?_
              rintro e w9 ⟨rfl, b9⟩
              go_wp2_with fail
              refine (HDM.out _).mono ?_
              rintro e w10 ⟨rfl, rfl⟩
              have hR9 := HR.out.call b9
              unfold mal
              go_wp2_with fail
              refine leaves_cons (f := 123) (args := #[.pointer (some ⟨w.heap.size, 0, none⟩), .pointer (some ⟨w.heap.size + 1, 0, none⟩)]) (by simp) (by simp [go_sem]) ?_
              refine (catch_panicking w.heap.size w.heap.size (w.heap.size + 1) _ _ _ _ _ [] _ hR9.1 hR9.2.1 (by omega) (Nat.le_refl _) (by omega)).mono ?_
              rintro e u' wz ⟨rfl, rfl, hc⟩
              have hRz : Rt w (.int .i64 0) (.slice none 0 0) (.int .i64 2) wz := ⟨hc.1, hc.2.1, hR9.2.2.trans hc.2.2⟩
              obtain ⟨k0, k1, k2, _, _⟩ := hRz.cells
              simp [Leaves, settle, results, Tryz.results95, go_sem, k0, k1, k2]
              exact ⟨Or.inl ⟨rfl, HNO.out⟩, hRz.2.2⟩
          · have HFN := Lib.hid (fun W hW => fin_no (w.heap.size + 1 + 1) rest W hW hrs)
            have HNO := Lib.hid (no_end hv hc HOK.out HE.out HIL.out.symm (Or.inl hrs))
            clear hrs
            go_wp2_with fail
            refine (HFN.out _ HNB.out).mono ?_
            rintro e w8 ⟨rfl, rfl⟩
            have hR8 := HR.out
            unfold mal
            go_wp2_with fail
            refine leaves_cons (f := 123) (args := #[.pointer (some ⟨w.heap.size, 0, none⟩), .pointer (some ⟨w.heap.size + 1, 0, none⟩)]) (by simp) (by simp [go_sem]) ?_
            refine (catch_panicking w.heap.size w.heap.size (w.heap.size + 1) _ _ _ _ _ [] _ hR8.1 hR8.2.1 (by omega) (Nat.le_refl _) (by omega)).mono ?_
            rintro e u' wz ⟨rfl, rfl, hc⟩
            have hRz : Rt w (.int .i64 0) (.slice none 0 0) (.int .i64 2) wz := ⟨hc.1, hc.2.1, hR8.2.2.trans hc.2.2⟩
            obtain ⟨k0, k1, k2, _, _⟩ := hRz.cells
            simp [Leaves, settle, results, Tryz.results95, go_sem, k0, k1, k2]
            exact ⟨Or.inl ⟨rfl, HNO.out⟩, hRz.2.2⟩
    · have H2 := Lib.hid (fun W hW => next_no r 200 (w.heap.size + 1 + 1) W hW (by omega) g2)
      have HNO := Lib.hid (no_cnt ht1 g2)
      clear g2 ht1
      go_enter_defers Tryz.func95, Tryz.ntmps95
      go_wp2_with fail
      rw [← HW3.out]
      refine (H1.out _ HN3.out).mono ?_
      rintro e w4 ⟨rfl, n4, t4⟩
      have hR4 := HR3.out.turn t4 (by omega)
      have hR5 := hR4.set0 (.int .i64 v)
      have n5 : Nb (w4.setCell ⟨w.heap.size, 0, none⟩ (.int .i64 v)) (w.heap.size + 1 + 1) r := by
        unfold Nb
        rw [Below.heap_setCell _ _ _ _ (by show w.heap.size + 1 + 1 ≠ w.heap.size; omega)]; exact n4
      obtain ⟨j0, j1, j2, f0, f1⟩ := hR4.cells
      have HR5 := Lib.hid hR5; have HN5 := Lib.hid n5
      clear hR4 hR5 n4 n5 t4 HR3 HN3
      go_wp2_with fail
      refine (H2.out _ HN5.out).mono ?_
      rintro e w6 ⟨rfl, t6⟩
      have hR6 := HR5.out.turn t6 (by omega)
      unfold mal
      go_wp2_with fail
      refine leaves_cons (f := 123) (args := #[.pointer (some ⟨w.heap.size, 0, none⟩), .pointer (some ⟨w.heap.size + 1, 0, none⟩)]) (by simp) (by simp [go_sem]) ?_
      refine (catch_panicking w.heap.size w.heap.size (w.heap.size + 1) _ _ _ _ _ [] _ hR6.1 hR6.2.1 (by omega) (Nat.le_refl _) (by omega)).mono ?_
      rintro e u' wz ⟨rfl, rfl, hc⟩
      have hRz : Rt w (.int .i64 0) (.slice none 0 0) (.int .i64 2) wz := ⟨hc.1, hc.2.1, hR6.2.2.trans hc.2.2⟩
      obtain ⟨k0, k1, k2, _, _⟩ := hRz.cells
      simp [Leaves, settle, results, Tryz.results95, go_sem, k0, k1, k2]
      exact ⟨Or.inl ⟨rfl, HNO.out⟩, hRz.2.2⟩
  · have H1 := Lib.hid (fun W hW => next_no s 999999 (w.heap.size + 1 + 1) W hW hs g1)
    have HNO := Lib.hid (no_ver g1)
    clear g1
    go_enter_defers Tryz.func95, Tryz.ntmps95
    go_wp2_with fail
    rw [← HW3.out]
    refine (H1.out _ HN3.out).mono ?_
    rintro e w4 ⟨rfl, t4⟩
    have hR4 := HR3.out.turn t4 (by omega)
    unfold mal
    go_wp2_with fail
    refine leaves_cons (f := 123) (args := #[.pointer (some ⟨w.heap.size, 0, none⟩), .pointer (some ⟨w.heap.size + 1, 0, none⟩)]) (by simp) (by simp [go_sem]) ?_
    refine (catch_panicking w.heap.size w.heap.size (w.heap.size + 1) _ _ _ _ _ [] _ hR4.1 hR4.2.1 (by omega) (Nat.le_refl _) (by omega)).mono ?_
    rintro e u' w5 ⟨rfl, rfl, hc⟩
    have hR5 : Rt w (.int .i64 0) (.slice none 0 0) (.int .i64 2) w5 := ⟨hc.1, hc.2.1, hR4.2.2.trans hc.2.2⟩
    obtain ⟨k0, k1, k2, _, _⟩ := hR5.cells
    simp [Leaves, settle, results, Tryz.results95, go_sem, k0, k1, k2]
    exact ⟨Or.inl ⟨rfl, HNO.out⟩, hR5.2.2⟩
end Go.Proofs.YtkdidinekoaobaaGreatDoor.J

/- Read of the landed code. -/
namespace Go.Proofs.YtkdidinekoaobaaGreatDoor.J
open Go.RowKit
set_option linter.unusedVariables false
set_option linter.unusedSimpArgs false

/-- Two stores into a block of two cells. -/
theorem two_set {w : World} {q : Nat} {c0 c1 : Value} {T : TypeId} (h : w.heap[q]? = some (.cells #[c0, c1] T (0, 0))) (v0 v1 : Value) :
    w.cell? ⟨q, 0, none⟩ = some c0 ∧ (w.setCell ⟨q, 0, none⟩ v0).cell? ⟨q, 1, none⟩ = some c1 ∧ (∀ t, w.frozen? ⟨q, t, none⟩ = false) ∧
    ((w.setCell ⟨q, 0, none⟩ v0).setCell ⟨q, 1, none⟩ v1).heap[q]? = some (.cells #[v0, v1] T (0, 0)) := by
  have h1 := heap_setCell_same w q 0 _ _ v0 h
  have h2 := heap_setCell_same _ q 1 _ _ v1 h1
  exact ⟨by simpa using cell_of_row w q 0 _ _ (0, 0) h, by simpa using cell_of_row _ q 1 _ _ (0, 0) h1, fun t => by simp only [World.frozen?, h]; simp, h2⟩
theorem two_cells {w : World} {q : Nat} {c0 c1 : Value} {T : TypeId} (h : w.heap[q]? = some (.cells #[c0, c1] T (0, 0))) : w.cell? ⟨q, 0, none⟩ = some c0 ∧ w.cell? ⟨q, 1, none⟩ = some c1 :=
  ⟨by simpa using cell_of_row w q 0 _ _ (0, 0) h, by simpa using cell_of_row w q 1 _ _ (0, 0) h⟩
theorem Below.two {B : Nat} {w w' : World} (h : Below B w w') {q : Nat} (hq : B ≤ q) (v0 v1 : Value) : Below B w ((w'.setCell ⟨q, 0, none⟩ v0).setCell ⟨q, 1, none⟩ v1) :=
  (h.setCell (p := ⟨q, 0, none⟩) hq _).setCell (p := ⟨q, 1, none⟩) hq _

/-- What Read tells; its row is new. -/
def RdNew (w : World) (b : List UInt8) (e : Ending) (w' : World) : Prop :=
  ∃ a cap, e = .returned (.tuple #[mfV (mrd b).1.ver a (mrd b).1.segs.length cap, .int .i64 ((mrd b).2 : Nat)]) ∧ SgsIn w' a (mrd b).1.segs ∧ (∀ x, a = some x → w.heap.size ≤ x.block) ∧ Below w.heap.size w w'
set_option maxRecDepth 100000 in
set_option maxHeartbeats 1000000 in
theorem pread_new (b : List UInt8) (w : World) (hb : b.length ≤ 5000) : Calls Tryz.prog 66 #[.string (bs b)] w (RdNew w b) := by
  have HO := Lib.hid (fun W => open_any (bs b) W (by rw [bs_size]; omega))
  rw [bs_list] at HO
  have hl : (opn b).1.length ≤ 5000 := by
    by_cases h : (opn b).2 = true
    · have := congrArg List.length (seal_of h)
      simp only [seal4, List.length_append] at this
      omega
    · by_cases h4 : b.length < 4
      · rw [opn_short h4]; simp
      · by_cases e : four (sum (b.drop 4)) = b.take 4
        · rw [opn_yes h4 e] at h; simp at h
        · rw [opn_no h4 e]; simp
  have HN := Lib.hid (heap_alloc_new w (.cells #[.int .i64 0, .slice none 0 0] 33))
  have HB := Lib.hid ((Below.refl w.heap.size w).alloc (Nat.le_refl _) (.cells #[.int .i64 0, .slice none 0 0] 33))
  have hlt : w.heap.size < (w.alloc (.cells #[.int .i64 0, .slice none 0 0] 33)).heap.size := by simp
  by_cases h : (opn b).2 = true
  · have HSL := Lib.hid (seal_of h)
    have HOB := Lib.hid (show opn b = ((opn b).1, true) from Prod.ext rfl h)
    have HP := Lib.hid (@mrd_no b h)
    have HD := Lib.hid (fun W => decode_any (opn b).1 W hl)
    rw [opnV, h] at HO
    clear hl h
    generalize (opn b).1 = s at *
    go_enter Tryz.func66, Tryz.ntmps66
    go_wp2_with fail
    generalize w.alloc _ = w1 at *
    refine (HO.out _).mono ?_
    rintro e w2 ⟨rfl, b2⟩
    go_wp2_with fail
    refine (HD.out _).mono ?_
    have hn2 : w2.heap[w.heap.size]? = _ := (b2.block _ hlt).trans HN.out
    have hl2 : w.heap.size < w2.heap.size := Nat.lt_of_lt_of_le hlt b2.size
    have hB2 := HB.out.trans (b2.mono HB.out.size)
    rintro e w3 ⟨⟨rfl, hno⟩ | ⟨m, a, cap, rfl, hin, hfar, hr, hw, henc⟩, b3⟩
    · have hM := HP.out (fun m hm => hno m hm.1 hm.2.1 (by have := opn_of hm; rw [HOB.out] at this; simpa using this.symm))
      have hn3 : w3.heap[w.heap.size]? = _ := (b3.block _ hl2).trans hn2
      have hB3 := hB2.trans (b3.mono hB2.size)
      obtain ⟨k0, k1, kf, k2⟩ := two_set hn3 (.int .i64 0) (.slice none 0 0)
      obtain ⟨j0, j1⟩ := two_cells k2
      have HF := Lib.hid (Below.two hB3 (Nat.le_refl _) (.int .i64 0) (.slice none 0 0))
      have HM := Lib.hid hM
      clear hno hn2 hn3 k2 hB2 hB3 b2 b3 hM
      unfold mfV
      go_wp2_with fail
      generalize (w3.setCell _ _).setCell _ _ = w4 at *
      refine bodyPost_ret (v := .tuple #[mfV 0 none 0 0, .int .i64 2]) (by simp [results, Tryz.results66, go_sem, j0, j1, mfV]) rfl ⟨none, 0, by rw [HM.out]; rfl, by rw [HM.out]; exact SgsIn.nil _ _, (fun x hx => nomatch hx), HF.out⟩
    · have hM := mrd_yes (b := b) (m := m) ⟨hr, hw, by rw [henc]; exact HSL.out⟩
      have hn3 : w3.heap[w.heap.size]? = _ := (b3.block _ hl2).trans hn2
      have hB3 := hB2.trans (b3.mono hB2.size)
      obtain ⟨k0, k1, kf, k2⟩ := two_set hn3 (.int .i64 m.ver) (.slice a m.segs.length cap)
      obtain ⟨j0, j1⟩ := two_cells k2
      have HF := Lib.hid (Below.two hB3 (Nat.le_refl _) (.int .i64 m.ver) (.slice a m.segs.length cap))
      have HI := Lib.hid ((hin.far ⟨w.heap.size, 0, none⟩ (fun x hx => by have := hfar x hx; show x.block ≠ w.heap.size; omega) (.int .i64 m.ver)).far ⟨w.heap.size, 1, none⟩ (fun x hx => by have := hfar x hx; show x.block ≠ w.heap.size; omega) (.slice a m.segs.length cap))
      have HFA := Lib.hid (fun (x : Addr) (hx : a = some x) => show w.heap.size ≤ x.block by have := hfar x hx; omega)
      have HM := Lib.hid hM
      clear hn2 hn3 k2 hB2 hB3 b2 b3 hM hin hfar hr hw henc
      unfold mfV
      go_wp2_with fail
      generalize (w3.setCell _ _).setCell _ _ = w4 at *
      refine bodyPost_ret (v := .tuple #[mfV m.ver a m.segs.length cap, .int .i64 0]) (by simp [results, Tryz.results66, go_sem, j0, j1, mfV]) rfl ⟨a, cap, by rw [HM.out]; rfl, by rw [HM.out]; exact HI.out, HFA.out, HF.out⟩
  · have h : (opn b).2 = false := by simpa using h
    have HM := Lib.hid (mrd_sum h)
    rw [opnV, h] at HO
    clear hl h
    generalize (opn b).1 = s at *
    go_enter Tryz.func66, Tryz.ntmps66
    go_wp2_with fail
    generalize w.alloc _ = w1 at *
    refine (HO.out _).mono ?_
    rintro e w2 ⟨rfl, b2⟩
    have hn2 : w2.heap[w.heap.size]? = _ := (b2.block _ hlt).trans HN.out
    have hB2 := HB.out.trans (b2.mono HB.out.size)
    obtain ⟨k0, k1, kf, k2⟩ := two_set hn2 (.int .i64 0) (.slice none 0 0)
    obtain ⟨j0, j1⟩ := two_cells k2
    have HF := Lib.hid (Below.two hB2 (Nat.le_refl _) (.int .i64 0) (.slice none 0 0))
    clear hn2 k2 hB2 b2
    go_wp2_with fail
    generalize (w2.setCell _ _).setCell _ _ = w4 at *
    refine bodyPost_ret (v := .tuple #[mfV 0 none 0 0, .int .i64 4]) (by simp [results, Tryz.results66, go_sem, j0, j1, mfV]) rfl ⟨none, 0, by rw [HM.out]; rfl, by rw [HM.out]; exact SgsIn.nil _ _, (fun x hx => nomatch hx), HF.out⟩
theorem pread_any (b : List UInt8) (w : World) (hb : b.length ≤ 5000) : Calls Tryz.prog 66 #[.string (bs b)] w (RdPost w b) :=
  (pread_new b w hb).mono fun _ _ ⟨a, cap, h1, h2, _, h3⟩ => ⟨a, cap, h1, h2, h3⟩
end Go.Proofs.YtkdidinekoaobaaGreatDoor.J
