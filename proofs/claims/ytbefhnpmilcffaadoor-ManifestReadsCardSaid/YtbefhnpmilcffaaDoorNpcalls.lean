/- The program's small calls: validVersion, validNumber, demand, Right, Of. -/
import Derived.Test.YtbefhnpmilcffaaDoorNwant
import Derived.Test.YtbefhnpmilcffaaDoorCseals
namespace Go.Proofs.YtbefhnpmilcffaaDoor.J
open Go.RowKit
set_option linter.unusedVariables false
set_option linter.unusedSimpArgs false

theorem vv_any (n : Int) (w : World) : Calls Tryd.prog 34 #[.int .i64 n] w fun e w' => e = .returned (.bool (decide (1 ≤ n ∧ n ≤ 999999))) ∧ w = w' := by
  by_cases h1 : 1 ≤ n
  · by_cases h2 : n ≤ 999999
    · rw [decide_eq_true (show 1 ≤ n ∧ n ≤ 999999 from ⟨h1, h2⟩)]
      go_enter Tryd.func34, Tryd.ntmps34
      go_wp2
      go_ret
      exact ⟨rfl, rfl⟩
    · rw [decide_eq_false (show ¬ (1 ≤ n ∧ n ≤ 999999) from fun h => h2 h.2)]
      go_enter Tryd.func34, Tryd.ntmps34
      go_wp2
      go_ret
      exact ⟨rfl, rfl⟩
  · rw [decide_eq_false (show ¬ (1 ≤ n ∧ n ≤ 999999) from fun h => h1 h.1)]
    go_enter Tryd.func34, Tryd.ntmps34
    go_wp2
    go_ret
    exact ⟨rfl, rfl⟩
theorem vn_any (n : Int) (w : World) : Calls Tryd.prog 35 #[.int .i64 n] w fun e w' => e = .returned (.bool (decide (0 ≤ n ∧ n ≤ 999999))) ∧ w = w' := by
  by_cases h1 : 0 ≤ n
  · by_cases h2 : n ≤ 999999
    · rw [decide_eq_true (show 0 ≤ n ∧ n ≤ 999999 from ⟨h1, h2⟩)]
      go_enter Tryd.func35, Tryd.ntmps35
      go_wp2
      go_ret
      exact ⟨rfl, rfl⟩
    · rw [decide_eq_false (show ¬ (0 ≤ n ∧ n ≤ 999999) from fun h => h2 h.2)]
      go_enter Tryd.func35, Tryd.ntmps35
      go_wp2
      go_ret
      exact ⟨rfl, rfl⟩
  · rw [decide_eq_false (show ¬ (0 ≤ n ∧ n ≤ 999999) from fun h => h1 h.1)]
    go_enter Tryd.func35, Tryd.ntmps35
    go_wp2
    go_ret
    exact ⟨rfl, rfl⟩

/-- The panic of malformed bytes. -/
def mal : Ending := .panicked [{ v := .iface 26 (.int .i64 2), recovered := false }]
theorem dem_yes (w : World) : Calls Tryd.prog 49 #[.bool true] w fun e w' => e = .returned (.tuple #[]) ∧ w = w' := by
  go_enter Tryd.func49, Tryd.ntmps49
  go_wp2_with fail
  go_end0
  exact ⟨rfl, rfl⟩
theorem dem_no (w : World) : Calls Tryd.prog 49 #[.bool false] w fun e w' => e = mal ∧ w = w' := by
  go_enter Tryd.func49, Tryd.ntmps49
  go_wp2_with fail
  exact ⟨rfl, rfl, rfl⟩

/-- The number ahead of segment i's, as the loop keeps it. -/
def bef (l : List Sg) : Nat → Int
  | 0 => -1
  | i + 1 => (l[i]?.map Sg.n).getD 0
theorem okSg_bef {l : List Sg} {i : Nat} {s : Sg} (hs : l[i]? = some s) : okSg l i ↔ (bef l i < s.n ∧ (0 ≤ s.n ∧ s.n ≤ 999999) ∧ 0 ≤ s.size ∧ s.size ≤ 1048576) := by
  have hil := (List.getElem?_eq_some_iff.1 hs).1
  constructor
  · intro h
    obtain ⟨h1, h2, h3⟩ := h s hs
    refine ⟨?_, h1, h2⟩
    cases i with
    | zero => show (-1 : Int) < s.n; omega
    | succ i =>
      have hp : l[i]? = some l[i] := List.getElem?_eq_getElem (by omega)
      have := h3 (by omega) l[i] hp
      show (l[i]?.map Sg.n).getD 0 < s.n
      rw [hp]
      exact this
  · rintro ⟨h1, h2, h3⟩ s' hs'
    rw [hs] at hs'
    obtain rfl := Option.some.inj hs'
    refine ⟨h2, h3, fun h0 p hp => ?_⟩
    cases i with
    | zero => omega
    | succ i =>
      have : (l[i]?.map Sg.n).getD 0 < s.n := h1
      rw [show l[i]? = some p from hp] at this
      exact this

set_option maxRecDepth 100000 in
set_option maxHeartbeats 2000000 in
theorem pright_any (m : Mf) (a : Option Addr) (cap : Nat) (w : World) (hin : SgsIn w a m.segs) (hl : m.segs.length ≤ 1000) :
    Calls Tryd.prog 14 #[mfV m.ver a m.segs.length cap] w fun e w' => e = .returned (.bool (right m)) ∧ Below w.heap.size w w' := by
  have hb0 : Below w.heap.size w (w.alloc (.cells #[.int .i64 m.ver, .slice a m.segs.length cap] 24)) := (Below.refl _ _).alloc (Nat.le_refl _) _
  have hn0 := heap_alloc_new w (.cells #[.int .i64 m.ver, .slice a m.segs.length cap] 24)
  obtain ⟨L, hL⟩ : ∃ L, L = m.segs.length := ⟨_, rfl⟩
  rw [← hL] at hb0 hn0 hl ⊢
  have hw1 : w.heap.size < (w.alloc (.cells #[.int .i64 m.ver, .slice a L cap] 24)).heap.size := by simp
  have HL := Lib.hid hL; have HI := Lib.hid hin; have HB := Lib.hid hb0; have HN := Lib.hid hn0
  have HVV := Lib.hid (vv_any m.ver)
  clear hL hin hb0 hn0
  unfold mfV
  by_cases hv : 1 ≤ m.ver ∧ m.ver ≤ 999999
  · rw [decide_eq_true hv] at HVV
    have HV := Lib.hid hv
    clear hv
    by_cases h2 : 200 < L
    · have HR := Lib.hid (right_no (fun h => by have := h.2.1; have := HL.out; omega) : right m = false)
      go_enter Tryd.func14, Tryd.ntmps14
      go_wp2_with fail
      refine (HVV.out _).mono ?_
      rintro e w2 ⟨rfl, rfl⟩
      go_wp2_with fail
      go_ret
      exact ⟨by rw [HR.out]; rfl, HB.out⟩
    · go_enter Tryd.func14, Tryd.ntmps14
      go_wp2_with fail
      refine (HVV.out _).mono ?_
      rintro e w2 ⟨rfl, rfl⟩
      go_wp2_with fail
      generalize hW : w.alloc _ = w1 at *
      clear hW
      go_loopg [3, 19] L (fun g bv it wr => ∃ i : Nat, i + g = L ∧ bv = .int .i64 (bef m.segs i) ∧ it = .int .i64 i ∧ Sok m.segs i ∧ Below w1.heap.size w1 wr)
      case atStart => exact ⟨0, by omega, rfl, rfl, fun j hj => by omega, Below.refl _ _⟩
      case round =>
        obtain ⟨i, hi, rfl, rfl, hok, hb⟩ := hrel
        have HBW := Lib.hid (HB.out.trans (hb.mono HB.out.size))
        have HBB := Lib.hid hb; have HOK := Lib.hid hok
        have hbz := hb.size
        clear hb hok
        by_cases hlt : i < L
        · obtain ⟨s, hs⟩ : ∃ s, m.segs[i]? = some s := ⟨m.segs[i]'(by have := HL.out; omega), List.getElem?_eq_getElem _⟩
          obtain ⟨b, off, rfl, hbl, d0, d1, d2⟩ := HI.out.at HBW.out (Nat.le_refl _) i s hs
          have hba : Below wr.heap.size wr (wr.alloc (.cells #[.int .i64 s.n, .int .i64 s.size, .int .u32 s.sum] 46)) := (Below.refl _ _).alloc (Nat.le_refl _) _
          have HOI := Lib.hid (okSg_bef hs)
          have HBN := Lib.hid (show bef m.segs (i + 1) = s.n by show (m.segs[i]?.map Sg.n).getD 0 = s.n; rw [hs]; rfl)
          have HVN := Lib.hid (vn_any s.n)
          have HFIN := Lib.hid (HBW.out.trans (hba.mono HBW.out.size))
          have HF1 := Lib.hid (HBB.out.trans (hba.mono HBB.out.size))
          clear hba
          generalize hbe : bef m.segs i = be at *
          have hno : ¬ okSg m.segs i → right m = false := not_right (m := m) (i := i) (by have := HL.out; omega)
          have HNO := Lib.hid hno
          clear hno hs
          by_cases hA : s.n ≤ be
          · have HNR := Lib.hid (HNO.out (fun h => by have := (HOI.out.1 h).1; omega))
            go_wp2_with fail
            go_ret
            exact ⟨by rw [HNR.out]; rfl, HFIN.out⟩
          by_cases hB : 0 ≤ s.n ∧ s.n ≤ 999999
          · have HBD := Lib.hid hB
            rw [decide_eq_true hB] at HVN
            clear hB
            by_cases hC : s.size < 0
            · have HNR := Lib.hid (HNO.out (fun h => by have := (HOI.out.1 h).2.2; omega))
              go_wp2_with fail
              refine (HVN.out _).mono ?_
              rintro e w3 ⟨rfl, rfl⟩
              go_wp2_with fail
              go_ret
              exact ⟨by rw [HNR.out]; rfl, HFIN.out⟩
            by_cases hD : 1048576 < s.size
            · have HNR := Lib.hid (HNO.out (fun h => by have := (HOI.out.1 h).2.2; omega))
              go_wp2_with fail
              refine (HVN.out _).mono ?_
              rintro e w3 ⟨rfl, rfl⟩
              go_wp2_with fail
              go_ret
              exact ⟨by rw [HNR.out]; rfl, HFIN.out⟩
            · have HNX := Lib.hid (Sok.succ.2 ⟨HOK.out, HOI.out.2 ⟨by omega, HBD.out, by omega, by omega⟩⟩ : Sok m.segs (i + 1))
              go_wp2_with fail
              refine (HVN.out _).mono ?_
              rintro e w3 ⟨rfl, rfl⟩
              go_wp2_with fail
              go_roundg (gk - 1)
              case measure => omega
              case rel => exact ⟨i + 1, by omega, by rw [HBN.out], by go_num, HNX.out, HF1.out⟩
          · have HNR := Lib.hid (HNO.out (fun h => hB (HOI.out.1 h).2.1))
            rw [decide_eq_false hB] at HVN
            clear hB
            go_wp2_with fail
            refine (HVN.out _).mono ?_
            rintro e w3 ⟨rfl, rfl⟩
            go_wp2_with fail
            go_ret
            exact ⟨by rw [HNR.out]; rfl, HFIN.out⟩
        · obtain rfl : i = L := by omega
          have HR := Lib.hid (right_iff.2 ⟨HV.out, by have := HL.out; omega, by have := HOK.out; rw [← HL.out]; exact this⟩ : right m = true)
          go_wp2_with fail
          go_ret
          exact ⟨by rw [HR.out]; rfl, HBW.out⟩
  · rw [decide_eq_false hv] at HVV
    have HR := Lib.hid (right_no (fun h => hv h.1) : right m = false)
    clear hv
    go_enter Tryd.func14, Tryd.ntmps14
    go_wp2_with fail
    refine (HVV.out _).mono ?_
    rintro e w2 ⟨rfl, rfl⟩
    go_wp2_with fail
    go_ret
    exact ⟨by rw [HR.out]; rfl, HB.out⟩

/-- Three stores into a block of three cells. -/
theorem three_set {w : World} {q : Nat} {c0 c1 c2 : Value} {T : TypeId} (h : w.heap[q]? = some (.cells #[c0, c1, c2] T (0, 0))) (v0 v1 v2 : Value) :
    w.cell? ⟨q, 0, none⟩ = some c0 ∧ (w.setCell ⟨q, 0, none⟩ v0).cell? ⟨q, 1, none⟩ = some c1 ∧ ((w.setCell ⟨q, 0, none⟩ v0).setCell ⟨q, 1, none⟩ v1).cell? ⟨q, 2, none⟩ = some c2 ∧
    (∀ t, w.frozen? ⟨q, t, none⟩ = false) ∧ (((w.setCell ⟨q, 0, none⟩ v0).setCell ⟨q, 1, none⟩ v1).setCell ⟨q, 2, none⟩ v2).heap[q]? = some (.cells #[v0, v1, v2] T (0, 0)) := by
  have h1 := heap_setCell_same w q 0 _ _ v0 h
  have h2 := heap_setCell_same _ q 1 _ _ v1 h1
  have h3 := heap_setCell_same _ q 2 _ _ v2 h2
  exact ⟨by simpa using cell_of_row w q 0 _ _ (0, 0) h, by simpa using cell_of_row _ q 1 _ _ (0, 0) h1, by simpa using cell_of_row _ q 2 _ _ (0, 0) h2, fun t => by simp only [World.frozen?, h]; simp, h3⟩
theorem three_cells {w : World} {q : Nat} {c0 c1 c2 : Value} {T : TypeId} (h : w.heap[q]? = some (.cells #[c0, c1, c2] T (0, 0))) : w.cell? ⟨q, 0, none⟩ = some c0 ∧ w.cell? ⟨q, 1, none⟩ = some c1 ∧ w.cell? ⟨q, 2, none⟩ = some c2 :=
  ⟨by simpa using cell_of_row w q 0 _ _ (0, 0) h, by simpa using cell_of_row w q 1 _ _ (0, 0) h, by simpa using cell_of_row w q 2 _ _ (0, 0) h⟩
theorem Below.three {B : Nat} {w w' : World} (h : Below B w w') {q : Nat} (hq : B ≤ q) (v0 v1 v2 : Value) : Below B w (((w'.setCell ⟨q, 0, none⟩ v0).setCell ⟨q, 1, none⟩ v1).setCell ⟨q, 2, none⟩ v2) :=
  ((h.setCell (p := ⟨q, 0, none⟩) hq _).setCell (p := ⟨q, 1, none⟩) hq _).setCell (p := ⟨q, 2, none⟩) hq _

set_option maxRecDepth 100000 in
theorem pof_any (n : Int) (b : List UInt8) (w : World) (hn : i64 n) (hb : b.length ≤ 5000) :
    Calls Tryd.prog 18 #[.int .i64 n, .string (bs b)] w fun e w' => e = .returned (.agg #[.int .i64 n, .int .i64 (b.length : Nat), .int .u32 (sum b : Nat)]) ∧ Below w.heap.size w w' := by
  have HS := Lib.hid (fun W => sum_any (bs b) W (by rw [bs_size]; omega))
  rw [bs_list] at HS
  have z2 : ((bs b).size : Int) = (b.length : Int) := by rw [bs_size]
  have HN := Lib.hid (heap_alloc_new w (.cells #[.int .i64 0, .int .i64 0, .int .u32 0] 46))
  have HB := Lib.hid ((Below.refl w.heap.size w).alloc (Nat.le_refl _) (.cells #[.int .i64 0, .int .i64 0, .int .u32 0] 46))
  generalize bs b = X at *
  generalize (b.length : Int) = lb at *
  generalize sum b = sb at *
  go_enter Tryd.func18, Tryd.ntmps18
  go_wp2_with fail
  refine (HS.out _).mono ?_
  rintro e w2 ⟨rfl, b1⟩
  generalize hW : w.alloc _ = w1 at *
  have hn2 : w2.heap[w.heap.size]? = some (.cells #[.int .i64 0, .int .i64 0, .int .u32 0] 46 (0, 0)) := (b1.block _ (Array.getElem?_eq_some_iff.1 HN.out).1).trans HN.out
  have HBW := Lib.hid (HB.out.trans (b1.mono HB.out.size))
  clear hW b1
  have HF := Lib.hid (Below.three HBW.out (Nat.le_refl _) (.int .i64 n) (.int .i64 lb) (.int .u32 sb))
  generalize hqq : w.heap.size = q at *
  obtain ⟨k0, k1, k2, kf, k3⟩ := three_set hn2 (.int .i64 n) (.int .i64 lb) (.int .u32 sb)
  obtain ⟨j0, j1, j2⟩ := three_cells k3
  clear hn2 k3
  go_wp2_with fail
  generalize ((w2.setCell _ _).setCell _ _).setCell _ _ = w3 at *
  exact bodyPost_ret (v := .agg #[.int .i64 n, .int .i64 lb, .int .u32 sb]) (by simp [results, Tryd.results18, go_sem, j0, j1, j2]) rfl ⟨rfl, by rw [hqq]; exact HF.out⟩
end Go.Proofs.YtbefhnpmilcffaaDoor.J
