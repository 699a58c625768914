/- The program's directory: the places with keys from one on, in order. -/
import Derived.Test.YtbjginlhgedjdaaDoorKpsearch
import Derived.Test.YtbjginlhgedjdaaDoorKpcmp
import Derived.Test.YtbjginlhgedjdaaDoorKtotal
import Derived.Test.YtbjginlhgedjdaaDoorKside
import Derived.Shelf.SlSortCmp.NoneTotal

namespace Go.Proofs.YtbjginlhgedjdaaDoor.K
open Go.RowKit Go.Shelf Go.Sort
set_option linter.unusedVariables false

theorem srows_app : ∀ a b : Dr, srows (a ++ b) = srows a ++ srows b
  | [], b => rfl
  | o :: r, b => by simp only [List.cons_append, srows, srows_app r b, List.append_assoc]
/-- Places in a row, all with keys. -/
def prow (l : List (Ent Lc)) : List Value := srows (l.map some)
theorem prow_len (l : List (Ent Lc)) : (prow l).length = l.length * 6 := by unfold prow; rw [srows_len, List.length_map]
theorem prow_snoc (l : List (Ent Lc)) (s : Ent Lc) : prow (l ++ [s]) = prow l ++ slotv (some s) := by unfold prow; rw [List.map_append, srows_app]; simp [srows]
theorem prow_at {l : List (Ent Lc)} {i j : Nat} {s : Ent Lc} (h : l[i]? = some s) (hj : j < 6) : (prow l)[i * 6 + j]? = (slotv (some s))[j]? := by
  unfold prow; exact srows_at _ i j _ (by rw [List.getElem?_map, h]; rfl) hj
theorem infoPlace : (Tryd.prog.info? 61).map (fun i => (i.zero, i.size, i.bytes)) = some (some (.agg #[.string ⟨#[]⟩, .int .i64 0, .int .i64 0, .int .i64 0, .int .u64 0, .bool false]), 6, 56) := by kernel_rfl

theorem below_grow (W : World) (q : Nat) (os : Array Obj) : Below W.heap.size W (Go.Sort.grow (W.drewN q) os) :=
  ⟨rfl, rfl, rfl, by unfold Go.Sort.grow; simp, fun j hj => by
    unfold Go.Sort.grow
    show (W.heap ++ os)[j]? = W.heap[j]?
    rw [Array.getElem?_append_left hj]⟩
theorem pcompare_below (x y : Ent Lc) (b c : Bool) (W : World) : Calls Tryd.prog 41 #[placeV x b, placeV y c] W fun e w' => e = .returned (.int .i64 (cfE x y)) ∧ Below W.heap.size W w' :=
  (pcompare_any x y b c W).mono (fun e w' ⟨h1, q, os, h2⟩ => ⟨h1, h2 ▸ below_grow W q os⟩)
theorem cfE_neg {x y : Ent Lc} (h : lt x.1 y.1 = true) : cfE x y < 0 := by
  have := cmpB_lt x.1 y.1
  rw [h] at this
  exact of_decide_eq_true this
theorem cfE_pos {x y : Ent Lc} (h : lt x.1 y.1 = false) : 0 ≤ cfE x y := by
  have := cmpB_lt x.1 y.1
  rw [h] at this
  have := of_decide_eq_false this
  unfold cfE; omega
theorem six_new (w : World) (c0 c1 c2 c3 c4 c5 : Value) (t : TypeId) : ∀ j u, [c0, c1, c2, c3, c4, c5][j]? = some u → (w.alloc (.cells #[c0, c1, c2, c3, c4, c5] t)).cell? ((⟨w.heap.size, 0, none⟩ : Addr).add j) = some u := by
  intro j u hu
  rw [Addr.add_lit, Nat.zero_add, cell_of_row _ w.heap.size j _ _ (0, 0) (heap_alloc_new w _)]
  simpa using hu
/-- The cells of a row, in its block. -/
theorem row_at {w : World} {B : Nat} {e : TypeId} {size n : Nat} {a : Option Addr} {c : Nat} {xs : List Value} (h : w.ownsRow B e size (.slice a n c) n xs) (hn : 0 < n) : ∃ g, a = some ⟨g, 0, none⟩ ∧ B ≤ g ∧ g < w.heap.size ∧ ∀ j, j < n * size → w.cell? ⟨g, j, none⟩ = xs[j]? := by
  rcases h.2 with ⟨h0, h1⟩ | ⟨g, cap, cur, hv, hB, hg, _⟩
  · omega
  · cases hv
    exact ⟨g, rfl, hB, (Array.getElem?_eq_some_iff.1 hg).1, fun j hj => h.cellAt j hj⟩
theorem row_base {w : World} {B B' : Nat} {e : TypeId} {size n : Nat} {v : Value} {xs : List Value} (h : w.ownsRow B e size v n xs) (hB : B' ≤ B) : w.ownsRow B' e size v n xs := by
  obtain ⟨h1, h2⟩ := h
  refine ⟨h1, h2.imp id ?_⟩
  rintro ⟨g, cap, cur, hv, hb, r⟩
  exact ⟨g, cap, cur, hv, Nat.le_trans hB hb, r⟩
/-- The cells of a place with a key. -/
def encP (s : Ent Lc) : List Value := slotv (some s)
theorem prow_flat {l : List (Ent Lc)} {j : Nat} (hj : j < l.length * 6) : (prow l)[j]? = some ((flatK encP 6 l.toArray)[j]!) := by
  obtain ⟨q, r, hr, rfl⟩ : ∃ q r, r < 6 ∧ j = q * 6 + r := ⟨j / 6, j % 6, Nat.mod_lt _ (by omega), by omega⟩
  have hq : q < l.length := by omega
  have e1 : (q * 6 + r) / 6 = q := by omega
  have e2 : (q * 6 + r) % 6 = r := by omega
  have e3 : l.toArray[q]! = l[q] := by rw [getElem!_pos l.toArray q (by simpa using hq)]; simp
  rw [prow_at (List.getElem?_eq_getElem hq) hr, get_flatK _ _ _ _ (by simpa using hj), e1, e2, e3]
  unfold encP
  rw [List.getElem?_eq_getElem (by rw [slotv_len]; exact hr), getElem!_pos _ r (by rw [slotv_len]; exact hr)]
theorem holds_row {B : Nat} {w : World} {g cap : Nat} {l : List (Ent Lc)} (h : w.ownsRow B 61 6 (.slice (some ⟨g, 0, none⟩) l.length cap) l.length (prow l)) : HoldsK encP 6 w g 0 l.toArray := by
  intro j hj
  rw [size_flatK] at hj
  have hj' : j < l.length * 6 := by simpa using hj
  rw [Nat.zero_add]
  refine ⟨by rw [h.cellAt j hj', prow_flat hj']; rfl, ?_⟩
  rcases h.2 with ⟨h0, _⟩ | ⟨g', cap', cur, hv, _, hg, _⟩
  · cases h0
  · cases hv
    simp [World.frozen?, hg]
theorem block_sorted {w : World} {g n : Nat} {cur : Array Value} {e : TypeId} {d : Array (Ent Lc)} {os : Array Obj} (h : w.heap[g]? = some (.cells cur e (0, 0))) :
    (sortWorldK encP 6 w g 0 n d os).heap[g]? = some (.cells (putCells id 0 (flatK encP 6 d) cur) e (0, 0)) := by
  have hlt := (Array.getElem?_eq_some_iff.1 h).1
  unfold sortWorldK putRowK putRow mapBlock Go.Sort.grow Go.Sort.ahead
  show ((w.heap.modify g _) ++ os)[g]? = _
  rw [Array.getElem?_append_left (by simpa using hlt), Array.getElem?_modify, if_pos rfl, h]
  rfl
theorem turn_sorted {w : World} {g n : Nat} {d : Array (Ent Lc)} {os : Array Obj} : Turn (fun k => k = g) w (sortWorldK encP 6 w g 0 n d os) := by
  refine ⟨rfl, rfl, rfl, size_sortWorldK_c encP 6 w g 0 n d os, fun k hk hn => ?_⟩
  unfold sortWorldK putRowK putRow mapBlock Go.Sort.grow Go.Sort.ahead
  show ((w.heap.modify g _) ++ os)[k]? = _
  rw [Array.getElem?_append_left (by simpa using hk), Array.getElem?_modify, if_neg (fun e => hn e.symm)]
theorem row_sorted {B : Nat} {w : World} {g cap n : Nat} {l m : List (Ent Lc)} {d : Array (Ent Lc)} {os : Array Obj} (h : w.ownsRow B 61 6 (.slice (some ⟨g, 0, none⟩) l.length cap) l.length (prow l)) (hd : d.toList = m) (hl : m.length = l.length) :
    (sortWorldK encP 6 w g 0 n d os).ownsRow B 61 6 (.slice (some ⟨g, 0, none⟩) m.length cap) m.length (prow m) := by
  refine ⟨prow_len m, Or.inr ?_⟩
  rcases h.2 with ⟨h0, _⟩ | ⟨g', cap', cur, hv, hB, hg, hnc, hcm, hs, ht⟩
  · cases h0
  · cases hv
    refine ⟨g, cap, _, rfl, hB, block_sorted hg, by rw [hl]; exact hnc, hcm, by unfold putCells; simpa using hs, ?_⟩
    apply List.ext_getElem?
    intro j
    rw [List.getElem?_take]
    have hdm : d = m.toArray := by rw [← hd]
    by_cases hj : j < m.length * 6
    · have hjc : j < cur.size := by rw [hs]; have := Nat.mul_le_mul_right 6 hnc; omega
      rw [if_pos hj, prow_flat hj, hdm]
      unfold putCells
      rw [Array.getElem?_toList, Array.getElem?_mapIdx, Array.getElem?_eq_getElem hjc, Option.map_some, if_pos ⟨Nat.zero_le _, by rw [size_flatK]; simpa using hj⟩]
      rfl
    · rw [if_neg hj, List.getElem?_eq_none (by rw [prow_len]; omega)]

section
variable {B pb rb n : Nat} {S : Dr} {w : World} {k : List UInt8}
/-- The places with keys from k on, as they lie in the ring. -/
def Sel (B : Nat) (w : World) (v : Value) (l : List (Ent Lc)) : Prop := w.ownsRow B 61 6 v l.length (prow l)

set_option maxRecDepth 100000 in
set_option maxHeartbeats 1000000 in
theorem psorted_any (h : Pk B w pb rb n S) (ho : One S) : Calls Tryd.prog 37 #[.pointer (some ⟨pb, 0, none⟩), .string (bs k)] w fun e w' => ∃ v, e = .returned v ∧ Sel w.heap.size w' v (fromE S k) ∧ Below w.heap.size w w' := by
  have hcs := h.few
  obtain ⟨L, hL⟩ : ∃ L, L = S.length := ⟨_, rfl⟩
  rw [← hL] at hcs
  have HL := Lib.hid hL; have HR := Lib.hid h; have HO := Lib.hid ho
  have hpl := h.lt
  clear hL h ho
  obtain ⟨i0, hi, hz0, hz1, hz2⟩ := info_parts infoPlace
  have HI := Lib.hid (And.intro hi (And.intro hz0 (And.intro hz1 hz2)))
  clear hi hz0 hz1 hz2
  have hb0 : Below w.heap.size w (w.alloc (.cells #[.string (bs k), .int .i64 0, .int .i64 0, .int .i64 0, .int .u64 0, .bool false] 61)) := (Below.refl _ _).alloc (Nat.le_refl _) _
  have hn0 := heap_alloc_new w (.cells #[.string (bs k), .int .i64 0, .int .i64 0, .int .i64 0, .int .u64 0, .bool false] 61)
  have c0 := (HR.out.below hb0).head
  rw [← HL.out] at c0
  have HB0 := Lib.hid hb0; have HN0 := Lib.hid hn0
  clear hb0 hn0
  go_enter Tryd.func37, Tryd.ntmps37
  go_wp2_with fail
  generalize hW1 : w.alloc _ = w1 at *
  have hwl : w.heap.size < w1.heap.size := (Array.getElem?_eq_some_iff.1 HN0.out).1
  clear hW1 c0
  go_loopg [6, 16] L (fun g v it wr => ∃ (i : Nat) (u : Value), i + g = L ∧ it = .int .i64 i ∧ u = v ∧ Sel w1.heap.size wr u (sel (S.take i) k) ∧ Below w1.heap.size w1 wr)
  case atStart => exact ⟨0, _, by omega, rfl, rfl, World.ownsRow_nil _ _ _ _, Below.refl _ _⟩
  case round =>
    obtain ⟨i, u, hi, rfl, rfl, hown, hbw⟩ := hrel
    have hbz := hbw.size
    obtain ⟨ua, uc, rfl⟩ := rowForm hown
    by_cases hlt : i < L
    · obtain ⟨o, ho⟩ : ∃ o, S[i]? = some o := ⟨S[i]'(by have := HL.out; omega), List.getElem?_eq_getElem _⟩
      have hRw := (HR.out.below HB0.out).below hbw
      have c0 := hRw.head
      rw [← HL.out] at c0
      have d0 := hRw.cells ho (show 0 < 6 by omega)
      have d1 := hRw.cells ho (show 1 < 6 by omega)
      have d2 := hRw.cells ho (show 2 < 6 by omega)
      have d3 := hRw.cells ho (show 3 < 6 by omega)
      have d4 := hRw.cells ho (show 4 < 6 by omega)
      have d5 := hRw.cells ho (show 5 < 6 by omega)
      rw [Nat.add_zero] at d0
      have HT := Lib.hid (sel_take (k := k) ho)
      have HRW := Lib.hid hRw; have HOW := Lib.hid hown; have HBW := Lib.hid hbw
      clear hRw hown hbw
      cases o with
      | none =>
        simp only [slotv, List.getElem?_cons_succ, List.getElem?_cons_zero] at d0 d1 d2 d3 d4 d5
        have hba : Below wr.heap.size wr (wr.alloc (.cells #[.string ⟨#[]⟩, .int .i64 0, .int .i64 0, .int .i64 0, .int .u64 0, .bool false] 61)) := (Below.refl _ _).alloc (Nat.le_refl _) _
        have HE := Lib.hid (pempty_any (HRW.out.below hba) ho)
        simp only [Option.isNone] at HE
        have HOW2 := Lib.hid (owns_kept HOW.out (fun g hg => hba.block g (HOW.out.lt g hg).2))
        have HBW2 := Lib.hid (HBW.out.trans (hba.mono hbz))
        clear hba ho
        go_wp2_with (go_at_call 25; refine HE.out.mono ?_; rintro e w2 ⟨rfl, rfl⟩)
        go_roundg (gk - 1)
        case measure => omega
        case rel => exact ⟨i + 1, _, by omega, by go_num, rfl, by rw [HT.out]; simp only [psel, List.append_nil]; exact HOW2.out, HBW2.out⟩
      | some s =>
        simp only [slotv, List.getElem?_cons_succ, List.getElem?_cons_zero] at d0 d1 d2 d3 d4 d5
        have hba : Below wr.heap.size wr (wr.alloc (.cells #[.string (bs s.1), .int .i64 s.2.seg, .int .i64 s.2.off, .int .i64 s.2.len, .int .u64 s.2.seq, .bool true] 61)) := (Below.refl _ _).alloc (Nat.le_refl _) _
        have hna := heap_alloc_new wr (.cells #[.string (bs s.1), .int .i64 s.2.seg, .int .i64 s.2.off, .int .i64 s.2.len, .int .u64 s.2.seq, .bool true] 61)
        have HE := Lib.hid (pempty_any (HRW.out.below hba) ho)
        simp only [Option.isNone] at HE
        have hsl : (sel (S.take i) k).length ≤ 1024 := by have := sel_len (S.take i) k; rw [List.length_take] at this; omega
        clear ho
        go_wp2_with fail
        generalize hW2 : wr.alloc _ = w2 at *
        have hwr : wr.heap.size < w2.heap.size := (Array.getElem?_eq_some_iff.1 hna).1
        have hcl := fun t => cell_of_row w2 wr.heap.size t _ _ (0, 0) hna
        have e0 := hcl 0; have e1 := hcl 1; have e2 := hcl 2; have e3 := hcl 3; have e4 := hcl 4; have e5 := hcl 5
        simp only [List.getElem?_toArray, List.getElem?_cons_succ, List.getElem?_cons_zero] at e0 e1 e2 e3 e4 e5
        have hcl2 := fun t => cell_of_row w2 w.heap.size t _ _ (0, 0) (by rw [hba.block _ (by omega), HBW.out.block _ hwl]; exact HN0.out)
        have f0 := hcl2 0; have f1 := hcl2 1; have f2 := hcl2 2; have f3 := hcl2 3; have f4 := hcl2 4; have f5 := hcl2 5
        simp only [List.getElem?_toArray, List.getElem?_cons_succ, List.getElem?_cons_zero] at f0 f1 f2 f3 f4 f5
        have HC := Lib.hid (pcompare_below s (k, noLoc) true false w2)
        unfold placeV at HC
        simp only [noLoc] at HC
        have HOW2 := Lib.hid (owns_kept HOW.out (fun g hg => hba.block g (HOW.out.lt g hg).2))
        have HBW2 := Lib.hid (HBW.out.trans (hba.mono hbz))
        have HNA := Lib.hid hna
        have HLX := cfE_neg (x := s) (y := (k, noLoc))
        have HLY := cfE_pos (x := s) (y := (k, noLoc))
        simp only at HLX HLY
        rw [show cfE s (k, noLoc) = cfE s (k, ⟨0, 0, 0, 0⟩) from rfl] at HLX HLY
        generalize cfE s (k, ⟨0, 0, 0, 0⟩) = r at HC HLX HLY
        refine HE.out.mono ?_
        rintro e w3 ⟨rfl, rfl⟩
        clear hba hna hcl hcl2 hW2 HOW HBW HE d0 d1 d2 d3 d4 d5 c0
        cases hlx : lt s.1 k with
        | true =>
          have hr0 : r < 0 := HLX hlx
          have hps : psel k (some s) = [] := by simp only [psel]; rw [if_pos hlx]
          have HPS := Lib.hid hps
          clear HLX HLY hps hlx
          go_wp2_with (go_at_call 41; refine HC.out.mono ?_; rintro e w3 ⟨rfl, hb3⟩)
          go_roundg (gk - 1)
          case measure => omega
          case rel =>
            have hz2 := HBW2.out.size
            exact ⟨i + 1, _, by omega, by go_num, rfl, by rw [HT.out, HPS.out, List.append_nil]; exact owns_kept HOW2.out (fun g hg => hb3.block g (HOW2.out.lt g hg).2), HBW2.out.trans (hb3.mono hz2)⟩
        | false =>
          have hr0 : 0 ≤ r := HLY hlx
          have hps : psel k (some s) = [s] := by simp only [psel]; rw [if_neg (by rw [hlx]; simp)]
          have HPS := Lib.hid hps
          clear HLX HLY hps hlx
          go_wp2_with (first
            | (go_at_call 41; refine HC.out.mono ?_; rintro e w3 ⟨rfl, hb3⟩; have g0 := (Below.cell (p := ⟨wr.heap.size, 0, none⟩) hb3 hwr).trans e0; have g1 := (Below.cell (p := ⟨wr.heap.size, 1, none⟩) hb3 hwr).trans e1; have g2 := (Below.cell (p := ⟨wr.heap.size, 2, none⟩) hb3 hwr).trans e2; have g3 := (Below.cell (p := ⟨wr.heap.size, 3, none⟩) hb3 hwr).trans e3; have g4 := (Below.cell (p := ⟨wr.heap.size, 4, none⟩) hb3 hwr).trans e4; have g5 := (Below.cell (p := ⟨wr.heap.size, 5, none⟩) hb3 hwr).trans e5; have hz2 := HBW2.out.size; have hz3 := hb3.size; have HO3 := Lib.hid (owns_kept HOW2.out (fun g hg => hb3.block g (HOW2.out.lt g hg).2)); have HB3 := Lib.hid (HBW2.out.trans (hb3.mono hz2)); clear hb3 e0 e1 e2 e3 e4 e5 f0 f1 f2 f3 f4 f5)
            | (at_builtin; refine wpList_append_own _ rfl _ _ 55 rfl w1.heap.size 61 i0 (.agg #[.string ⟨#[]⟩, .int .i64 0, .int .i64 0, .int .i64 0, .int .u64 0, .bool false]) 6 56 Tryd.underlying55 HI.out.1 HI.out.2.1 HI.out.2.2.1 HI.out.2.2.2 rfl (by decide) _ _ _ rfl (HO3.out.alloc _) ⟨w3.heap.size, 0, none⟩ 1 1 [.string (bs s.1), .int .i64 s.2.seg, .int .i64 s.2.off, .int .i64 s.2.len, .int .u64 s.2.seq, .bool true] rfl rfl (six_new _ _ _ _ _ _ _ _) (fun x hx => by simp at hx; rcases hx with rfl | rfl | rfl | rfl | rfl | rfl <;> rfl) (by unfold maxLen; omega) (by omega) (by simp; omega) ?_
               intro v' w4 hown' hgrow _
               have HB4 := Lib.hid (Below.grown (HB3.out.alloc (by omega) _) hgrow (by simp; omega) (fun j hj => (HO3.out.lt _ hj).1))
               have HO4 := Lib.hid hown'
               clear hown' hgrow))
          go_roundg (gk - 1)
          case measure => omega
          case rel => exact ⟨i + 1, _, by omega, by go_num, rfl, by rw [HT.out, HPS.out]; unfold Sel; rw [prow_snoc, List.length_append]; exact HO4.out, HB4.out⟩
    · obtain rfl : i = L := by omega
      have hsel : sel (S.take i) k = sel S k := by rw [HL.out]; exact sel_all S k
      rw [hsel] at hown
      have hfr : ∀ m : List (Ent Lc), m = fromE S k → m.length = (sel S k).length → m.length = (sel S k).length := fun _ _ h => h
      have hbl : Below w.heap.size w wr := HB0.out.trans (hbw.mono HB0.out.size)
      have hcs2 : (sel S k).length ≤ 1024 := by have := sel_len S k; have := HL.out; omega
      rw [hsel]
      by_cases he : (sel S k).length = 0
      · have hnil := List.eq_nil_of_length_eq_zero he
        have hfe : fromE S k = [] := by
          apply List.eq_nil_iff_forall_not_mem.2
          rintro ⟨k', v⟩ hs
          unfold fromE at hs
          rw [List.mem_filter, sre_mem] at hs
          have : ((k', v) : Ent Lc) ∈ sel S k := mem_sel.2 ⟨hs.1, by simpa using hs.2⟩
          rw [hnil] at this; simp at this
        have hcon := fun fv W => AnyF.slices_SortFunc_none laySort ua uc fv W
        change ∀ fv W, Calls Tryd.prog 42 _ _ _ at hcon
        rw [he]
        have HOW := Lib.hid hown; have HBL := Lib.hid hbl; have HE := Lib.hid he; have HFE := Lib.hid hfe; have HN := Lib.hid hnil
        clear hown hbl he hfe hnil hsel hfr hbw
        go_wp2_with (go_at_call 42; refine (hcon _ _).mono ?_; rintro e w' ⟨rfl, rfl⟩)
        go_ret
        have := HOW.out
        unfold Sel at this
        rw [HN.out] at this
        exact ⟨.slice ua 0 uc, rfl, by rw [HFE.out]; exact row_base (B := w1.heap.size) this (by omega), HBL.out⟩
      · obtain ⟨g, rfl, hgB, hgl, _⟩ := row_at hown (by omega)
        have hcon := AnyQ.slices_SortFunc laySort 6 Tryd.isAgg61 Tryd.sizeOf61 encP (fun x => slotv_len _) (fun x v hv => by simp [encP, slotv] at hv; rcases hv with rfl | rfl | rfl | rfl | rfl | rfl <;> rfl) cfE swoE 41 #[] g 0 uc (sel S k).toArray wr
          (enters_of Tryd.func41 (by kernel_rfl) rfl) (cmpLays g 0 _ wr) (holds_row hown) hgl (by simp; omega)
        change Calls Tryd.prog 42 _ _ _ at hcon
        obtain ⟨M, hM⟩ : ∃ M, M = (sel S k).length := ⟨_, rfl⟩
        rw [show (sel S k).toArray.size = (sel S k).length by simp, ← hM] at hcon
        rw [← hM]
        have HOW := Lib.hid hown; have HBL := Lib.hid hbl; have HMM := Lib.hid hM; have HCN := Lib.hid hcon
        clear hown hbl hsel hfr hbw hcon hM he
        go_wp2_with (go_at_call 42; refine HCN.out.mono ?_; rintro e w' ⟨rfl, d', n', os, hp, hs, rfl⟩; have HP := Lib.hid hp; have HS := Lib.hid hs; clear hp hs)
        go_ret
        have hp := HP.out; have hs := HS.out
        rw [HMM.out, show (sel S k).length = (sel S k).toArray.size by simp] at hp hs
        have hd := sorted_is HO.out hp hs
        have hml : (fromE S k).length = (sel S k).length := by
          have := hp.1
          unfold fromE
          rw [← hd]; simpa using this
        refine ⟨.slice (some ⟨g, 0, none⟩) (fromE S k).length uc, by rw [hml, ← HMM.out]; rfl, row_base (B := w1.heap.size) (row_sorted HOW.out hd hml) (by omega), ?_⟩
        exact (Turn.of_below (fun k => k = g) HBL.out (Nat.le_refl _)).trans (turn_sorted) |>.below (fun k hk => by have hk : k = g := hk; omega) (Nat.le_refl _)
end
end Go.Proofs.YtbjginlhgedjdaaDoor.K
