/- The law LruPlays, walked. -/
import Derived.Test.YtbndhhlekfdppaaLawake
namespace Go.Proofs.Ytbndhhlekfdppaa.L
open Go.RowKit
set_option linter.unusedVariables false

/-- A variable's block is as it was. -/
def Bx (b : Nat) (X : Obj) (W : World) : Prop := W.heap[b]? = some X
theorem Bx.of {b : Nat} {X : Obj} {W : World} (h : W.heap[b]? = some X) : Bx b X W := h
theorem Bx.drew {b : Nat} {X : Obj} {W : World} (h : Bx b X W) : Bx b X W.drew := h
theorem Bx.cell {b : Nat} {cs : Array Value} {T : TypeId} {W : World} (h : Bx b (.cells cs T) W) (j : Nat) : W.cell? ⟨b, j, none⟩ = cs[j]? := cell_of_row W b j cs T (0, 0) h
/-- .. and what was there at w is. -/
structure Sx (w : World) (b : Nat) (X : Obj) (W : World) : Prop where
  bx : Bx b X W
  old : Old w W
theorem Sx.drew {w : World} {b : Nat} {X : Obj} {W : World} (h : Sx w b X W) : Sx w b X W.drew := ⟨h.bx.drew, h.old.drew⟩
theorem Sx.below {w : World} {b : Nat} {X : Obj} {W W' : World} (h : Sx w b X W) (hb : Below W.heap.size W W') : Sx w b X W' := ⟨(hb.block _ (Array.getElem?_eq_some_iff.1 h.bx).1).trans h.bx, h.old.below (hb.mono h.old.size)⟩
theorem Two.blocksS {Pc : Nat → World → Nat → (Nat → Prop) → Nat → List It → Prop} {B R pb qb most : Nat} {w1 w : World} {A : List (Nat × Obj)} {ld lr : List It} (C : CacheC Pc) (h : Two Pc B R w1 w pb qb most A ld lr) {b : Nat} {X : Obj} {W : World} (hW : Sx w b X W) :
    Calls Try.prog 15 #[.pointer (some ⟨pb, 0, none⟩)] W fun e w' => ∃ va vc, e = .returned (.slice va ld.length vc) ∧ Bks w' W.heap.size (.slice va ld.length vc) (ld.map Prod.fst) ∧ Sx w b X w' :=
  ((h.old C hW.old).blocksD C).mono fun e w' ⟨v, h1, h2, h3⟩ => by
    obtain ⟨va, vc, rfl⟩ := slice_form h2
    rw [List.length_map] at h1 h2
    exact ⟨va, vc, h1, h2, hW.below h3⟩
theorem items_old {w W : World} {B N : Nat} {a : Option Addr} {c : Nat} {l : List It} {b : Nat} {X : Obj} (h : Items w B (.slice a N c) l) (hN : N = l.length) (hW : Sx w b X W) : Items W B (.slice a N c) l :=
  owns_kept h (fun g hg => hW.old.block g (h.lt g hg).2)

set_option maxRecDepth 100000 in
set_option maxHeartbeats 2000000 in
theorem plays_no {Pc : Nat → World → Nat → (Nat → Prop) → Nat → List It → Prop} (C : CacheC Pc) (most : Int) (l : List Lop) (a : Option Addr) (cap : Nat) (w : World) (hm : most < 1 ∨ 64 < most) (hmr : -9223372036854775808 ≤ most ∧ most ≤ 9223372036854775807) (hl : l.length ≤ 9223372036854775807) :
    Calls Try.prog 3 #[.int .i64 most, .slice a l.length cap] w fun e w' => e = .returned (.bool true) ∧ Below w.heap.size w w' := by
  have HC := Lib.hid C; have HM := Lib.hid hm; have HMR := Lib.hid hmr
  clear C hm hmr
  generalize l.length = L at *
  go_enter Try.func3, Try.ntmps3
  go_wp2_with fail
  refine (awakeL_any HC.out w).mono ?_
  rintro e w1 ⟨rfl, b1⟩
  go_wp2_with fail
  refine (HC.out.newNo most w1 HMR.out HM.out).mono ?_
  rintro e w2 ⟨rfl, b2⟩
  go_wp2_with fail
  refine (refnew_no most w2 HM.out).mono ?_
  rintro e w3 ⟨rfl, rfl⟩
  go_wp2_with fail
  go_loopg [10] 0 (fun g it wr => it = .int .i64 0 ∧ wr = w2)
  case atStart => exact ⟨rfl, rfl⟩
  case round =>
    obtain ⟨rfl, rfl⟩ := hrel
    by_cases h0 : (0 : Int) < (L : Int)
    · go_wp2_with fail
      go_ret
      exact ⟨rfl, b1.trans (b2.mono b1.size)⟩
    · go_wp2_with fail
      go_ret
      exact ⟨rfl, b1.trans (b2.mono b1.size)⟩

set_option maxRecDepth 100000 in
set_option maxHeartbeats 4000000 in
theorem plays_yes {Pc : Nat → World → Nat → (Nat → Prop) → Nat → List It → Prop} (C : CacheC Pc) (most : Nat) (l : List Lop) (a : Option Addr) (cap : Nat) (w : World) (hm : 1 ≤ most ∧ most ≤ 64) (hl : l.length ≤ 9223372036854775807) (hK : LopsIn w a l) (hf : ∀ o ∈ l, o.fit) :
    Calls Try.prog 3 #[.int .i64 (most : Int), .slice a l.length cap] w fun e w' => e = .returned (.bool true) ∧ Below w.heap.size w w' := by
  have HC := Lib.hid C; have HM := Lib.hid hm; have HK := Lib.hid hK; have HF := Lib.hid hf
  obtain ⟨L, hL⟩ : ∃ L, L = l.length := ⟨_, rfl⟩
  obtain ⟨m, hmn⟩ : ∃ m, m = min L 150 := ⟨_, rfl⟩
  rw [← hL] at hl ⊢
  have HL := Lib.hid hL
  have hm1 : m ≤ L := by omega
  have hm2 : m ≤ 150 := by omega
  have HMN := Lib.hid hmn
  clear C hm hK hf hL hmn
  go_enter Try.func3, Try.ntmps3
  go_wp2_with fail
  refine (awakeL_any HC.out w).mono ?_
  rintro e w1 ⟨rfl, b1⟩
  have B1 := Lib.hid b1
  clear b1
  go_wp2_with fail
  refine (HC.out.newYes most w1 HM.out.1 HM.out.2).mono ?_
  rintro e w2 ⟨pb, F, rfl, h2, b2⟩
  have H2 := Lib.hid h2; have B2 := Lib.hid b2
  clear h2 b2
  go_wp2_with fail
  refine (refnew_yes most w2 HM.out.1 HM.out.2).mono ?_
  rintro e w3 ⟨qb, v, rfl, h3, b3⟩
  have HT0 := Lib.hid (two_new HC.out HM.out H2.out B2.out h3 b3)
  clear h3 b3 H2 B2
  go_wp2_with fail
  generalize w2.heap.size = R at *
  go_loopg [10] m (fun g it wr => ∃ (i : Nat) (S : List It), i + g = m ∧ it = .int .i64 i ∧ Two Pc w1.heap.size R w1 wr pb qb most [] S S)
  case atStart => exact ⟨0, _, by omega, rfl, HT0.out⟩
  case round =>
    obtain ⟨i, S, hi, rfl, hR⟩ := hrel
    by_cases hlt : i < m
    · have hiL : i < L := by omega
      have hi150 : i < 150 := by omega
      obtain ⟨o, ho⟩ : ∃ o, l[i]? = some o := ⟨l[i]'(by have := HL.out; omega), List.getElem?_eq_getElem _⟩
      have hof := HF.out o (List.mem_of_getElem? ho)
      have hbw := B1.out.trans (hR.bel.mono B1.out.size)
      obtain ⟨b, off, rfl, hbl, c0, c1, c2, c3⟩ := HK.out.at hbw (Nat.le_refl _) i o ho
      obtain ⟨od, hod0⟩ : ∃ od, od = o.d := ⟨_, rfl⟩
      rw [← hod0] at c0
      have HOF := Lib.hid hof
      have hba : Below wr.heap.size wr (wr.alloc (.cells #[.int .i64 od, .int .i64 o.b.seg, .int .i64 o.b.n, .string (bs o.s)] 34)) := (Below.refl _ _).alloc (Nat.le_refl _) _
      have HR4 := Lib.hid (hR.add HC.out hba (heap_alloc_new wr (.cells #[.int .i64 od, .int .i64 o.b.seg, .int .i64 o.b.n, .string (bs o.s)] 34)) (Nat.le_refl _))
      obtain ⟨G, hG⟩ : ∃ G, gk = G := ⟨_, rfl⟩
      have HG := Lib.hid hG
      clear hG hod0 hR ho hbw hba hof
      obtain ⟨ob, hob⟩ : ∃ ob, ob = wr.heap.size := ⟨_, rfl⟩
      rw [← hob] at HR4
      rcases Decidable.em (od = 0) with h0 | h0
      · as_aux_lemma =>
        obtain rfl : od = 0 := h0
        go_wp2_with fail
        rw [← hob]
        generalize hW4 : World.alloc wr _ = w5 at *
        clear hW4 hob
        refine (HR4.out.getD HC.out HOF.out.2.1).mono ?_
        rintro e w6 ⟨rfl, h6⟩
        have HR6 := Lib.hid h6
        clear h6 HR4
        have hcl := fun t => cell_of_row w6 ob t _ _ (0, 0) (HR6.out.box _ (List.mem_cons_self ..))
        have e1 := hcl 1; have e2 := hcl 2; have e3 := hcl 3
        simp only [List.getElem?_toArray, List.getElem?_cons_succ, List.getElem?_cons_zero] at e1 e2 e3
        clear hcl
        obtain ⟨tx, htx⟩ : ∃ tx, tx = bs (textOf S o.b) := ⟨_, rfl⟩
        obtain ⟨hx, hhx⟩ : ∃ hx, hx = hasB S o.b := ⟨_, rfl⟩
        rw [← htx, ← hhx]
        have HTX := Lib.hid htx; have HHX := Lib.hid hhx
        clear htx hhx
        go_wp2_with fail
        refine (HR6.out.getR HC.out o.b).mono ?_
        rintro e w7 ⟨rfl, h7⟩
        rw [← HTX.out, ← HHX.out]
        obtain ⟨S2, hS2⟩ : ∃ S2, S2 = getS S o.b := ⟨_, rfl⟩
        rw [← hS2] at h7
        have HR7 := Lib.hid h7.less
        clear h7 HR6 e1 e2 e3 hS2
        go_wp2_with fail
        obtain ⟨ia, ic, hib, hir⟩ := HR7.out.items
        obtain ⟨N, hN⟩ : ∃ N, N = S2.length := ⟨_, rfl⟩
        have hfew := HR7.out.okR.few
        have hmost := HR7.out.most
        have HBL := Lib.hid (fun W (hW : Sx w7 qb (.cells #[.int .i64 (most : Int), .slice ia S2.length ic] 44) W) => HR7.out.blocksS HC.out hW)
        have K0 : Sx w7 qb (.cells #[.int .i64 (most : Int), .slice ia S2.length ic] 44) w7 := ⟨hib, Old.refl _⟩
        rw [← hN] at hir K0 HBL hfew
        have n1 : ∀ W, Sx w7 qb (.cells #[.int .i64 (most : Int), .slice ia N ic] 44) W → W.cell? ⟨qb, 1, none⟩ = some (.slice ia N ic) := fun W hW => by rw [cell_of_row W qb 1 _ _ (0, 0) hW.bx]; rfl
        have HN := Lib.hid hN; have HIR := Lib.hid hir
        clear hib hir hN
        go_region_held3 (fun W => Sx w7 qb (.cells #[.int .i64 (most : Int), .slice ia N ic] 44) W) (first | assumption | exact K0 | exact K0.drew | exact Sx.drew ‹_›)
          (first
            | (go_at_call 15; (with_reducible refine (HBL.out _ ?_).mono ?_); assumption; rintro e w8 ⟨va, vc, rfl, hv8, k8⟩)
            | (go_at_call 14; refine (same_any hv8 (items_old HIR.out HN.out (by assumption)) (by have := HN.out; omega)).mono ?_; rintro e w9 ⟨rfl, b9⟩; have k9 := Sx.below (by assumption) b9))
        all_goals
          have HR9 := Lib.hid (HR7.out.old HC.out k9.old)
          clear n1 K0 HBL HIR HR7
          go_wp2_with fail
          have hG := HG.out
          go_roundg (G - 1)
          case measure => omega
          case rel => exact ⟨i + 1, S2, by omega, by go_num, HR9.out⟩
      rcases Decidable.em (od = 1) with h1 | h1
      · as_aux_lemma =>
        obtain rfl : od = 1 := h1
        go_wp2_with fail
        rw [← hob]
        generalize hW4 : World.alloc wr _ = w5 at *
        clear hW4 hob
        refine (HR4.out.getD HC.out HOF.out.2.1).mono ?_
        rintro e w6 ⟨rfl, h6⟩
        have HR6 := Lib.hid h6
        clear h6 HR4
        have hcl := fun t => cell_of_row w6 ob t _ _ (0, 0) (HR6.out.box _ (List.mem_cons_self ..))
        have e1 := hcl 1; have e2 := hcl 2; have e3 := hcl 3
        simp only [List.getElem?_toArray, List.getElem?_cons_succ, List.getElem?_cons_zero] at e1 e2 e3
        clear hcl
        obtain ⟨tx, htx⟩ : ∃ tx, tx = bs (textOf S o.b) := ⟨_, rfl⟩
        obtain ⟨hx, hhx⟩ : ∃ hx, hx = hasB S o.b := ⟨_, rfl⟩
        rw [← htx, ← hhx]
        have HTX := Lib.hid htx; have HHX := Lib.hid hhx
        clear htx hhx
        go_wp2_with fail
        refine (HR6.out.getR HC.out o.b).mono ?_
        rintro e w7 ⟨rfl, h7⟩
        rw [← HTX.out, ← HHX.out]
        obtain ⟨S2, hS2⟩ : ∃ S2, S2 = getS S o.b := ⟨_, rfl⟩
        rw [← hS2] at h7
        have HR7 := Lib.hid h7.less
        clear h7 HR6 e1 e2 e3 hS2
        go_wp2_with fail
        obtain ⟨ia, ic, hib, hir⟩ := HR7.out.items
        obtain ⟨N, hN⟩ : ∃ N, N = S2.length := ⟨_, rfl⟩
        have hfew := HR7.out.okR.few
        have hmost := HR7.out.most
        have HBL := Lib.hid (fun W (hW : Sx w7 qb (.cells #[.int .i64 (most : Int), .slice ia S2.length ic] 44) W) => HR7.out.blocksS HC.out hW)
        have K0 : Sx w7 qb (.cells #[.int .i64 (most : Int), .slice ia S2.length ic] 44) w7 := ⟨hib, Old.refl _⟩
        rw [← hN] at hir K0 HBL hfew
        have n1 : ∀ W, Sx w7 qb (.cells #[.int .i64 (most : Int), .slice ia N ic] 44) W → W.cell? ⟨qb, 1, none⟩ = some (.slice ia N ic) := fun W hW => by rw [cell_of_row W qb 1 _ _ (0, 0) hW.bx]; rfl
        have HN := Lib.hid hN; have HIR := Lib.hid hir
        clear hib hir hN
        go_region_held3 (fun W => Sx w7 qb (.cells #[.int .i64 (most : Int), .slice ia N ic] 44) W) (first | assumption | exact K0 | exact K0.drew | exact Sx.drew ‹_›)
          (first
            | (go_at_call 15; (with_reducible refine (HBL.out _ ?_).mono ?_); assumption; rintro e w8 ⟨va, vc, rfl, hv8, k8⟩)
            | (go_at_call 14; refine (same_any hv8 (items_old HIR.out HN.out (by assumption)) (by have := HN.out; omega)).mono ?_; rintro e w9 ⟨rfl, b9⟩; have k9 := Sx.below (by assumption) b9))
        all_goals
          have HR9 := Lib.hid (HR7.out.old HC.out k9.old)
          clear n1 K0 HBL HIR HR7
          go_wp2_with fail
          have hG := HG.out
          go_roundg (G - 1)
          case measure => omega
          case rel => exact ⟨i + 1, S2, by omega, by go_num, HR9.out⟩
      rcases Decidable.em (od = 2) with h2 | h2
      · as_aux_lemma =>
        obtain rfl : od = 2 := h2
        go_wp2_with fail
        rw [← hob]
        generalize hW4 : World.alloc wr _ = w5 at *
        clear hW4 hob
        refine (HR4.out.putD HC.out HOF.out.2.1 HOF.out.2.2).mono ?_
        rintro e w6 ⟨rfl, h6⟩
        have HR6 := Lib.hid h6
        clear h6 HR4
        have hcl := fun t => cell_of_row w6 ob t _ _ (0, 0) (HR6.out.box _ (List.mem_cons_self ..))
        have e1 := hcl 1; have e2 := hcl 2; have e3 := hcl 3
        simp only [List.getElem?_toArray, List.getElem?_cons_succ, List.getElem?_cons_zero] at e1 e2 e3
        clear hcl
        go_wp2_with fail
        refine (HR6.out.putR HC.out o.b o.s).mono ?_
        rintro e w7 ⟨rfl, h7⟩
        obtain ⟨S2, hS2⟩ : ∃ S2, S2 = putS most S o.b o.s := ⟨_, rfl⟩
        rw [← hS2] at h7
        have HR7 := Lib.hid h7.less
        clear h7 HR6 e1 e2 e3 hS2
        go_wp2_with fail
        obtain ⟨ia, ic, hib, hir⟩ := HR7.out.items
        obtain ⟨N, hN⟩ : ∃ N, N = S2.length := ⟨_, rfl⟩
        have hfew := HR7.out.okR.few
        have hmost := HR7.out.most
        have HBL := Lib.hid (fun W (hW : Sx w7 qb (.cells #[.int .i64 (most : Int), .slice ia S2.length ic] 44) W) => HR7.out.blocksS HC.out hW)
        have K0 : Sx w7 qb (.cells #[.int .i64 (most : Int), .slice ia S2.length ic] 44) w7 := ⟨hib, Old.refl _⟩
        rw [← hN] at hir K0 HBL hfew
        have n1 : ∀ W, Sx w7 qb (.cells #[.int .i64 (most : Int), .slice ia N ic] 44) W → W.cell? ⟨qb, 1, none⟩ = some (.slice ia N ic) := fun W hW => by rw [cell_of_row W qb 1 _ _ (0, 0) hW.bx]; rfl
        have HN := Lib.hid hN; have HIR := Lib.hid hir
        clear hib hir hN
        go_region_held3 (fun W => Sx w7 qb (.cells #[.int .i64 (most : Int), .slice ia N ic] 44) W) (first | assumption | exact K0 | exact K0.drew | exact Sx.drew ‹_›)
          (first
            | (go_at_call 15; (with_reducible refine (HBL.out _ ?_).mono ?_); assumption; rintro e w8 ⟨va, vc, rfl, hv8, k8⟩)
            | (go_at_call 14; refine (same_any hv8 (items_old HIR.out HN.out (by assumption)) (by have := HN.out; omega)).mono ?_; rintro e w9 ⟨rfl, b9⟩; have k9 := Sx.below (by assumption) b9))
        all_goals
          have HR9 := Lib.hid (HR7.out.old HC.out k9.old)
          clear n1 K0 HBL HIR HR7
          go_wp2_with fail
          have hG := HG.out
          go_roundg (G - 1)
          case measure => omega
          case rel => exact ⟨i + 1, S2, by omega, by go_num, HR9.out⟩
      rcases Decidable.em (od = 3) with h3 | h3
      · as_aux_lemma =>
        obtain rfl : od = 3 := h3
        go_wp2_with fail
        rw [← hob]
        generalize hW4 : World.alloc wr _ = w5 at *
        clear hW4 hob
        refine (HR4.out.putD HC.out HOF.out.2.1 HOF.out.2.2).mono ?_
        rintro e w6 ⟨rfl, h6⟩
        have HR6 := Lib.hid h6
        clear h6 HR4
        have hcl := fun t => cell_of_row w6 ob t _ _ (0, 0) (HR6.out.box _ (List.mem_cons_self ..))
        have e1 := hcl 1; have e2 := hcl 2; have e3 := hcl 3
        simp only [List.getElem?_toArray, List.getElem?_cons_succ, List.getElem?_cons_zero] at e1 e2 e3
        clear hcl
        go_wp2_with fail
        refine (HR6.out.putR HC.out o.b o.s).mono ?_
        rintro e w7 ⟨rfl, h7⟩
        obtain ⟨S2, hS2⟩ : ∃ S2, S2 = putS most S o.b o.s := ⟨_, rfl⟩
        rw [← hS2] at h7
        have HR7 := Lib.hid h7.less
        clear h7 HR6 e1 e2 e3 hS2
        go_wp2_with fail
        obtain ⟨ia, ic, hib, hir⟩ := HR7.out.items
        obtain ⟨N, hN⟩ : ∃ N, N = S2.length := ⟨_, rfl⟩
        have hfew := HR7.out.okR.few
        have hmost := HR7.out.most
        have HBL := Lib.hid (fun W (hW : Sx w7 qb (.cells #[.int .i64 (most : Int), .slice ia S2.length ic] 44) W) => HR7.out.blocksS HC.out hW)
        have K0 : Sx w7 qb (.cells #[.int .i64 (most : Int), .slice ia S2.length ic] 44) w7 := ⟨hib, Old.refl _⟩
        rw [← hN] at hir K0 HBL hfew
        have n1 : ∀ W, Sx w7 qb (.cells #[.int .i64 (most : Int), .slice ia N ic] 44) W → W.cell? ⟨qb, 1, none⟩ = some (.slice ia N ic) := fun W hW => by rw [cell_of_row W qb 1 _ _ (0, 0) hW.bx]; rfl
        have HN := Lib.hid hN; have HIR := Lib.hid hir
        clear hib hir hN
        go_region_held3 (fun W => Sx w7 qb (.cells #[.int .i64 (most : Int), .slice ia N ic] 44) W) (first | assumption | exact K0 | exact K0.drew | exact Sx.drew ‹_›)
          (first
            | (go_at_call 15; (with_reducible refine (HBL.out _ ?_).mono ?_); assumption; rintro e w8 ⟨va, vc, rfl, hv8, k8⟩)
            | (go_at_call 14; refine (same_any hv8 (items_old HIR.out HN.out (by assumption)) (by have := HN.out; omega)).mono ?_; rintro e w9 ⟨rfl, b9⟩; have k9 := Sx.below (by assumption) b9))
        all_goals
          have HR9 := Lib.hid (HR7.out.old HC.out k9.old)
          clear n1 K0 HBL HIR HR7
          go_wp2_with fail
          have hG := HG.out
          go_roundg (G - 1)
          case measure => omega
          case rel => exact ⟨i + 1, S2, by omega, by go_num, HR9.out⟩
      rcases Decidable.em (od = 4) with h4 | h4
      · as_aux_lemma =>
        obtain rfl : od = 4 := h4
        go_wp2_with fail
        rw [← hob]
        generalize hW4 : World.alloc wr _ = w5 at *
        clear hW4 hob
        refine (HR4.out.putD HC.out HOF.out.2.1 HOF.out.2.2).mono ?_
        rintro e w6 ⟨rfl, h6⟩
        have HR6 := Lib.hid h6
        clear h6 HR4
        have hcl := fun t => cell_of_row w6 ob t _ _ (0, 0) (HR6.out.box _ (List.mem_cons_self ..))
        have e1 := hcl 1; have e2 := hcl 2; have e3 := hcl 3
        simp only [List.getElem?_toArray, List.getElem?_cons_succ, List.getElem?_cons_zero] at e1 e2 e3
        clear hcl
        go_wp2_with fail
        refine (HR6.out.putR HC.out o.b o.s).mono ?_
        rintro e w7 ⟨rfl, h7⟩
        obtain ⟨S2, hS2⟩ : ∃ S2, S2 = putS most S o.b o.s := ⟨_, rfl⟩
        rw [← hS2] at h7
        have HR7 := Lib.hid h7.less
        clear h7 HR6 e1 e2 e3 hS2
        go_wp2_with fail
        obtain ⟨ia, ic, hib, hir⟩ := HR7.out.items
        obtain ⟨N, hN⟩ : ∃ N, N = S2.length := ⟨_, rfl⟩
        have hfew := HR7.out.okR.few
        have hmost := HR7.out.most
        have HBL := Lib.hid (fun W (hW : Sx w7 qb (.cells #[.int .i64 (most : Int), .slice ia S2.length ic] 44) W) => HR7.out.blocksS HC.out hW)
        have K0 : Sx w7 qb (.cells #[.int .i64 (most : Int), .slice ia S2.length ic] 44) w7 := ⟨hib, Old.refl _⟩
        rw [← hN] at hir K0 HBL hfew
        have n1 : ∀ W, Sx w7 qb (.cells #[.int .i64 (most : Int), .slice ia N ic] 44) W → W.cell? ⟨qb, 1, none⟩ = some (.slice ia N ic) := fun W hW => by rw [cell_of_row W qb 1 _ _ (0, 0) hW.bx]; rfl
        have HN := Lib.hid hN; have HIR := Lib.hid hir
        clear hib hir hN
        go_region_held3 (fun W => Sx w7 qb (.cells #[.int .i64 (most : Int), .slice ia N ic] 44) W) (first | assumption | exact K0 | exact K0.drew | exact Sx.drew ‹_›)
          (first
            | (go_at_call 15; (with_reducible refine (HBL.out _ ?_).mono ?_); assumption; rintro e w8 ⟨va, vc, rfl, hv8, k8⟩)
            | (go_at_call 14; refine (same_any hv8 (items_old HIR.out HN.out (by assumption)) (by have := HN.out; omega)).mono ?_; rintro e w9 ⟨rfl, b9⟩; have k9 := Sx.below (by assumption) b9))
        all_goals
          have HR9 := Lib.hid (HR7.out.old HC.out k9.old)
          clear n1 K0 HBL HIR HR7
          go_wp2_with fail
          have hG := HG.out
          go_roundg (G - 1)
          case measure => omega
          case rel => exact ⟨i + 1, S2, by omega, by go_num, HR9.out⟩
      · as_aux_lemma =>
        have n0 : (od == 0) = false := by rw [beq_eq_false_iff_ne]; exact h0
        have n1 : (od == 1) = false := by rw [beq_eq_false_iff_ne]; exact h1
        have n2 : (od == 2) = false := by rw [beq_eq_false_iff_ne]; exact h2
        have n3 : (od == 3) = false := by rw [beq_eq_false_iff_ne]; exact h3
        have n4 : (od == 4) = false := by rw [beq_eq_false_iff_ne]; exact h4
        go_wp2_with fail
        rw [← hob]
        generalize hW4 : World.alloc wr _ = w5 at *
        clear hW4 hob
        have K0 := Bx.of (HR4.out.box _ (List.mem_cons_self ..))
        have m1 : ∀ W, Bx ob (.cells #[.int .i64 od, .int .i64 o.b.seg, .int .i64 o.b.n, .string (bs o.s)] 34) W → W.cell? ⟨ob, 1, none⟩ = some (.int .i64 o.b.seg) := fun W hW => hW.cell 1
        have HDD := Lib.hid (fun W (hW : Old w5 W) => (HR4.out.old HC.out hW).dropD HC.out HOF.out.2.1.1)
        obtain ⟨dn, hdn⟩ : ∃ dn : Int, dn = (S.length : Int) - ((dropS S o.b.seg).length : Int) := ⟨_, rfl⟩
        rw [← hdn] at HDD
        have HDN := Lib.hid hdn
        clear hdn
        go_region_held3 (fun W => Bx ob (.cells #[.int .i64 od, .int .i64 o.b.seg, .int .i64 o.b.n, .string (bs o.s)] 34) W) (first | assumption | exact K0 | exact K0.drew | exact Bx.drew ‹_›)
          (first
            | (go_at_call 12
               refine (HDD.out _ (by first | exact Old.refl _ | exact (Old.refl _).drew)).mono ?_
               rintro e w6 ⟨rfl, h6⟩
               have HR6 := Lib.hid h6
               have K6 := Bx.of (h6.box _ (List.mem_cons_self ..))
               clear h6)
            | (go_at_call 13
               have hdr := (HR6.out.old HC.out (by first | exact Old.refl _ | exact (Old.refl _).drew | exact ((Old.refl _).drew).drew)).dropR HC.out o.b.seg
               rw [← HDN.out] at hdr
               refine hdr.mono ?_
               rintro e w7 ⟨rfl, h7⟩
               have HR7 := Lib.hid h7
               have K7 := Bx.of (h7.box _ (List.mem_cons_self ..))
               clear h7 hdr))
        obtain ⟨S2, hS2⟩ : ∃ S2, S2 = dropS S o.b.seg := ⟨_, rfl⟩
        rw [← hS2] at HR7
        have HR8 := Lib.hid HR7.out.less
        clear HR7 HR6 K0 K6 K7 m1 hS2 HDD HR4
        have HR7 := HR8
        clear HR8
        go_wp2_with fail
        obtain ⟨ia, ic, hib, hir⟩ := HR7.out.items
        obtain ⟨N, hN⟩ : ∃ N, N = S2.length := ⟨_, rfl⟩
        have hfew := HR7.out.okR.few
        have hmost := HR7.out.most
        have HBL := Lib.hid (fun W (hW : Sx w7 qb (.cells #[.int .i64 (most : Int), .slice ia S2.length ic] 44) W) => HR7.out.blocksS HC.out hW)
        have K0 : Sx w7 qb (.cells #[.int .i64 (most : Int), .slice ia S2.length ic] 44) w7 := ⟨hib, Old.refl _⟩
        rw [← hN] at hir K0 HBL hfew
        have n1 : ∀ W, Sx w7 qb (.cells #[.int .i64 (most : Int), .slice ia N ic] 44) W → W.cell? ⟨qb, 1, none⟩ = some (.slice ia N ic) := fun W hW => by rw [cell_of_row W qb 1 _ _ (0, 0) hW.bx]; rfl
        have HN := Lib.hid hN; have HIR := Lib.hid hir
        clear hib hir hN
        go_region_held3 (fun W => Sx w7 qb (.cells #[.int .i64 (most : Int), .slice ia N ic] 44) W) (first | assumption | exact K0 | exact K0.drew | exact Sx.drew ‹_›)
          (first
            | (go_at_call 15; (with_reducible refine (HBL.out _ ?_).mono ?_); assumption; rintro e w8 ⟨va, vc, rfl, hv8, k8⟩)
            | (go_at_call 14; refine (same_any hv8 (items_old HIR.out HN.out (by assumption)) (by have := HN.out; omega)).mono ?_; rintro e w9 ⟨rfl, b9⟩; have k9 := Sx.below (by assumption) b9))
        all_goals
          have HR9 := Lib.hid (HR7.out.old HC.out k9.old)
          clear n1 K0 HBL HIR HR7
          go_wp2_with fail
          have hG := HG.out
          go_roundg (G - 1)
          case measure => omega
          case rel => exact ⟨i + 1, S2, by omega, by go_num, HR9.out⟩
    · obtain rfl : i = m := by omega
      have HB := Lib.hid hR.bel
      clear hR
      by_cases hiL : i < L
      · have h150 : ¬ i < 150 := by have := HMN.out; omega
        go_wp2_with fail
        go_ret
        exact ⟨rfl, B1.out.trans (HB.out.mono B1.out.size)⟩
      · go_wp2_with fail
        go_ret
        exact ⟨rfl, B1.out.trans (HB.out.mono B1.out.size)⟩
end Go.Proofs.Ytbndhhlekfdppaa.L
