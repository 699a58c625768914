/- The law LruLast, walked. -/
import Derived.Test.YtbndhhlekfdppaaLone
namespace Go.Proofs.Ytbndhhlekfdppaa.L
open Go.RowKit
set_option linter.unusedVariables false

set_option maxRecDepth 100000 in
set_option maxHeartbeats 2000000 in
theorem last_no {Pc : Nat → World → Nat → (Nat → Prop) → Nat → List It → Prop} (C : CacheC Pc) (most : Int) (l : List Lop) (a : Option Addr) (cap : Nat) (w : World) (hm : most < 1 ∨ 64 < most) (hmr : -9223372036854775808 ≤ most ∧ most ≤ 9223372036854775807) (hl : l.length ≤ 9223372036854775807) :
    Calls Try.prog 4 #[.int .i64 most, .slice a l.length cap] w fun e w' => e = .returned (.bool true) ∧ Below w.heap.size w w' := by
  have HC := Lib.hid C; have HM := Lib.hid hm; have HMR := Lib.hid hmr
  clear C hm hmr
  generalize l.length = L at *
  go_enter Try.func4, Try.ntmps4
  go_wp2_with fail
  refine (awakeL_any HC.out w).mono ?_
  rintro e w1 ⟨rfl, b1⟩
  go_wp2_with fail
  refine (HC.out.newNo most w1 HMR.out HM.out).mono ?_
  rintro e w2 ⟨rfl, b2⟩
  go_wp2_with fail
  go_ret
  exact ⟨rfl, b1.trans (b2.mono b1.size)⟩
set_option maxRecDepth 100000 in
set_option maxHeartbeats 2000000 in
theorem last_big {Pc : Nat → World → Nat → (Nat → Prop) → Nat → List It → Prop} (C : CacheC Pc) (most : Nat) (l : List Lop) (a : Option Addr) (cap : Nat) (w : World) (hm : 1 ≤ most ∧ most ≤ 64) (hl : l.length ≤ 9223372036854775807) (hb : 100 < l.length) :
    Calls Try.prog 4 #[.int .i64 (most : Int), .slice a l.length cap] w fun e w' => e = .returned (.bool true) ∧ Below w.heap.size w w' := by
  have HC := Lib.hid C; have HM := Lib.hid hm
  clear C hm
  generalize l.length = L at *
  go_enter Try.func4, Try.ntmps4
  go_wp2_with fail
  refine (awakeL_any HC.out w).mono ?_
  rintro e w1 ⟨rfl, b1⟩
  go_wp2_with fail
  refine (HC.out.newYes most w1 HM.out.1 HM.out.2).mono ?_
  rintro e w2 ⟨pb, F, rfl, h2, b2⟩
  go_wp2_with fail
  go_ret
  exact ⟨rfl, b1.trans (b2.mono b1.size)⟩

theorem infoBlk : (Try.prog.info? 32).map (fun i => (i.zero, i.size, i.bytes)) = some (some (.agg #[.int .i64 0, .int .i64 0]), 2, 16) := by kernel_rfl
theorem src_one2 (w : World) (xs xn : Int) : Src Try.prog 2 40 (.slice (some ⟨w.heap.size, 0, none⟩) 1 1) 1 [.int .i64 xs, .int .i64 xn] (w.alloc (.cells #[.int .i64 xs, .int .i64 xn] 32)) :=
  Src.ofSlice _ Try.underlying40 ⟨w.heap.size, 0, none⟩ 1 1 _ rfl (fun j u hu => by
    rw [Addr.add_lit, Nat.zero_add, cell_of_row _ w.heap.size j _ _ (0, 0) (heap_alloc_new w _)]
    simpa using hu) (fun u hu => by simp at hu; rcases hu with rfl | rfl <;> rfl)
theorem row7 {w : World} {B N : Nat} {v : Value} {l : List Bk} {b : Bk} (hN : N = l.length) (h : w.ownsRow B 32 2 v (N + 1) (bflat l ++ [.int .i64 b.seg, .int .i64 b.n])) : Bks w B v (l ++ [b]) := by
  unfold Bks
  rw [bflat_append, List.length_append, ← hN]
  exact h
set_option maxRecDepth 100000 in
set_option maxHeartbeats 20000000 in
theorem last_yes {Pc : Nat → World → Nat → (Nat → Prop) → Nat → List It → Prop} (C : CacheC Pc) (most : Nat) (l : List Lop) (a : Option Addr) (cap : Nat) (w : World) (hm : 1 ≤ most ∧ most ≤ 64) (hl : l.length ≤ 100) (hK : LopsIn w a l) (hf : ∀ o ∈ l, o.fit) :
    Calls Try.prog 4 #[.int .i64 (most : Int), .slice a l.length cap] w fun e w' => e = .returned (.bool true) ∧ Below w.heap.size w w' := by
  have HC := Lib.hid C; have HM := Lib.hid hm; have HK := Lib.hid hK; have HF := Lib.hid hf
  obtain ⟨L, hL⟩ : ∃ L, L = l.length := ⟨_, rfl⟩
  rw [← hL] at hl ⊢
  have HL := Lib.hid hL
  obtain ⟨i0, hi0, hz0, hz1, hz2⟩ := info_parts infoBlk
  have HI := Lib.hid (And.intro hi0 (And.intro hz0 (And.intro hz1 hz2)))
  clear C hm hK hf hL hi0 hz0 hz1 hz2
  have hmm := @run_makeMap Try.prog
  go_enter Try.func4, Try.ntmps4
  go_wp2_with fail
  refine (awakeL_any HC.out w).mono ?_
  rintro e w1 ⟨rfl, b1⟩
  have B1 := Lib.hid b1
  clear b1
  go_wp2_with fail
  refine (HC.out.newYes most w1 HM.out.1 HM.out.2).mono ?_
  rintro e w2 ⟨pb, F, rfl, h2, b2⟩
  have HT0 := Lib.hid (lst_new HC.out HM.out h2 b2)
  clear h2 b2
  go_wp2_with fail
  generalize hmb : w2.heap.size = mb at *
  generalize World.alloc w2 _ = w3 at *
  clear hmb hmm
  go_loopg [9, 10] L (fun g us it wr => ∃ (i : Nat) (S : List It) (u : List Bk) (f : Bk → List UInt8) (n : Nat) (ua : Option Addr) (uc : Nat), i + g = L ∧ it = .int .i64 i ∧ us = .slice ua u.length uc ∧ n ≤ i ∧ Was S u f ∧ Us wr ua u ∧ Lst Pc w1.heap.size w1 wr pb most mb n f S (At ua))
  case atStart => exact ⟨0, [], [], _, 0, none, 0, by omega, rfl, rfl, Nat.le_refl _, was_nil, us_nil _ _, HT0.out.clear HC.out (Below.refl _ _) (fun g hg => by obtain ⟨off, h⟩ := hg; cases h)⟩
  case round =>
    obtain ⟨i, S, u, f, n, ua, uc, hi, rfl, rfl, hn, hwas, hus, hR⟩ := hrel
    obtain ⟨U, hU⟩ : ∃ U, U = u.length := ⟨_, rfl⟩
    have hUm : U ≤ most := by have := hR.ok.few; rw [hU, ← hwas.len]; exact this
    have hUf : most ≤ 64 := hR.most.2
    have hm1 : 1 ≤ most := hR.most.1
    rw [← hU]
    have HU := Lib.hid hU
    clear hU
    by_cases hlt : i < L
    · obtain ⟨o, ho⟩ : ∃ o, l[i]? = some o := ⟨l[i]'(by have := HL.out; omega), List.getElem?_eq_getElem _⟩
      have hof := HF.out o (List.mem_of_getElem? ho)
      have hbw := B1.out.trans (hR.bel.mono B1.out.size)
      obtain ⟨b, off, rfl, hbl, c0, c1, c2, c3⟩ := HK.out.at hbw (Nat.le_refl _) i o ho
      obtain ⟨od, hod0⟩ : ∃ od, od = o.d := ⟨_, rfl⟩
      rw [← hod0] at c0
      have HOF := Lib.hid hof
      have hba : Below wr.heap.size wr (wr.alloc (.cells #[.int .i64 od, .int .i64 o.b.seg, .int .i64 o.b.n, .string (bs o.s)] 34)) := (Below.refl _ _).alloc (Nat.le_refl _) _
      have hX := heap_alloc_new wr (.cells #[.int .i64 od, .int .i64 o.b.seg, .int .i64 o.b.n, .string (bs o.s)] 34)
      have HW := Lib.hid hwas
      have HUS := Lib.hid (hus.kept hba.size (fun g hg => hba.block g ((hR.dir.choose_spec).2.2 g hg).1))
      obtain ⟨ob, hob⟩ : ∃ ob, ob = wr.heap.size := ⟨_, rfl⟩
      have HR0 := Lib.hid (hR.clear HC.out hba (Cl' := fun g => At ua g ∨ g = ob) (fun g hg => by
        rcases hg with hg | rfl
        · exact Or.inl hg
        · exact Or.inr ⟨by omega, by rw [hob]; simp⟩))
      have HOB := Lib.hid hob
      rw [← hob] at hX
      have hcl := fun t => cell_of_row _ ob t _ _ (0, 0) hX
      have e0 := hcl 0; have e1 := hcl 1; have e2 := hcl 2; have e3 := hcl 3
      simp only [List.getElem?_toArray, List.getElem?_cons_succ, List.getElem?_cons_zero] at e0 e1 e2 e3
      have obl : ob < (wr.alloc (.cells #[.int .i64 od, .int .i64 o.b.seg, .int .i64 o.b.n, .string (bs o.s)] 34)).heap.size := by rw [hob]; simp
      obtain ⟨G, hG⟩ : ∃ G, gk = G := ⟨_, rfl⟩
      have HG := Lib.hid hG
      clear hG hod0 hR ho hbw hba hof hus hwas hcl
      go_wp2_with fail
      rw [← hob]
      generalize hW4 : World.alloc wr _ = w5 at *
      clear hW4 hob c0 c1 c2 c3 hbl hX
      have w5m : mb < w5.heap.size := HR0.out.map.lt
      go_loopg [12, 13] U (fun g nx kt wq => ∃ (k : Nat) (v : Value), k + g = U ∧ kt = .int .i64 k ∧ v = nx ∧ Bks wq w5.heap.size v (wob (u.take k) o.b) ∧ Below w5.heap.size w5 wq)
      case atStart => exact ⟨0, _, by omega, rfl, rfl, World.ownsRow_nil _ _ _ _, Below.refl _ _⟩
      case round =>
        obtain ⟨k, v, hk, rfl, rfl, hown, hbw⟩ := hrel
        by_cases hkt : k < U
        · obtain ⟨x, hx⟩ : ∃ x, u[k]? = some x := ⟨u[k]'(by have := HU.out; omega), List.getElem?_eq_getElem _⟩
          obtain ⟨g, goff, hg, hgl, d0, d1⟩ := HUS.out k x hx
          subst hg
          have f0 := (hbw.cell (p := ⟨g, _, none⟩) hgl).trans d0
          have f1 := (hbw.cell (p := ⟨g, _, none⟩) hgl).trans d1
          have k1 := (hbw.cell (p := ⟨ob, 1, none⟩) obl).trans e1
          have k2 := (hbw.cell (p := ⟨ob, 2, none⟩) obl).trans e2
          have htk : wob (u.take (k + 1)) o.b = if x = o.b then wob (u.take k) o.b else wob (u.take k) o.b ++ [x] := by rw [List.take_add_one, hx]; exact wob_snoc _ _ _
          have hml : (wob (u.take k) o.b).length ≤ k := Nat.le_trans (wob_len _ _) (List.length_take_le _ _)
          have hbz := hbw.size
          have HBW := Lib.hid hbw; have HO := Lib.hid hown
          clear hx d0 d1 hown hbw
          by_cases hb : x = o.b
          · have b1 : (x.seg == o.b.seg) = true := by rw [hb]; simp
            have b2 : (x.n == o.b.n) = true := by rw [hb]; simp
            rw [if_pos hb] at htk
            have HT := Lib.hid htk
            clear htk hb e0 e1 e2 e3
            generalize x.seg = xs at *
            generalize x.n = xn at *
            generalize o.b.seg = ys at *
            generalize o.b.n = yn at *
            go_wp2_with fail
            go_quiet (fail)
            have bq := below_drewN (Below.refl wr.heap.size wr) nq
            have HO2 := Lib.hid (owns_kept HO.out (fun g hg => bq.block g (HO.out.lt g hg).2) : Bks (wr.drewN nq) w5.heap.size v _)
            have HB2 := Lib.hid (HBW.out.trans (bq.mono hbz))
            generalize wr.drewN nq = w6 at *
            go_wp2_with fail
            go_roundg (gk - 1)
            case measure => omega
            case rel => exact ⟨k + 1, _, by omega, by go_num, rfl, by rw [HT.out]; exact HO2.out, HB2.out⟩
          · have hne : (x.seg == o.b.seg) = false ∨ ((x.seg == o.b.seg) = true ∧ (x.n == o.b.n) = false) := by
              obtain ⟨xs, xn⟩ := x
              by_cases h1 : xs = o.b.seg
              · exact Or.inr ⟨by simpa using h1, by simpa using fun h2 => hb (by rw [h1, h2])⟩
              · exact Or.inl (by simpa using h1)
            rw [if_neg hb] at htk
            have HT := Lib.hid htk
            have hx1 : bflat [x] = [.int .i64 x.seg, .int .i64 x.n] := rfl
            have HX1 := Lib.hid hx1
            have HLN := Lib.hid (show (wob (u.take k) o.b).length + 1 ≤ 1099511627776 by omega)
            clear htk hb hx1 e0 e1 e2 e3
            generalize x.seg = xs at *
            generalize x.n = xn at *
            obtain ⟨ys, hys⟩ : ∃ ys, ys = o.b.seg := ⟨_, rfl⟩
            obtain ⟨yn, hyn⟩ : ∃ yn, yn = o.b.n := ⟨_, rfl⟩
            rw [← hys] at k1 hne
            rw [← hyn] at k2 hne
            clear hys hyn
            rcases hne with b1 | ⟨b1, b2⟩
            all_goals
              go_wp2_with fail
              go_quiet (fail)
              have bq := below_drewN (Below.refl wr.heap.size wr) nq
              have HO2 := Lib.hid (owns_kept HO.out (fun g hg => bq.block g (HO.out.lt g hg).2) : Bks (wr.drewN nq) w5.heap.size v _)
              have HB2 := Lib.hid (HBW.out.trans (bq.mono hbz))
              have e0q : (wr.drewN nq).cell? ⟨g, goff + k * 2, none⟩ = some (.int .i64 xs) := f0
              have e1q : (wr.drewN nq).cell? ⟨g, goff + k * 2 + 1, none⟩ = some (.int .i64 xn) := f1
              generalize wr.drewN nq = w6 at *
              clear f0 f1 k1 k2 HO HBW bq
              have hz2 := HB2.out.size
              go_wp2_with (at_builtin; refine wpList_append_row _ rfl _ _ 40 rfl w5.heap.size 32 i0 _ 2 16 Try.underlying40 HI.out.1 HI.out.2.1 HI.out.2.2.1 HI.out.2.2.2 (by omega) rfl v _ _ rfl (World.ownsRow.alloc HO2.out _) (.slice (some ⟨w6.heap.size, 0, none⟩) 1 1) 1 [.int .i64 xs, .int .i64 xn] rfl (src_one2 w6 xs xn) HLN.out (by rw [World.size_alloc]; omega) ?_; intro a' c' w7 h7 hg7 _; have H7 := Lib.hid h7; have HG7 := Lib.hid hg7; clear h7 hg7)
              go_roundg (gk - 1)
              case measure => omega
              case rel =>
                refine ⟨k + 1, _, by omega, by go_num, rfl, ?_, Below.grown (HB2.out.alloc hz2 _) HG7.out (by rw [World.size_alloc]; omega) (fun j hj => (HO2.out.lt j hj).1)⟩
                rw [HT.out]
                unfold Bks
                rw [bflat_append, HX1.out, List.length_append]
                exact H7.out
        · obtain rfl : k = U := by omega
          have hall : u.take k = u := List.take_of_length_le (by rw [HU.out]; exact Nat.le_refl _)
          rw [hall] at hown
          obtain ⟨N, hN⟩ : ∃ N, N = (wob u o.b).length := ⟨_, rfl⟩
          have hNU : N ≤ k := by rw [hN, HU.out]; exact wob_len _ _
          obtain ⟨na, nc, hv⟩ := slice_form hown
          rw [← hN] at hv
          subst hv
          have HO := Lib.hid hown
          have HNN := Lib.hid hN
          have h51 : w1.heap.size ≤ w5.heap.size := HR0.out.bel.size
          have HR1 := Lib.hid (HR0.out.clear HC.out hbw (Cl' := fun g => (At ua g ∨ g = ob) ∨ (Value.slice na N nc).ownBlock = some g) (fun g hg => by
            rcases hg with hg | hg
            · exact Or.inl hg
            · exact Or.inr (HO.out.lt g hg)))
          have HUSw := Lib.hid (HUS.out.kept hbw.size (fun g hg => hbw.block g (HR0.out.dir.choose_spec.2.2 g (Or.inl hg)).1))
          have e0w := (hbw.cell (p := ⟨ob, 0, none⟩) obl).trans e0
          have e1w := (hbw.cell (p := ⟨ob, 1, none⟩) obl).trans e1
          have e2w := (hbw.cell (p := ⟨ob, 2, none⟩) obl).trans e2
          have e3w := (hbw.cell (p := ⟨ob, 3, none⟩) obl).trans e3
          have oblw : ob < wr.heap.size := Nat.lt_of_lt_of_le obl hbw.size
          have HB5 := Lib.hid hbw
          clear e0 e1 e2 e3 obl hbw hown hN hall HR0 HUS w5m
          by_cases hd : od < 2
          · by_cases hh : hasB S o.b = true
            · have hlt2 := HW.out.yes HR1.out.ok hh
              rw [← HNN.out, ← HU.out] at hlt2
              have htx := HW.out.textOf hh
              have HWG := Lib.hid (HW.out.get HR1.out.ok hh)
              have HGT := Lib.hid (HR1.out.get HC.out HOF.out.2.1)
              rw [hh, htx] at HGT
              clear hh htx HR1
              go_wp2_with fail
              refine HGT.out.mono ?_
              rintro e w6 ⟨rfl, h6, kp⟩
              have HR6 := Lib.hid h6
              have bk := kp.block ob (Or.inl (Or.inr rfl))
              have ho6 : Bks w6 w5.heap.size (.slice na N nc) (wob u o.b) := owns_kept HO.out (fun g hg => kp.block g (Or.inr hg))
              unfold Bks at ho6
              rw [← HNN.out] at ho6
              have HO6 := Lib.hid ho6
              clear ho6
              have e1q : w6.cell? ⟨ob, 1, none⟩ = some (.int .i64 o.b.seg) := by rw [← e1w]; simp [World.cell?, bk]
              have e2q : w6.cell? ⟨ob, 2, none⟩ = some (.int .i64 o.b.n) := by rw [← e2w]; simp [World.cell?, bk]
              obtain ⟨S2, hS2⟩ : ∃ S2, S2 = getS S o.b := ⟨_, rfl⟩
              rw [← hS2] at HR6 HWG
              have hlk := HR6.out.map.look HOF.out.2.1
              unfold blkV at hlk
              have w56 : w5.heap.size ≤ w6.heap.size := Nat.le_trans HB5.out.size kp.size
              clear h6 kp bk HO HGT e0w e1w e2w e3w hS2
              have HLN := Lib.hid (show N + 1 ≤ 1099511627776 by omega)
              by_cases hroom : N + 1 ≤ most
              · as_aux_lemma =>
                go_wp2_with (first | (at_lookup; refine wpList_lookup_run _ rfl _ _ _ _ rfl _ _ rfl rfl _ hlk ?_) | (at_builtin; refine wpList_append_row _ rfl _ _ 40 rfl w5.heap.size 32 i0 _ 2 16 Try.underlying40 HI.out.1 HI.out.2.1 HI.out.2.2.1 HI.out.2.2.2 (by omega) rfl (.slice na N nc) _ _ rfl (World.ownsRow.alloc HO6.out _) (.slice (some ⟨w6.heap.size, 0, none⟩) 1 1) 1 [.int .i64 o.b.seg, .int .i64 o.b.n] rfl (src_one2 w6 o.b.seg o.b.n) HLN.out (by rw [World.size_alloc]; omega) ?_; intro a7 c7 w7 h7 hg7 ho7; obtain ⟨g7, rfl, hl7, hs7, _⟩ := row_at h7 (by omega); have hc7 := row_cap h7 (by omega); have H7 := Lib.hid h7; have HG7 := Lib.hid hg7; have HO7 := Lib.hid ho7; clear h7 hg7 ho7))
                have HUS7 := Lib.hid (us_of_row (row7 HNN.out H7.out) (by rw [List.length_append, ← HNN.out]; rfl))
                have hnx : nxt most u o.b = wob u o.b ++ [o.b] := by unfold nxt; rw [← HNN.out, show N + 1 - most = 0 by omega]; rfl
                obtain ⟨M, hMN⟩ : ∃ M, M = N + 1 := ⟨_, rfl⟩
                have HM8 := Lib.hid (show M = (nxt most u o.b).length by rw [hnx, List.length_append, ← HNN.out, hMN]; rfl)
                have hM65 : M ≤ 65 := by omega
                rw [← hMN] at *
                have HUS8 := Lib.hid (show Us w7 (some ⟨g7, 0, none⟩) (nxt most u o.b) by rw [hnx]; exact HUS7.out)
                clear hnx HUS7
                have HR7 := Lib.hid ((HR6.out.old HC.out ((Below.refl _ _).alloc (Nat.le_refl _) _)).rowC HC.out (Cl' := fun g => g = g7) HG7.out (fun j hj => ⟨Or.inr hj, Nat.le_trans h51 (HO6.out.lt j hj).1⟩) (fun g hg => by
                  subst hg
                  rcases HO7.out with e | e
                  · exact Or.inl (Or.inr e.symm)
                  · have e' : some g = some (World.alloc w6 (.cells #[.int .i64 o.b.seg, .int .i64 o.b.n] 32)).heap.size := e
                    injection e' with e'
                    exact Or.inr ⟨Nat.le_of_eq e'.symm, hs7⟩))
                have HBL := HR7.out.blocks HC.out
                have hSM : S2.length = M := by rw [HWG.out.len]; exact HM8.out.symm
                rw [hSM] at HBL
                clear hSM
                refine HBL.mono ?_
                rintro e w8 ⟨va, vc, rfl, hv8, b8⟩
                have HV8 := Lib.hid hv8
                have HR8 := Lib.hid (HR7.out.old HC.out b8)
                have HUS9 := Lib.hid (HUS8.out.kept b8.size (fun g hg => b8.block g (by obtain ⟨_, e⟩ := hg; cases e; exact hs7)))
                clear hv8 b8 HBL HUS8 H7 HG7 HO7 HR7 HO6 HR6
                have hsM : (S2.map Prod.fst).length = M := by rw [List.length_map, HWG.out.len]; exact HM8.out.symm
                have HSM := Lib.hid hsM
                clear hsM
                dsimp only
                go_wp2_with fail
                go_loopg [18] M (fun g it wq => ∃ (k2 : Nat), k2 + g = M ∧ it = .int .i64 k2 ∧ Below w8.heap.size w8 wq)
                case atStart => exact ⟨0, by omega, rfl, Below.refl _ _⟩
                case round =>
                  obtain ⟨k2, hk2, rfl, hbq⟩ := hrel
                  by_cases hk3 : k2 < M
                  · obtain ⟨j, hj⟩ : ∃ j, j = M - 1 - k2 := ⟨_, rfl⟩
                    have hji : IntKind.i64.wrap ((M : Int) - 1) = (M : Int) - 1 := IntWalk.i64_in _ ⟨by omega, by omega⟩
                    have hjj : IntKind.i64.wrap ((M : Int) - 1 - (k2 : Int)) = (j : Int) := by rw [IntWalk.i64_in _ ⟨by omega, by omega⟩]; omega
                    obtain ⟨x, hx⟩ : ∃ x, (nxt most u o.b)[j]? = some x := ⟨(nxt most u o.b)[j]'(by rw [← HM8.out]; omega), List.getElem?_eq_getElem _⟩
                    have hxr : (S2.map Prod.fst)[k2]? = some x := by
                      rw [HWG.out.keys, List.getElem?_reverse (by rw [← HM8.out]; exact hk3), ← HM8.out, ← hj]; exact hx
                    obtain ⟨g', off', hga, hgl, d0, d1⟩ := HUS9.out j x hx
                    cases hga
                    obtain ⟨gb, hgb, _, hgbl, q0, q1⟩ := bks_at HV8.out HSM.out.symm hxr
                    subst hgb
                    have f0 := (hbq.cell (p := ⟨g7, _, none⟩) hgl).trans d0
                    have f1 := (hbq.cell (p := ⟨g7, _, none⟩) hgl).trans d1
                    have f2 := (hbq.cell (p := ⟨gb, _, none⟩) hgbl).trans q0
                    have f3 := (hbq.cell (p := ⟨gb, _, none⟩) hgbl).trans q1
                    try simp only [Nat.zero_add] at f0 f1
                    have HBQ := Lib.hid hbq
                    clear hx hxr d0 d1 q0 q1 hbq
                    generalize x.seg = xs at *
                    generalize x.n = xn at *
                    have hjM : j < M := by omega
                    have HJ := Lib.hid hj
                    clear hj
                    go_wp2_with fail
                    go_quiet (fail)
                    have HB2 := Lib.hid (HBQ.out.trans ((below_drewN (Below.refl wr.heap.size wr) nq).mono HBQ.out.size))
                    generalize wr.drewN nq = w10 at *
                    go_wp2_with fail
                    go_roundg (gk - 1)
                    case measure => omega
                    case rel => exact ⟨k2 + 1, by omega, by go_num, HB2.out⟩
                  · obtain rfl : k2 = M := by omega
                    have HR9 := Lib.hid (HR8.out.old HC.out hbq)
                    have HUS10 := Lib.hid (HUS9.out.kept hbq.size (fun g hg => hbq.block g (by obtain ⟨_, e⟩ := hg; cases e; have := HR8.out.dir.choose_spec.2.2 g7 rfl; exact this.1)))
                    clear hbq
                    go_wp2_with fail
                    have hG := HG.out
                    go_roundg (G - 1)
                    case measure => omega
                    case rel =>
                      exact ⟨i + 1, S2, nxt most u o.b, f, n, _, _, by omega, by go_num, by rw [← HM8.out], by omega, HWG.out, HUS10.out, HR9.out.clear HC.out (Below.refl _ _) (fun g hg => Or.inl (by obtain ⟨_, e⟩ := hg; cases e; rfl))⟩
              · exact absurd hroom (by omega)
            · as_aux_lemma =>
              have hhf : hasB S o.b = false := by simpa using hh
              obtain ⟨hlen, hget⟩ := HW.out.no hhf
              rw [← HNN.out, ← HU.out] at hlen
              have HGT := Lib.hid (HR1.out.get HC.out HOF.out.2.1)
              rw [hhf, hget] at HGT
              obtain ⟨tx, htx⟩ : ∃ tx, tx = bs (textOf S o.b) := ⟨_, rfl⟩
              rw [← htx] at HGT
              clear hh hhf hget htx HR1
              subst hlen
              go_wp2_with fail
              refine HGT.out.mono ?_
              rintro e w6 ⟨rfl, h6, kp⟩
              have HR6 := Lib.hid h6
              have HUS6 := Lib.hid (HUSw.out.kept kp.size (fun g hg => kp.block g (Or.inl (Or.inl hg))))
              clear h6 kp HO HGT HUSw e0w e1w e2w e3w
              go_wp2_with fail
              have hG := HG.out
              go_roundg (G - 1)
              case measure => omega
              case rel =>
                exact ⟨i + 1, S, u, f, n, _, _, by omega, by go_num, by rw [← HU.out], by omega, HW.out, HUS6.out, HR6.out.clear HC.out (Below.refl _ _) (fun g hg => Or.inl (Or.inl (Or.inl hg)))⟩
          · as_aux_lemma =>
            have HPT := Lib.hid (HR1.out.put HC.out HOF.out.2.1 HOF.out.2.2)
            have hwg := HW.out.put most o.b o.s
            obtain ⟨S2, hS2⟩ : ∃ S2, S2 = putS most S o.b o.s := ⟨_, rfl⟩
            obtain ⟨f2, hf2⟩ : ∃ f2 : Bk → List UInt8, f2 = fun c => if c = o.b then o.s else f c := ⟨_, rfl⟩
            rw [← hS2] at HPT hwg
            rw [← hf2] at hwg
            have HWG := Lib.hid hwg
            clear hwg hS2 HR1
            go_wp2_with fail
            refine HPT.out.mono ?_
            rintro e wx ⟨rfl, hx6, kpx⟩
            obtain ⟨w6, hrun, h6, kp6⟩ := hx6.store HC.out HOF.out.2.1 o.s (by unfold maxLen; omega)
            rw [← hf2] at h6
            unfold blkV at hrun
            have kp : Keep _ wr w6 := ⟨Nat.le_trans kpx.size kp6.size, fun g hg => (kp6.block g hg).trans (kpx.block g hg)⟩
            have HR6 := Lib.hid h6
            have bx := kpx.block ob (Or.inl (Or.inr rfl))
            have bk := kp.block ob (Or.inl (Or.inr rfl))
            have ho6 : Bks w6 w5.heap.size (.slice na N nc) (wob u o.b) := owns_kept HO.out (fun g hg => kp.block g (Or.inr hg))
            unfold Bks at ho6
            rw [← HNN.out] at ho6
            have HO6 := Lib.hid ho6
            clear ho6
            have e1x : wx.cell? ⟨ob, 1, none⟩ = some (.int .i64 o.b.seg) := by rw [← e1w]; simp [World.cell?, bx]
            have e2x : wx.cell? ⟨ob, 2, none⟩ = some (.int .i64 o.b.n) := by rw [← e2w]; simp [World.cell?, bx]
            have e3x : wx.cell? ⟨ob, 3, none⟩ = some (.string (bs o.s)) := by rw [← e3w]; simp [World.cell?, bx]
            have e1q : w6.cell? ⟨ob, 1, none⟩ = some (.int .i64 o.b.seg) := by rw [← e1w]; simp [World.cell?, bk]
            have e2q : w6.cell? ⟨ob, 2, none⟩ = some (.int .i64 o.b.n) := by rw [← e2w]; simp [World.cell?, bk]
            have w56 : w5.heap.size ≤ w6.heap.size := Nat.le_trans HB5.out.size kp.size
            clear h6 hx6 kp kpx kp6 bk bx HO HPT HUSw e0w e1w e2w e3w hf2
            have HLN := Lib.hid (show N + 1 ≤ 1099511627776 by omega)
            by_cases hroom : N + 1 ≤ most
            · as_aux_lemma =>
              go_wp2_with (first | (at_builtin; refine wpList_append_row _ rfl _ _ 40 rfl w5.heap.size 32 i0 _ 2 16 Try.underlying40 HI.out.1 HI.out.2.1 HI.out.2.2.1 HI.out.2.2.2 (by omega) rfl (.slice na N nc) _ _ rfl (World.ownsRow.alloc HO6.out _) (.slice (some ⟨w6.heap.size, 0, none⟩) 1 1) 1 [.int .i64 o.b.seg, .int .i64 o.b.n] rfl (src_one2 w6 o.b.seg o.b.n) HLN.out (by rw [World.size_alloc]; omega) ?_; intro a7 c7 w7 h7 hg7 ho7; obtain ⟨g7, rfl, hl7, hs7, _⟩ := row_at h7 (by omega); have hc7 := row_cap h7 (by omega); have H7 := Lib.hid h7; have HG7 := Lib.hid hg7; have HO7 := Lib.hid ho7; clear h7 hg7 ho7))
              have HUS7 := Lib.hid (us_of_row (row7 HNN.out H7.out) (by rw [List.length_append, ← HNN.out]; rfl))
              have hnx : nxt most u o.b = wob u o.b ++ [o.b] := by unfold nxt; rw [← HNN.out, show N + 1 - most = 0 by omega]; rfl
              obtain ⟨M, hMN⟩ : ∃ M, M = N + 1 := ⟨_, rfl⟩
              have HM8 := Lib.hid (show M = (nxt most u o.b).length by rw [hnx, List.length_append, ← HNN.out, hMN]; rfl)
              have hM65 : M ≤ 65 := by omega
              rw [← hMN] at *
              have HUS8 := Lib.hid (show Us w7 (some ⟨g7, 0, none⟩) (nxt most u o.b) by rw [hnx]; exact HUS7.out)
              clear hnx HUS7
              have HR7 := Lib.hid ((HR6.out.old HC.out ((Below.refl _ _).alloc (Nat.le_refl _) _)).rowC HC.out (Cl' := fun g => g = g7) HG7.out (fun j hj => ⟨Or.inr hj, Nat.le_trans h51 (HO6.out.lt j hj).1⟩) (fun g hg => by
                subst hg
                rcases HO7.out with e | e
                · exact Or.inl (Or.inr e.symm)
                · have e' : some g = some (World.alloc w6 (.cells #[.int .i64 o.b.seg, .int .i64 o.b.n] 32)).heap.size := e
                  injection e' with e'
                  exact Or.inr ⟨Nat.le_of_eq e'.symm, hs7⟩))
              have HBL := HR7.out.blocks HC.out
              have hSM : S2.length = M := by rw [HWG.out.len]; exact HM8.out.symm
              rw [hSM] at HBL
              clear hSM
              refine HBL.mono ?_
              rintro e w8 ⟨va, vc, rfl, hv8, b8⟩
              have HV8 := Lib.hid hv8
              have HR8 := Lib.hid (HR7.out.old HC.out b8)
              have HUS9 := Lib.hid (HUS8.out.kept b8.size (fun g hg => b8.block g (by obtain ⟨_, e⟩ := hg; cases e; exact hs7)))
              clear hv8 b8 HBL HUS8 H7 HG7 HO7 HR7 HO6 HR6
              have hsM : (S2.map Prod.fst).length = M := by rw [List.length_map, HWG.out.len]; exact HM8.out.symm
              have HSM := Lib.hid hsM
              clear hsM
              dsimp only
              go_wp2_with fail
              go_loopg [18] M (fun g it wq => ∃ (k2 : Nat), k2 + g = M ∧ it = .int .i64 k2 ∧ Below w8.heap.size w8 wq)
              case atStart => exact ⟨0, by omega, rfl, Below.refl _ _⟩
              case round =>
                obtain ⟨k2, hk2, rfl, hbq⟩ := hrel
                by_cases hk3 : k2 < M
                · obtain ⟨j, hj⟩ : ∃ j, j = M - 1 - k2 := ⟨_, rfl⟩
                  have hji : IntKind.i64.wrap ((M : Int) - 1) = (M : Int) - 1 := IntWalk.i64_in _ ⟨by omega, by omega⟩
                  have hjj : IntKind.i64.wrap ((M : Int) - 1 - (k2 : Int)) = (j : Int) := by rw [IntWalk.i64_in _ ⟨by omega, by omega⟩]; omega
                  obtain ⟨x, hx⟩ : ∃ x, (nxt most u o.b)[j]? = some x := ⟨(nxt most u o.b)[j]'(by rw [← HM8.out]; omega), List.getElem?_eq_getElem _⟩
                  have hxr : (S2.map Prod.fst)[k2]? = some x := by
                    rw [HWG.out.keys, List.getElem?_reverse (by rw [← HM8.out]; exact hk3), ← HM8.out, ← hj]; exact hx
                  obtain ⟨g', off', hga, hgl, d0, d1⟩ := HUS9.out j x hx
                  cases hga
                  obtain ⟨gb, hgb, _, hgbl, q0, q1⟩ := bks_at HV8.out HSM.out.symm hxr
                  subst hgb
                  have f0 := (hbq.cell (p := ⟨g7, _, none⟩) hgl).trans d0
                  have f1 := (hbq.cell (p := ⟨g7, _, none⟩) hgl).trans d1
                  have f2 := (hbq.cell (p := ⟨gb, _, none⟩) hgbl).trans q0
                  have f3 := (hbq.cell (p := ⟨gb, _, none⟩) hgbl).trans q1
                  try simp only [Nat.zero_add] at f0 f1
                  have HBQ := Lib.hid hbq
                  clear hx hxr d0 d1 q0 q1 hbq
                  generalize x.seg = xs at *
                  generalize x.n = xn at *
                  have hjM : j < M := by omega
                  have HJ := Lib.hid hj
                  clear hj
                  go_wp2_with fail
                  go_quiet (fail)
                  have HB2 := Lib.hid (HBQ.out.trans ((below_drewN (Below.refl wr.heap.size wr) nq).mono HBQ.out.size))
                  generalize wr.drewN nq = w10 at *
                  go_wp2_with fail
                  go_roundg (gk - 1)
                  case measure => omega
                  case rel => exact ⟨k2 + 1, by omega, by go_num, HB2.out⟩
                · obtain rfl : k2 = M := by omega
                  have HR9 := Lib.hid (HR8.out.old HC.out hbq)
                  have HUS10 := Lib.hid (HUS9.out.kept hbq.size (fun g hg => hbq.block g (by obtain ⟨_, e⟩ := hg; cases e; have := HR8.out.dir.choose_spec.2.2 g7 rfl; exact this.1)))
                  clear hbq
                  go_wp2_with fail
                  have hG := HG.out
                  go_roundg (G - 1)
                  case measure => omega
                  case rel =>
                    exact ⟨i + 1, S2, nxt most u o.b, f2, n + 1, _, _, by omega, by go_num, by rw [← HM8.out], by omega, HWG.out, HUS10.out, HR9.out.clear HC.out (Below.refl _ _) (fun g hg => Or.inl (by obtain ⟨_, e⟩ := hg; cases e; rfl))⟩
            · as_aux_lemma =>
              go_wp2_with (first | (at_builtin; refine wpList_append_row _ rfl _ _ 40 rfl w5.heap.size 32 i0 _ 2 16 Try.underlying40 HI.out.1 HI.out.2.1 HI.out.2.2.1 HI.out.2.2.2 (by omega) rfl (.slice na N nc) _ _ rfl (World.ownsRow.alloc HO6.out _) (.slice (some ⟨w6.heap.size, 0, none⟩) 1 1) 1 [.int .i64 o.b.seg, .int .i64 o.b.n] rfl (src_one2 w6 o.b.seg o.b.n) HLN.out (by rw [World.size_alloc]; omega) ?_; intro a7 c7 w7 h7 hg7 ho7; obtain ⟨g7, rfl, hl7, hs7, _⟩ := row_at h7 (by omega); have hc7 := row_cap h7 (by omega); have H7 := Lib.hid h7; have HG7 := Lib.hid hg7; have HO7 := Lib.hid ho7; clear h7 hg7 ho7))
              have HUS7 := Lib.hid (us_of_row (row7 HNN.out H7.out) (by rw [List.length_append, ← HNN.out]; rfl))
              have hnx : nxt most u o.b = (wob u o.b ++ [o.b]).drop 1 := by unfold nxt; rw [← HNN.out, show N + 1 - most = 1 by omega]
              have HUS8 := Lib.hid (show Us w7 (some ⟨g7, 2, none⟩) (nxt most u o.b) by rw [hnx]; exact HUS7.out.drop1)
              have HM8 := Lib.hid (show N = (nxt most u o.b).length by rw [hnx, List.length_drop, List.length_append, ← HNN.out]; rfl)
              have hM65 : N ≤ 65 := by omega
              clear hnx HUS7
              obtain ⟨M, rfl⟩ : ∃ M, M = N := ⟨N, rfl⟩
              have HR7 := Lib.hid ((HR6.out.old HC.out ((Below.refl _ _).alloc (Nat.le_refl _) _)).rowC HC.out (Cl' := fun g => g = g7) HG7.out (fun j hj => ⟨Or.inr hj, Nat.le_trans h51 (HO6.out.lt j hj).1⟩) (fun g hg => by
                subst hg
                rcases HO7.out with e | e
                · exact Or.inl (Or.inr e.symm)
                · have e' : some g = some (World.alloc w6 (.cells #[.int .i64 o.b.seg, .int .i64 o.b.n] 32)).heap.size := e
                  injection e' with e'
                  exact Or.inr ⟨Nat.le_of_eq e'.symm, hs7⟩))
              have HBL := HR7.out.blocks HC.out
              have hSM : S2.length = M := by rw [HWG.out.len]; exact HM8.out.symm
              rw [hSM] at HBL
              clear hSM
              refine HBL.mono ?_
              rintro e w8 ⟨va, vc, rfl, hv8, b8⟩
              have HV8 := Lib.hid hv8
              have HR8 := Lib.hid (HR7.out.old HC.out b8)
              have HUS9 := Lib.hid (HUS8.out.kept b8.size (fun g hg => b8.block g (by obtain ⟨_, e⟩ := hg; cases e; exact hs7)))
              clear hv8 b8 HBL HUS8 H7 HG7 HO7 HR7 HO6 HR6
              have hsM : (S2.map Prod.fst).length = M := by rw [List.length_map, HWG.out.len]; exact HM8.out.symm
              have HSM := Lib.hid hsM
              clear hsM
              dsimp only
              go_wp2_with fail
              go_loopg [18] M (fun g it wq => ∃ (k2 : Nat), k2 + g = M ∧ it = .int .i64 k2 ∧ Below w8.heap.size w8 wq)
              case atStart => exact ⟨0, by omega, rfl, Below.refl _ _⟩
              case round =>
                obtain ⟨k2, hk2, rfl, hbq⟩ := hrel
                by_cases hk3 : k2 < M
                · obtain ⟨j, hj⟩ : ∃ j, j = M - 1 - k2 := ⟨_, rfl⟩
                  have hji : IntKind.i64.wrap ((M : Int) - 1) = (M : Int) - 1 := IntWalk.i64_in _ ⟨by omega, by omega⟩
                  have hjj : IntKind.i64.wrap ((M : Int) - 1 - (k2 : Int)) = (j : Int) := by rw [IntWalk.i64_in _ ⟨by omega, by omega⟩]; omega
                  obtain ⟨x, hx⟩ : ∃ x, (nxt most u o.b)[j]? = some x := ⟨(nxt most u o.b)[j]'(by rw [← HM8.out]; omega), List.getElem?_eq_getElem _⟩
                  have hxr : (S2.map Prod.fst)[k2]? = some x := by
                    rw [HWG.out.keys, List.getElem?_reverse (by rw [← HM8.out]; exact hk3), ← HM8.out, ← hj]; exact hx
                  obtain ⟨g', off', hga, hgl, d0, d1⟩ := HUS9.out j x hx
                  cases hga
                  obtain ⟨gb, hgb, _, hgbl, q0, q1⟩ := bks_at HV8.out HSM.out.symm hxr
                  subst hgb
                  have f0 := (hbq.cell (p := ⟨g7, _, none⟩) hgl).trans d0
                  have f1 := (hbq.cell (p := ⟨g7, _, none⟩) hgl).trans d1
                  have f2 := (hbq.cell (p := ⟨gb, _, none⟩) hgbl).trans q0
                  have f3 := (hbq.cell (p := ⟨gb, _, none⟩) hgbl).trans q1
                  try simp only [Nat.zero_add] at f0 f1
                  have HBQ := Lib.hid hbq
                  clear hx hxr d0 d1 q0 q1 hbq
                  generalize x.seg = xs at *
                  generalize x.n = xn at *
                  have hjM : j < M := by omega
                  have HJ := Lib.hid hj
                  clear hj
                  go_wp2_with fail
                  go_quiet (fail)
                  have HB2 := Lib.hid (HBQ.out.trans ((below_drewN (Below.refl wr.heap.size wr) nq).mono HBQ.out.size))
                  generalize wr.drewN nq = w10 at *
                  go_wp2_with fail
                  go_roundg (gk - 1)
                  case measure => omega
                  case rel => exact ⟨k2 + 1, by omega, by go_num, HB2.out⟩
                · obtain rfl : k2 = M := by omega
                  have HR9 := Lib.hid (HR8.out.old HC.out hbq)
                  have HUS10 := Lib.hid (HUS9.out.kept hbq.size (fun g hg => hbq.block g (by obtain ⟨_, e⟩ := hg; cases e; have := HR8.out.dir.choose_spec.2.2 g7 rfl; exact this.1)))
                  clear hbq
                  go_wp2_with fail
                  have hG := HG.out
                  go_roundg (G - 1)
                  case measure => omega
                  case rel =>
                    exact ⟨i + 1, S2, nxt most u o.b, f2, n + 1, _, _, by omega, by go_num, by rw [← HM8.out], by omega, HWG.out, HUS10.out, HR9.out.clear HC.out (Below.refl _ _) (fun g hg => Or.inl (by obtain ⟨_, e⟩ := hg; cases e; rfl))⟩
    · obtain rfl : i = L := by omega
      have HB := Lib.hid hR.bel
      clear hR
      go_wp2_with fail
      go_ret
      exact ⟨rfl, B1.out.trans (HB.out.mono B1.out.size)⟩
end Go.Proofs.Ytbndhhlekfdppaa.L
