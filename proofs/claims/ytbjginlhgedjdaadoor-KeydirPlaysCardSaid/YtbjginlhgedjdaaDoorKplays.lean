/- The law KeydirPlays, walked. (Written by wip/tools/gen10_plays.py.) -/
import Derived.Test.YtbjginlhgedjdaaDoorKtwo
import Derived.Test.YtbjginlhgedjdaaDoorKmapw
namespace Go.Proofs.YtbjginlhgedjdaaDoor.K
open Go.RowKit
set_option linter.unusedVariables false
/-- What a call of the law leaves of a directory. -/
noncomputable def stepP (S : Dr) (o : Kop) : Dr := if o.d = 0 ∨ o.d = 1 ∨ o.d = 2 then putS S o.k o.l else if o.d = 3 then S else delS S o.k
/-- A variable's block is as it was. -/
def Bx (b : Nat) (X : Obj) (W : World) : Prop := W.heap[b]? = some X
theorem Bx.of {b : Nat} {X : Obj} {W : World} (h : W.heap[b]? = some X) : Bx b X W := h
theorem Bx.drew {b : Nat} {X : Obj} {W : World} (h : Bx b X W) : Bx b X W.drew := h
theorem Bx.cell {b : Nat} {cs : Array Value} {T : TypeId} {W : World} (h : Bx b (.cells cs T) W) (j : Nat) : W.cell? ⟨b, j, none⟩ = cs[j]? := cell_of_row W b j cs T (0, 0) h
/-- An append of strings to a row of strings. -/
theorem wpList_append_ss (w : World) {ops : Array Oper} {rest : List Oper} {o : Oper} {a : Act} {Q : Exit → Act → World → Prop} (hg : o.guard = none) (s x : Operand)
    (ho : o.op = .call { callee := .builtin .append, args := #[s, x], argTypes := #[38, 38] }) (B : Nat) (v : Value) (l : List (List UInt8)) (hs : a.eval s = v) (hown : Strs w B v l) (xv : Value) (b : List (List UInt8)) (hx : a.eval x = xv)
    (hsrc : Src Tryd.prog 1 38 xv b.length (strs b) w) (hb : l.length + b.length ≤ 1099511627776) (hB : B ≤ w.heap.size)
    (h : ∀ a' n' c' w', Strs w' B (.slice a' n' c') (l ++ b) → Below B w w' → wpList Tryd.prog ops Q rest (a.put o.dst (.slice a' n' c')) w') : wpList Tryd.prog ops Q (o :: rest) a w := by
  refine wpList_plain hg fun K' hK' => ?_
  obtain ⟨v', w', q1, q2, q3, q4⟩ := run_append_ss hown xv b hsrc hb hB o.type
  obtain ⟨a', c', rfl⟩ := ss_form q2
  unfold Oper.wp execOp
  simp only [ho, resolve, invoke, builtin, Sem.run_bind, Sem.run_pure, Result.andThen_ok, List.map_toArray, List.map_cons, List.map_nil, hs, hx, q1]
  exact hK' _ _ (h a' _ c' w' q2 ((Below.refl B w).grown q3 hB (fun k hk => (hown.lt k hk).1)))
/-- .. and what was there at w is. -/
structure Sx (w : World) (b : Nat) (X : Obj) (W : World) : Prop where
  bx : Bx b X W
  old : Old w W
theorem Sx.drew {w : World} {b : Nat} {X : Obj} {W : World} (h : Sx w b X W) : Sx w b X W.drew := ⟨h.bx.drew, h.old.drew⟩
theorem Sx.below {w : World} {b : Nat} {X : Obj} {W W' : World} (h : Sx w b X W) (hb : Below W.heap.size W W') : Sx w b X W' := ⟨(hb.block _ (Array.getElem?_eq_some_iff.1 h.bx).1).trans h.bx, h.old.below (hb.mono h.old.size)⟩
section
variable {Pd : Nat → World → Nat → (Nat → Prop) → Dr → Prop} {B R pb qb n m : Nat} {w1 w w' : World} {A : List (Nat × Obj)} {Sd Sr : Dr}
theorem Two.blk (h : Two Pd B R w1 w pb qb n A Sd Sr) : ∃ gb, w.heap[qb]? = some (.cells #[.slice (some ⟨gb, 0, none⟩) Sr.length Sr.length] 43 (0, 0)) := by
  obtain ⟨F, gb, _, hr, _⟩ := h.dir
  exact ⟨gb, hr.blk⟩
theorem Two.lenS (C : DirC Pd) (h : Two Pd B R w1 w pb qb n A Sd Sr) {b : Nat} {X : Obj} {W : World} (hW : Sx w b X W) : Calls Tryd.prog 17 #[.pointer (some ⟨pb, 0, none⟩)] W fun e w' => e = .returned (.int .i64 ((cnt Sd : Nat) : Int)) ∧ Sx w b X w' :=
  ((h.old C hW.old).lenD C).mono fun e w' ⟨h1, h2⟩ => ⟨h1, hW.below h2⟩
theorem Two.capS (C : DirC Pd) (h : Two Pd B R w1 w pb qb n A Sd Sr) {b : Nat} {X : Obj} {W : World} (hW : Sx w b X W) : Calls Tryd.prog 18 #[.pointer (some ⟨pb, 0, none⟩)] W fun e w' => e = .returned (.int .i64 ((Sd.length : Nat) : Int)) ∧ Sx w b X w' :=
  ((h.old C hW.old).capD C).mono fun e w' ⟨h1, h2⟩ => ⟨h1, hW.below h2⟩
end
set_option maxRecDepth 100000 in
set_option maxHeartbeats 4000000 in
theorem plays_walk {Pd : Nat → World → Nat → (Nat → Prop) → Dr → Prop} (C : DirC Pd) (l : List Kop) (a : Option Addr) (cap : Nat) (fr : List UInt8) (w : World) (hT : Ml w.heap.size w) (hl : l.length ≤ 9223372036854775807) (hK : KopsIn w a l) (hf : ∀ o ∈ l, o.fit) (hfl : fr.length ≤ 9223372036854775807) :
    Calls Tryd.prog 3 #[.slice a l.length cap, .string (bs fr)] w fun e w' => e = .returned (.bool true) ∧ Below w.heap.size w w' := by
  have HC := Lib.hid C; have HT := Lib.hid hT; have HK := Lib.hid hK; have HF := Lib.hid hf
  obtain ⟨L, hL⟩ : ∃ L, L = l.length := ⟨_, rfl⟩
  have HLI := Lib.hid (fun w1 hb => light_any l a cap w1 w hl hK hf hb)
  rw [← hL] at hl HLI ⊢
  have HL := Lib.hid hL
  have hfs : (bs fr).size = fr.length := bs_size _
  have HFS := Lib.hid hfs
  rw [← hfs] at hfl
  generalize hfb : bs fr = fb at *
  have HFB := Lib.hid hfb
  clear C hT hK hf hL hfs hfb
  go_enter Tryd.func3, Tryd.ntmps3
  go_wp2_with fail
  refine (awakeK_any HC.out w HT.out).mono ?_
  rintro e w1 ⟨rfl, b1⟩
  have B1 := Lib.hid b1
  clear b1
  go_wp2_with fail
  refine (HLI.out w1 B1.out).mono ?_
  rintro e w2 ⟨b, hbs, rfl, rfl⟩
  have HBS := Lib.hid hbs
  clear hbs
  go_wp2_with fail
  have M1 := Lib.hid (Ml.new HT.out B1.out)
  refine (HC.out.new w1 (Ml.kept M1.out rfl B1.out.size)).mono ?_
  rintro e w3 ⟨pb, F, rfl, h3, b3⟩
  have H3 := Lib.hid h3; have B3 := Lib.hid b3
  clear h3 b3
  go_wp2_with fail
  refine (refnew_any w3).mono ?_
  rintro e w4 ⟨qb, gb, rfl, h4, b4⟩
  have HT0 := Lib.hid (two_new HC.out H3.out (Ml.new (Ml.kept M1.out rfl B1.out.size) B3.out) B3.out h4 b4)
  clear h4 b4
  cases b with
  | false =>
    go_wp2_with fail
    go_ret
    exact ⟨rfl, B1.out.trans (HT0.out.bel.mono B1.out.size)⟩
  | true =>
    by_cases hlong : 100 < fb.size
    · go_wp2_with fail
      go_ret
      exact ⟨rfl, B1.out.trans (HT0.out.bel.mono B1.out.size)⟩
    · obtain ⟨hs1, hs2⟩ := HBS.out rfl
      rw [← HL.out] at hs1
      have HS2 := Lib.hid hs2
      clear hs2
      go_wp2_with fail
      generalize w3.heap.size = R at *
      clear B3 H3
      go_loopg [9] L (fun g it wr => ∃ (i : Nat) (S : Dr), i + g = L ∧ it = .int .i64 i ∧ Two Pd w1.heap.size R w1 wr pb qb i [] S S)
      case atStart => exact ⟨0, _, by omega, rfl, HT0.out⟩
      case round =>
        obtain ⟨i, S, hi, rfl, hR⟩ := hrel
        by_cases hlt : i < L
        · obtain ⟨o, ho⟩ : ∃ o, l[i]? = some o := ⟨l[i]'(by have := HL.out; omega), List.getElem?_eq_getElem _⟩
          have hom := List.mem_of_getElem? ho
          have hok := HS2.out o hom
          have hbw := B1.out.trans (hR.bel.mono B1.out.size)
          obtain ⟨b, off, rfl, hbl, c0, c1, c2, c3, c4, c5⟩ := HK.out.at hbw (Nat.le_refl _) i o ho
          obtain ⟨od, hod0⟩ : ∃ od, od = o.d := ⟨_, rfl⟩
          rw [← hod0] at c0
          have HOD := Lib.hid hod0
          have HRR := Lib.hid hR
          have hba : Below wr.heap.size wr (wr.alloc (.cells #[.int .i64 od, .string (bs o.k), .int .i64 o.l.seg, .int .i64 o.l.off, .int .i64 o.l.len, .int .u64 o.l.seq] 33)) := (Below.refl _ _).alloc (Nat.le_refl _) _
          have HR4 := Lib.hid (hR.add HC.out hba (heap_alloc_new wr (.cells #[.int .i64 od, .string (bs o.k), .int .i64 o.l.seg, .int .i64 o.l.off, .int .i64 o.l.len, .int .u64 o.l.seq] 33)) (Nat.le_refl _))
          have hin : i < 150 := by omega
          have HI := Lib.hid hin
          obtain ⟨G, hG⟩ : ∃ G, gk = G := ⟨_, rfl⟩
          have HG := Lib.hid hG
          clear hG
          have HK1 : Hid (o.k.length ≤ 1000) := Lib.hid (by omega)
          clear hod0 hR ho hom hbw hba hok
          obtain ⟨ob, hob⟩ : ∃ ob, ob = wr.heap.size := ⟨_, rfl⟩
          rw [← hob] at HR4
          rcases Decidable.em (od = 0) with h0 | h0
          · as_aux_lemma =>
            obtain rfl : od = 0 := h0
            have HST : Hid (stepP S o = putS S o.k o.l) := Lib.hid (by unfold stepP; rw [if_pos (by rw [← HOD.out]; omega)])
            go_wp2_with fail
            rw [← hob]
            generalize hW4 : World.alloc wr _ = w5 at *
            clear hW4 hob
            refine (HR4.out.putD HC.out HI.out HK1.out o.l).mono ?_
            rintro e w6 ⟨rfl, h6⟩
            have HR6 := Lib.hid h6
            clear h6 HR4
            have hcl := fun t => cell_of_row w6 ob t _ _ (0, 0) (HR6.out.box _ (List.mem_cons_self ..))
            have e1 := hcl 1; have e2 := hcl 2; have e3 := hcl 3; have e4 := hcl 4; have e5 := hcl 5
            simp only [List.getElem?_toArray, List.getElem?_cons_succ, List.getElem?_cons_zero] at e1 e2 e3 e4 e5
            clear hcl
            go_wp2_with fail
            refine (HR6.out.putR HC.out HRR.out.fitR HI.out HK1.out o.l).mono ?_
            rintro e w7 ⟨rfl, h7⟩
            obtain ⟨S2, hS2⟩ : ∃ S2, S2 = putS S o.k o.l := ⟨_, rfl⟩
            rw [← hS2] at h7
            have HR7 := Lib.hid h7.less
            clear h7 HR6 e1 e2 e3 e4 e5 hS2
            go_wp2_with fail
            refine HR7.out.keysR.mono ?_
            rintro e wA ⟨kv, rfl, hsA, bA⟩
            have HRA := Lib.hid (HR7.out.old HC.out bA)
            obtain ⟨ka, kc, rfl⟩ := ss_form hsA
            have hkl : (keysOf S2).length = cnt S2 := keysOf_len S2
            have hcn := HRA.out.fitD.cn
            rw [← hkl] at hcn
            obtain ⟨gb, hqb⟩ := HRA.out.blk
            obtain ⟨M, hM⟩ : ∃ M, M = S2.length := ⟨_, rfl⟩
            have hfw := HRA.out.fitD.few
            have K0 : Sx wA qb (.cells #[.slice (some ⟨gb, 0, none⟩) S2.length S2.length] 43) wA := ⟨hqb, Old.refl _⟩
            have HLEN := Lib.hid (fun W (hW : Sx wA qb (.cells #[.slice (some ⟨gb, 0, none⟩) S2.length S2.length] 43) W) => HRA.out.lenS HC.out hW)
            have HCAP := Lib.hid (fun W (hW : Sx wA qb (.cells #[.slice (some ⟨gb, 0, none⟩) S2.length S2.length] 43) W) => HRA.out.capS HC.out hW)
            rw [← hkl] at HLEN
            rw [← hM] at hfw K0 HLEN HCAP
            have n1 : ∀ W, Sx wA qb (.cells #[.slice (some ⟨gb, 0, none⟩) M M] 43) W → W.cell? ⟨qb, 0, none⟩ = some (.slice (some ⟨gb, 0, none⟩) M M) := fun W hW => Bx.cell hW.1 0
            clear hqb hM
            have HKM : Hid (∀ x ∈ keysOf S2, x.length ≤ 1000) := Lib.hid (fun x hx => by
              unfold keysOf at hx
              obtain ⟨s, hs, rfl⟩ := List.mem_map.1 hx
              exact HRA.out.fitD.keys s hs)
            generalize keysOf S2 = E at *
            obtain ⟨N, hN⟩ : ∃ N, N = E.length := ⟨_, rfl⟩
            rw [← hN] at hcn HLEN ⊢
            have HN := Lib.hid hN
            have HSA := Lib.hid hsA
            rw [← hN] at HSA
            clear hN hsA bA hkl HR7
            go_wp2_with fail
            go_region_held3 (fun W => Sx wA qb (.cells #[.slice (some ⟨gb, 0, none⟩) M M] 43) W) (first | assumption | exact K0 | exact K0.drew | exact Sx.drew ‹_›)
              (first
                | (go_at_call 17; (with_reducible refine (HLEN.out _ ?_).mono ?_); assumption; rintro e wB ⟨rfl, kB⟩)
                | (go_at_call 18; (with_reducible refine (HCAP.out _ ?_).mono ?_); assumption; rintro e wC ⟨rfl, kC⟩))
            have HRC := Lib.hid (HRA.out.old HC.out kC.old)
            have HAC : Hid (Below wA.heap.size wA wC) := Lib.hid kC.old
            clear n1 K0 HLEN HCAP HRA kB kC
            go_wp2_with fail
            go_loopg [17] N (fun g it wq => ∃ k : Nat, k + g = N ∧ it = .int .i64 k ∧ Below wC.heap.size wC wq)
            case atStart => exact ⟨0, by omega, rfl, Below.refl _ _⟩
            case round =>
              obtain ⟨j, hj, rfl, bq⟩ := hrel
              by_cases hjN : j < N
              · obtain ⟨x, hx⟩ : ∃ x, E[j]? = some x := ⟨E[j]'(by have := HN.out; omega), List.getElem?_eq_getElem _⟩
                have HXL := Lib.hid (HKM.out x (List.mem_of_getElem? hx))
                obtain ⟨g, hg, _, hgl, k0⟩ := ss_at HSA.out hx
                subst hg
                have HRD := Lib.hid (HRC.out.old HC.out bq)
                have BQ := Lib.hid bq
                have HAD := Lib.hid (HAC.out.trans (bq.mono HAC.out.size))
                have k1 := (Below.cell (p := ⟨g, j, none⟩) HAD.out hgl).trans k0
                obtain ⟨f, hf⟩ : ∃ f, f = farN S2 x := ⟨_, rfl⟩
                obtain ⟨lq, hlq⟩ : ∃ lq, lq = locOf S2 x := ⟨_, rfl⟩
                obtain ⟨bx, hbx⟩ : ∃ bx, bx = hasB S2 x := ⟨_, rfl⟩
                have HF2 := Lib.hid hf; have HLQ2 := Lib.hid hlq; have HBX := Lib.hid hbx
                clear hx bq k0 hf hlq hbx
                go_wp2_with fail
                refine (HRD.out.farD HC.out HXL.out).mono ?_
                rintro e wD ⟨rfl, bD⟩
                rw [← HF2.out, ← HBX.out]
                have HRE := Lib.hid (HRD.out.old HC.out bD)
                have HCD := Lib.hid (BQ.out.trans (bD.mono BQ.out.size))
                have k2 := (Below.cell (p := ⟨g, j, none⟩) bD (Nat.lt_of_lt_of_le hgl HAD.out.size)).trans k1
                have hzD := Nat.lt_of_lt_of_le (Nat.lt_of_lt_of_le hgl HAD.out.size) bD.size
                clear k1 bD HRD BQ HAD
                go_wp2_with fail
                refine (HRE.out.farR HXL.out).mono ?_
                rintro e wE ⟨rfl, bE⟩
                rw [← HF2.out, ← HBX.out]
                have HRF := Lib.hid (HRE.out.old HC.out bE)
                have HCE := Lib.hid (HCD.out.trans (bE.mono HCD.out.size))
                have k3 := (Below.cell (p := ⟨g, j, none⟩) bE hzD).trans k2
                have hzE := Nat.lt_of_lt_of_le hzD bE.size
                clear k2 bE HRE HCD hzD
                go_wp2_with fail
                refine (HRF.out.getD HC.out HXL.out).mono ?_
                rintro e wF ⟨rfl, bF⟩
                rw [← HLQ2.out, ← HBX.out]
                simp only [locV]
                have bF2 := bF.alloc bF.size (.cells #[.int .i64 lq.seg, .int .i64 lq.off, .int .i64 lq.len, .int .u64 lq.seq] 31)
                have k4 := (Below.cell (p := ⟨g, j, none⟩) bF2 hzE).trans k3
                have hzF := Nat.lt_of_lt_of_le hzE bF2.size
                have HRG := Lib.hid (HRF.out.old HC.out bF2)
                have HCF := Lib.hid (HCE.out.trans (bF2.mono HCE.out.size))
                have hxa := heap_alloc_new wF (.cells #[.int .i64 lq.seg, .int .i64 lq.off, .int .i64 lq.len, .int .u64 lq.seq] 31)
                have hxl : wF.heap.size < (wF.alloc (.cells #[.int .i64 lq.seg, .int .i64 lq.off, .int .i64 lq.len, .int .u64 lq.seq] 31)).heap.size := by simp
                obtain ⟨xb, hxb⟩ : ∃ xb, xb = wF.heap.size := ⟨_, rfl⟩
                have HXB := Lib.hid hxb
                rw [← hxb] at hxa hxl
                have HXA := Lib.hid hxa
                clear k3 bF bF2 HRF HCE hzE hxa hxb
                go_wp2_with fail
                rw [← HXB.out]
                generalize hWG : World.alloc wF _ = wG at *
                clear hWG
                refine (HRG.out.getR).mono ?_
                rintro e wH ⟨rfl, bH⟩
                rw [← HLQ2.out, ← HBX.out]
                simp only [locV]
                have bH2 := bH.alloc bH.size (.cells #[.int .i64 lq.seg, .int .i64 lq.off, .int .i64 lq.len, .int .u64 lq.seq] 31)
                have hya := heap_alloc_new wH (.cells #[.int .i64 lq.seg, .int .i64 lq.off, .int .i64 lq.len, .int .u64 lq.seq] 31)
                have hxa := (bH2.block _ hxl).trans HXA.out
                have HCH := Lib.hid (HCF.out.trans (bH2.mono HCF.out.size))
                have hcl := fun t => cell_of_row _ xb t _ _ (0, 0) hxa
                have e0 := hcl 0; have e1 := hcl 1; have e2 := hcl 2; have e3 := hcl 3
                have hdl := fun t => cell_of_row _ wH.heap.size t _ _ (0, 0) hya
                have f0 := hdl 0; have f1 := hdl 1; have f2 := hdl 2; have f3 := hdl 3
                simp only [List.getElem?_toArray, List.getElem?_cons_succ, List.getElem?_cons_zero] at e0 e1 e2 e3 f0 f1 f2 f3
                clear hcl hdl hxa hya bH bH2 HRG HCF k4 hzF hxl HXA
                go_wp2_with fail
                go_roundg (gk - 1)
                case measure => omega
                case rel => exact ⟨j + 1, by omega, by go_num, HCH.out⟩
              · obtain rfl : j = N := by omega
                have HRZ := Lib.hid (HRC.out.old HC.out bq)
                clear bq HRC HAC
                go_wp2_with fail
                have hG := HG.out
                go_roundg (G - 1)
                case measure => omega
                case rel => exact ⟨i + 1, S2, by omega, by go_num, HRZ.out⟩
          rcases Decidable.em (od = 1) with h1 | h1
          · as_aux_lemma =>
            obtain rfl : od = 1 := h1
            have HST : Hid (stepP S o = putS S o.k o.l) := Lib.hid (by unfold stepP; rw [if_pos (by rw [← HOD.out]; omega)])
            go_wp2_with fail
            rw [← hob]
            generalize hW4 : World.alloc wr _ = w5 at *
            clear hW4 hob
            refine (HR4.out.putD HC.out HI.out HK1.out o.l).mono ?_
            rintro e w6 ⟨rfl, h6⟩
            have HR6 := Lib.hid h6
            clear h6 HR4
            have hcl := fun t => cell_of_row w6 ob t _ _ (0, 0) (HR6.out.box _ (List.mem_cons_self ..))
            have e1 := hcl 1; have e2 := hcl 2; have e3 := hcl 3; have e4 := hcl 4; have e5 := hcl 5
            simp only [List.getElem?_toArray, List.getElem?_cons_succ, List.getElem?_cons_zero] at e1 e2 e3 e4 e5
            clear hcl
            go_wp2_with fail
            refine (HR6.out.putR HC.out HRR.out.fitR HI.out HK1.out o.l).mono ?_
            rintro e w7 ⟨rfl, h7⟩
            obtain ⟨S2, hS2⟩ : ∃ S2, S2 = putS S o.k o.l := ⟨_, rfl⟩
            rw [← hS2] at h7
            have HR7 := Lib.hid h7.less
            clear h7 HR6 e1 e2 e3 e4 e5 hS2
            go_wp2_with fail
            refine HR7.out.keysR.mono ?_
            rintro e wA ⟨kv, rfl, hsA, bA⟩
            have HRA := Lib.hid (HR7.out.old HC.out bA)
            obtain ⟨ka, kc, rfl⟩ := ss_form hsA
            have hkl : (keysOf S2).length = cnt S2 := keysOf_len S2
            have hcn := HRA.out.fitD.cn
            rw [← hkl] at hcn
            obtain ⟨gb, hqb⟩ := HRA.out.blk
            obtain ⟨M, hM⟩ : ∃ M, M = S2.length := ⟨_, rfl⟩
            have hfw := HRA.out.fitD.few
            have K0 : Sx wA qb (.cells #[.slice (some ⟨gb, 0, none⟩) S2.length S2.length] 43) wA := ⟨hqb, Old.refl _⟩
            have HLEN := Lib.hid (fun W (hW : Sx wA qb (.cells #[.slice (some ⟨gb, 0, none⟩) S2.length S2.length] 43) W) => HRA.out.lenS HC.out hW)
            have HCAP := Lib.hid (fun W (hW : Sx wA qb (.cells #[.slice (some ⟨gb, 0, none⟩) S2.length S2.length] 43) W) => HRA.out.capS HC.out hW)
            rw [← hkl] at HLEN
            rw [← hM] at hfw K0 HLEN HCAP
            have n1 : ∀ W, Sx wA qb (.cells #[.slice (some ⟨gb, 0, none⟩) M M] 43) W → W.cell? ⟨qb, 0, none⟩ = some (.slice (some ⟨gb, 0, none⟩) M M) := fun W hW => Bx.cell hW.1 0
            clear hqb hM
            have HKM : Hid (∀ x ∈ keysOf S2, x.length ≤ 1000) := Lib.hid (fun x hx => by
              unfold keysOf at hx
              obtain ⟨s, hs, rfl⟩ := List.mem_map.1 hx
              exact HRA.out.fitD.keys s hs)
            generalize keysOf S2 = E at *
            obtain ⟨N, hN⟩ : ∃ N, N = E.length := ⟨_, rfl⟩
            rw [← hN] at hcn HLEN ⊢
            have HN := Lib.hid hN
            have HSA := Lib.hid hsA
            rw [← hN] at HSA
            clear hN hsA bA hkl HR7
            go_wp2_with fail
            go_region_held3 (fun W => Sx wA qb (.cells #[.slice (some ⟨gb, 0, none⟩) M M] 43) W) (first | assumption | exact K0 | exact K0.drew | exact Sx.drew ‹_›)
              (first
                | (go_at_call 17; (with_reducible refine (HLEN.out _ ?_).mono ?_); assumption; rintro e wB ⟨rfl, kB⟩)
                | (go_at_call 18; (with_reducible refine (HCAP.out _ ?_).mono ?_); assumption; rintro e wC ⟨rfl, kC⟩))
            have HRC := Lib.hid (HRA.out.old HC.out kC.old)
            have HAC : Hid (Below wA.heap.size wA wC) := Lib.hid kC.old
            clear n1 K0 HLEN HCAP HRA kB kC
            go_wp2_with fail
            go_loopg [17] N (fun g it wq => ∃ k : Nat, k + g = N ∧ it = .int .i64 k ∧ Below wC.heap.size wC wq)
            case atStart => exact ⟨0, by omega, rfl, Below.refl _ _⟩
            case round =>
              obtain ⟨j, hj, rfl, bq⟩ := hrel
              by_cases hjN : j < N
              · obtain ⟨x, hx⟩ : ∃ x, E[j]? = some x := ⟨E[j]'(by have := HN.out; omega), List.getElem?_eq_getElem _⟩
                have HXL := Lib.hid (HKM.out x (List.mem_of_getElem? hx))
                obtain ⟨g, hg, _, hgl, k0⟩ := ss_at HSA.out hx
                subst hg
                have HRD := Lib.hid (HRC.out.old HC.out bq)
                have BQ := Lib.hid bq
                have HAD := Lib.hid (HAC.out.trans (bq.mono HAC.out.size))
                have k1 := (Below.cell (p := ⟨g, j, none⟩) HAD.out hgl).trans k0
                obtain ⟨f, hf⟩ : ∃ f, f = farN S2 x := ⟨_, rfl⟩
                obtain ⟨lq, hlq⟩ : ∃ lq, lq = locOf S2 x := ⟨_, rfl⟩
                obtain ⟨bx, hbx⟩ : ∃ bx, bx = hasB S2 x := ⟨_, rfl⟩
                have HF2 := Lib.hid hf; have HLQ2 := Lib.hid hlq; have HBX := Lib.hid hbx
                clear hx bq k0 hf hlq hbx
                go_wp2_with fail
                refine (HRD.out.farD HC.out HXL.out).mono ?_
                rintro e wD ⟨rfl, bD⟩
                rw [← HF2.out, ← HBX.out]
                have HRE := Lib.hid (HRD.out.old HC.out bD)
                have HCD := Lib.hid (BQ.out.trans (bD.mono BQ.out.size))
                have k2 := (Below.cell (p := ⟨g, j, none⟩) bD (Nat.lt_of_lt_of_le hgl HAD.out.size)).trans k1
                have hzD := Nat.lt_of_lt_of_le (Nat.lt_of_lt_of_le hgl HAD.out.size) bD.size
                clear k1 bD HRD BQ HAD
                go_wp2_with fail
                refine (HRE.out.farR HXL.out).mono ?_
                rintro e wE ⟨rfl, bE⟩
                rw [← HF2.out, ← HBX.out]
                have HRF := Lib.hid (HRE.out.old HC.out bE)
                have HCE := Lib.hid (HCD.out.trans (bE.mono HCD.out.size))
                have k3 := (Below.cell (p := ⟨g, j, none⟩) bE hzD).trans k2
                have hzE := Nat.lt_of_lt_of_le hzD bE.size
                clear k2 bE HRE HCD hzD
                go_wp2_with fail
                refine (HRF.out.getD HC.out HXL.out).mono ?_
                rintro e wF ⟨rfl, bF⟩
                rw [← HLQ2.out, ← HBX.out]
                simp only [locV]
                have bF2 := bF.alloc bF.size (.cells #[.int .i64 lq.seg, .int .i64 lq.off, .int .i64 lq.len, .int .u64 lq.seq] 31)
                have k4 := (Below.cell (p := ⟨g, j, none⟩) bF2 hzE).trans k3
                have hzF := Nat.lt_of_lt_of_le hzE bF2.size
                have HRG := Lib.hid (HRF.out.old HC.out bF2)
                have HCF := Lib.hid (HCE.out.trans (bF2.mono HCE.out.size))
                have hxa := heap_alloc_new wF (.cells #[.int .i64 lq.seg, .int .i64 lq.off, .int .i64 lq.len, .int .u64 lq.seq] 31)
                have hxl : wF.heap.size < (wF.alloc (.cells #[.int .i64 lq.seg, .int .i64 lq.off, .int .i64 lq.len, .int .u64 lq.seq] 31)).heap.size := by simp
                obtain ⟨xb, hxb⟩ : ∃ xb, xb = wF.heap.size := ⟨_, rfl⟩
                have HXB := Lib.hid hxb
                rw [← hxb] at hxa hxl
                have HXA := Lib.hid hxa
                clear k3 bF bF2 HRF HCE hzE hxa hxb
                go_wp2_with fail
                rw [← HXB.out]
                generalize hWG : World.alloc wF _ = wG at *
                clear hWG
                refine (HRG.out.getR).mono ?_
                rintro e wH ⟨rfl, bH⟩
                rw [← HLQ2.out, ← HBX.out]
                simp only [locV]
                have bH2 := bH.alloc bH.size (.cells #[.int .i64 lq.seg, .int .i64 lq.off, .int .i64 lq.len, .int .u64 lq.seq] 31)
                have hya := heap_alloc_new wH (.cells #[.int .i64 lq.seg, .int .i64 lq.off, .int .i64 lq.len, .int .u64 lq.seq] 31)
                have hxa := (bH2.block _ hxl).trans HXA.out
                have HCH := Lib.hid (HCF.out.trans (bH2.mono HCF.out.size))
                have hcl := fun t => cell_of_row _ xb t _ _ (0, 0) hxa
                have e0 := hcl 0; have e1 := hcl 1; have e2 := hcl 2; have e3 := hcl 3
                have hdl := fun t => cell_of_row _ wH.heap.size t _ _ (0, 0) hya
                have f0 := hdl 0; have f1 := hdl 1; have f2 := hdl 2; have f3 := hdl 3
                simp only [List.getElem?_toArray, List.getElem?_cons_succ, List.getElem?_cons_zero] at e0 e1 e2 e3 f0 f1 f2 f3
                clear hcl hdl hxa hya bH bH2 HRG HCF k4 hzF hxl HXA
                go_wp2_with fail
                go_roundg (gk - 1)
                case measure => omega
                case rel => exact ⟨j + 1, by omega, by go_num, HCH.out⟩
              · obtain rfl : j = N := by omega
                have HRZ := Lib.hid (HRC.out.old HC.out bq)
                clear bq HRC HAC
                go_wp2_with fail
                have hG := HG.out
                go_roundg (G - 1)
                case measure => omega
                case rel => exact ⟨i + 1, S2, by omega, by go_num, HRZ.out⟩
          rcases Decidable.em (od = 2) with h2 | h2
          · as_aux_lemma =>
            obtain rfl : od = 2 := h2
            have HST : Hid (stepP S o = putS S o.k o.l) := Lib.hid (by unfold stepP; rw [if_pos (by rw [← HOD.out]; omega)])
            go_wp2_with fail
            rw [← hob]
            generalize hW4 : World.alloc wr _ = w5 at *
            clear hW4 hob
            refine (HR4.out.putD HC.out HI.out HK1.out o.l).mono ?_
            rintro e w6 ⟨rfl, h6⟩
            have HR6 := Lib.hid h6
            clear h6 HR4
            have hcl := fun t => cell_of_row w6 ob t _ _ (0, 0) (HR6.out.box _ (List.mem_cons_self ..))
            have e1 := hcl 1; have e2 := hcl 2; have e3 := hcl 3; have e4 := hcl 4; have e5 := hcl 5
            simp only [List.getElem?_toArray, List.getElem?_cons_succ, List.getElem?_cons_zero] at e1 e2 e3 e4 e5
            clear hcl
            go_wp2_with fail
            refine (HR6.out.putR HC.out HRR.out.fitR HI.out HK1.out o.l).mono ?_
            rintro e w7 ⟨rfl, h7⟩
            obtain ⟨S2, hS2⟩ : ∃ S2, S2 = putS S o.k o.l := ⟨_, rfl⟩
            rw [← hS2] at h7
            have HR7 := Lib.hid h7.less
            clear h7 HR6 e1 e2 e3 e4 e5 hS2
            go_wp2_with fail
            refine HR7.out.keysR.mono ?_
            rintro e wA ⟨kv, rfl, hsA, bA⟩
            have HRA := Lib.hid (HR7.out.old HC.out bA)
            obtain ⟨ka, kc, rfl⟩ := ss_form hsA
            have hkl : (keysOf S2).length = cnt S2 := keysOf_len S2
            have hcn := HRA.out.fitD.cn
            rw [← hkl] at hcn
            obtain ⟨gb, hqb⟩ := HRA.out.blk
            obtain ⟨M, hM⟩ : ∃ M, M = S2.length := ⟨_, rfl⟩
            have hfw := HRA.out.fitD.few
            have K0 : Sx wA qb (.cells #[.slice (some ⟨gb, 0, none⟩) S2.length S2.length] 43) wA := ⟨hqb, Old.refl _⟩
            have HLEN := Lib.hid (fun W (hW : Sx wA qb (.cells #[.slice (some ⟨gb, 0, none⟩) S2.length S2.length] 43) W) => HRA.out.lenS HC.out hW)
            have HCAP := Lib.hid (fun W (hW : Sx wA qb (.cells #[.slice (some ⟨gb, 0, none⟩) S2.length S2.length] 43) W) => HRA.out.capS HC.out hW)
            rw [← hkl] at HLEN
            rw [← hM] at hfw K0 HLEN HCAP
            have n1 : ∀ W, Sx wA qb (.cells #[.slice (some ⟨gb, 0, none⟩) M M] 43) W → W.cell? ⟨qb, 0, none⟩ = some (.slice (some ⟨gb, 0, none⟩) M M) := fun W hW => Bx.cell hW.1 0
            clear hqb hM
            have HKM : Hid (∀ x ∈ keysOf S2, x.length ≤ 1000) := Lib.hid (fun x hx => by
              unfold keysOf at hx
              obtain ⟨s, hs, rfl⟩ := List.mem_map.1 hx
              exact HRA.out.fitD.keys s hs)
            generalize keysOf S2 = E at *
            obtain ⟨N, hN⟩ : ∃ N, N = E.length := ⟨_, rfl⟩
            rw [← hN] at hcn HLEN ⊢
            have HN := Lib.hid hN
            have HSA := Lib.hid hsA
            rw [← hN] at HSA
            clear hN hsA bA hkl HR7
            go_wp2_with fail
            go_region_held3 (fun W => Sx wA qb (.cells #[.slice (some ⟨gb, 0, none⟩) M M] 43) W) (first | assumption | exact K0 | exact K0.drew | exact Sx.drew ‹_›)
              (first
                | (go_at_call 17; (with_reducible refine (HLEN.out _ ?_).mono ?_); assumption; rintro e wB ⟨rfl, kB⟩)
                | (go_at_call 18; (with_reducible refine (HCAP.out _ ?_).mono ?_); assumption; rintro e wC ⟨rfl, kC⟩))
            have HRC := Lib.hid (HRA.out.old HC.out kC.old)
            have HAC : Hid (Below wA.heap.size wA wC) := Lib.hid kC.old
            clear n1 K0 HLEN HCAP HRA kB kC
            go_wp2_with fail
            go_loopg [17] N (fun g it wq => ∃ k : Nat, k + g = N ∧ it = .int .i64 k ∧ Below wC.heap.size wC wq)
            case atStart => exact ⟨0, by omega, rfl, Below.refl _ _⟩
            case round =>
              obtain ⟨j, hj, rfl, bq⟩ := hrel
              by_cases hjN : j < N
              · obtain ⟨x, hx⟩ : ∃ x, E[j]? = some x := ⟨E[j]'(by have := HN.out; omega), List.getElem?_eq_getElem _⟩
                have HXL := Lib.hid (HKM.out x (List.mem_of_getElem? hx))
                obtain ⟨g, hg, _, hgl, k0⟩ := ss_at HSA.out hx
                subst hg
                have HRD := Lib.hid (HRC.out.old HC.out bq)
                have BQ := Lib.hid bq
                have HAD := Lib.hid (HAC.out.trans (bq.mono HAC.out.size))
                have k1 := (Below.cell (p := ⟨g, j, none⟩) HAD.out hgl).trans k0
                obtain ⟨f, hf⟩ : ∃ f, f = farN S2 x := ⟨_, rfl⟩
                obtain ⟨lq, hlq⟩ : ∃ lq, lq = locOf S2 x := ⟨_, rfl⟩
                obtain ⟨bx, hbx⟩ : ∃ bx, bx = hasB S2 x := ⟨_, rfl⟩
                have HF2 := Lib.hid hf; have HLQ2 := Lib.hid hlq; have HBX := Lib.hid hbx
                clear hx bq k0 hf hlq hbx
                go_wp2_with fail
                refine (HRD.out.farD HC.out HXL.out).mono ?_
                rintro e wD ⟨rfl, bD⟩
                rw [← HF2.out, ← HBX.out]
                have HRE := Lib.hid (HRD.out.old HC.out bD)
                have HCD := Lib.hid (BQ.out.trans (bD.mono BQ.out.size))
                have k2 := (Below.cell (p := ⟨g, j, none⟩) bD (Nat.lt_of_lt_of_le hgl HAD.out.size)).trans k1
                have hzD := Nat.lt_of_lt_of_le (Nat.lt_of_lt_of_le hgl HAD.out.size) bD.size
                clear k1 bD HRD BQ HAD
                go_wp2_with fail
                refine (HRE.out.farR HXL.out).mono ?_
                rintro e wE ⟨rfl, bE⟩
                rw [← HF2.out, ← HBX.out]
                have HRF := Lib.hid (HRE.out.old HC.out bE)
                have HCE := Lib.hid (HCD.out.trans (bE.mono HCD.out.size))
                have k3 := (Below.cell (p := ⟨g, j, none⟩) bE hzD).trans k2
                have hzE := Nat.lt_of_lt_of_le hzD bE.size
                clear k2 bE HRE HCD hzD
                go_wp2_with fail
                refine (HRF.out.getD HC.out HXL.out).mono ?_
                rintro e wF ⟨rfl, bF⟩
                rw [← HLQ2.out, ← HBX.out]
                simp only [locV]
                have bF2 := bF.alloc bF.size (.cells #[.int .i64 lq.seg, .int .i64 lq.off, .int .i64 lq.len, .int .u64 lq.seq] 31)
                have k4 := (Below.cell (p := ⟨g, j, none⟩) bF2 hzE).trans k3
                have hzF := Nat.lt_of_lt_of_le hzE bF2.size
                have HRG := Lib.hid (HRF.out.old HC.out bF2)
                have HCF := Lib.hid (HCE.out.trans (bF2.mono HCE.out.size))
                have hxa := heap_alloc_new wF (.cells #[.int .i64 lq.seg, .int .i64 lq.off, .int .i64 lq.len, .int .u64 lq.seq] 31)
                have hxl : wF.heap.size < (wF.alloc (.cells #[.int .i64 lq.seg, .int .i64 lq.off, .int .i64 lq.len, .int .u64 lq.seq] 31)).heap.size := by simp
                obtain ⟨xb, hxb⟩ : ∃ xb, xb = wF.heap.size := ⟨_, rfl⟩
                have HXB := Lib.hid hxb
                rw [← hxb] at hxa hxl
                have HXA := Lib.hid hxa
                clear k3 bF bF2 HRF HCE hzE hxa hxb
                go_wp2_with fail
                rw [← HXB.out]
                generalize hWG : World.alloc wF _ = wG at *
                clear hWG
                refine (HRG.out.getR).mono ?_
                rintro e wH ⟨rfl, bH⟩
                rw [← HLQ2.out, ← HBX.out]
                simp only [locV]
                have bH2 := bH.alloc bH.size (.cells #[.int .i64 lq.seg, .int .i64 lq.off, .int .i64 lq.len, .int .u64 lq.seq] 31)
                have hya := heap_alloc_new wH (.cells #[.int .i64 lq.seg, .int .i64 lq.off, .int .i64 lq.len, .int .u64 lq.seq] 31)
                have hxa := (bH2.block _ hxl).trans HXA.out
                have HCH := Lib.hid (HCF.out.trans (bH2.mono HCF.out.size))
                have hcl := fun t => cell_of_row _ xb t _ _ (0, 0) hxa
                have e0 := hcl 0; have e1 := hcl 1; have e2 := hcl 2; have e3 := hcl 3
                have hdl := fun t => cell_of_row _ wH.heap.size t _ _ (0, 0) hya
                have f0 := hdl 0; have f1 := hdl 1; have f2 := hdl 2; have f3 := hdl 3
                simp only [List.getElem?_toArray, List.getElem?_cons_succ, List.getElem?_cons_zero] at e0 e1 e2 e3 f0 f1 f2 f3
                clear hcl hdl hxa hya bH bH2 HRG HCF k4 hzF hxl HXA
                go_wp2_with fail
                go_roundg (gk - 1)
                case measure => omega
                case rel => exact ⟨j + 1, by omega, by go_num, HCH.out⟩
              · obtain rfl : j = N := by omega
                have HRZ := Lib.hid (HRC.out.old HC.out bq)
                clear bq HRC HAC
                go_wp2_with fail
                have hG := HG.out
                go_roundg (G - 1)
                case measure => omega
                case rel => exact ⟨i + 1, S2, by omega, by go_num, HRZ.out⟩
          rcases Decidable.em (od = 3) with h3 | h3
          · as_aux_lemma =>
            obtain rfl : od = 3 := h3
            obtain ⟨lq, hlq⟩ : ∃ lq, lq = locOf S o.k := ⟨_, rfl⟩
            obtain ⟨bq, hbq⟩ : ∃ bq, bq = hasB S o.k := ⟨_, rfl⟩
            have HLQ := Lib.hid hlq; have HBQ := Lib.hid hbq
            clear hlq hbq
            go_wp2_with fail
            rw [← hob]
            generalize hW4 : World.alloc wr _ = w5 at *
            clear hW4 hob
            refine (HR4.out.getD HC.out HK1.out).mono ?_
            rintro e w6 ⟨rfl, b6⟩
            rw [← HLQ.out, ← HBQ.out]
            have HR6 := Lib.hid (HR4.out.old HC.out b6)
            clear b6 HR4
            simp only [locV]
            have hba := (Below.refl w6.heap.size w6).alloc (Nat.le_refl _) (.cells #[.int .i64 lq.seg, .int .i64 lq.off, .int .i64 lq.len, .int .u64 lq.seq] 31)
            have HA := Lib.hid (HR6.out.add HC.out hba (heap_alloc_new w6 (.cells #[.int .i64 lq.seg, .int .i64 lq.off, .int .i64 lq.len, .int .u64 lq.seq] 31)) (Nat.le_refl _))
            have hcl := fun t => cell_of_row _ ob t _ _ (0, 0) (HA.out.box _ (List.mem_cons_of_mem _ (List.mem_cons_self ..)))
            have e1 := hcl 1
            simp only [List.getElem?_toArray, List.getElem?_cons_succ, List.getElem?_cons_zero] at e1
            clear hcl hba
            go_wp2_with fail
            refine (HA.out.getR).mono ?_
            rintro e w8 ⟨rfl, b8⟩
            rw [← HLQ.out, ← HBQ.out]
            have HR8 := Lib.hid (HA.out.old HC.out b8)
            clear b8 HA HR6 e1
            simp only [locV]
            have hba := (Below.refl w8.heap.size w8).alloc (Nat.le_refl _) (.cells #[.int .i64 lq.seg, .int .i64 lq.off, .int .i64 lq.len, .int .u64 lq.seq] 31)
            have HR7 := Lib.hid ((HR8.out.old HC.out hba).less.more (Nat.le_succ i))
            have hxa := hba.block _ (Array.getElem?_eq_some_iff.1 (HR8.out.box _ (List.mem_cons_self ..))).1
            rw [HR8.out.box _ (List.mem_cons_self ..)] at hxa
            have hcl := fun t => cell_of_row _ w6.heap.size t _ _ (0, 0) hxa
            have e0 := hcl 0; have e1 := hcl 1; have e2 := hcl 2; have e3 := hcl 3
            have hdl := fun t => cell_of_row _ w8.heap.size t _ _ (0, 0) (heap_alloc_new w8 (.cells #[.int .i64 lq.seg, .int .i64 lq.off, .int .i64 lq.len, .int .u64 lq.seq] 31))
            have f0 := hdl 0; have f1 := hdl 1; have f2 := hdl 2; have f3 := hdl 3
            simp only [List.getElem?_toArray, List.getElem?_cons_succ, List.getElem?_cons_zero] at e0 e1 e2 e3 f0 f1 f2 f3
            clear hcl hdl hxa hba HR8
            go_wp2_with fail
            generalize World.alloc w8 _ = w7 at *
            obtain ⟨S2, hS2⟩ : ∃ S2, S2 = S := ⟨_, rfl⟩
            rw [← hS2] at HR7
            clear hS2 e0 e1 e2 e3 f0 f1 f2 f3
            refine HR7.out.keysR.mono ?_
            rintro e wA ⟨kv, rfl, hsA, bA⟩
            have HRA := Lib.hid (HR7.out.old HC.out bA)
            obtain ⟨ka, kc, rfl⟩ := ss_form hsA
            have hkl : (keysOf S2).length = cnt S2 := keysOf_len S2
            have hcn := HRA.out.fitD.cn
            rw [← hkl] at hcn
            obtain ⟨gb, hqb⟩ := HRA.out.blk
            obtain ⟨M, hM⟩ : ∃ M, M = S2.length := ⟨_, rfl⟩
            have hfw := HRA.out.fitD.few
            have K0 : Sx wA qb (.cells #[.slice (some ⟨gb, 0, none⟩) S2.length S2.length] 43) wA := ⟨hqb, Old.refl _⟩
            have HLEN := Lib.hid (fun W (hW : Sx wA qb (.cells #[.slice (some ⟨gb, 0, none⟩) S2.length S2.length] 43) W) => HRA.out.lenS HC.out hW)
            have HCAP := Lib.hid (fun W (hW : Sx wA qb (.cells #[.slice (some ⟨gb, 0, none⟩) S2.length S2.length] 43) W) => HRA.out.capS HC.out hW)
            rw [← hkl] at HLEN
            rw [← hM] at hfw K0 HLEN HCAP
            have n1 : ∀ W, Sx wA qb (.cells #[.slice (some ⟨gb, 0, none⟩) M M] 43) W → W.cell? ⟨qb, 0, none⟩ = some (.slice (some ⟨gb, 0, none⟩) M M) := fun W hW => Bx.cell hW.1 0
            clear hqb hM
            have HKM : Hid (∀ x ∈ keysOf S2, x.length ≤ 1000) := Lib.hid (fun x hx => by
              unfold keysOf at hx
              obtain ⟨s, hs, rfl⟩ := List.mem_map.1 hx
              exact HRA.out.fitD.keys s hs)
            generalize keysOf S2 = E at *
            obtain ⟨N, hN⟩ : ∃ N, N = E.length := ⟨_, rfl⟩
            rw [← hN] at hcn HLEN ⊢
            have HN := Lib.hid hN
            have HSA := Lib.hid hsA
            rw [← hN] at HSA
            clear hN hsA bA hkl HR7
            go_wp2_with fail
            go_region_held3 (fun W => Sx wA qb (.cells #[.slice (some ⟨gb, 0, none⟩) M M] 43) W) (first | assumption | exact K0 | exact K0.drew | exact Sx.drew ‹_›)
              (first
                | (go_at_call 17; (with_reducible refine (HLEN.out _ ?_).mono ?_); assumption; rintro e wB ⟨rfl, kB⟩)
                | (go_at_call 18; (with_reducible refine (HCAP.out _ ?_).mono ?_); assumption; rintro e wC ⟨rfl, kC⟩))
            have HRC := Lib.hid (HRA.out.old HC.out kC.old)
            have HAC : Hid (Below wA.heap.size wA wC) := Lib.hid kC.old
            clear n1 K0 HLEN HCAP HRA kB kC
            go_wp2_with fail
            go_loopg [17] N (fun g it wq => ∃ k : Nat, k + g = N ∧ it = .int .i64 k ∧ Below wC.heap.size wC wq)
            case atStart => exact ⟨0, by omega, rfl, Below.refl _ _⟩
            case round =>
              obtain ⟨j, hj, rfl, bq⟩ := hrel
              by_cases hjN : j < N
              · obtain ⟨x, hx⟩ : ∃ x, E[j]? = some x := ⟨E[j]'(by have := HN.out; omega), List.getElem?_eq_getElem _⟩
                have HXL := Lib.hid (HKM.out x (List.mem_of_getElem? hx))
                obtain ⟨g, hg, _, hgl, k0⟩ := ss_at HSA.out hx
                subst hg
                have HRD := Lib.hid (HRC.out.old HC.out bq)
                have BQ := Lib.hid bq
                have HAD := Lib.hid (HAC.out.trans (bq.mono HAC.out.size))
                have k1 := (Below.cell (p := ⟨g, j, none⟩) HAD.out hgl).trans k0
                obtain ⟨f, hf⟩ : ∃ f, f = farN S2 x := ⟨_, rfl⟩
                obtain ⟨lq, hlq⟩ : ∃ lq, lq = locOf S2 x := ⟨_, rfl⟩
                obtain ⟨bx, hbx⟩ : ∃ bx, bx = hasB S2 x := ⟨_, rfl⟩
                have HF2 := Lib.hid hf; have HLQ2 := Lib.hid hlq; have HBX := Lib.hid hbx
                clear hx bq k0 hf hlq hbx
                go_wp2_with fail
                refine (HRD.out.farD HC.out HXL.out).mono ?_
                rintro e wD ⟨rfl, bD⟩
                rw [← HF2.out, ← HBX.out]
                have HRE := Lib.hid (HRD.out.old HC.out bD)
                have HCD := Lib.hid (BQ.out.trans (bD.mono BQ.out.size))
                have k2 := (Below.cell (p := ⟨g, j, none⟩) bD (Nat.lt_of_lt_of_le hgl HAD.out.size)).trans k1
                have hzD := Nat.lt_of_lt_of_le (Nat.lt_of_lt_of_le hgl HAD.out.size) bD.size
                clear k1 bD HRD BQ HAD
                go_wp2_with fail
                refine (HRE.out.farR HXL.out).mono ?_
                rintro e wE ⟨rfl, bE⟩
                rw [← HF2.out, ← HBX.out]
                have HRF := Lib.hid (HRE.out.old HC.out bE)
                have HCE := Lib.hid (HCD.out.trans (bE.mono HCD.out.size))
                have k3 := (Below.cell (p := ⟨g, j, none⟩) bE hzD).trans k2
                have hzE := Nat.lt_of_lt_of_le hzD bE.size
                clear k2 bE HRE HCD hzD
                go_wp2_with fail
                refine (HRF.out.getD HC.out HXL.out).mono ?_
                rintro e wF ⟨rfl, bF⟩
                rw [← HLQ2.out, ← HBX.out]
                simp only [locV]
                have bF2 := bF.alloc bF.size (.cells #[.int .i64 lq.seg, .int .i64 lq.off, .int .i64 lq.len, .int .u64 lq.seq] 31)
                have k4 := (Below.cell (p := ⟨g, j, none⟩) bF2 hzE).trans k3
                have hzF := Nat.lt_of_lt_of_le hzE bF2.size
                have HRG := Lib.hid (HRF.out.old HC.out bF2)
                have HCF := Lib.hid (HCE.out.trans (bF2.mono HCE.out.size))
                have hxa := heap_alloc_new wF (.cells #[.int .i64 lq.seg, .int .i64 lq.off, .int .i64 lq.len, .int .u64 lq.seq] 31)
                have hxl : wF.heap.size < (wF.alloc (.cells #[.int .i64 lq.seg, .int .i64 lq.off, .int .i64 lq.len, .int .u64 lq.seq] 31)).heap.size := by simp
                obtain ⟨xb, hxb⟩ : ∃ xb, xb = wF.heap.size := ⟨_, rfl⟩
                have HXB := Lib.hid hxb
                rw [← hxb] at hxa hxl
                have HXA := Lib.hid hxa
                clear k3 bF bF2 HRF HCE hzE hxa hxb
                go_wp2_with fail
                rw [← HXB.out]
                generalize hWG : World.alloc wF _ = wG at *
                clear hWG
                refine (HRG.out.getR).mono ?_
                rintro e wH ⟨rfl, bH⟩
                rw [← HLQ2.out, ← HBX.out]
                simp only [locV]
                have bH2 := bH.alloc bH.size (.cells #[.int .i64 lq.seg, .int .i64 lq.off, .int .i64 lq.len, .int .u64 lq.seq] 31)
                have hya := heap_alloc_new wH (.cells #[.int .i64 lq.seg, .int .i64 lq.off, .int .i64 lq.len, .int .u64 lq.seq] 31)
                have hxa := (bH2.block _ hxl).trans HXA.out
                have HCH := Lib.hid (HCF.out.trans (bH2.mono HCF.out.size))
                have hcl := fun t => cell_of_row _ xb t _ _ (0, 0) hxa
                have e0 := hcl 0; have e1 := hcl 1; have e2 := hcl 2; have e3 := hcl 3
                have hdl := fun t => cell_of_row _ wH.heap.size t _ _ (0, 0) hya
                have f0 := hdl 0; have f1 := hdl 1; have f2 := hdl 2; have f3 := hdl 3
                simp only [List.getElem?_toArray, List.getElem?_cons_succ, List.getElem?_cons_zero] at e0 e1 e2 e3 f0 f1 f2 f3
                clear hcl hdl hxa hya bH bH2 HRG HCF k4 hzF hxl HXA
                go_wp2_with fail
                go_roundg (gk - 1)
                case measure => omega
                case rel => exact ⟨j + 1, by omega, by go_num, HCH.out⟩
              · obtain rfl : j = N := by omega
                have HRZ := Lib.hid (HRC.out.old HC.out bq)
                clear bq HRC HAC
                go_wp2_with fail
                have hG := HG.out
                go_roundg (G - 1)
                case measure => omega
                case rel => exact ⟨i + 1, S2, by omega, by go_num, HRZ.out⟩
          · as_aux_lemma =>
            have n0 : (od == 0) = false := by rw [beq_eq_false_iff_ne]; exact h0
            have n1 : (od == 1) = false := by rw [beq_eq_false_iff_ne]; exact h1
            have n2 : (od == 2) = false := by rw [beq_eq_false_iff_ne]; exact h2
            have n3 : (od == 3) = false := by rw [beq_eq_false_iff_ne]; exact h3
            go_wp2_with fail
            rw [← hob]
            generalize hW4 : World.alloc wr _ = w5 at *
            clear hW4 hob
            have K0 := Bx.of (HR4.out.box _ (List.mem_cons_self ..))
            have n1 : ∀ W, Bx ob (.cells #[.int .i64 od, .string (bs o.k), .int .i64 o.l.seg, .int .i64 o.l.off, .int .i64 o.l.len, .int .u64 o.l.seq] 33) W → W.cell? ⟨ob, 1, none⟩ = some (.string (bs o.k)) := fun W hW => hW.cell 1
            have HDD := Lib.hid (fun W (hW : Old w5 W) => (HR4.out.old HC.out hW).delD HC.out HK1.out)
            go_region_held3 (fun W => Bx ob (.cells #[.int .i64 od, .string (bs o.k), .int .i64 o.l.seg, .int .i64 o.l.off, .int .i64 o.l.len, .int .u64 o.l.seq] 33) W) (first | assumption | exact K0 | exact K0.drew | exact Bx.drew ‹_›)
              (first
                | (go_at_call 14
                   refine (HDD.out _ (by first | exact Old.refl _ | exact (Old.refl _).drew)).mono ?_
                   rintro e w6 ⟨rfl, h6⟩
                   have HR6 := Lib.hid h6
                   have K6 := Bx.of (h6.box _ (List.mem_cons_self ..))
                   clear h6)
                | (go_at_call 15
                   refine ((HR6.out.old HC.out (by first | exact Old.refl _ | exact (Old.refl _).drew | exact ((Old.refl _).drew).drew)).delR HC.out HK1.out).mono ?_
                   rintro e w7 ⟨rfl, h7⟩
                   have HR7 := Lib.hid h7
                   have K7 := Bx.of (h7.box _ (List.mem_cons_self ..))
                   clear h7))
            obtain ⟨S2, hS2⟩ : ∃ S2, S2 = delS S o.k := ⟨_, rfl⟩
            rw [← hS2] at HR7
            have HR8 := Lib.hid (HR7.out.less.more (Nat.le_succ i))
            clear HR7 HR6 K0 K6 K7 n1 hS2 HDD HR4
            go_wp2_with fail
            have HR7 := HR8
            clear HR8
            refine HR7.out.keysR.mono ?_
            rintro e wA ⟨kv, rfl, hsA, bA⟩
            have HRA := Lib.hid (HR7.out.old HC.out bA)
            obtain ⟨ka, kc, rfl⟩ := ss_form hsA
            have hkl : (keysOf S2).length = cnt S2 := keysOf_len S2
            have hcn := HRA.out.fitD.cn
            rw [← hkl] at hcn
            obtain ⟨gb, hqb⟩ := HRA.out.blk
            obtain ⟨M, hM⟩ : ∃ M, M = S2.length := ⟨_, rfl⟩
            have hfw := HRA.out.fitD.few
            have K0 : Sx wA qb (.cells #[.slice (some ⟨gb, 0, none⟩) S2.length S2.length] 43) wA := ⟨hqb, Old.refl _⟩
            have HLEN := Lib.hid (fun W (hW : Sx wA qb (.cells #[.slice (some ⟨gb, 0, none⟩) S2.length S2.length] 43) W) => HRA.out.lenS HC.out hW)
            have HCAP := Lib.hid (fun W (hW : Sx wA qb (.cells #[.slice (some ⟨gb, 0, none⟩) S2.length S2.length] 43) W) => HRA.out.capS HC.out hW)
            rw [← hkl] at HLEN
            rw [← hM] at hfw K0 HLEN HCAP
            have n1 : ∀ W, Sx wA qb (.cells #[.slice (some ⟨gb, 0, none⟩) M M] 43) W → W.cell? ⟨qb, 0, none⟩ = some (.slice (some ⟨gb, 0, none⟩) M M) := fun W hW => Bx.cell hW.1 0
            clear hqb hM
            have HKM : Hid (∀ x ∈ keysOf S2, x.length ≤ 1000) := Lib.hid (fun x hx => by
              unfold keysOf at hx
              obtain ⟨s, hs, rfl⟩ := List.mem_map.1 hx
              exact HRA.out.fitD.keys s hs)
            generalize keysOf S2 = E at *
            obtain ⟨N, hN⟩ : ∃ N, N = E.length := ⟨_, rfl⟩
            rw [← hN] at hcn HLEN ⊢
            have HN := Lib.hid hN
            have HSA := Lib.hid hsA
            rw [← hN] at HSA
            clear hN hsA bA hkl HR7
            go_wp2_with fail
            go_region_held3 (fun W => Sx wA qb (.cells #[.slice (some ⟨gb, 0, none⟩) M M] 43) W) (first | assumption | exact K0 | exact K0.drew | exact Sx.drew ‹_›)
              (first
                | (go_at_call 17; (with_reducible refine (HLEN.out _ ?_).mono ?_); assumption; rintro e wB ⟨rfl, kB⟩)
                | (go_at_call 18; (with_reducible refine (HCAP.out _ ?_).mono ?_); assumption; rintro e wC ⟨rfl, kC⟩))
            have HRC := Lib.hid (HRA.out.old HC.out kC.old)
            have HAC : Hid (Below wA.heap.size wA wC) := Lib.hid kC.old
            clear n1 K0 HLEN HCAP HRA kB kC
            go_wp2_with fail
            go_loopg [17] N (fun g it wq => ∃ k : Nat, k + g = N ∧ it = .int .i64 k ∧ Below wC.heap.size wC wq)
            case atStart => exact ⟨0, by omega, rfl, Below.refl _ _⟩
            case round =>
              obtain ⟨j, hj, rfl, bq⟩ := hrel
              by_cases hjN : j < N
              · obtain ⟨x, hx⟩ : ∃ x, E[j]? = some x := ⟨E[j]'(by have := HN.out; omega), List.getElem?_eq_getElem _⟩
                have HXL := Lib.hid (HKM.out x (List.mem_of_getElem? hx))
                obtain ⟨g, hg, _, hgl, k0⟩ := ss_at HSA.out hx
                subst hg
                have HRD := Lib.hid (HRC.out.old HC.out bq)
                have BQ := Lib.hid bq
                have HAD := Lib.hid (HAC.out.trans (bq.mono HAC.out.size))
                have k1 := (Below.cell (p := ⟨g, j, none⟩) HAD.out hgl).trans k0
                obtain ⟨f, hf⟩ : ∃ f, f = farN S2 x := ⟨_, rfl⟩
                obtain ⟨lq, hlq⟩ : ∃ lq, lq = locOf S2 x := ⟨_, rfl⟩
                obtain ⟨bx, hbx⟩ : ∃ bx, bx = hasB S2 x := ⟨_, rfl⟩
                have HF2 := Lib.hid hf; have HLQ2 := Lib.hid hlq; have HBX := Lib.hid hbx
                clear hx bq k0 hf hlq hbx
                go_wp2_with fail
                refine (HRD.out.farD HC.out HXL.out).mono ?_
                rintro e wD ⟨rfl, bD⟩
                rw [← HF2.out, ← HBX.out]
                have HRE := Lib.hid (HRD.out.old HC.out bD)
                have HCD := Lib.hid (BQ.out.trans (bD.mono BQ.out.size))
                have k2 := (Below.cell (p := ⟨g, j, none⟩) bD (Nat.lt_of_lt_of_le hgl HAD.out.size)).trans k1
                have hzD := Nat.lt_of_lt_of_le (Nat.lt_of_lt_of_le hgl HAD.out.size) bD.size
                clear k1 bD HRD BQ HAD
                go_wp2_with fail
                refine (HRE.out.farR HXL.out).mono ?_
                rintro e wE ⟨rfl, bE⟩
                rw [← HF2.out, ← HBX.out]
                have HRF := Lib.hid (HRE.out.old HC.out bE)
                have HCE := Lib.hid (HCD.out.trans (bE.mono HCD.out.size))
                have k3 := (Below.cell (p := ⟨g, j, none⟩) bE hzD).trans k2
                have hzE := Nat.lt_of_lt_of_le hzD bE.size
                clear k2 bE HRE HCD hzD
                go_wp2_with fail
                refine (HRF.out.getD HC.out HXL.out).mono ?_
                rintro e wF ⟨rfl, bF⟩
                rw [← HLQ2.out, ← HBX.out]
                simp only [locV]
                have bF2 := bF.alloc bF.size (.cells #[.int .i64 lq.seg, .int .i64 lq.off, .int .i64 lq.len, .int .u64 lq.seq] 31)
                have k4 := (Below.cell (p := ⟨g, j, none⟩) bF2 hzE).trans k3
                have hzF := Nat.lt_of_lt_of_le hzE bF2.size
                have HRG := Lib.hid (HRF.out.old HC.out bF2)
                have HCF := Lib.hid (HCE.out.trans (bF2.mono HCE.out.size))
                have hxa := heap_alloc_new wF (.cells #[.int .i64 lq.seg, .int .i64 lq.off, .int .i64 lq.len, .int .u64 lq.seq] 31)
                have hxl : wF.heap.size < (wF.alloc (.cells #[.int .i64 lq.seg, .int .i64 lq.off, .int .i64 lq.len, .int .u64 lq.seq] 31)).heap.size := by simp
                obtain ⟨xb, hxb⟩ : ∃ xb, xb = wF.heap.size := ⟨_, rfl⟩
                have HXB := Lib.hid hxb
                rw [← hxb] at hxa hxl
                have HXA := Lib.hid hxa
                clear k3 bF bF2 HRF HCE hzE hxa hxb
                go_wp2_with fail
                rw [← HXB.out]
                generalize hWG : World.alloc wF _ = wG at *
                clear hWG
                refine (HRG.out.getR).mono ?_
                rintro e wH ⟨rfl, bH⟩
                rw [← HLQ2.out, ← HBX.out]
                simp only [locV]
                have bH2 := bH.alloc bH.size (.cells #[.int .i64 lq.seg, .int .i64 lq.off, .int .i64 lq.len, .int .u64 lq.seq] 31)
                have hya := heap_alloc_new wH (.cells #[.int .i64 lq.seg, .int .i64 lq.off, .int .i64 lq.len, .int .u64 lq.seq] 31)
                have hxa := (bH2.block _ hxl).trans HXA.out
                have HCH := Lib.hid (HCF.out.trans (bH2.mono HCF.out.size))
                have hcl := fun t => cell_of_row _ xb t _ _ (0, 0) hxa
                have e0 := hcl 0; have e1 := hcl 1; have e2 := hcl 2; have e3 := hcl 3
                have hdl := fun t => cell_of_row _ wH.heap.size t _ _ (0, 0) hya
                have f0 := hdl 0; have f1 := hdl 1; have f2 := hdl 2; have f3 := hdl 3
                simp only [List.getElem?_toArray, List.getElem?_cons_succ, List.getElem?_cons_zero] at e0 e1 e2 e3 f0 f1 f2 f3
                clear hcl hdl hxa hya bH bH2 HRG HCF k4 hzF hxl HXA
                go_wp2_with fail
                go_roundg (gk - 1)
                case measure => omega
                case rel => exact ⟨j + 1, by omega, by go_num, HCH.out⟩
              · obtain rfl : j = N := by omega
                have HRZ := Lib.hid (HRC.out.old HC.out bq)
                clear bq HRC HAC
                go_wp2_with fail
                have hG := HG.out
                go_roundg (G - 1)
                case measure => omega
                case rel => exact ⟨i + 1, S2, by omega, by go_num, HRZ.out⟩
        · as_aux_lemma =>
          obtain rfl : i = L := by omega
          have HRR := Lib.hid hR
          have HKD := Lib.hid (hR.keysD HC.out hs1 (k := fr) (by have := HFS.out; omega))
          rw [HFB.out] at HKD
          clear hR
          go_wp2_with fail
          refine HKD.out.mono ?_
          rintro e w5 ⟨kv, lv, rfl, hs5, hl5, b5⟩
          have HR5 := Lib.hid (HRR.out.old HC.out b5)
          obtain ⟨ka, kc, la, lc, rfl, rfl, hkv⟩ := kv_form hs5 hl5
          have HS5 := Lib.hid hs5
          have HKV := Lib.hid hkv
          clear hs5 hl5 b5 hkv HKD HRR
          go_wp2_with fail
          refine HR5.out.keysR.mono ?_
          rintro e w6 ⟨av, rfl, hs6, b6⟩
          obtain ⟨aa, ac, rfl⟩ := ss_form hs6
          have HR6 := Lib.hid (HR5.out.old HC.out b6)
          have HS6 := Lib.hid hs6
          have B6 := Lib.hid b6
          clear hs6 b6 HR5
          go_wp2_with fail
          have hkl : (keysOf S).length = cnt S := keysOf_len S
          have hcn := HR6.out.fitD.cn
          rw [← hkl] at hcn
          have HKM : Hid (∀ x ∈ keysOf S, x.length ≤ 1000) := Lib.hid (fun x hx => by
            unfold keysOf at hx
            obtain ⟨s, hs, rfl⟩ := List.mem_map.1 hx
            exact HR6.out.fitD.keys s hs)
          have HWT : Hid ((fromE S fr).map Prod.fst = (keysOf S).filter (fun x => !lt x fr)) := Lib.hid (by unfold fromE keysOf; rw [List.filter_map]; rfl)
          generalize keysOf S = E at *
          obtain ⟨N, hN⟩ : ∃ N, N = E.length := ⟨_, rfl⟩
          rw [← hN] at hcn HS6 ⊢
          have HN := Lib.hid hN
          obtain ⟨M, hM⟩ : ∃ M, M = (fromE S fr).length := ⟨_, rfl⟩
          rw [← hM] at HS5 ⊢
          have HM := Lib.hid hM
          clear hN hM hkl
          go_loopg [28, 30] N (fun g s it wq => ∃ (j : Nat) (u : Value), j + g = N ∧ it = .int .i64 j ∧ u = s ∧ Strs wq w6.heap.size u ((E.take j).filter (fun x => !lt x fr)) ∧ Below w6.heap.size w6 wq)
          case atStart => exact ⟨0, _, by omega, rfl, rfl, World.ownsRow_nil _ _ _ _, Below.refl _ _⟩
          case round =>
            obtain ⟨j, u, hj, rfl, rfl, hown, bq⟩ := hrel
            by_cases hjN : j < N
            · obtain ⟨x, hx⟩ : ∃ x, E[j]? = some x := ⟨E[j]'(by have := HN.out; omega), List.getElem?_eq_getElem _⟩
              obtain ⟨g, hg, _, hgl, k0⟩ := ss_at HS6.out hx
              subst hg
              have k1 := (Below.cell (p := ⟨g, j, none⟩) bq hgl).trans k0
              have HTK : Hid ((E.take (j + 1)).filter (fun x => !lt x fr) = (E.take j).filter (fun x => !lt x fr) ++ (if lt x fr = true then [] else [x])) := Lib.hid (by
                rw [List.take_add_one, hx, List.filter_append]
                cases h : lt x fr <;> simp [h])
              have HOWN := Lib.hid hown; have BQ := Lib.hid bq
              clear hown bq hx k0
              cases hlx : lt x fr with
              | true =>
                have hbl : Op.bytesLess (bs x).toList fb.toList = true := by rw [← HFB.out, bs_toList, bs_toList]; exact hlx
                rw [hlx] at HTK
                clear hlx
                go_wp2_with fail
                go_roundg (gk - 1)
                case measure => omega
                case rel => exact ⟨j + 1, _, by omega, by go_num, rfl, by rw [HTK.out]; simpa using HOWN.out, BQ.out⟩
              | false =>
                have hbl : Op.bytesLess (bs x).toList fb.toList = false := by rw [← HFB.out, bs_toList, bs_toList]; exact hlx
                rw [hlx] at HTK
                clear hlx
                have hz := BQ.out.size
                have hll := List.length_filter_le (fun x => !lt x fr) (E.take j)
                have htl : (E.take j).length ≤ j := by rw [List.length_take]; omega
                have HLL : Hid (((E.take j).filter (fun x => !lt x fr)).length + [x].length ≤ 1099511627776) := Lib.hid (by simp only [List.length_singleton]; omega)
                clear hll htl
                generalize (E.take j).filter (fun x => !lt x fr) = W0 at *
                go_wp2_with (at_builtin; refine wpList_append_ss _ rfl (.tmp 218) (.tmp 223) rfl w6.heap.size _ W0 rfl (HOWN.out.alloc _) _ [x] rfl (ss_one x _ wr.heap.size (heap_alloc_new _ _)) HLL.out ?c2 ?c3)
                all_goals first
                  | (simp only [World.size_alloc]; omega)
                  | skip
                all_goals
                  intro ua un uc w7 h7 b7
                  have B7 := Lib.hid (BQ.out.trans (((Below.refl _ wr).alloc hz (.cells #[.string (bs x)] 9)).trans b7))
                  have H7 := Lib.hid h7
                  clear h7 b7
                  go_wp2_with fail
                  go_roundg (gk - 1)
                  case measure => omega
                  case rel => exact ⟨j + 1, _, by omega, by go_num, rfl, by rw [HTK.out]; simpa using H7.out, B7.out⟩
            · obtain rfl : j = N := by omega
              rw [List.take_of_length_le (by rw [← HN.out]; exact Nat.le_refl _), ← HWT.out] at hown
              obtain ⟨ua, uc, hu⟩ := ss_form hown
              rw [List.length_map, ← HM.out] at hu
              subst hu
              have hwr := HR6.out.old HC.out bq
              have hcn2 : M ≤ 1000 := by
                have h1 := hwr.fitD.cn
                have h2 := HM.out
                have h3 : (fromE S fr).length ≤ (sre S).length := List.length_filter_le _ _
                rw [sre_len] at h3; omega
              have HST := Lib.hid (fun (ns : List (List UInt8)) (hns : ns = (fromE S fr).map Prod.fst) => (show ns.length = M by rw [hns, List.length_map, HM.out]))
              have hk5 : Strs wr _ (.slice ka M kc) ((fromE S fr).map Prod.fst) := owns_kept HS5.out (fun g hg => (B6.out.trans (bq.mono B6.out.size)).block g (HS5.out.lt g hg).2)
              have hss : Calls Tryd.prog 22 #[.slice ka M kc, .slice ua M uc] wr fun e w' => e = .returned (.bool true) ∧ Below wr.heap.size wr w' := by
                have hh := HST.out _ rfl
                generalize (fromE S fr).map Prod.fst = ns at *
                subst hh
                exact strs_same hk5 hown (by omega)
              have HSS := Lib.hid hss
              have HWR := Lib.hid hwr
              have B5W := Lib.hid (B6.out.trans (bq.mono B6.out.size))
              clear hss hk5 hwr hown bq
              go_wp2_with fail
              refine HSS.out.mono ?_
              rintro e w8 ⟨rfl, b8⟩
              have HR8 := Lib.hid (HWR.out.old HC.out b8)
              have B58 := Lib.hid (B5W.out.trans (b8.mono B5W.out.size))
              clear HWR HSS b8 B5W
              go_wp2_with fail
              go_loopg [31, 32] M (fun g s it wq => ∃ q : Nat, q + g = M ∧ it = .int .i64 q ∧ s = .bool true ∧ Below w8.heap.size w8 wq)
              case atStart => exact ⟨0, by omega, rfl, rfl, Below.refl _ _⟩
              case round =>
                obtain ⟨q, hq, rfl, rfl, bq⟩ := hrel
                by_cases hqM : q < M
                · obtain ⟨s, hs⟩ : ∃ s, (fromE S fr)[q]? = some s := ⟨(fromE S fr)[q]'(by have := HM.out; omega), List.getElem?_eq_getElem _⟩
                  have hsm : s ∈ sre S := (List.mem_filter.1 (List.mem_of_getElem? hs)).1
                  have hsl := HR8.out.fitR.keys s hsm
                  obtain ⟨k, lc0⟩ := s
                  have hlo : locOf S k = lc0 := loc_mem HR8.out.fitR.ok.inv.one hsm
                  obtain ⟨g, g', rfl, rfl, hg, hg', k0, l0, l1, l2, l3⟩ := HKV.out q _ hs
                  have b5q := B58.out.trans (bq.mono B58.out.size)
                  have k1 := (Below.cell (p := ⟨g, q, none⟩) b5q hg).trans k0
                  have HRQ := Lib.hid (HR8.out.old HC.out bq)
                  have HGET := Lib.hid (HRQ.out.getR (k := k))
                  rw [hlo] at HGET
                  have BQ := Lib.hid bq; have B5Q := Lib.hid b5q
                  have HL0 := Lib.hid l0; have HL1 := Lib.hid l1; have HL2 := Lib.hid l2; have HL3 := Lib.hid l3
                  generalize hasB S k = hb at HGET
                  dsimp only at k1
                  clear hs hsm hsl hlo k0 l0 l1 l2 l3 bq b5q
                  go_wp2_with fail
                  refine HGET.out.mono ?_
                  rintro e w9 ⟨rfl, b9⟩
                  simp only [locV]
                  have b9a := b9.alloc b9.size (.cells #[.int .i64 lc0.seg, .int .i64 lc0.off, .int .i64 lc0.len, .int .u64 lc0.seq] 31)
                  have B5A := Lib.hid (B5Q.out.trans (b9a.mono B5Q.out.size))
                  have B8A := Lib.hid (BQ.out.trans (b9a.mono BQ.out.size))
                  have hdl := fun t => cell_of_row _ w9.heap.size t _ _ (0, 0) (heap_alloc_new w9 (.cells #[.int .i64 lc0.seg, .int .i64 lc0.off, .int .i64 lc0.len, .int .u64 lc0.seq] 31))
                  have f0 := hdl 0; have f1 := hdl 1; have f2 := hdl 2; have f3 := hdl 3
                  simp only [List.getElem?_toArray, List.getElem?_cons_succ, List.getElem?_cons_zero] at f0 f1 f2 f3
                  have m0 := (Below.cell (p := ⟨g', q * 4, none⟩) B5A.out hg').trans HL0.out
                  have m1 := (Below.cell (p := ⟨g', q * 4 + 1, none⟩) B5A.out hg').trans HL1.out
                  have m2 := (Below.cell (p := ⟨g', q * 4 + 2, none⟩) B5A.out hg').trans HL2.out
                  have m3 := (Below.cell (p := ⟨g', q * 4 + 3, none⟩) B5A.out hg').trans HL3.out
                  clear hdl b9 b9a k1 BQ B5Q HRQ HGET HL0 HL1 HL2 HL3 B5A
                  go_wp2_with fail
                  generalize World.alloc w9 _ = wA at *
                  generalize w9.heap.size = R9 at *
                  go_quiet (fail)
                  have HQQ := Lib.hid (B8A.out.trans ((below_drewN (Below.refl wA.heap.size wA) nq).mono B8A.out.size))
                  generalize wA.drewN nq = wB at *
                  go_wp2_with fail
                  go_roundg (gk - 1)
                  case measure => omega
                  case rel => exact ⟨q + 1, by omega, by go_num, rfl, HQQ.out⟩
                · obtain rfl : q = M := by omega
                  have HRZ := Lib.hid (HR8.out.old HC.out bq).bel
                  clear bq HR8
                  go_wp2_with fail
                  go_ret
                  exact ⟨rfl, B1.out.trans (HRZ.out.mono B1.out.size)⟩
end Go.Proofs.YtbjginlhgedjdaaDoor.K
