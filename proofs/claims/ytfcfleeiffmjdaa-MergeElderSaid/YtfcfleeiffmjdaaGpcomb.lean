/- The program's generic function: the map of the newest records. -/
import Derived.Test.YtfcfleeiffmjdaaGpmap
import Derived.Test.YtfcfleeiffmjdaaGwant
namespace Go.Proofs.Ytfcfleeiffmjdaa.G
open Go.RowKit Go.Maps
set_option linter.unusedVariables false
set_option linter.unusedSimpArgs false

theorem pkey_any (r : Rc) (W : World) : Calls Try.prog 20 #[rv r] W fun e w' => e = .returned (.string (bs r.k)) ∧ Below W.heap.size W w' := by
  unfold rv
  go_enter Try.func20, Try.ntmps20
  go_wp2_with fail
  go_ret
  exact ⟨rfl, (Below.refl _ _).alloc (Nat.le_refl _) _⟩
theorem pgone_any (r : Rc) (W : World) : Calls Try.prog 25 #[rv r] W fun e w' => e = .returned (.bool r.g) ∧ w' = W.alloc (.cells #[.int .u64 ((r.q : Nat) : Int), .string (bs r.k), .string (bs r.v), .bool r.g] 35) := by
  unfold rv
  go_enter Try.func25, Try.ntmps25
  go_wp2_with fail
  go_ret
  exact ⟨rfl, rfl⟩
theorem pnewer_any (x r y : Rc) (hy : cmb (some x) r = some y) (W : World) : Calls Try.prog 21 #[rv x, rv r] W fun e w' => e = .returned (rv y) ∧ Below W.heap.size W w' := by
  unfold cmb at hy
  simp only at hy
  have hb := (((Below.refl W.heap.size W).alloc (Nat.le_refl _) (.cells #[.int .u64 ((x.q : Nat) : Int), .string (bs x.k), .string (bs x.v), .bool x.g] 35)).alloc (by simp) (.cells #[.int .u64 ((r.q : Nat) : Int), .string (bs r.k), .string (bs r.v), .bool r.g] 35))
  have HB := Lib.hid hb
  clear hb
  unfold rv
  by_cases h : x.q ≤ r.q
  · rw [if_pos h] at hy
    injection hy with hy
    subst hy
    have HB2 := Lib.hid (HB.out.alloc (by simp; omega) (.cells #[.int .u64 ((r.q : Nat) : Int), .string (bs r.k), .string (bs r.v), .bool r.g] 35))
    clear HB
    go_enter Try.func21, Try.ntmps21
    go_wp2_with fail
    exact bodyPost_ret (v := .agg #[.int .u64 ((r.q : Nat) : Int), .string (bs r.k), .string (bs r.v), .bool r.g]) (by simp [results, Try.results21, go_sem]) rfl ⟨rfl, HB2.out⟩
  · rw [if_neg h] at hy
    injection hy with hy
    subst hy
    have HB2 := Lib.hid (HB.out.alloc (by simp; omega) (.cells #[.int .u64 ((x.q : Nat) : Int), .string (bs x.k), .string (bs x.v), .bool x.g] 35))
    clear HB
    go_enter Try.func21, Try.ntmps21
    go_wp2_with fail
    exact bodyPost_ret (v := .agg #[.int .u64 ((x.q : Nat) : Int), .string (bs x.k), .string (bs x.v), .bool x.g]) (by simp [results, Try.results21, go_sem]) rfl ⟨rfl, HB2.out⟩

/-- The functions that are handed over. -/
def keyF : Value := .func (.func 20) #[] #[]
def newF : Value := .func (.func 21) #[] #[]
set_option maxRecDepth 100000 in
set_option maxHeartbeats 4000000 in
theorem pcomb_any {ll : List (List Rc)} {a : Option Addr} {cap : Nat} {w : World} (hb : Bats w a ll) (hr : Room ll) (hf : Came2 ll) :
    Calls Try.prog 19 #[.slice a ll.length cap, keyF, newF] w fun e w' => ∃ D, e = .returned (.map (some w.heap.size)) ∧ Newm w' w.heap.size ll.flatten D ∧ Old w w' := by
  have HB := Lib.hid hb; have HRM := Lib.hid hr; have HF := Lib.hid hf
  obtain ⟨n, hn⟩ : ∃ n, ll.length = n := ⟨_, rfl⟩
  have hn1 : n ≤ 100000 := by rw [← hn]; exact hr.1
  have HN := Lib.hid hn
  rw [hn]
  have HM0 := Lib.hid (newm_new w)
  have hmm := @run_makeMap Try.prog
  clear hb hr hf hn
  unfold keyF newF
  go_enter Try.func19, Try.ntmps19
  go_wp2_with fail
  clear hmm
  go_loopg [18] n (fun g iv wr => ∃ i : Nat, i + g = n ∧ iv = .int .i64 i ∧ (∃ D, Newm wr w.heap.size (ll.take i).flatten D) ∧ Old w wr)
  case atStart => exact ⟨0, by omega, rfl, by simpa using HM0.out, (Old.refl w).alloc _⟩
  case round =>
    obtain ⟨i, hi, rfl, hmp, hold⟩ := hrel
    have HM := Lib.hid hmp; have HO := Lib.hid hold
    clear hmp hold HM0
    by_cases hlt : i < n
    · have hil : i < ll.length := by rw [HN.out]; exact hlt
      obtain ⟨b1, off1, a1, cap1, rfl, hbl1, c1, r1⟩ := bat_of HB.out i hil
      have HR1 := Lib.hid r1
      have HLL := Lib.hid (HRM.out.2.1 _ (List.getElem_mem hil))
      have HPL := Lib.hid (fun k => Nat.le_trans (part_len (k := k) hil) HRM.out.2.2)
      have HFR := Lib.hid (flat_take_row hil)
      have HFI := Lib.hid (HF.out _ (List.getElem_mem hil)).2
      obtain ⟨L, hL⟩ : ∃ L, ll[i].length = L := ⟨_, rfl⟩
      rw [hL] at c1 HLL
      have HLE := Lib.hid hL
      have hL1 : L ≤ 100000 := HLL.out
      generalize hlr : ll[i] = lr at *
      have hC1 : ∀ W, Old w W → W.cell? ⟨b1, off1 + i, none⟩ = some (.slice a1 L cap1) := fun W hW => (Below.cell (p := ⟨b1, off1 + i, none⟩) hW hbl1).trans c1
      have e1 := hC1 wr HO.out
      clear r1 c1 hL hlr hC1 hbl1
      go_wp2_with fail
      clear e1
      generalize hwr : wr = w3 at *
      clear hwr
      generalize hgk : gk = G at *
      clear hgk
      go_loopg [24] L (fun g kv wr => ∃ k : Nat, k + g = L ∧ kv = .int .i64 k ∧ (∃ D, Newm wr w.heap.size ((ll.take i).flatten ++ lr.take k) D) ∧ Old w wr)
      case atStart => exact ⟨0, by omega, rfl, by simpa using HM.out, HO.out⟩
      case round =>
        obtain ⟨k, hk, rfl, hmp, hold⟩ := hrel
        have HM4 := Lib.hid hmp; have HO4 := Lib.hid hold
        clear hmp hold
        by_cases hlk : k < L
        · have hkl : k < lr.length := by rw [HLE.out]; exact hlk
          obtain ⟨b2, off2, rfl, hbl2, d0, d1, d2, d3⟩ := cells_of HR1.out k hkl
          have HTK : Hid (lr.take (k + 1) = lr.take k ++ [lr[k]]) := Lib.hid (by rw [List.take_add_one, List.getElem?_eq_getElem hkl, Option.toList_some])
          have HCR := Lib.hid (HFI.out _ (List.getElem_mem hkl))
          generalize lr[k] = r at *
          have hC : ∀ W, Old w W → ∀ j v, w.cell? ⟨b2, j, none⟩ = some v → W.cell? ⟨b2, j, none⟩ = some v := fun W hW j v h => (Below.cell (p := ⟨b2, j, none⟩) hW hbl2).trans h
          have e0 := hC wr HO4.out _ _ d0
          have e1 := hC wr HO4.out _ _ d1
          have e2 := hC wr HO4.out _ _ d2
          have e3 := hC wr HO4.out _ _ d3
          clear d0 d1 d2 d3 hC hkl
          have hba := (Below.refl wr.heap.size wr).alloc (Nat.le_refl _) (.cells #[.int .u64 ((r.q : Nat) : Int), .string (bs r.k), .string (bs r.v), .bool r.g] 35)
          have hna := heap_alloc_new wr (.cells #[.int .u64 ((r.q : Nat) : Int), .string (bs r.k), .string (bs r.v), .bool r.g] 35)
          have HBA := Lib.hid hba; have HNA := Lib.hid hna
          clear hba hna
          go_wp2_with fail
          generalize hW5 : wr.alloc _ = W5 at *
          obtain ⟨ib, hib⟩ : ∃ ib, ib = wr.heap.size := ⟨_, rfl⟩
          rw [← hib] at HNA ⊢
          have HIB := Lib.hid hib
          clear hib hW5 e0 e1 e2 e3
          have HK := Lib.hid (pkey_any r W5)
          unfold rv at HK
          refine HK.out.mono ?_
          rintro e W6 ⟨rfl, hb6⟩
          have HO6 := Lib.hid ((HO4.out.below HBA.out).below hb6)
          obtain ⟨D, hD⟩ := HM4.out
          have hD6 : Newm W6 w.heap.size ((ll.take i).flatten ++ lr.take k) D := (hD.kept (HBA.out.block _ hD.lt)).kept (hb6.block _ (Nat.lt_of_lt_of_le hD.lt HBA.out.size))
          have hib5 : ib < W5.heap.size := (Array.getElem?_eq_some_iff.1 HNA.out).1
          have hn6 : W6.heap[ib]? = some (.cells #[.int .u64 ((r.q : Nat) : Int), .string (bs r.k), .string (bs r.v), .bool r.g] 35 (0, 0)) := (hb6.block ib hib5).trans HNA.out
          have hib6 : ib < W6.heap.size := Nat.lt_of_lt_of_le hib5 hb6.size
          have hwi : w.heap.size ≤ ib := by rw [HIB.out]; exact Below.size HO4.out
          have hmi : w.heap.size ≠ ib := by rw [HIB.out]; exact Nat.ne_of_lt hD.lt
          have hlook := hD6.find (n := r.k) HCR.out.2.1
          have HL6 : Hid (((ll.take i).flatten ++ lr.take k).length < maxLen) := Lib.hid (by have := HPL.out k; unfold maxLen; omega)
          have HD6 := Lib.hid hD6; have HN6 := Lib.hid hn6; have HWI := Lib.hid (And.intro hwi (And.intro hmi hib6))
          clear hD hD6 hn6 hwi hmi hib6 hib5 hb6 HK HM4 HNA HBA HO4 HIB
          generalize hM : (ll.take i).flatten ++ lr.take k = M at *
          cases hb : best M r.k with
          | none =>
            rw [hb] at hlook
            have hrv : rv ((none : Option Rc).getD Rc.z) = .agg #[.int .u64 0, .string ⟨#[]⟩, .string ⟨#[]⟩, .bool false] := rfl
            rw [hrv] at hlook
            simp only [Option.isSome] at hlook
            have hba := (Below.refl W6.heap.size W6).alloc (Nat.le_refl _) (.cells #[.int .u64 0, .string ⟨#[]⟩, .string ⟨#[]⟩, .bool false] 35)
            obtain ⟨W8, D', hst, hN8, hg8⟩ := (HD6.out.kept (hba.block _ HD6.out.lt)).store r r (by rw [hb]; rfl) HCR.out.2.1 HL6.out
            have f := fun t => cell_of_row (W6.alloc (.cells #[.int .u64 0, .string ⟨#[]⟩, .string ⟨#[]⟩, .bool false] 35)) ib t _ _ (0, 0) ((hba.block ib HWI.out.2.2).trans HN6.out)
            have f0 := f 0; have f1 := f 1; have f2 := f 2; have f3 := f 3
            simp only [List.getElem?_toArray, List.getElem?_cons_succ, List.getElem?_cons_zero] at f0 f1 f2 f3
            unfold rv at hst
            have HO8 := Lib.hid (Below.grown (HO6.out.below hba) hg8 (Below.size (HO6.out.below hba)) (fun j hj => by cases hj; exact Nat.le_refl _))
            have HN8 := Lib.hid hN8
            clear f hba hN8 hg8
            go_wp2_with fail
            go_roundg (gk - 1)
            case measure => omega
            case rel => exact ⟨k + 1, by omega, by go_num, ⟨D', by rw [HTK.out, ← List.append_assoc, hM]; exact HN8.out⟩, HO8.out⟩
          | some y =>
            rw [hb] at hlook
            have hrv : rv ((some y : Option Rc).getD Rc.z) = .agg #[.int .u64 ((y.q : Nat) : Int), .string (bs y.k), .string (bs y.v), .bool y.g] := rfl
            rw [hrv] at hlook
            simp only [Option.isSome] at hlook
            obtain ⟨x, hx⟩ := cmb_some (some y) r
            have hba := (Below.refl W6.heap.size W6).alloc (Nat.le_refl _) (.cells #[.int .u64 ((y.q : Nat) : Int), .string (bs y.k), .string (bs y.v), .bool y.g] 35)
            have f := fun t => cell_of_row (W6.alloc (.cells #[.int .u64 ((y.q : Nat) : Int), .string (bs y.k), .string (bs y.v), .bool y.g] 35)) ib t _ _ (0, 0) ((hba.block ib HWI.out.2.2).trans HN6.out)
            have f0 := f 0; have f1 := f 1; have f2 := f 2; have f3 := f 3
            simp only [List.getElem?_toArray, List.getElem?_cons_succ, List.getElem?_cons_zero] at f0 f1 f2 f3
            have HBA := Lib.hid hba
            clear f hba
            go_wp2_with fail
            generalize hW7 : W6.alloc _ = W7 at *
            have HNW := Lib.hid (pnewer_any y r x hx W7)
            unfold rv at HNW
            refine HNW.out.mono ?_
            rintro e W8 ⟨rfl, hb8⟩
            have hn8 : W8.heap[ib]? = some (.cells #[.int .u64 ((r.q : Nat) : Int), .string (bs r.k), .string (bs r.v), .bool r.g] 35 (0, 0)) := (hb8.block ib (Nat.lt_of_lt_of_le HWI.out.2.2 HBA.out.size)).trans ((HBA.out.block ib HWI.out.2.2).trans HN6.out)
            have hD8 : Newm W8 w.heap.size M D := (HD6.out.kept (HBA.out.block _ HD6.out.lt)).kept (hb8.block _ (Nat.lt_of_lt_of_le HD6.out.lt HBA.out.size))
            have HO8 := Lib.hid ((HO6.out.below HBA.out).below hb8)
            obtain ⟨cur9, hn9, hs9, hc9⟩ := block_setCells ib 35 (fl4 x) 0 W8 _ hn8 (by simp [fl4])
            have hfz : ∀ j, W8.frozen? ⟨ib, j, none⟩ = false := fun j => by simp [World.frozen?, hn8]
            have hg9 := grown_setCells ib (fl4 x) 0 W8
            obtain ⟨W10, D', hst, hN10, hg10⟩ := (show Newm (W8.setCells ib 0 (fl4 x)) w.heap.size M D from hD8.kept (hg9.block _ hD8.lt (fun e => HWI.out.2.1 (Option.some.inj e)))).store r x (by rw [hb]; exact hx) HCR.out.2.1 HL6.out
            have hO9 : Old w (W8.setCells ib 0 (fl4 x)) := Below.grown HO8.out hg9 (Below.size HO8.out) (fun j hj => by cases hj; exact HWI.out.1)
            have HO10 := Lib.hid (Below.grown hO9 hg10 (Below.size hO9) (fun j hj => by cases hj; exact Nat.le_refl _))
            have f := fun t => cell_of_row (W8.setCells ib 0 (fl4 x)) ib t _ _ (0, 0) hn9
            have f0 := (f 0).trans (hc9 0); have f1 := (f 1).trans (hc9 1); have f2 := (f 2).trans (hc9 2); have f3 := (f 3).trans (hc9 3)
            have HN10 := Lib.hid hN10
            have z0 := hfz 0; have z1 := hfz 1; have z2 := hfz 2; have z3 := hfz 3
            have g := fun t => cell_of_row W8 ib t _ _ (0, 0) hn8
            have g0 := g 0; have g1 := g 1; have g2 := g 2; have g3 := g 3
            simp only [List.getElem?_toArray, List.getElem?_cons_succ, List.getElem?_cons_zero] at g0 g1 g2 g3
            clear g
            change (((((W8.setCell ⟨ib, 0, none⟩ (.int .u64 ((x.q : Nat) : Int))).setCell ⟨ib, 1, none⟩ (.string (bs x.k))).setCell ⟨ib, 2, none⟩ (.string (bs x.v))).setCell ⟨ib, 3, none⟩ (.bool x.g))).cell? _ = _ at f0 f1 f2 f3
            change (Instr.mapUpdate _ _ _ _).run _ (((((W8.setCell ⟨ib, 0, none⟩ (.int .u64 ((x.q : Nat) : Int))).setCell ⟨ib, 1, none⟩ (.string (bs x.k))).setCell ⟨ib, 2, none⟩ (.string (bs x.v))).setCell ⟨ib, 3, none⟩ (.bool x.g))) = _ at hst
            simp only [fl4, List.length_cons, List.length_nil, Nat.reduceAdd, Nat.zero_le, Nat.reduceLT, and_self, if_true, true_and, Nat.sub_zero, List.getElem?_cons_succ, List.getElem?_cons_zero] at f0 f1 f2 f3
            unfold rv at hst
            clear f hn8 hD8 hn9 hs9 hc9 hg9 hO9 hN10 hg10 hfz HO8 HNW HBA hb8 HD6 HN6 hW7 HO6
            go_wp2_with fail
            go_roundg (gk - 1)
            case measure => omega
            case rel => exact ⟨k + 1, by omega, by go_num, ⟨D', by rw [HTK.out, ← List.append_assoc, hM]; exact HN10.out⟩, HO10.out⟩
        · have hkL : k = L := by omega
          have hT : lr.take k = lr := List.take_of_length_le (by rw [HLE.out]; omega)
          have HT := Lib.hid hT
          clear hT
          go_wp2_with fail
          go_roundg (G - 1)
          case measure => omega
          case rel => exact ⟨i + 1, by omega, by go_num, by rw [HFR.out, ← HT.out]; exact HM4.out, HO4.out⟩
    · have hT : ll.take i = ll := List.take_of_length_le (by rw [HN.out]; omega)
      have HT := Lib.hid hT
      clear hT
      go_wp2_with fail
      go_ret
      obtain ⟨D, hD⟩ := HM.out
      rw [HT.out] at hD
      exact ⟨D, rfl, hD, HO.out⟩
end Go.Proofs.Ytfcfleeiffmjdaa.G
