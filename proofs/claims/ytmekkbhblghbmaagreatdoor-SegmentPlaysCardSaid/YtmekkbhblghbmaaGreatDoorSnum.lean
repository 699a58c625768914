/- The program's map of the numbers of names. -/
import Derived.Test.YtmekkbhblghbmaaGreatDoorSnumath
import Derived.Test.YtmekkbhblghbmaaGreatDoorSlays
import Derived.Test.YtmekkbhblghbmaaGreatDoorDb
import Derived.Maps.OwnOps
import Derived.Deep.LoopGhost
namespace Go.Proofs.YtmekkbhblghbmaaGreatDoor
open Go.RowKit Go.Maps
set_option linter.unusedVariables false

theorem law8 : Keyed Tryz.prog 9 := string_keyed Tryz.underlying9

/-- Names lie here. -/
def NamesIn (w : World) (a : Option Addr) (l : List (List UInt8)) : Prop :=
  0 < l.length → ∃ b off, a = some ⟨b, off, none⟩ ∧ b < w.heap.size ∧ ∀ i (h : i < l.length), w.cell? ⟨b, off + i, none⟩ = some (.string (bs l[i]))
theorem NamesIn.later {w w' : World} {a : Option Addr} {l : List (List UInt8)} (h : NamesIn w a l) (hb : Below w.heap.size w w') : NamesIn w' a l := by
  intro h0
  obtain ⟨b, off, ha, hl, hc⟩ := h h0
  exact ⟨b, off, ha, Nat.lt_of_lt_of_le hl hb.size, fun i hi => by rw [hb.cell (p := ⟨b, _, none⟩) hl]; exact hc i hi⟩

theorem cut_any8 (x : List UInt8) (w : World) : Calls Tryz.prog 122 #[.string (bs x), .string ⟨#[115]⟩] w fun e w' => e = .returned (.tuple #[.string (bs (Lib.trimPrefix x [115])), .bool (Lib.hasPrefix x [115])]) ∧ w = w' :=
  (Any.strings_CutPrefix laysCut (bs x) ⟨#[115]⟩ w).mono fun e w' ⟨h1, h2⟩ => ⟨h1, h2.symm⟩

theorem pre_no {x : List UInt8} (h : Lib.hasPrefix x [115] = false) : isNum x = false := by
  cases hi : isNum x
  · rfl
  · obtain ⟨t, rfl, _⟩ := isNum_len hi
    simp [Lib.hasPrefix] at h
theorem pre_yes {x : List UInt8} (h : Lib.hasPrefix x [115] = true) : ∃ t, x = 115 :: t ∧ Lib.trimPrefix x [115] = t := by
  cases x with
  | nil => simp [Lib.hasPrefix] at h
  | cons c t =>
    have hc : c = 115 := by
      have := h
      simp [Lib.hasPrefix] at this
      exact this.symm
    subst hc
    exact ⟨t, rfl, by simp [Lib.trimPrefix, Lib.hasPrefix]⟩
theorem six_no {t : List UInt8} (h : t.length ≠ 6) : isNum (115 :: t) = false := by
  cases hi : isNum (115 :: t)
  · rfl
  · obtain ⟨u, e, hu⟩ := isNum_len hi
    injection e with _ e
    subst e
    exact absurd hu h

set_option maxRecDepth 100000 in
set_option maxHeartbeats 4000000 in
theorem numbers_any (l : List (List UInt8)) (a : Option Addr) (cap : Nat) (w : World) (hl : l.length ≤ 2000000000) (hr : NamesIn w a l) :
    Calls Tryz.prog 84 #[.slice a l.length cap] w fun e w' => e = .returned (.map (some w.heap.size)) ∧ w'.ownsMap Tryz.prog 9 (plainElem Tryz.prog 3) w.heap.size l.length (numD l) ∧ Below w.heap.size w w' := by
  have hmm := @run_makeMap Tryz.prog
  have HR := Lib.hid hr; clear hr
  obtain ⟨L, hL⟩ : ∃ L, L = l.length := ⟨_, rfl⟩
  have HL := Lib.hid hL
  rw [← hL] at hl ⊢
  clear hL
  have hm0 : (w.alloc (.map #[] 0)).ownsMap Tryz.prog 9 (plainElem Tryz.prog 3) w.heap.size 0 (.map [] : DataW Unit) := World.ownsMap_made w _ _ _
  have HM0 := Lib.hid hm0; clear hm0
  go_enter Tryz.func84, Tryz.ntmps84
  go_wp2_with fail
  go_step3
  go_wp2_with fail
  go_step3
  go_wp2_with fail
  go_loopg [13] L (fun g it wr => ∃ i : Nat, i + g = L ∧ it = .int .i64 i ∧ wr.ownsMap Tryz.prog 9 (plainElem Tryz.prog 3) w.heap.size i (numD (l.take i)) ∧ Below w.heap.size w wr)
  case atStart => exact ⟨0, by omega, rfl, HM0.out, (Below.refl _ _).alloc (Nat.le_refl _) _⟩
  case round =>
    obtain ⟨i, hi, rfl, hown, hbw⟩ := hrel
    have HO := Lib.hid hown; have HB := Lib.hid hbw
    clear hown hbw hmm
    by_cases hlt : i < L
    · have hil : i < l.length := by rw [← HL.out]; exact hlt
      obtain ⟨b, off, rfl, hbl, hc⟩ := HR.out (by omega)
      have hci := hc i hil
      rw [← HB.out.cell (p := ⟨b, _, none⟩) hbl] at hci
      have HTK := Lib.hid (show numD (l.take (i + 1)) = stepD (numD (l.take i)) l[i] by rw [List.take_succ_eq_append_getElem hil, numD_snoc])
      clear hc
      generalize hx : l[i] = x at *
      have HCP := Lib.hid (cut_any8 x)
      clear hx
      cases hp : Lib.hasPrefix x [115]
      · rw [hp] at HCP
        have HST := Lib.hid (show stepD (numD (l.take i)) x = numD (l.take i) by unfold stepD; rw [pre_no hp]; rfl)
        generalize bs x = X at *
        generalize bs (Lib.trimPrefix x [115]) = Y at *
        clear hp
        go_wp2_with fail
        refine (HCP.out _).mono ?_
        rintro e w1 ⟨rfl, rfl⟩
        go_wp2_with fail
        go_roundg (gk - 1)
        case measure => omega
        case rel => exact ⟨i + 1, by omega, by go_num, by rw [HTK.out, HST.out]; exact HO.out.mono (by omega), HB.out⟩
      · obtain ⟨t, rfl, ht⟩ := pre_yes hp
        rw [hp, ht] at HCP
        have hsz : (bs t).size = t.length := bs_size t
        by_cases h6 : t.length = 6
        · have HK := Lib.hid (show keyOf Tryz.prog 9 (.string (bs (115 :: t))) = some (.string (115 :: t)) from WideMaps.keyOf_string_mk Tryz.underlying9 (by rw [bs_size, List.length_cons, h6]; unfold maxLen; omega))
          have hY6 : (bs t).size = 6 := by rw [hsz, h6]
          have HYT := Lib.hid (show (bs t).data.toList = t from rfl)
          have HNO := Lib.hid (fun (c : UInt8) (hc : c ∈ t) (hd : ¬ dig c) => show stepD (numD (l.take i)) (115 :: t) = numD (l.take i) by
            unfold stepD
            rw [if_neg (fun h => hd ((isNum_six h6).1 h c hc))])
          have HYE := Lib.hid (fun (h : ∀ c ∈ t, dig c) => show stepD (numD (l.take i)) (115 :: t) = (numD (l.take i)).put (.string (115 :: t)) (.lit (.int .i64 (dval t))) by
            unfold stepD
            rw [if_pos ((isNum_six h6).2 h), numOf_six h6])
          have H6 := Lib.hid h6
          generalize bs (115 :: t) = X at *
          generalize bs t = Y at *
          clear hp ht h6 hsz
          go_wp2_with fail
          refine (HCP.out _).mono ?_
          rintro e w1 ⟨rfl, rfl⟩
          go_wp2_with fail
          go_loopg [8, 29] 6 (fun g nv it wk => ∃ j : Nat, j + g = 6 ∧ nv = .int .i64 (dval (t.take j)) ∧ it = .int .i64 j ∧ (∀ c ∈ t.take j, dig c) ∧ wr = wk)
          case atStart => exact ⟨0, by omega, by simp [dval], rfl, by simp, rfl⟩
          case round =>
            obtain ⟨j, hj, rfl, rfl, hd, rfl⟩ := hrel
            by_cases hjt : j < 6
            · have hjY : j < Y.size := by omega
              have hjt' : j < t.length := by rw [H6.out]; exact hjt
              have hYj : Y[j] = t[j] := by
                have e := HYT.out
                subst e
                rfl
              have HYJ := Lib.hid hYj; clear hYj
              obtain ⟨i1, i2, _⟩ := dg_dval j (t.take j) (by rw [List.length_take]; omega) hd
              have hpw : (10 : Int) ^ j ≤ 10 ^ 5 := by
                have : (10 ^ j : Nat) ≤ 10 ^ 5 := Nat.pow_le_pow_right (by omega) (by omega)
                exact_mod_cast this
              have hb2 : dval (t.take j) < 100000 := by omega
              have hnx : dval (t.take (j + 1)) = 10 * dval (t.take j) + ((t[j].toNat : Int) - 48) := by rw [List.take_succ_eq_append_getElem hjt', dval_snoc]
              have hdn : dig t[j] → ∀ c ∈ t.take (j + 1), dig c := fun h c hc => by
                rw [List.take_succ_eq_append_getElem hjt', List.mem_append, List.mem_singleton] at hc
                rcases hc with hc | rfl
                · exact hd c hc
                · exact h
              have hmt : t[j] ∈ t := List.getElem_mem hjt'
              obtain ⟨v, hv⟩ : ∃ v, v = dval (t.take j) := ⟨_, rfl⟩
              have HNX := Lib.hid hnx; have HDN := Lib.hid hdn; have HMT := Lib.hid hmt
              rw [← hv] at i1 hb2 ⊢
              have HV := Lib.hid hv
              have hcb := UInt8.toNat_lt Y[j]
              clear hv hnx hdn hmt hd i2 hpw
              by_cases hlo : Y[j].toNat < 48
              · have hst := HNO.out _ HMT.out (by rw [← HYJ.out]; unfold dig; omega)
                have HST := Lib.hid hst; clear hst
                go_wp2_with fail
                go_roundg (L - i - 1)
                case measure => omega
                case rel => exact ⟨i + 1, by omega, by go_num, by rw [HTK.out, HST.out]; exact HO.out.mono (by omega), HB.out⟩
              · by_cases hhi : 57 < Y[j].toNat
                · have hst := HNO.out _ HMT.out (by rw [← HYJ.out]; unfold dig; omega)
                  have HST := Lib.hid hst; clear hst
                  go_wp2_with fail
                  go_roundg (L - i - 1)
                  case measure => omega
                  case rel => exact ⟨i + 1, by omega, by go_num, by rw [HTK.out, HST.out]; exact HO.out.mono (by omega), HB.out⟩
                · have q1 : IntKind.i64.wrap (10 * v) = 10 * v := IntWalk.i64_in _ ⟨by omega, by omega⟩
                  have q2 : IntKind.u8.wrap ((Y[j].toNat : Int) - 48) = (Y[j].toNat : Int) - 48 := IntWalk.u8_in _ ⟨by omega, by omega⟩
                  have q3 : IntKind.i64.wrap ((Y[j].toNat : Int) - 48) = (Y[j].toNat : Int) - 48 := IntWalk.i64_in _ ⟨by omega, by omega⟩
                  have q4 : IntKind.i64.wrap (10 * v + ((Y[j].toNat : Int) - 48)) = 10 * v + ((Y[j].toNat : Int) - 48) := IntWalk.i64_in _ ⟨by omega, by omega⟩
                  have HDG := Lib.hid (HDN.out (by rw [← HYJ.out]; unfold dig; omega))
                  go_wp2_with fail
                  go_roundg (gk - 1)
                  case measure => omega
                  case rel => exact ⟨j + 1, by omega, by rw [HNX.out, ← HV.out, ← HYJ.out], by go_num, HDG.out, rfl⟩
            · obtain rfl : j = 6 := by omega
              have htk : t.take 6 = t := List.take_of_length_le (by rw [H6.out]; omega)
              rw [htk] at hd ⊢
              have HST := Lib.hid (HYE.out hd)
              obtain ⟨i1, i2, _⟩ := dg_dval 6 t H6.out hd
              have hwf : (Lit.int .i64 (dval t)).wf = true := WalkArith.wf_i64 (by omega)
              clear hd htk
              generalize dval t = v at *
              go_wp2_with (first | (at_mapUpdate; refine wpList_mapUpdate_own _ rfl _ _ _ 122 rfl 9 3 law8 Tryz.underlying122 _ _ i _ rfl HO.out (by unfold maxLen; omega) _ _ _ rfl rfl HK.out _ [] (plainElem_int Tryz.underlying3 hwf) ?_) | fail)
              intro w1 hown1 hgrow1
              have HO1 := Lib.hid hown1; have HG1 := Lib.hid hgrow1
              clear hown1 hgrow1
              go_wp2_with fail
              go_roundg (L - i - 1)
              case measure => omega
              case rel => exact ⟨i + 1, by omega, by go_num, by rw [HTK.out, HST.out]; exact HO1.out, HB.out.grown HG1.out HB.out.size (fun k hk => by cases hk; exact Nat.le_refl _)⟩
        · have HST := Lib.hid (show stepD (numD (l.take i)) (115 :: t) = numD (l.take i) by unfold stepD; rw [six_no h6]; rfl)
          generalize bs (115 :: t) = X at *
          generalize bs t = Y at *
          clear hp ht
          have h6' : ((Y.size : Int) == 6) = false := by simp; omega
          go_wp2_with fail
          refine (HCP.out _).mono ?_
          rintro e w1 ⟨rfl, rfl⟩
          go_wp2_with fail
          go_roundg (gk - 1)
          case measure => omega
          case rel => exact ⟨i + 1, by omega, by go_num, by rw [HTK.out, HST.out]; exact HO.out.mono (by omega), HB.out⟩
    · obtain rfl : i = L := by omega
      have HTL := Lib.hid (show l.take i = l by rw [HL.out, List.take_length])
      go_wp2_with fail
      (try rw [Exit.noGoto_ret])
      go_ret
      refine ⟨rfl, ?_, HB.out⟩
      have := HO.out
      rwa [HTL.out] at this
end Go.Proofs.YtmekkbhblghbmaaGreatDoor
