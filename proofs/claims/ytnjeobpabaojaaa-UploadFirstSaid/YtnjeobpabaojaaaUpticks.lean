/- The program's uploads: in how many ticks one is published. -/
import Derived.Test.YtnjeobpabaojaaaUpstep
namespace Go.Proofs.Ytnjeobpabaojaaa.U
open Go.RowKit
set_option linter.unusedVariables false
set_option linter.unusedSimpArgs false

theorem tks_nat {u : Upl} {now f g : Int} (h : f.toNat = g.toNat) : tks u now f = tks u now g := by unfold tks; rw [h]
theorem tks_pos {u : Upl} {now f : Int} (h : 0 ≤ u.st ∧ u.st ≤ 2) : 0 ≤ tks u now f := by
  unfold tks
  have := (rests_bound f.toNat u.tr).1
  split
  · omega
  · split <;> omega
theorem tks_wait {u : Upl} {now f : Int} (h : u.st ≠ 2) (hn : now ≤ u.nx) : tks u now f = (u.nx - now) + tks u u.nx f := by
  unfold tks
  rw [if_neg h, if_neg h, if_pos (Int.le_refl u.nx)]
  split <;> omega
/-- One on its way while the ticks are counted: T is when it is published. -/
def Tk (T : Int) (v : Upl) (time f : Int) : Prop := (0 ≤ v.st ∧ v.st ≤ 2) ∧ (0 ≤ v.tr ∧ v.tr ≤ 1020 - f) ∧ (0 ≤ v.nx ∧ v.nx ≤ T) ∧ (0 ≤ f ∧ f ≤ 20) ∧ (0 ≤ time ∧ time ≤ T) ∧ T ≤ 1002000 ∧ time + tks v time f = T
def mes (v : Upl) (time f : Int) : Nat := 2 * (f.toNat + (2 - v.st).toNat) + (if due v time = true then 0 else 1)
theorem mes_le (v : Upl) (time f : Int) : mes v time f ≤ 2 * (f.toNat + (2 - v.st).toNat) + 1 := by unfold mes; split <;> omega
theorem mes_due {v : Upl} {time f : Int} (h : due v time = true) : mes v time f = 2 * (f.toNat + (2 - v.st).toNat) := by unfold mes; rw [if_pos h]; rfl
theorem Tk.fit {T : Int} {v : Upl} {time f : Int} (h : Tk T v time f) : v.fit ∧ i64 time := by
  obtain ⟨h1, h2, h3, h4, h5, h6, h7⟩ := h
  exact ⟨⟨by unfold i64; omega, by unfold i64; omega, by unfold i64; omega⟩, by unfold i64; omega⟩
theorem Tk.start {u : Upl} {now f : Int} (h1 : u.st = 0 ∨ u.st = 1) (h2 : 0 ≤ now ∧ now ≤ 1000000) (h3 : 0 ≤ u.nx ∧ u.nx ≤ 1000000) (h4 : 0 ≤ u.tr ∧ u.tr ≤ 1000) (h5 : 0 ≤ f ∧ f ≤ 20) :
    Tk (now + tks u now f) u now f ∧ mes u now f ≤ 45 := by
  have hb := tks_bound (u := u) (now := now) (fails := f) (by omega)
  have hp := (rests_bound f.toNat u.tr).1
  have hn : u.nx ≤ now + tks u now f := by
    unfold tks
    rw [if_neg (by omega)]
    split <;> omega
  refine ⟨⟨by omega, by omega, ⟨h3.1, hn⟩, h5, ⟨h2.1, by omega⟩, ?_, rfl⟩, ?_⟩
  · have := hb.2
    split at this <;> omega
  · unfold mes
    split <;> omega
theorem Tk.wait {T : Int} {v : Upl} {time f : Int} (h : Tk T v time f) (hs : v.st ≠ 2) (hd : due v time = false) : Tk T v v.nx f ∧ mes v v.nx f < mes v time f := by
  obtain ⟨h1, h2, h3, h4, h5, h6, h7⟩ := h
  have hn : time ≤ v.nx := by
    apply Decidable.byContradiction
    intro hc
    have := due_iff (u := v) (now := time)
    rw [hd] at this
    exact absurd (this.2 ⟨by omega, by omega⟩) (by simp)
  have e := tks_wait (f := f) hs hn
  refine ⟨⟨h1, h2, h3, h4, h3, h6, by omega⟩, ?_⟩
  unfold mes
  rw [hd, if_pos (due_iff.2 ⟨by omega, Int.le_refl _⟩)]
  simp
theorem Tk.step {T : Int} {v : Upl} {time f : Int} (h : Tk T v time f) (hd : due v time = true) :
    Tk T (stp v time (decide (f = 0))) (time + 1) (max (f - 1) 0) ∧ mes (stp v time (decide (f = 0))) (time + 1) (max (f - 1) 0) < mes v time f ∧ stp v time (decide (f = 0)) ≠ v := by
  obtain ⟨h1, h2, h3, h4, h5, h6, h7⟩ := h
  have hdu := due_iff.1 hd
  have hs : v.st ≠ 2 := by omega
  have et := tks_step (u := v) (now := time) (left := f) ⟨h1, by omega, by omega, by omega, by omega, by omega⟩ hs
  rw [if_pos hd, show (decide (f ≤ 0)) = decide (f = 0) by by_cases hf : f = 0 <;> simp [hf]; omega, tks_nat (g := max (f - 1) 0) (by omega)] at et
  by_cases hf : f = 0
  · subst hf
    rw [decide_eq_true rfl, stp_well hd] at et ⊢
    have e2 : ((max ((0 : Int) - 1) 0)) = 0 := by omega
    rw [e2] at et ⊢
    refine ⟨⟨by simp only; omega, by simp only; omega, by simp only; omega, by omega, by have := tks_pos (u := ⟨v.st + 1, 0, time⟩) (now := time + 1) (f := 0) (by simp only; omega); omega, h6, by omega⟩, ?_, ?_⟩
    · rw [mes_due hd]
      refine Nat.lt_of_le_of_lt (mes_le _ _ _) ?_
      simp only
      omega
    · intro hh
      have := congrArg Upl.st hh
      simp only at this
      omega
  · rw [decide_eq_false hf, stp_ill hd, wrap_small (n := v.tr + 1) (by unfold i64; omega)] at et ⊢
    have r := rst_bound (v.tr + 1)
    rw [wrap_small (n := time + rst (v.tr + 1)) (by unfold i64; omega)] at et ⊢
    have e2 : max (f - 1) 0 = f - 1 := by omega
    rw [e2] at et ⊢
    have hp := (rests_bound (f - 1).toNat (v.tr + 1)).1
    have hT : time + rst (v.tr + 1) ≤ T ∧ time + 1 ≤ T := by
      have et2 : tks ⟨v.st, v.tr + 1, time + rst (v.tr + 1)⟩ (time + 1) (f - 1) = tks v time f - 1 := et
      rw [show tks ⟨v.st, v.tr + 1, time + rst (v.tr + 1)⟩ (time + 1) (f - 1) = (if time + rst (v.tr + 1) ≤ time + 1 then 0 else time + rst (v.tr + 1) - (time + 1)) + rests (v.tr + 1) (f - 1).toNat + (2 - v.st) by unfold tks; rw [if_neg hs]] at et2
      split at et2 <;> omega
    refine ⟨⟨h1, by simp only; omega, by simp only; omega, by omega, by omega, h6, by omega⟩, ?_, ?_⟩
    · rw [mes_due hd]
      refine Nat.lt_of_le_of_lt (mes_le _ _ _) ?_
      simp only
      omega
    · intro hh
      have := congrArg Upl.tr hh
      simp only at this
      omega
theorem Tk.done {T : Int} {v : Upl} {time f : Int} (h : Tk T v time f) (hs : v.st = 2) : time = T := by
  obtain ⟨h1, h2, h3, h4, h5, h6, h7⟩ := h
  unfold tks at h7
  rw [if_pos hs] at h7
  omega

set_option maxRecDepth 100000 in
set_option maxHeartbeats 2000000 in
theorem pticks_any (u : Upl) (now fails : Int) (w : World) (h1 : u.st = 0 ∨ u.st = 1) (h2 : 0 ≤ now ∧ now ≤ 1000000) (h3 : 0 ≤ u.nx ∧ u.nx ≤ 1000000) (h4 : 0 ≤ u.tr ∧ u.tr ≤ 1000) (h5 : 0 ≤ fails ∧ fails ≤ 20) :
    Calls Try.prog 11 #[upV u, .int .i64 now, .int .i64 fails] w fun e w' => e = .returned (.int .i64 (tks u now fails)) ∧ Below w.heap.size w w' := by
  obtain ⟨st, tr, nx⟩ := u
  simp only at h1 h3 h4
  have HS := Lib.hid (Tk.start (u := ⟨st, tr, nx⟩) h1 h2 h3 h4 h5)
  obtain ⟨T, hT⟩ : ∃ T, now + tks ⟨st, tr, nx⟩ now fails = T := ⟨_, rfl⟩
  have HT := Lib.hid hT
  rw [hT] at HS
  have HUW := Lib.hid (fun W => punderWay_any ⟨st, tr, nx⟩ W ⟨by unfold i64; simp only; omega, by unfold i64; simp only; omega, by unfold i64; simp only; omega⟩)
  rw [decide_eq_true (show (Upl.mk st tr nx).st = 0 ∨ (Upl.mk st tr nx).st = 1 from h1)] at HUW
  have HW1 := Lib.hid (fun W => pwithin_any now 1000000 W (by unfold i64; omega) (by unfold i64; omega))
  rw [decide_eq_true (show 0 ≤ now ∧ now ≤ 1000000 from h2)] at HW1
  have HW2 := Lib.hid (fun W => pwithin_any nx 1000000 W (by unfold i64; omega) (by unfold i64; omega))
  rw [decide_eq_true (show 0 ≤ nx ∧ nx ≤ 1000000 from h3)] at HW2
  have HW3 := Lib.hid (fun W => pwithin_any tr 1000 W (by unfold i64; omega) (by unfold i64; omega))
  rw [decide_eq_true (show 0 ≤ tr ∧ tr ≤ 1000 from h4)] at HW3
  have hmx : min (max fails 0) 20 = fails := by omega
  unfold upV at HUW ⊢
  have hv := heap_alloc_new w (.cells #[.int .i64 st, .int .i64 tr, .int .i64 nx] 28)
  have b0 := (Below.refl w.heap.size w).alloc (Nat.le_refl _) (.cells #[.int .i64 st, .int .i64 tr, .int .i64 nx] 28)
  have B0 := Lib.hid b0
  have HV0 : Hid (VAt (w.alloc (.cells #[.int .i64 st, .int .i64 tr, .int .i64 nx] 28)) w.heap.size ⟨st, tr, nx⟩) := Lib.hid hv
  clear hv b0 hT
  go_enter Try.func11, Try.ntmps11
  go_wp2_with fail
  refine (HUW.out _).mono ?_
  rintro e w1 ⟨rfl, b1⟩
  have HV1 := Lib.hid (HV0.out.call b1)
  have B1 := Lib.hid (B0.out.trans (b1.mono B0.out.size))
  clear b1 HV0 B0
  obtain ⟨c0, c1, c2, cf⟩ := HV1.out.cells
  simp only at c0 c1 c2
  go_wp2_with fail
  refine (HW1.out _).mono ?_
  rintro e w2 ⟨rfl, b2⟩
  have HV2 := Lib.hid (HV1.out.call b2)
  have B2 := Lib.hid (B1.out.trans (b2.mono B1.out.size))
  clear b2 HV1 B1 c0 c1 c2 cf
  obtain ⟨c0, c1, c2, cf⟩ := HV2.out.cells
  simp only at c0 c1 c2
  go_wp2_with fail
  refine (HW2.out _).mono ?_
  rintro e w3 ⟨rfl, b3⟩
  have HV3 := Lib.hid (HV2.out.call b3)
  have B3 := Lib.hid (B2.out.trans (b3.mono B2.out.size))
  clear b3 HV2 B2 c0 c1 c2 cf
  obtain ⟨c0, c1, c2, cf⟩ := HV3.out.cells
  simp only at c0 c1 c2
  go_wp2_with fail
  refine (HW3.out _).mono ?_
  rintro e w4 ⟨rfl, b4⟩
  have HV4 := Lib.hid (HV3.out.call b4)
  have B4 := Lib.hid (B3.out.trans (b4.mono B3.out.size))
  clear b4 HV3 B3 c0 c1 c2 cf HUW HW1 HW2 HW3
  go_wp2_with fail
  go_loopg [2, 7] 45 (fun g fv tv wr => ∃ (v : Upl) (time f : Int), fv = .int .i64 f ∧ tv = .int .i64 time ∧ Tk T v time f ∧ mes v time f ≤ g ∧ VAt wr w.heap.size v ∧ Below w.heap.size w wr)
  case atStart => exact ⟨⟨st, tr, nx⟩, now, fails, rfl, rfl, HS.out.1, HS.out.2, HV4.out, B4.out⟩
  case round =>
    obtain ⟨v, time, f, rfl, rfl, htk, hme, hv, hb⟩ := hrel
    have HK := Lib.hid htk; have HM := Lib.hid hme; have HV := Lib.hid hv; have HB := Lib.hid hb
    clear h1 h3 h4 hmx B4 HV4
    obtain ⟨c0, c1, c2, cf⟩ := hv.cells
    obtain ⟨⟨z1, z2⟩, ⟨z3, z4⟩, ⟨z5, z6⟩, ⟨z7, z8⟩, ⟨z9, z10⟩, z11, _⟩ := htk
    clear hme hv hb
    by_cases hs : v.st = 2
    · have HTE := Lib.hid (HK.out.done hs)
      rw [hs] at c0
      have HTT := HT.out
      have htt : time - now = tks ⟨st, tr, nx⟩ now fails := by have := HTE.out; omega
      have HXT := Lib.hid htt
      clear htt HTT
      go_wp2_with fail
      go_ret
      exact ⟨by rw [← HXT.out]; rfl, HB.out⟩
    · have HST := Lib.hid (pstep_any v time (decide (f = 0)) wr HK.out.fit.1 HK.out.fit.2)
      have hdd : due v time = false ∨ due v time = true := by cases due v time <;> simp
      have HNO := Lib.hid (fun h : due v time = false => And.intro (stp_no h (decide (f = 0))) (HK.out.wait hs h))
      have HYE := Lib.hid (fun h : due v time = true => HK.out.step h)
      obtain ⟨x, hx⟩ : ∃ x, stp v time (decide (f = 0)) = x := ⟨_, rfl⟩
      rw [hx] at HST HNO HYE
      clear hx
      unfold upV at HST
      go_wp2_with fail
      refine HST.out.mono ?_
      rintro e w5 ⟨rfl, b5⟩
      have hv5 := HV.out.call b5
      have hx5 := heap_alloc_new w5 (.cells #[.int .i64 x.st, .int .i64 x.tr, .int .i64 x.nx] 28)
      have hb5 := HB.out.trans (b5.mono HB.out.size)
      have ba := (Below.refl w5.heap.size w5).alloc (Nat.le_refl _) (.cells #[.int .i64 x.st, .int .i64 x.tr, .int .i64 x.nx] 28)
      have HV6 := Lib.hid (hv5.call ba)
      have HX6 : Hid (VAt (w5.alloc (.cells #[.int .i64 x.st, .int .i64 x.tr, .int .i64 x.nx] 28)) w5.heap.size x) := Lib.hid hx5
      have HB6 := Lib.hid (hb5.trans (ba.mono hb5.size))
      clear hv5 hx5 hb5 ba b5 c0 c1 c2 cf HST
      obtain ⟨c0, c1, c2, cf⟩ := HV6.out.cells
      rcases hdd with hd | hd
      · obtain ⟨e1, e2, e3⟩ := HNO.out hd
        subst e1
        have HE2 := Lib.hid e2; have HE3 := Lib.hid e3
        clear hd e2 e3 HYE HNO
        go_wp2_with fail
        generalize w5.alloc _ = w6 at *
        go_roundg (gk - 1)
        case measure => have := HE3.out; have := HM.out; omega
        case rel => exact ⟨x, x.nx, f, rfl, rfl, HE2.out, by have := HE3.out; have := HM.out; omega, HV6.out, HB6.out⟩
      · obtain ⟨e2, e3, e4⟩ := HYE.out hd
        have HE2 := Lib.hid e2; have HE3 := Lib.hid e3
        clear hd e2 e3 HYE HNO
        obtain ⟨s1, s2, sv⟩ := HV6.out.sets x
        have HV7 := Lib.hid sv
        have HB7 := Lib.hid (set3_below (g := w.heap.size) HB6.out (Nat.le_refl _) (.int .i64 x.st) (.int .i64 x.tr) (.int .i64 x.nx))
        obtain ⟨d0, d1, d2, df⟩ := HX6.out.cells
        obtain ⟨xs, xt, xn⟩ := x
        obtain ⟨vs, vt, vn⟩ := v
        simp only at c0 c1 c2 d0 d1 d2 z1 z2 z3 z4 z5 z6 s1 s2 hs
        clear sv
        have q1 : IntKind.i64.wrap (f - 1) = f - 1 := IntWalk.i64_in _ (by omega)
        have q2 : IntKind.i64.wrap (time + 1) = time + 1 := IntWalk.i64_in _ (by omega)
        have hne : xs ≠ vs ∨ (xs = vs ∧ xt ≠ vt) ∨ (xs = vs ∧ xt = vt ∧ xn ≠ vn) := by
          apply Decidable.byContradiction
          intro hc
          apply e4
          have e5 : xs = vs := by omega
          have e6 : xt = vt := by omega
          have e7 : xn = vn := by omega
          rw [e5, e6, e7]
        clear e4
        rcases hne with h | ⟨rfl, h⟩ | ⟨rfl, rfl, h⟩
        all_goals
          go_wp2_with fail
          generalize World.setCell _ _ _ = w8 at *
          go_roundg (gk - 1)
          case measure => have := HE3.out; have := HM.out; omega
          case rel => exact ⟨⟨_, _, _⟩, time + 1, max (f - 1) 0, rfl, by go_num, HE2.out, by have := HE3.out; have := HM.out; omega, HV7.out, HB7.out⟩
end Go.Proofs.Ytnjeobpabaojaaa.U
