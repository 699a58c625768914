/- The program's uploads: how long one waits, whether one is due, what becomes of it, and what is evicted. -/
import Derived.Test.YtnjeobpabaojaaaUbound
namespace Go.Proofs.Ytnjeobpabaojaaa.U
open Go.RowKit
set_option linter.unusedVariables false
set_option linter.unusedSimpArgs false

theorem pause_is (t : Int) : wrap64 (2 ^ (min (max t 0) 6).toNat) = rst t := by
  have h : ∀ k : Nat, k ≤ 6 → (min (max t 0) 6).toNat = k → wrap64 (2 ^ (min (max t 0) 6).toNat) = 2 ^ k := fun k hk e => by
    rw [e]
    match k, hk with
    | 0, _ => decide +kernel
    | 1, _ => decide +kernel
    | 2, _ => decide +kernel
    | 3, _ => decide +kernel
    | 4, _ => decide +kernel
    | 5, _ => decide +kernel
    | 6, _ => decide +kernel
  unfold rst
  split
  · exact h 0 (by omega) (by omega)
  split
  · exact h 1 (by omega) (by omega)
  split
  · exact h 2 (by omega) (by omega)
  split
  · exact h 3 (by omega) (by omega)
  split
  · exact h 4 (by omega) (by omega)
  split
  · exact h 5 (by omega) (by omega)
  · exact h 6 (by omega) (by omega)
theorem ppause_any (t : Int) (w : World) (h : i64 t) : Calls Try.prog 17 #[.int .i64 t] w fun e w' => e = .returned (.int .i64 (rst t)) ∧ Below w.heap.size w w' := by
  obtain ⟨h1, h2⟩ := h
  have B0 := Lib.hid (Below.refl w.heap.size w)
  go_enter Try.func17, Try.ntmps17
  go_wp2_with fail
  rw [pause_is]
  go_ret
  exact ⟨rfl, B0.out⟩
theorem pwithin_any (n m : Int) (w : World) (h : i64 n) (hm : i64 m) : Calls Try.prog 16 #[.int .i64 n, .int .i64 m] w fun e w' => e = .returned (.bool (decide (0 ≤ n ∧ n ≤ m))) ∧ Below w.heap.size w w' := by
  obtain ⟨h1, h2⟩ := h
  obtain ⟨h3, h4⟩ := hm
  have B0 := Lib.hid (Below.refl w.heap.size w)
  go_enter Try.func16, Try.ntmps16
  by_cases a0 : 0 ≤ n
  · by_cases a1 : n ≤ m
    · go_wp2_with fail
      go_ret
      exact ⟨by simp [a0, a1], B0.out⟩
    · go_wp2_with fail
      go_ret
      exact ⟨by simp [a0, a1], B0.out⟩
  · go_wp2_with fail
    go_ret
    exact ⟨by simp; omega, B0.out⟩
theorem punderWay_any (u : Upl) (w : World) (h : u.fit) : Calls Try.prog 15 #[upV u] w fun e w' => e = .returned (.bool (decide (u.st = 0 ∨ u.st = 1))) ∧ Below w.heap.size w w' := by
  obtain ⟨st, tr, nx⟩ := u
  obtain ⟨⟨h1, h2⟩, _, _⟩ := h
  simp only at h1 h2
  have B0 := Lib.hid (Below.refl w.heap.size w)
  unfold upV
  go_enter Try.func15, Try.ntmps15
  have n0 := heap_alloc_new w (.cells #[.int .i64 st, .int .i64 tr, .int .i64 nx] 28)
  have B1 := Lib.hid (B0.out.alloc (Nat.le_refl _) (.cells #[.int .i64 st, .int .i64 tr, .int .i64 nx] 28))
  by_cases a0 : st = 0
  · subst a0
    go_wp2_with fail
    go_ret
    exact ⟨by simp, B1.out⟩
  · by_cases a1 : st = 1
    · subst a1
      go_wp2_with fail
      go_ret
      exact ⟨by simp, B1.out⟩
    · go_wp2_with fail
      go_ret
      exact ⟨by simp [a0, a1], B1.out⟩
theorem pdue_any (u : Upl) (now : Int) (w : World) (h : u.fit) (hn : i64 now) : Calls Try.prog 10 #[upV u, .int .i64 now] w fun e w' => e = .returned (.bool (due u now)) ∧ Below w.heap.size w w' := by
  have HW := Lib.hid (fun W => punderWay_any u W h)
  obtain ⟨st, tr, nx⟩ := u
  obtain ⟨⟨h1, h2⟩, _, h3, h4⟩ := h
  obtain ⟨h5, h6⟩ := hn
  simp only at h1 h2 h3 h4
  have HD := Lib.hid (due_iff (u := ⟨st, tr, nx⟩) (now := now))
  have HE := Lib.hid (fun h => due_no (u := ⟨st, tr, nx⟩) (now := now) h)
  generalize due _ now = dd at *
  have B0 := Lib.hid (Below.refl w.heap.size w)
  unfold upV at HW ⊢
  go_enter Try.func10, Try.ntmps10
  have hv := heap_alloc_new w (.cells #[.int .i64 st, .int .i64 tr, .int .i64 nx] 28)
  have B1 := Lib.hid (B0.out.alloc (Nat.le_refl _) (.cells #[.int .i64 st, .int .i64 tr, .int .i64 nx] 28))
  go_wp2_with fail
  refine (HW.out _).mono ?_
  rintro e w1 ⟨rfl, b1⟩
  have hv1 := VAt.call (v := ⟨st, tr, nx⟩) (W := w.alloc (.cells #[.int .i64 st, .int .i64 tr, .int .i64 nx] 28)) hv b1
  have B2 := Lib.hid (B1.out.trans (b1.mono B1.out.size))
  obtain ⟨c0, c1, c2, cf⟩ := hv1.cells
  simp only at c0 c1 c2
  clear b1 hv hv1 B0
  by_cases a0 : st = 0 ∨ st = 1
  · rw [decide_eq_true a0]
    by_cases a1 : nx ≤ now
    · obtain rfl : dd = true := HD.out.2 ⟨a0, a1⟩
      clear a0
      go_wp2_with fail
      go_ret
      exact ⟨by simp [a1], B2.out⟩
    · obtain rfl : dd = false := HE.out (fun h => a1 h.2)
      clear a0
      go_wp2_with fail
      go_ret
      exact ⟨by simp [a1], B2.out⟩
  · rw [decide_eq_false a0]
    obtain rfl : dd = false := HE.out (fun h => a0 h.1)
    clear a0
    go_wp2_with fail
    go_ret
    exact ⟨rfl, B2.out⟩
/-- Two blocks, one behind the other. -/
theorem two_new (w : World) (a b : Upl) : VAt ((w.alloc (.cells #[.int .i64 a.st, .int .i64 a.tr, .int .i64 a.nx] 28)).alloc (.cells #[.int .i64 b.st, .int .i64 b.tr, .int .i64 b.nx] 28)) w.heap.size a ∧
    VAt ((w.alloc (.cells #[.int .i64 a.st, .int .i64 a.tr, .int .i64 a.nx] 28)).alloc (.cells #[.int .i64 b.st, .int .i64 b.tr, .int .i64 b.nx] 28)) (w.heap.size + 1) b ∧
    Below w.heap.size w ((w.alloc (.cells #[.int .i64 a.st, .int .i64 a.tr, .int .i64 a.nx] 28)).alloc (.cells #[.int .i64 b.st, .int .i64 b.tr, .int .i64 b.nx] 28)) := by
  have h1 := heap_alloc_new w (.cells #[.int .i64 a.st, .int .i64 a.tr, .int .i64 a.nx] 28)
  have h2 := heap_alloc_new (w.alloc (.cells #[.int .i64 a.st, .int .i64 a.tr, .int .i64 a.nx] 28)) (.cells #[.int .i64 b.st, .int .i64 b.tr, .int .i64 b.nx] 28)
  have e : (w.alloc (.cells #[.int .i64 a.st, .int .i64 a.tr, .int .i64 a.nx] 28)).heap.size = w.heap.size + 1 := by simp
  rw [e] at h2
  have b1 := (Below.refl w.heap.size w).alloc (Nat.le_refl _) (.cells #[.int .i64 a.st, .int .i64 a.tr, .int .i64 a.nx] 28)
  exact ⟨VAt.call (v := a) h1 ((Below.refl _ _).alloc (Nat.le_refl _) _), h2, b1.alloc b1.size _⟩
theorem pevict_any (u : Upl) (w : World) (h : u.fit) : Calls Try.prog 13 #[upV u] w fun e w' => e = .returned (.tuple #[upV (evi u).1, .bool (evi u).2]) ∧ Below w.heap.size w w' := by
  obtain ⟨st, tr, nx⟩ := u
  obtain ⟨⟨h1, h2⟩, _, _⟩ := h
  simp only at h1 h2
  have B0 := Lib.hid (Below.refl w.heap.size w)
  unfold upV evi
  go_enter Try.func13, Try.ntmps13
  by_cases a0 : st = 2
  · subst a0
    go_wp2_with fail
    obtain ⟨_, hv, hb⟩ := two_new w ⟨3, tr, nx⟩ ⟨3, tr, nx⟩
    obtain ⟨j0, j1, j2, _⟩ := hv.cells
    exact bodyPost_ret (v := .tuple #[.agg #[.int .i64 3, .int .i64 tr, .int .i64 nx], .bool true]) (by simp [results, Try.results13, go_sem, j0, j1, j2]) rfl ⟨rfl, hb⟩
  · go_wp2_with fail
    obtain ⟨_, hv, hb⟩ := two_new w ⟨st, tr, nx⟩ ⟨st, tr, nx⟩
    obtain ⟨j0, j1, j2, _⟩ := hv.cells
    exact bodyPost_ret (v := .tuple #[.agg #[.int .i64 st, .int .i64 tr, .int .i64 nx], .bool false]) (by simp [results, Try.results13, go_sem, j0, j1, j2]) rfl ⟨rfl, hb⟩
theorem set3_below {w W : World} {g : Nat} (h : Below w.heap.size w W) (hg : w.heap.size ≤ g) (v0 v1 v2 : Value) : Below w.heap.size w (((W.setCell ⟨g, 0, none⟩ v0).setCell ⟨g, 1, none⟩ v1).setCell ⟨g, 2, none⟩ v2) :=
  Below.setCell (p := ⟨g, 2, none⟩) (Below.setCell (p := ⟨g, 1, none⟩) (Below.setCell (p := ⟨g, 0, none⟩) h hg v0) hg v1) hg v2
theorem pstep_any (u : Upl) (now : Int) (well : Bool) (w : World) (h : u.fit) (hn : i64 now) : Calls Try.prog 12 #[upV u, .int .i64 now, .bool well] w fun e w' => e = .returned (upV (stp u now well)) ∧ Below w.heap.size w w' := by
  have HD := Lib.hid (fun W => pdue_any u now W h hn)
  have HP := Lib.hid (fun W => ppause_any (wrap64 (u.tr + 1)) W (by unfold i64 wrap64; omega))
  obtain ⟨dd, hdd⟩ : ∃ d, due u now = d := ⟨_, rfl⟩
  have HN := Lib.hid (fun h => stp_no (u := u) (now := now) (h := h) well)
  have HY := Lib.hid (fun h => stp_well (u := u) (now := now) h)
  have HX := Lib.hid (fun h => stp_ill (u := u) (now := now) h)
  have HI := Lib.hid (fun h => (due_iff (u := u) (now := now)).1 h)
  rw [hdd] at HD HN HY HX HI
  clear hdd
  obtain ⟨st, tr, nx⟩ := u
  obtain ⟨⟨h1, h2⟩, ⟨h3, h4⟩, h5, h6⟩ := h
  obtain ⟨h7, h8⟩ := hn
  simp only at h1 h2 h3 h4 h5 h6 HP
  obtain ⟨t1, ht⟩ : ∃ t1, wrap64 (tr + 1) = t1 := ⟨_, rfl⟩
  have q1 : IntKind.i64.wrap (tr + 1) = t1 := by rw [IntWalk.i64_left]; exact ht
  rw [ht] at HP
  simp only [ht] at HX
  clear ht
  unfold upV at HD
  have B0 := Lib.hid (Below.refl w.heap.size w)
  obtain ⟨k0, k1, kb⟩ := two_new w ⟨st, tr, nx⟩ ⟨0, 0, 0⟩
  have K := Lib.hid (And.intro k0 (And.intro k1 kb))
  clear k0 k1 kb
  unfold upV
  go_enter Try.func12, Try.ntmps12
  go_wp2_with fail
  refine (HD.out _).mono ?_
  rintro e w1 ⟨rfl, b1⟩
  have v0 := K.out.1.call b1
  have v1 := K.out.2.1.call b1
  have B1 := Lib.hid (K.out.2.2.trans (b1.mono K.out.2.2.size))
  have V0 := Lib.hid v0
  have V1 := Lib.hid v1
  obtain ⟨c0, c1, c2, cf⟩ := v0.cells
  obtain ⟨y0, y1, y2, yf⟩ := v1.cells
  simp only at c0 c1 c2 y0 y1 y2
  clear v0 v1 b1 K B0
  cases dd
  · have HNN := Lib.hid (HN.out rfl)
    obtain ⟨s1, s2, sv⟩ := V1.out.sets ⟨st, tr, nx⟩
    go_wp2_with fail
    obtain ⟨j0, j1, j2, _⟩ := sv.cells
    exact bodyPost_ret (v := .agg #[.int .i64 st, .int .i64 tr, .int .i64 nx]) (by simp [results, Try.results12, go_sem, j0, j1, j2]) rfl ⟨by rw [HNN.out], set3_below B1.out (by omega) _ _ _⟩
  · have hst : st = 0 ∨ st = 1 := (HI.out rfl).1
    cases well
    · obtain ⟨nn, hnn⟩ : ∃ nn, wrap64 (now + rst t1) = nn := ⟨_, rfl⟩
      have q2 : IntKind.i64.wrap (now + rst t1) = nn := by rw [IntWalk.i64_left]; exact hnn
      have hx := HX.out rfl
      rw [hnn] at hx
      have HXX := Lib.hid hx
      have hrb := rst_bound t1
      generalize rst t1 = r1 at *
      clear hnn hx hst
      -- the try is counted
      have vt := heap_setCell_same w1 w.heap.size 1 _ _ (.int .i64 t1) V0.out
      have bt := Below.setCell (p := ⟨w.heap.size, 1, none⟩) B1.out (Nat.le_refl _) (.int .i64 t1)
      have v1t := V1.out.other (k := w.heap.size) (j := 1) (by omega) (.int .i64 t1)
      have VT : Hid (VAt (w1.setCell ⟨w.heap.size, 1, none⟩ (.int .i64 t1)) w.heap.size ⟨st, t1, nx⟩) := Lib.hid vt
      have BT := Lib.hid bt; have V1T := Lib.hid v1t
      clear vt bt v1t
      have d1 : (w1.setCell ⟨w.heap.size, 1, none⟩ (.int .i64 t1)).cell? ⟨w.heap.size, 1, none⟩ = some (.int .i64 t1) := VT.out.cells.2.1
      go_wp2_with fail
      generalize w1.setCell ⟨w.heap.size, 1, none⟩ (.int .i64 t1) = w2 at *
      refine (HP.out _).mono ?_
      rintro e w3 ⟨rfl, b3⟩
      have v3 := VT.out.call b3
      have V4 := Lib.hid (V1T.out.call b3)
      have B4 := Lib.hid (BT.out.trans (b3.mono BT.out.size))
      obtain ⟨c0, c1, c2, cf⟩ := v3.cells
      have vn := heap_setCell_same w3 w.heap.size 2 _ _ (.int .i64 nn) v3
      have bn := Below.setCell (p := ⟨w.heap.size, 2, none⟩) B4.out (Nat.le_refl _) (.int .i64 nn)
      have v4 := V4.out.other (k := w.heap.size) (j := 2) (by omega) (.int .i64 nn)
      have VN : Hid (VAt (w3.setCell ⟨w.heap.size, 2, none⟩ (.int .i64 nn)) w.heap.size ⟨st, t1, nn⟩) := Lib.hid vn
      have V5 := Lib.hid v4; have B5 := Lib.hid bn
      clear v3 vn bn v4 b3 d1 y0 y1 y2 yf V0 V1 B1
      obtain ⟨e0, e1, e2, ef⟩ := VN.out.cells
      obtain ⟨y0, y1, y2, yf⟩ := V5.out.cells
      obtain ⟨s1, s2, sv⟩ := V5.out.sets ⟨st, t1, nn⟩
      have SV := Lib.hid sv
      clear sv
      go_wp2_with fail
      obtain ⟨j0, j1, j2, _⟩ := SV.out.cells
      exact bodyPost_ret (v := .agg #[.int .i64 st, .int .i64 t1, .int .i64 nn]) (by simp [results, Try.results12, go_sem, j0, j1, j2]) rfl ⟨by rw [HXX.out], set3_below B5.out (by omega) _ _ _⟩
    · have HYY := Lib.hid (HY.out rfl)
      have q2 : IntKind.i64.wrap (st + 1) = st + 1 := IntWalk.i64_in _ (by omega)
      obtain ⟨s1, s2, sv⟩ := V1.out.sets ⟨st + 1, 0, now⟩
      clear hst
      go_wp2_with fail
      obtain ⟨j0, j1, j2, _⟩ := sv.cells
      exact bodyPost_ret (v := .agg #[.int .i64 (st + 1), .int .i64 0, .int .i64 now]) (by simp [results, Try.results12, go_sem, j0, j1, j2]) rfl ⟨by rw [HYY.out], set3_below B1.out (by omega) _ _ _⟩
end Go.Proofs.Ytnjeobpabaojaaa.U
