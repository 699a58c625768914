/- UploadWays over what is asked: one goes on from state to state alone, and rests else. -/
import Derived.Test.YtnjeobpabaojaaaUbound
namespace Go.Proofs.Ytnjeobpabaojaaa.U
open Go.RowKit
set_option linter.unusedVariables false
set_option linter.unusedSimpArgs false

theorem wrap_fit (n : Int) : i64 (wrap64 n) := by unfold i64 wrap64; omega
theorem stp_fit {u : Upl} {now : Int} (h : u.fit) (hn : i64 now) (well : Bool) : (stp u now well).fit := by
  cases hd : due u now
  · rw [stp_no hd]; exact h
  · have := (due_iff.1 hd).1
    cases well
    · rw [stp_ill hd]; exact ⟨h.1, wrap_fit _, wrap_fit _⟩
    · rw [stp_well hd]; exact ⟨by unfold i64; simp only; omega, by unfold i64; simp, hn⟩
theorem Old.trans {a b c : World} (h : Old a b) (k : Old b c) : Old a c := Below.trans h (k.mono h.size)
theorem below_set3 {w W : World} (h : Below w.heap.size w W) (v0 v1 v2 : Value) : Below w.heap.size w (((W.setCell ⟨w.heap.size, 0, none⟩ v0).setCell ⟨w.heap.size, 1, none⟩ v1).setCell ⟨w.heap.size, 2, none⟩ v2) :=
  Below.setCell (p := ⟨w.heap.size, 2, none⟩) (Below.setCell (p := ⟨w.heap.size, 1, none⟩) (Below.setCell (p := ⟨w.heap.size, 0, none⟩) h (Nat.le_refl _) v0) (Nat.le_refl _) v1) (Nat.le_refl _) v2
theorem Old.set3 {w W : World} (h : Old w W) (v0 v1 v2 : Value) : Old w (((W.setCell ⟨w.heap.size, 0, none⟩ v0).setCell ⟨w.heap.size, 1, none⟩ v1).setCell ⟨w.heap.size, 2, none⟩ v2) := below_set3 h v0 v1 v2
/-- A block that was laid ahead of a call is there behind it. -/
theorem new_kept {W w W' : World} {cs : Array Value} {T : TypeId} (hb : Below W.heap.size W W') (hW : W.heap = (w.alloc (.cells cs T)).heap) : W'.heap[w.heap.size]? = some (.cells cs T (0, 0)) := by
  have h1 := heap_alloc_new w (.cells cs T)
  rw [hb.block _ (by rw [hW]; simp), hW]
  exact h1

set_option maxRecDepth 100000 in
set_option maxHeartbeats 2000000 in
theorem ways_walk (C : UpC) (u : Upl) (ns : List Int) (a1 : Option Addr) (cap1 : Nat) (bl : List Bool) (a2 : Option Addr) (cap2 : Nat) (w : World) (hu : u.fit)
    (hnl : ns.length ≤ 9223372036854775807) (hns : Vals w a1 (ns.map (fun n => Value.int .i64 n))) (hnf : ∀ n ∈ ns, i64 n) (hbl : bl.length ≤ 9223372036854775807) (hbs : Vals w a2 (bl.map Value.bool)) :
    Calls Try.prog 5 #[upV u, .slice a1 ns.length cap1, .slice a2 bl.length cap2] w fun e w' => e = .returned (.bool true) ∧ Below w.heap.size w w' := by
  have HAW := Lib.hid (fun W => awake_any C W)
  have HC := Lib.hid C
  obtain ⟨st, tr, nx⟩ := u
  obtain ⟨N, hN⟩ : ∃ N, N = ns.length := ⟨_, rfl⟩
  obtain ⟨M, hM⟩ : ∃ M, M = bl.length := ⟨_, rfl⟩
  rw [← hN] at hnl ⊢
  rw [← hM] at hbl ⊢
  have HN := Lib.hid hN; have HM := Lib.hid hM; have HU := Lib.hid hu; have HNS := Lib.hid hns; have HBS := Lib.hid hbs; have HNF := Lib.hid hnf
  clear hN hM hu hns hbs hnf
  unfold upV
  have B0 := Lib.hid (Old.refl w)
  go_enter Try.func5, Try.ntmps5
  go_wp2_with fail
  refine (HAW.out _).mono ?_
  rintro e w1 ⟨rfl, b1⟩
  have n0 := heap_alloc_new w (.cells #[.int .i64 st, .int .i64 tr, .int .i64 nx] 28)
  have HV : Hid (VAt w1 w.heap.size ⟨st, tr, nx⟩) := Lib.hid (VAt.call (W := w.alloc (.cells #[.int .i64 st, .int .i64 tr, .int .i64 nx] 28)) n0 b1)
  have B1 := Lib.hid ((B0.out.alloc (.cells #[.int .i64 st, .int .i64 tr, .int .i64 nx] 28)).below b1)
  clear B0 b1 n0
  by_cases a0 : 100 < N
  · go_wp2_with fail
    go_ret
    exact ⟨rfl, B1.out⟩
  by_cases a3 : M < N
  · go_wp2_with fail
    go_ret
    exact ⟨rfl, B1.out⟩
  go_wp2_with fail
  go_loopg [8] N (fun g it wr => ∃ (i : Nat) (v : Upl), i + g = N ∧ it = .int .i64 i ∧ VAt wr w.heap.size v ∧ Old w wr ∧ v.fit)
  case atStart => exact ⟨0, ⟨st, tr, nx⟩, by omega, rfl, HV.out, B1.out, HU.out⟩
  case round =>
    obtain ⟨i, v, hi, rfl, hv, hold, hfit⟩ := hrel
    obtain ⟨c0, c1, c2, fz⟩ := hv.cells
    have HV := Lib.hid hv; have HO := Lib.hid hold; have HF := Lib.hid hfit
    clear hv hold hfit B1 HU
    by_cases hlt : i < N
    · obtain ⟨n, hn⟩ : ∃ n, ns[i]? = some n := ⟨ns[i]'(by have := HN.out; omega), List.getElem?_eq_getElem _⟩
      obtain ⟨b, hb⟩ : ∃ b, bl[i]? = some b := ⟨bl[i]'(by have := HM.out; omega), List.getElem?_eq_getElem _⟩
      have HNI := Lib.hid (HNF.out n (List.mem_of_getElem? hn))
      obtain ⟨k1, o1, rfl, g1⟩ := HNS.out.at HO.out (Nat.le_refl _) i (.int .i64 n) (by rw [List.getElem?_map, hn]; rfl)
      obtain ⟨k2, o2, rfl, g2⟩ := HBS.out.at HO.out (Nat.le_refl _) i (.bool b) (by rw [List.getElem?_map, hb]; rfl)
      clear hn hb
      have HST : Hid (∀ W, Old wr W → Calls Try.prog 12 #[upV v, .int .i64 n, .bool b] W fun e w' => e = .returned (upV (stp v n b)) ∧ Old wr w' ∧ Below W.heap.size W w') :=
        Lib.hid (fun W hW => (HC.out.step (u := v) (now := n) (well := b) (w := W) HF.out HNI.out).mono fun e w' h => ⟨h.1, hW.below h.2, h.2⟩)
      have HXF := Lib.hid (stp_fit HF.out HNI.out b)
      have m0 : ∀ W, Old wr W → W.cell? ⟨w.heap.size, 0, none⟩ = some (.int .i64 v.st) := fun W hW => (HV.out.call hW).cells.1
      have m1 : ∀ W, Old wr W → W.cell? ⟨w.heap.size, 1, none⟩ = some (.int .i64 v.tr) := fun W hW => (HV.out.call hW).cells.2.1
      have m2 : ∀ W, Old wr W → W.cell? ⟨w.heap.size, 2, none⟩ = some (.int .i64 v.nx) := fun W hW => (HV.out.call hW).cells.2.2.1
      have m3 : ∀ W, Old wr W → W.cell? ⟨k1, o1 + i, none⟩ = some (.int .i64 n) := fun W hW => (Below.cell (p := ⟨k1, o1 + i, none⟩) hW (World.block_lt_of_cell? _ _ g1)).trans g1
      have m4 : ∀ W, Old wr W → W.cell? ⟨k2, o2 + i, none⟩ = some (.bool b) := fun W hW => (Below.cell (p := ⟨k2, o2 + i, none⟩) hW (World.block_lt_of_cell? _ _ g2)).trans g2
      have MM := Lib.hid (And.intro m0 (And.intro m1 (And.intro m2 (And.intro m3 m4))))
      have K0 := Old.refl wr
      have hlm : i < M := by omega
      obtain ⟨x, hx⟩ : ∃ x, stp v n b = x := ⟨_, rfl⟩
      rw [hx] at HST HXF
      have HXE := Lib.hid hx
      clear hx
      unfold upV at HST
      clear c0 c1 c2 fz g1 g2
      go_wp2_with fail
      go_region_held3 (fun W => Old wr W) (first | assumption | exact K0 | exact K0.drew | exact Old.drew ‹_› | exact Old.alloc ‹_› _ | exact Old.alloc K0.drew _ | exact Old.set3 ‹_› _ _ _)
        (first
          | (go_at_call 12
             refine (HST.out _ (by first | assumption | exact K0.drew | exact Old.drew ‹_›)).mono ?_
             rintro e w6 ⟨rfl, hO6, hb6⟩
             first
               | (have hz6 := new_kept (w := wr) (cs := #[.int .i64 0, .int .i64 0, .int .i64 0]) (T := 28) hb6 rfl
                  have hz7 : VAt w6 wr.heap.size ⟨0, 0, 0⟩ := hz6
                  obtain ⟨z0, z1, z2, z3⟩ := hz7.cells
                  have z4 := z3 0
                  have z5 := z3 1
                  have z6 := z3 2)
               | skip
             try dsimp only))
      all_goals
        first
          | (generalize hW9 : World.alloc _ _ = w9
             have hX : VAt w9 w6.heap.size x := by rw [← hW9]; exact heap_alloc_new _ _
             have hO9 : Old wr w9 := by rw [← hW9]; exact Old.alloc hO6 _
             have hgx : ∃ g, g = w6.heap.size ∧ w.heap.size ≠ g ∧ w.heap.size ≤ g := ⟨_, rfl, by have := (Array.getElem?_eq_some_iff.1 HV.out).1; have := hO6.size; omega, by have := HO.out.size; have := hO6.size; omega⟩
             obtain ⟨gx, hgx, hgn, hgl⟩ := hgx
             rw [← hgx] at hX ⊢
             clear hW9 hgx)
          | (generalize hW9 : World.setCell _ _ _ = w9
             have hX : VAt w9 wr.heap.size x := by rw [← hW9]; exact (hz7.sets x).2.2
             have hO9 : Old wr w9 := by rw [← hW9]; exact Old.set3 hO6 _ _ _
             have hgx : ∃ g, g = wr.heap.size ∧ w.heap.size ≠ g ∧ w.heap.size ≤ g := ⟨_, rfl, by have := (Array.getElem?_eq_some_iff.1 HV.out).1; omega, by have := HO.out.size; omega⟩
             obtain ⟨gx, hgx, hgn, hgl⟩ := hgx
             rw [← hgx] at hX ⊢
             clear hW9 hgx)
        have HO9 := Lib.hid hO9
        have HX9 := Lib.hid hX
        have HV9 := Lib.hid (HV.out.call hO9)
        have HN9 := Lib.hid hgn
        have HL9 := Lib.hid hgl
        clear m0 m1 m2 m3 m4 K0
        obtain ⟨dd, hdd⟩ : ∃ d, due v n = d := ⟨_, rfl⟩
        have HDU : Hid (∀ W, Old w9 W → Calls Try.prog 10 #[upV v, .int .i64 n] W fun e w' => e = .returned (.bool dd) ∧ Old w9 w') :=
          Lib.hid (fun W hW => (HC.out.due (u := v) (now := n) (w := W) HF.out HNI.out).mono fun e w' h => ⟨by rw [← hdd]; exact h.1, hW.below h.2⟩)
        have HDD := Lib.hid hdd
        clear hdd
        have m0 : ∀ W, Old w9 W → W.cell? ⟨w.heap.size, 0, none⟩ = some (.int .i64 v.st) := fun W hW => MM.out.1 W (HO9.out.trans hW)
        have m1 : ∀ W, Old w9 W → W.cell? ⟨w.heap.size, 1, none⟩ = some (.int .i64 v.tr) := fun W hW => MM.out.2.1 W (HO9.out.trans hW)
        have m2 : ∀ W, Old w9 W → W.cell? ⟨w.heap.size, 2, none⟩ = some (.int .i64 v.nx) := fun W hW => MM.out.2.2.1 W (HO9.out.trans hW)
        have m3 : ∀ W, Old w9 W → W.cell? ⟨k1, o1 + i, none⟩ = some (.int .i64 n) := fun W hW => MM.out.2.2.2.1 W (HO9.out.trans hW)
        have K9 := Old.refl w9
        unfold upV at HDU
        clear hX hO9 hO6 hb6 hgn hgl
        go_wp2_with fail
        go_region_held3 (fun W => Old w9 W) (first | assumption | exact K9 | exact K9.drew | exact Old.drew ‹_›)
          (first
            | (go_at_call 10
               refine (HDU.out _ (by first | assumption | exact K9.drew | exact Old.drew ‹_›)).mono ?_
               rintro e w10 ⟨rfl, hO10⟩
               try dsimp only))
        have HV10 := Lib.hid (HV9.out.call hO10)
        have HX10 := Lib.hid (HX9.out.call hO10)
        have HO10 := Lib.hid (HO9.out.trans hO10)
        obtain ⟨c0, c1, c2, cf⟩ := HV10.out.cells
        obtain ⟨y0, y1, y2, yf⟩ := HX10.out.cells
        have g3 := MM.out.2.2.2.1 w10 HO10.out
        have g4 := MM.out.2.2.2.2 w10 HO10.out
        clear m0 m1 m2 m3 K9 hO10
        cases dd
        · obtain rfl : x = v := by rw [← HXE.out]; exact stp_no HDD.out b
          go_wp2_with fail
          go_roundg (gk - 1)
          case measure => omega
          case rel => exact ⟨i + 1, x, by omega, by go_num, HV10.out, HO.out.trans HO10.out, HF.out⟩
        · have hdu := (due_iff.1 HDD.out).1
          obtain ⟨q1, q2, hv3⟩ := HV10.out.sets x
          have HV11 := Lib.hid hv3
          cases b
          · have hxe := HXE.out
            rw [stp_ill HDD.out] at hxe
            obtain ⟨vs, vt, vn⟩ := v
            obtain ⟨xs, xt, xn⟩ := x
            simp only [Upl.mk.injEq] at hxe
            simp only at c0 c1 c2 y0 y1 y2 q1 q2 hdu
            obtain ⟨rfl, hxt, hxn⟩ := hxe
            have w1 : IntKind.i64.wrap (vt + 1) = xt := by rw [IntWalk.i64_left]; exact hxt
            have HR : Hid (∀ W, Below w10.heap.size w10 W → VAt (((W.setCell ⟨w.heap.size, 0, none⟩ (.int .i64 vs)).setCell ⟨w.heap.size, 1, none⟩ (.int .i64 xt)).setCell ⟨w.heap.size, 2, none⟩ (.int .i64 xn)) w.heap.size ⟨vs, xt, xn⟩ ∧ Old w (((W.setCell ⟨w.heap.size, 0, none⟩ (.int .i64 vs)).setCell ⟨w.heap.size, 1, none⟩ (.int .i64 xt)).setCell ⟨w.heap.size, 2, none⟩ (.int .i64 xn))) :=
              Lib.hid (fun W hW => ⟨((HV10.out.call hW).sets ⟨vs, xt, xn⟩).2.2, Old.set3 ((HO.out.trans HO10.out).below hW) _ _ _⟩)
            clear hxt hxn q1 q2 hv3 HV11
            go_wp2_with fail
            go_quiet (fail)
            have hbq := below_drewN (Below.refl w10.heap.size w10) nq
            have hr := HR.out _ hbq
            have hv4 := HV10.out.call hbq
            have hx4 := HX10.out.call hbq
            obtain ⟨c0, c1, c2, cf⟩ := hv4.cells
            obtain ⟨y0, y1, y2, yf⟩ := hx4.cells
            obtain ⟨q1, q2, _⟩ := hv4.sets ⟨vs, xt, xn⟩
            have HR4 := Lib.hid hr
            clear hv4 hx4 hbq hr HR
            generalize w10.drewN nq = w11 at *
            go_wp2_with fail
            go_roundg (gk - 1)
            case measure => omega
            case rel => exact ⟨i + 1, ⟨vs, xt, xn⟩, by omega, by go_num, HR4.out.1, HR4.out.2, HXF.out⟩
          · have hxe := HXE.out
            rw [stp_well HDD.out] at hxe
            obtain ⟨vs, vt, vn⟩ := v
            obtain ⟨xs, xt, xn⟩ := x
            simp only [Upl.mk.injEq] at hxe
            simp only at c0 c1 c2 y0 y1 y2 q1 q2 hdu
            obtain ⟨rfl, rfl, rfl⟩ := hxe
            have w1 : IntKind.i64.wrap (vs + 1) = vs + 1 := IntWalk.i64_in _ (by omega)
            have HR : Hid (∀ W, Below w10.heap.size w10 W → VAt (((W.setCell ⟨w.heap.size, 0, none⟩ (.int .i64 (vs + 1))).setCell ⟨w.heap.size, 1, none⟩ (.int .i64 0)).setCell ⟨w.heap.size, 2, none⟩ (.int .i64 n)) w.heap.size ⟨vs + 1, 0, n⟩ ∧ Old w (((W.setCell ⟨w.heap.size, 0, none⟩ (.int .i64 (vs + 1))).setCell ⟨w.heap.size, 1, none⟩ (.int .i64 0)).setCell ⟨w.heap.size, 2, none⟩ (.int .i64 n))) :=
              Lib.hid (fun W hW => ⟨((HV10.out.call hW).sets ⟨vs + 1, 0, n⟩).2.2, Old.set3 ((HO.out.trans HO10.out).below hW) _ _ _⟩)
            clear q1 q2 hv3 HV11
            go_wp2_with fail
            go_quiet (fail)
            have hbq := below_drewN (Below.refl w10.heap.size w10) nq
            have hr := HR.out _ hbq
            have hv4 := HV10.out.call hbq
            have hx4 := HX10.out.call hbq
            obtain ⟨c0, c1, c2, cf⟩ := hv4.cells
            obtain ⟨y0, y1, y2, yf⟩ := hx4.cells
            obtain ⟨q1, q2, _⟩ := hv4.sets ⟨vs + 1, 0, n⟩
            have HR4 := Lib.hid hr
            clear hv4 hx4 hbq hr HR
            generalize w10.drewN nq = w11 at *
            go_wp2_with fail
            go_roundg (gk - 1)
            case measure => omega
            case rel => exact ⟨i + 1, ⟨vs + 1, 0, n⟩, by omega, by go_num, HR4.out.1, HR4.out.2, HXF.out⟩
    · go_wp2_with fail
      go_ret
      exact ⟨rfl, HO.out⟩
end Go.Proofs.Ytnjeobpabaojaaa.U
