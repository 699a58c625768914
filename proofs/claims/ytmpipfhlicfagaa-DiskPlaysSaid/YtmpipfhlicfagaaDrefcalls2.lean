/- The document's disk: its calls, further: Append, Rename, Cut. -/
import Derived.Test.YtmpipfhlicfagaaDrefcalls
namespace Go.Proofs.Ytmpipfhlicfagaa
open Go.RowKit
set_option linter.unusedVariables false

theorem bs_nil_app (b : List UInt8) : (⟨#[]⟩ : ByteArray) ++ bs b = bs b := by
  exact (bs_app [] b).symm

theorem apF_some {S : St} {n b : List UInt8} {f : Fl} (h : find S.fs n = some f) : apF S n b = { f with bt := f.bt ++ b } := by unfold apF; rw [h]
theorem apF_none {S : St} {n b : List UInt8} (h : find S.fs n = none) : apF S n b = ⟨n, b, 0⟩ := by unfold apF; rw [h]

theorem apF_good {S : St} {n b : List UInt8} (h : Good S) (hr : rightName n = true) (hfit : (b.length : Int) ≤ left S) : Good (puts (burnt S) (apF S n b)) ∧ (apF S n b).nm = n := by
  have hg := good_burnt h
  have hr' := rightName_iff.1 hr
  have hle : (b.length : Int) ≤ S.room - total S.fs := hfit
  cases hf : find S.fs n with
  | none =>
    rw [apF_none hf]
    refine ⟨good_puts hg hr' (Nat.zero_le _) ?_, rfl⟩
    simp only [puts, total_ins, fs_burnt, room_burnt]
    rw [wo_id (find_none hf)]
    omega
  | some f =>
    obtain ⟨hm, hn⟩ := find_mem hf
    rw [apF_some hf]
    refine ⟨good_puts hg (by dsimp only; rw [hn]; exact hr') (by have := h.sure f hm; dsimp only; rw [List.length_append]; omega) ?_, hn⟩
    have h2 := total_wo h.up hm
    simp only [puts, total_ins, fs_burnt, room_burnt, List.length_append]
    omega

/-! ### Append -/
set_option maxHeartbeats 4000000 in
theorem refappend_any {B qb : Nat} {lv : Value} {S : St} {w : World} {n b : List UInt8} (h : Rf B w qb lv S) (hn : n.length ≤ maxLen) (hb : b.length ≤ maxLen) (hcs : S.fs.length < 1000000000) :
    Calls Try.prog 10 #[.pointer (some ⟨qb, 0, none⟩), .string (bs n), .string (bs b)] w (RfPost B qb lv (apS S n b) (.int .i64 (apE S n b)) w) := by
  unfold maxLen at hb
  by_cases hr : rightName n = true
  · have hV := refright_is hr w hn
    by_cases hbu : burns S = true
    · have hfits := h.good.fits
      have hroom := h.good.room
      have hL0 : 0 ≤ left S ∧ left S ≤ 1048576 := by unfold left; omega
      obtain ⟨l0, l1⟩ := hL0
      by_cases hfit : (b.length : Int) ≤ left S
      · have e1 : apS S n b = puts (burnt S) (apF S n b) := by simp [apS, hr, hbu, hfit]
        have e2 : apE S n b = 0 := by simp [apE, hr, hbu, hfit]
        rw [e1, e2]
        obtain ⟨hGo, hnm⟩ := apF_good h.good hr hfit
        have hS' : puts (burnt S) (apF S n b) = { burnt S with fs := ins Fl.nm (wo Fl.nm S.fs n) (apF S n b) } := by simp only [puts, fs_burnt, hnm]
        have HB := Lib.hid hbu; have HS' := Lib.hid hS'
        have hbs : ((bs b).size : Int) ≤ left S := by rw [bs_size]; exact hfit
        have hbs2 : (bs b).size ≤ 1048576 := by omega
        clear e1 e2 hbu hS' hr hnm
        cases hf : find S.fs n with
        | none =>
          rw [apF_none hf] at HS' hGo ⊢
          have hat := fun w1 h1 => refat_no (w := w1) (lv := lv) (S := burnt S) (qb := qb) (B := B) h1 (by rw [fs_burnt]; exact hf) (by rw [fs_burnt]; exact hcs)
          clear hf
          go_enter Try.func10, Try.ntmps10
          go_wp2_with fail
          refine hV.mono ?_
          rintro e w1 ⟨rfl, rfl⟩
          go_wp2_with fail
          refine (refburn_is h HB.out).mono ?_
          rintro e w1 ⟨rfl, h1, t1⟩
          go_wp2_with fail
          have hli := refleft_any h1 (by rw [fs_burnt]; exact hcs)
          rw [left_burnt] at hli
          refine hli.mono ?_
          rintro e w2 ⟨rfl, rfl⟩
          clear hli
          go_wp2_with fail
          refine (hat _ (h1.below ((Below.refl _ _).alloc (Nat.le_refl _) _))).mono ?_
          rintro e w2 ⟨rfl, rfl⟩
          obtain ⟨c0, c1, c2, c3, fz⟩ := h1.cells
          clear fz hat
          obtain ⟨a, cap, hv⟩ := files_form h1.row
          subst hv
          go_wp2_with fail
          rw [bs_nil_app]
          generalize hW : World.alloc _ _ = W2
          have hB2 : Below w1.heap.size w1 W2 := by rw [← hW]; exact (Below.refl _ _).alloc (Nat.le_refl _) _
          have bw : W2.heap[w1.heap.size]? = some (.cells #[.string (bs n), .string (bs b), .int .i64 (0 : Nat)] 50 (0, 0)) := by rw [← hW]; exact heap_alloc_new w1 _
          clear hW
          have h2 : Rf B W2 qb (Value.slice a (burnt S).fs.length cap) (burnt S) := h1.below hB2
          have hWO := without_old h2 n (by rw [fs_burnt]; exact hcs)
          rw [fs_burnt] at hWO
          have hWI := with_old (W2 := W2) (f := (⟨n, b, 0⟩ : Fl)) (l := wo Fl.nm S.fs n) (up_wo h.good.up n) (by have := length_wo S.fs n; omega)
          have hsz2 : w1.heap.size < W2.heap.size := (Array.getElem?_eq_some_iff.1 bw).1
          have hA0 : ∀ W, Old W2 W → W.cell? ⟨w1.heap.size, 0, none⟩ = some (.string (bs n)) := fun W hW => by rw [Below.cell (p := ⟨w1.heap.size, 0, none⟩) hW hsz2, cell_of_row W2 _ 0 _ _ (0, 0) bw]; rfl
          have hA1 : ∀ W, Old W2 W → W.cell? ⟨w1.heap.size, 1, none⟩ = some (.string (bs b)) := fun W hW => by rw [Below.cell (p := ⟨w1.heap.size, 1, none⟩) hW hsz2, cell_of_row W2 _ 1 _ _ (0, 0) bw]; rfl
          have hA2 : ∀ W, Old W2 W → W.cell? ⟨w1.heap.size, 2, none⟩ = some (.int .i64 (0 : Nat)) := fun W hW => by rw [Below.cell (p := ⟨w1.heap.size, 2, none⟩) hW hsz2, cell_of_row W2 _ 2 _ _ (0, 0) bw]; rfl
          have hq := h2.lt.1
          obtain ⟨q0, q1, q2, q3, qz⟩ := h2.cells
          have hQ1 : ∀ W, Old W2 W → W.cell? ⟨qb, 1, none⟩ = some (Value.slice a (burnt S).fs.length cap) := fun W hW => by rw [Below.cell (p := ⟨qb, 1, none⟩) hW hq]; exact q1
          have hQf : ∀ W, Old W2 W → W.frozen? ⟨qb, 1, none⟩ = false := fun W hW => by rw [Below.frozen (p := ⟨qb, 1, none⟩) hW hq]; exact qz 1
          have a0 := hA0 W2 (Old.refl _)
          have a1 := hA1 W2 (Old.refl _)
          have a2 := hA2 W2 (Old.refl _)
          have HWO := Lib.hid hWO; have HWI := Lib.hid hWI; have HA0 := Lib.hid hA0; have HA1 := Lib.hid hA1; have HA2 := Lib.hid hA2; have HQ1 := Lib.hid hQ1; have HQf := Lib.hid hQf
          clear hWO hWI hA0 hA1 hA2 hQ1 hQf q0 q2 q3 qz c0 c1 c2 c3 bw
          go_region_with (first
            | (go_at_call 40
               refine (HWO.out _ (by first | exact Old.refl _ | exact (Old.refl _).drew)).mono ?_
               rintro e w3 ⟨v3, k3, n3, rfl, hf3, hO3⟩
               have a0 := HA0.out w3 hO3
               have a1 := HA1.out w3 hO3
               have a2 := HA2.out w3 hO3)
            | (go_at_call 39
               refine (HWI.out _ _ (by first | exact hO3 | exact hO3.drew) (by first | exact hf3 | exact hf3.drew)).mono ?_
               rintro e w4 ⟨v4, k4, n4, rfl, hf4, hO4⟩
               have q1 := HQ1.out w4 hO4
               have qf := HQf.out w4 hO4))
          all_goals
            go_wp2_with fail
            go_ret
            exact rfpost_laid h2 (t1.trans (Turn.of_below _ hB2 (Nat.le_refl _))) hO4 hf4 HS'.out hGo
        | some f =>
          rw [apF_some hf] at HS' hGo ⊢
          obtain ⟨i, hi, hfn⟩ := find_at hf
          have hat := fun w1 h1 => refat_yes (w := w1) (lv := lv) (S := burnt S) (qb := qb) (B := B) (n := n) (f := f) (i := i) h1 (by rw [fs_burnt]; exact hi) hfn (by rw [fs_burnt]; exact hcs)
          have HI := Lib.hid hi
          have hfl := len_le h.good (find_mem hf).1
          have hsz : (bs f.bt).size ≤ 1048576 := by rw [bs_size]; exact hfl
          clear hf hi hfn
          go_enter Try.func10, Try.ntmps10
          go_wp2_with fail
          refine hV.mono ?_
          rintro e w1 ⟨rfl, rfl⟩
          go_wp2_with fail
          refine (refburn_is h HB.out).mono ?_
          rintro e w1 ⟨rfl, h1, t1⟩
          go_wp2_with fail
          have hli := refleft_any h1 (by rw [fs_burnt]; exact hcs)
          rw [left_burnt] at hli
          refine hli.mono ?_
          rintro e w2 ⟨rfl, rfl⟩
          clear hli
          go_wp2_with fail
          refine (hat _ (h1.below ((Below.refl _ _).alloc (Nat.le_refl _) _))).mono ?_
          rintro e w2 ⟨rfl, rfl⟩
          obtain ⟨c0, c1, c2, c3, fz⟩ := h1.cells
          clear fz hat
          have hqw := h1.lt.1
          have hrow := h1.row
          rw [fs_burnt] at hrow
          obtain ⟨a, cap, hv⟩ := files_form hrow
          subst hv
          obtain ⟨g, hg, _, hgl, d0, d1, d2⟩ := files_at hrow HI.out
          subst hg
          have hil : i < S.fs.length := (List.getElem?_eq_some_iff.1 HI.out).1
          go_wp2_with fail
          rw [← bs_app]
          clear d0 d1 d2
          generalize hW : World.alloc _ _ = W2
          have hB2 : Below w1.heap.size w1 W2 := by rw [← hW]; exact (Below.refl _ _).alloc (Nat.le_refl _) _
          have bw : W2.heap[w1.heap.size]? = some (.cells #[.string (bs f.nm), .string (bs (f.bt ++ b)), .int .i64 f.sure] 50 (0, 0)) := by rw [← hW]; exact heap_alloc_new w1 _
          clear hW
          have h2 : Rf B W2 qb (Value.slice (some ⟨g, 0, none⟩) S.fs.length cap) (burnt S) := h1.below hB2
          have hWO := without_old h2 n (by rw [fs_burnt]; exact hcs)
          rw [fs_burnt] at hWO
          have hWI := with_old (W2 := W2) (f := ({ f with bt := f.bt ++ b } : Fl)) (l := wo Fl.nm S.fs n) (up_wo h.good.up n) (by have := length_wo S.fs n; omega)
          have hsz2 : w1.heap.size < W2.heap.size := (Array.getElem?_eq_some_iff.1 bw).1
          have hA0 : ∀ W, Old W2 W → W.cell? ⟨w1.heap.size, 0, none⟩ = some (.string (bs f.nm)) := fun W hW => by rw [Below.cell (p := ⟨w1.heap.size, 0, none⟩) hW hsz2, cell_of_row W2 _ 0 _ _ (0, 0) bw]; rfl
          have hA1 : ∀ W, Old W2 W → W.cell? ⟨w1.heap.size, 1, none⟩ = some (.string (bs (f.bt ++ b))) := fun W hW => by rw [Below.cell (p := ⟨w1.heap.size, 1, none⟩) hW hsz2, cell_of_row W2 _ 1 _ _ (0, 0) bw]; rfl
          have hA2 : ∀ W, Old W2 W → W.cell? ⟨w1.heap.size, 2, none⟩ = some (.int .i64 f.sure) := fun W hW => by rw [Below.cell (p := ⟨w1.heap.size, 2, none⟩) hW hsz2, cell_of_row W2 _ 2 _ _ (0, 0) bw]; rfl
          have hq := h2.lt.1
          obtain ⟨q0, q1, q2, q3, qz⟩ := h2.cells
          have hQ1 : ∀ W, Old W2 W → W.cell? ⟨qb, 1, none⟩ = some (Value.slice (some ⟨g, 0, none⟩) S.fs.length cap) := fun W hW => by rw [Below.cell (p := ⟨qb, 1, none⟩) hW hq]; exact q1
          have hQf : ∀ W, Old W2 W → W.frozen? ⟨qb, 1, none⟩ = false := fun W hW => by rw [Below.frozen (p := ⟨qb, 1, none⟩) hW hq]; exact qz 1
          have a0 := hA0 W2 (Old.refl _)
          have a1 := hA1 W2 (Old.refl _)
          have a2 := hA2 W2 (Old.refl _)
          have HWO := Lib.hid hWO; have HWI := Lib.hid hWI; have HA0 := Lib.hid hA0; have HA1 := Lib.hid hA1; have HA2 := Lib.hid hA2; have HQ1 := Lib.hid hQ1; have HQf := Lib.hid hQf
          clear hWO hWI hA0 hA1 hA2 hQ1 hQf q0 q2 q3 qz c0 c1 c2 c3 bw
          go_region_with (first
            | (go_at_call 40
               refine (HWO.out _ (by first | exact Old.refl _ | exact (Old.refl _).drew)).mono ?_
               rintro e w3 ⟨v3, k3, n3, rfl, hf3, hO3⟩
               have a0 := HA0.out w3 hO3
               have a1 := HA1.out w3 hO3
               have a2 := HA2.out w3 hO3)
            | (go_at_call 39
               refine (HWI.out _ _ (by first | exact hO3 | exact hO3.drew) (by first | exact hf3 | exact hf3.drew)).mono ?_
               rintro e w4 ⟨v4, k4, n4, rfl, hf4, hO4⟩
               have q1 := HQ1.out w4 hO4
               have qf := HQf.out w4 hO4))
          all_goals
            go_wp2_with fail
            go_ret
            exact rfpost_laid h2 (t1.trans (Turn.of_below _ hB2 (Nat.le_refl _))) hO4 hf4 HS'.out hGo
      · have e1 : apS S n b = burnt S := by simp [apS, hr, hbu, hfit]
        have e2 : apE S n b = 6 := by simp [apE, hr, hbu, hfit]
        rw [e1, e2]
        have HB := Lib.hid hbu
        have hbs : left S < ((bs b).size : Int) := by rw [bs_size]; omega
        have hbs2 : (bs b).size ≤ 9223372036854775807 := by rw [bs_size]; omega
        clear e1 e2 hbu hr hfit
        go_enter Try.func10, Try.ntmps10
        go_wp2_with fail
        refine hV.mono ?_
        rintro e w1 ⟨rfl, rfl⟩
        go_wp2_with fail
        refine (refburn_is h HB.out).mono ?_
        rintro e w1 ⟨rfl, h1, t1⟩
        go_wp2_with fail
        have hli := refleft_any h1 (by rw [fs_burnt]; exact hcs)
        rw [left_burnt] at hli
        refine hli.mono ?_
        rintro e w2 ⟨rfl, rfl⟩
        clear hli
        go_wp2_with fail
        go_ret
        exact rfpost_same h1 t1
    · have hbu' : burns S = false := by simpa using hbu
      have e1 : apS S n b = burnt S := by simp [apS, hr, hbu]
      have e2 : apE S n b = 8 := by simp [apE, hr, hbu]
      rw [e1, e2]
      have HB := Lib.hid hbu'
      clear e1 e2 hbu hbu' hr
      go_enter Try.func10, Try.ntmps10
      go_wp2_with fail
      refine hV.mono ?_
      rintro e w1 ⟨rfl, rfl⟩
      go_wp2_with fail
      refine (refburn_is h HB.out).mono ?_
      rintro e w1 ⟨rfl, h1, t1⟩
      go_wp2_with fail
      go_ret
      exact rfpost_same h1 t1
  · have hr' : rightName n = false := by simpa using hr
    have hV := refright_is hr' w hn
    have e1 : apS S n b = S := by simp [apS, hr]
    have e2 : apE S n b = 1 := by simp [apE, hr]
    rw [e1, e2]
    clear e1 e2 hr hr'
    go_enter Try.func10, Try.ntmps10
    go_wp2_with fail
    refine hV.mono ?_
    rintro e w1 ⟨rfl, rfl⟩
    go_wp2_with fail
    go_ret
    exact rfpost_same h (Turn.refl _ _)
end Go.Proofs.Ytmpipfhlicfagaa
