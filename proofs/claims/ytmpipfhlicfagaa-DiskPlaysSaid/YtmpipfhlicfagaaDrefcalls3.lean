/- The document's disk: its calls, further: Rename, Cut. -/
import Derived.Test.YtmpipfhlicfagaaDrefcalls2
namespace Go.Proofs.Ytmpipfhlicfagaa
open Go.RowKit
set_option linter.unusedVariables false

/-! ### Rename -/
set_option maxHeartbeats 4000000 in
theorem refrename_any {B qb : Nat} {lv : Value} {S : St} {w : World} {n m : List UInt8} (h : Rf B w qb lv S) (hm : m.length ≤ maxLen) (hcs : S.fs.length < 1000000000) :
    Calls Try.prog 14 #[.pointer (some ⟨qb, 0, none⟩), .string (bs n), .string (bs m)] w (RfPost B qb lv (rnS S n m) (.int .i64 (rnE S n m)) w) := by
  cases hf : find S.fs n with
  | none =>
    have e1 : rnS S n m = S := by simp [rnS, hf]
    have e2 : rnE S n m = 5 := by simp [rnE, hf]
    rw [e1, e2]
    have hat := refat_no h hf hcs
    clear hf e1 e2
    go_enter Try.func14, Try.ntmps14
    go_wp2_with fail
    refine hat.mono ?_
    rintro e w1 ⟨rfl, rfl⟩
    go_wp2_with fail
    go_ret
    exact rfpost_same h (Turn.refl _ _)
  | some f =>
    obtain ⟨i, hi, hfn⟩ := find_at hf
    have hat := refat_yes h hi hfn hcs
    by_cases hr : rightName m = true
    · have hV := refright_is hr w hm
      by_cases hbu : burns S = true
      · have e1 : rnS S n m = puts { burnt S with fs := wo Fl.nm S.fs n } { f with nm := m } := by simp [rnS, hf, hr, hbu]
        have e2 : rnE S n m = 0 := by simp [rnE, hf, hr, hbu]
        rw [e1, e2]
        have hfm := (find_mem hf).1
        have hG1 : Good { burnt S with fs := wo Fl.nm S.fs n } := by have := good_wo (good_burnt h.good) n; rw [fs_burnt] at this; exact this
        have hGo : Good (puts { burnt S with fs := wo Fl.nm S.fs n } { f with nm := m }) := by
          refine good_puts hG1 (rightName_iff.1 hr) (h.good.sure f hfm) ?_
          have h2 := total_wo h.good.up hfm
          have h3 := h.good.fits
          rw [hfn] at h2
          simp only [puts, total_ins, room_burnt]
          by_cases hx : ∃ x ∈ wo Fl.nm S.fs n, x.nm = m
          · obtain ⟨x, hx, rfl⟩ := hx
            have := total_wo (up_wo h.good.up n) hx
            omega
          · rw [wo_id (fun x hx' e => hx ⟨x, hx', e⟩)]
            omega
        have HB := Lib.hid hbu; have HI := Lib.hid hi
        have hfl := len_le h.good hfm
        have hsz : (bs f.bt).size ≤ 1048576 := by rw [bs_size]; exact hfl
        clear e1 e2 hbu hi hfn hf hr
        go_enter Try.func14, Try.ntmps14
        go_wp2_with fail
        refine hat.mono ?_
        rintro e w1 ⟨rfl, rfl⟩
        go_wp2_with fail
        refine hV.mono ?_
        rintro e w1 ⟨rfl, rfl⟩
        go_wp2_with fail
        refine (refburn_is h HB.out).mono ?_
        rintro e w1 ⟨rfl, h1, t1⟩
        obtain ⟨c0, c1, c2, c3, fz⟩ := h1.cells
        clear fz
        have hrow := h1.row
        rw [fs_burnt] at hrow
        obtain ⟨a, cap, hv⟩ := files_form hrow
        subst hv
        obtain ⟨g, hg, _, hgl, d0, d1, d2⟩ := files_at hrow HI.out
        subst hg
        have hil : i < S.fs.length := (List.getElem?_eq_some_iff.1 HI.out).1
        have hqw := h1.lt.1
        clear hat hV
        go_wp2_with fail
        clear d0 d1 d2
        generalize hW : World.alloc _ _ = W0
        have hB0 : Below w1.heap.size w1 W0 := by rw [← hW]; exact (Below.refl _ _).alloc (Nat.le_refl _) _
        have bw0 : W0.heap[w1.heap.size]? = some (.cells #[.string (bs m), .string (bs f.bt), .int .i64 f.sure] 50 (0, 0)) := by rw [← hW]; exact heap_alloc_new w1 _
        clear hW
        have h0 := h1.below hB0
        have hWO0 := without_old h0 n (by rw [fs_burnt]; exact hcs) W0 (Old.refl _)
        rw [fs_burnt] at hWO0
        refine hWO0.mono ?_
        rintro e w3 ⟨v3, k3, n3, rfl, hf3, hO3⟩
        have hq0 := h0.lt.1
        have q1 : w3.cell? ⟨qb, 1, none⟩ = some (.slice (some ⟨g, 0, none⟩) S.fs.length cap) := by rw [Below.cell (p := ⟨qb, 1, none⟩) hO3 hq0]; exact h0.cells.2.1
        have qf : w3.frozen? ⟨qb, 1, none⟩ = false := by rw [Below.frozen (p := ⟨qb, 1, none⟩) hO3 hq0]; exact h0.cells.2.2.2.2 1
        clear hWO0
        have hlaid := rfpost_laid (r := .bool true) (lvA := .bool true) h0 (Turn.refl _ _) hO3 hf3 rfl hG1
        have HL := Lib.hid hlaid
        clear hlaid c0 c1 c2 c3
        go_wp2_with fail
        obtain ⟨_, lv', h2, t2, _⟩ := HL.out
        generalize hW : World.setCell _ _ _ = W2 at h2 t2 ⊢
        have bw : W2.heap[w1.heap.size]? = some (.cells #[.string (bs m), .string (bs f.bt), .int .i64 f.sure] 50 (0, 0)) := by
          rw [t2.block w1.heap.size (Array.getElem?_eq_some_iff.1 bw0).1 (fun e => by have e' : w1.heap.size = qb := e; omega)]; exact bw0
        have t20 : Turn (fun k => k = qb) w W2 := (t1.trans (Turn.of_below _ hB0 (Nat.le_refl _))).trans t2
        clear hW q1 qf bw0
        obtain ⟨a2, cap2, hv2⟩ := files_form h2.row
        subst hv2
        dsimp only at h2
        have c0 := trivial
        have c1 := trivial
        have c2 := trivial
        have c3 := trivial
        have hWO := without_old h2 m (by have := length_wo S.fs n; dsimp only; omega)
        have hWI := with_old (W2 := W2) (f := ({ f with nm := m } : Fl)) (l := wo Fl.nm (wo Fl.nm S.fs n) m) (up_wo (up_wo h.good.up n) m) (by have := length_wo (wo Fl.nm S.fs n) m; have := length_wo S.fs n; omega)
        have hsz2 : w1.heap.size < W2.heap.size := (Array.getElem?_eq_some_iff.1 bw).1
        have hA0 : ∀ W, Old W2 W → W.cell? ⟨w1.heap.size, 0, none⟩ = some (.string (bs m)) := fun W hW => by rw [Below.cell (p := ⟨w1.heap.size, 0, none⟩) hW hsz2, cell_of_row W2 _ 0 _ _ (0, 0) bw]; rfl
        have hA1 : ∀ W, Old W2 W → W.cell? ⟨w1.heap.size, 1, none⟩ = some (.string (bs f.bt)) := fun W hW => by rw [Below.cell (p := ⟨w1.heap.size, 1, none⟩) hW hsz2, cell_of_row W2 _ 1 _ _ (0, 0) bw]; rfl
        have hA2 : ∀ W, Old W2 W → W.cell? ⟨w1.heap.size, 2, none⟩ = some (.int .i64 f.sure) := fun W hW => by rw [Below.cell (p := ⟨w1.heap.size, 2, none⟩) hW hsz2, cell_of_row W2 _ 2 _ _ (0, 0) bw]; rfl
        have hq := h2.lt.1
        obtain ⟨q0, q1, q2, q3, qz⟩ := h2.cells
        have hQ1 : ∀ W, Old W2 W → W.cell? ⟨qb, 1, none⟩ = some (Value.slice a2 (wo Fl.nm S.fs n).length cap2) := fun W hW => by rw [Below.cell (p := ⟨qb, 1, none⟩) hW hq]; exact q1
        have hQf : ∀ W, Old W2 W → W.frozen? ⟨qb, 1, none⟩ = false := fun W hW => by rw [Below.frozen (p := ⟨qb, 1, none⟩) hW hq]; exact qz 1
        have a0 := hA0 W2 (Old.refl _)
        have a1 := hA1 W2 (Old.refl _)
        have a2 := hA2 W2 (Old.refl _)
        have HWO := Lib.hid hWO; have HWI := Lib.hid hWI; have HA0 := Lib.hid hA0; have HA1 := Lib.hid hA1; have HA2 := Lib.hid hA2; have HQ1 := Lib.hid hQ1; have HQf := Lib.hid hQf
        clear hWO hWI hA0 hA1 hA2 hQ1 hQf q0 q2 q3 qz c0 c1 c2 c3 bw
        go_region_with (first
          | (go_at_call 40
             refine (HWO.out _ (by first | exact Old.refl _ | exact (Old.refl _).drew)).mono ?_
             rintro e w3 ⟨v3, k3, n3, rfl, hf3, hO3⟩
             have a0 := HA0.out w3 hO3
             have a1 := HA1.out w3 hO3
             have a2 := HA2.out w3 hO3)
          | (go_at_call 39
             refine (HWI.out _ _ (by first | exact hO3 | exact hO3.drew) (by first | exact hf3 | exact hf3.drew)).mono ?_
             rintro e w4 ⟨v4, k4, n4, rfl, hf4, hO4⟩
             have q1 := HQ1.out w4 hO4
             have qf := HQf.out w4 hO4))
        all_goals
          go_wp2_with fail
          go_ret
          exact rfpost_laid h2 t20 hO4 hf4 rfl hGo
      · have hbu' : burns S = false := by simpa using hbu
        have e1 : rnS S n m = burnt S := by simp [rnS, hf, hr, hbu]
        have e2 : rnE S n m = 8 := by simp [rnE, hf, hr, hbu]
        rw [e1, e2]
        have HB := Lib.hid hbu'
        clear hf e1 e2 hbu hbu' hi hr
        go_enter Try.func14, Try.ntmps14
        go_wp2_with fail
        refine hat.mono ?_
        rintro e w1 ⟨rfl, rfl⟩
        go_wp2_with fail
        refine hV.mono ?_
        rintro e w1 ⟨rfl, rfl⟩
        go_wp2_with fail
        refine (refburn_is h HB.out).mono ?_
        rintro e w1 ⟨rfl, h1, t1⟩
        go_wp2_with fail
        go_ret
        exact rfpost_same h1 t1
    · have hr' : rightName m = false := by simpa using hr
      have hV := refright_is hr' w hm
      have e1 : rnS S n m = S := by simp [rnS, hf, hr]
      have e2 : rnE S n m = 1 := by simp [rnE, hf, hr]
      rw [e1, e2]
      clear hf e1 e2 hi hr hr'
      go_enter Try.func14, Try.ntmps14
      go_wp2_with fail
      refine hat.mono ?_
      rintro e w1 ⟨rfl, rfl⟩
      go_wp2_with fail
      refine hV.mono ?_
      rintro e w1 ⟨rfl, rfl⟩
      go_wp2_with fail
      go_ret
      exact rfpost_same h (Turn.refl _ _)

/-! ### Cut -/
set_option maxHeartbeats 4000000 in
theorem refcut_any {B qb : Nat} {lv : Value} {S : St} {w : World} {n : List UInt8} {m : Int} (h : Rf B w qb lv S) (hm1 : -9223372036854775808 ≤ m) (hm2 : m ≤ 9223372036854775807) (hcs : S.fs.length < 1000000000) :
    Calls Try.prog 18 #[.pointer (some ⟨qb, 0, none⟩), .string (bs n), .int .i64 m] w (RfPost B qb lv (ctS S n m) (.int .i64 (ctE S n m)) w) := by
  cases hf : find S.fs n with
  | none =>
    have e1 : ctS S n m = S := by simp [ctS, hf]
    have e2 : ctE S n m = 5 := by simp [ctE, hf]
    rw [e1, e2]
    have hat := refat_no h hf hcs
    clear hf e1 e2
    go_enter Try.func18, Try.ntmps18
    go_wp2_with fail
    refine hat.mono ?_
    rintro e w1 ⟨rfl, rfl⟩
    go_wp2_with fail
    go_ret
    exact rfpost_same h (Turn.refl _ _)
  | some f =>
    obtain ⟨i, hi, hfn⟩ := find_at hf
    have hat := refat_yes h hi hfn hcs
    have hfm := (find_mem hf).1
    have hfl := len_le h.good hfm
    have hsz : (bs f.bt).size ≤ 1048576 := by rw [bs_size]; exact hfl
    have hszi : ((bs f.bt).size : Int) = f.bt.length := by rw [bs_size]
    have HSZ := Lib.hid hszi; clear hszi
    obtain ⟨c0, c1, c2, c3, fz⟩ := h.cells
    clear fz
    obtain ⟨a, cap, hv⟩ := files_form h.row
    subst hv
    obtain ⟨g, hg, _, hgl, d0, d1, d2⟩ := files_at h.row hi
    subst hg
    have hil : i < S.fs.length := (List.getElem?_eq_some_iff.1 hi).1
    by_cases hin : 0 ≤ m ∧ m ≤ f.bt.length
    · obtain ⟨k, rfl⟩ : ∃ k : Nat, m = (k : Int) := ⟨m.toNat, by omega⟩
      have hkl : k ≤ f.bt.length := by omega
      have hkz : (k : Int) ≤ ((bs f.bt).size : Int) := by rw [HSZ.out]; omega
      by_cases hbu : burns S = true
      · have e1 : ctS S n k = puts (burnt S) { f with bt := f.bt.take k, sure := min f.sure k } := by simp only [ctS, hf, hbu, hin]; simp
        have e2 : ctE S n k = 0 := by simp only [ctE, hf, hbu, hin]; simp
        rw [e1, e2]
        have hS' : puts (burnt S) { f with bt := f.bt.take k, sure := min f.sure k } = { burnt S with fs := ins Fl.nm (wo Fl.nm S.fs n) { f with bt := f.bt.take k, sure := min f.sure k } } := by simp only [puts, fs_burnt, hfn]
        have hsu := h.good.sure f hfm
        have hGo : Good (puts (burnt S) { f with bt := f.bt.take k, sure := min f.sure k }) := good_puts (good_burnt h.good) (h.good.names f hfm) (by dsimp only; rw [List.length_take]; omega) (fs_sync_len (good_burnt h.good) (f := f) (by rw [fs_burnt]; exact hfm) rfl (by dsimp only; rw [List.length_take]; omega))
        have hslice := slice_str f.bt k hkl
        have HB := Lib.hid hbu; have HI := Lib.hid hi; have HFN := Lib.hid hfn; have HF := Lib.hid hf; have HS' := Lib.hid hS'
        clear e1 e2 hbu hi hfn hf hS' hin hm1 hm2
        go_enter Try.func18, Try.ntmps18
        go_wp2_with fail
        refine hat.mono ?_
        rintro e w1 ⟨rfl, rfl⟩
        go_wp2_with fail
        refine (refburn_is h HB.out).mono ?_
        rintro e w1 ⟨rfl, h1, t1⟩
        clear c0 c1 c2 c3 d0 d1 d2
        obtain ⟨c0, c1, c2, c3, fz⟩ := h1.cells
        clear fz
        have hrow := h1.row
        rw [fs_burnt] at hrow
        obtain ⟨g', hg', _, hgl', d0, d1, d2⟩ := files_at hrow HI.out
        cases hg'
        have hqw := h1.lt.1
        clear hat
        go_wp2_with fail
        rw [show min (f.sure : Int) (k : Int) = ((min f.sure k : Nat) : Int) by omega]
        clear d0 d1 d2
        generalize hW : World.alloc _ _ = W2
        have hB2 : Below w1.heap.size w1 W2 := by rw [← hW]; exact (Below.refl _ _).alloc (Nat.le_refl _) _
        have bw : W2.heap[w1.heap.size]? = some (.cells #[.string (bs f.nm), .string (bs (f.bt.take k)), .int .i64 (min f.sure k : Nat)] 50 (0, 0)) := by rw [← hW]; exact heap_alloc_new w1 _
        clear hW
        have h2 : Rf B W2 qb (Value.slice (some ⟨g, 0, none⟩) S.fs.length cap) (burnt S) := h1.below hB2
        have hWO := without_old h2 n (by rw [fs_burnt]; exact hcs)
        rw [fs_burnt] at hWO
        have hWI := with_old (W2 := W2) (f := ({ f with bt := f.bt.take k, sure := min f.sure k } : Fl)) (l := wo Fl.nm S.fs n) (up_wo h.good.up n) (by have := length_wo S.fs n; omega)
        have hsz2 : w1.heap.size < W2.heap.size := (Array.getElem?_eq_some_iff.1 bw).1
        have hA0 : ∀ W, Old W2 W → W.cell? ⟨w1.heap.size, 0, none⟩ = some (.string (bs f.nm)) := fun W hW => by rw [Below.cell (p := ⟨w1.heap.size, 0, none⟩) hW hsz2, cell_of_row W2 _ 0 _ _ (0, 0) bw]; rfl
        have hA1 : ∀ W, Old W2 W → W.cell? ⟨w1.heap.size, 1, none⟩ = some (.string (bs (f.bt.take k))) := fun W hW => by rw [Below.cell (p := ⟨w1.heap.size, 1, none⟩) hW hsz2, cell_of_row W2 _ 1 _ _ (0, 0) bw]; rfl
        have hA2 : ∀ W, Old W2 W → W.cell? ⟨w1.heap.size, 2, none⟩ = some (.int .i64 (min f.sure k : Nat)) := fun W hW => by rw [Below.cell (p := ⟨w1.heap.size, 2, none⟩) hW hsz2, cell_of_row W2 _ 2 _ _ (0, 0) bw]; rfl
        have hq := h2.lt.1
        obtain ⟨q0, q1, q2, q3, qz⟩ := h2.cells
        have hQ1 : ∀ W, Old W2 W → W.cell? ⟨qb, 1, none⟩ = some (Value.slice (some ⟨g, 0, none⟩) S.fs.length cap) := fun W hW => by rw [Below.cell (p := ⟨qb, 1, none⟩) hW hq]; exact q1
        have hQf : ∀ W, Old W2 W → W.frozen? ⟨qb, 1, none⟩ = false := fun W hW => by rw [Below.frozen (p := ⟨qb, 1, none⟩) hW hq]; exact qz 1
        have a0 := hA0 W2 (Old.refl _)
        have a1 := hA1 W2 (Old.refl _)
        have a2 := hA2 W2 (Old.refl _)
        have HWO := Lib.hid hWO; have HWI := Lib.hid hWI; have HA0 := Lib.hid hA0; have HA1 := Lib.hid hA1; have HA2 := Lib.hid hA2; have HQ1 := Lib.hid hQ1; have HQf := Lib.hid hQf
        clear hWO hWI hA0 hA1 hA2 hQ1 hQf q0 q2 q3 qz c0 c1 c2 c3 bw
        go_region_with (first
          | (go_at_call 40
             refine (HWO.out _ (by first | exact Old.refl _ | exact (Old.refl _).drew)).mono ?_
             rintro e w3 ⟨v3, k3, n3, rfl, hf3, hO3⟩
             have a0 := HA0.out w3 hO3
             have a1 := HA1.out w3 hO3
             have a2 := HA2.out w3 hO3)
          | (go_at_call 39
             refine (HWI.out _ _ (by first | exact hO3 | exact hO3.drew) (by first | exact hf3 | exact hf3.drew)).mono ?_
             rintro e w4 ⟨v4, k4, n4, rfl, hf4, hO4⟩
             have q1 := HQ1.out w4 hO4
             have qf := HQf.out w4 hO4))
        all_goals
          go_wp2_with fail
          go_ret
          exact rfpost_laid h2 (t1.trans (Turn.of_below _ hB2 (Nat.le_refl _))) hO4 hf4 HS'.out hGo
      · have hbu' : burns S = false := by simpa using hbu
        have e1 : ctS S n k = burnt S := by simp only [ctS, hf, hbu, hin]; simp
        have e2 : ctE S n k = 8 := by simp only [ctE, hf, hbu, hin]; simp
        rw [e1, e2]
        have HB := Lib.hid hbu'
        clear hf e1 e2 hbu hbu' hin hm1 hm2 hi
        go_enter Try.func18, Try.ntmps18
        go_wp2_with fail
        refine hat.mono ?_
        rintro e w1 ⟨rfl, rfl⟩
        go_wp2_with fail
        refine (refburn_is h HB.out).mono ?_
        rintro e w1 ⟨rfl, h1, t1⟩
        go_wp2_with fail
        go_ret
        exact rfpost_same h1 t1
    · have e1 : ctS S n m = S := by simp only [ctS, hf]; rw [if_neg hin]
      have e2 : ctE S n m = 1 := by simp only [ctE, hf]; rw [if_neg hin]
      rw [e1, e2]
      clear hf e1 e2 hi
      by_cases h0 : m < 0
      · clear hin
        go_enter Try.func18, Try.ntmps18
        go_wp2_with fail
        refine hat.mono ?_
        rintro e w1 ⟨rfl, rfl⟩
        go_wp2_with fail
        go_ret
        exact rfpost_same h (Turn.refl _ _)
      · have hgt : ((bs f.bt).size : Int) < m := by rw [HSZ.out]; omega
        have h0' : 0 ≤ m := by omega
        clear hin h0
        go_enter Try.func18, Try.ntmps18
        go_wp2_with fail
        refine hat.mono ?_
        rintro e w1 ⟨rfl, rfl⟩
        go_wp2_with fail
        go_ret
        exact rfpost_same h (Turn.refl _ _)
end Go.Proofs.Ytmpipfhlicfagaa
