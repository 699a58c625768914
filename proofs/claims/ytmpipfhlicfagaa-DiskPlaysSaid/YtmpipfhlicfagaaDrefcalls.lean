/- The document's disk: its calls, one by one. -/
import Derived.Test.YtmpipfhlicfagaaDwith
namespace Go.Proofs.Ytmpipfhlicfagaa
open Go.RowKit
set_option linter.unusedVariables false

/-- What is behind a call of the document's disk. -/
def RfPost (B qb : Nat) (lv : Value) (S' : St) (r : Value) (w : World) (e : Ending) (w' : World) : Prop :=
  e = .returned r ∧ ∃ lv', Rf B w' qb lv' S' ∧ Turn (fun k => k = qb) w w' ∧ ∀ g, lv'.ownBlock = some g → lv.ownBlock = some g ∨ w.heap.size ≤ g

theorem rfpost_same {B qb : Nat} {lv : Value} {S : St} {w w' : World} {r : Value} (h : Rf B w' qb lv S) (t : Turn (fun k => k = qb) w w') : RfPost B qb lv S r w (.returned r) w' := ⟨rfl, lv, h, t, fun _ h => Or.inl h⟩

/-- Its files have been laid anew. -/
theorem rfpost_laid {B qb : Nat} {lv lvA lv0 : Value} {S S' : St} {w0 w x : World} {l : List Fl} {r : Value} (h : Rf B w qb lv S) (t0 : Turn (fun k => k = qb) w0 w) (hb : Below w.heap.size w x) (hf : Files x w.heap.size lv0 l) (hl : S' = { S with fs := l }) (hg : Good S') :
    RfPost B qb lvA S' r w0 (.returned r) (x.setCell ⟨qb, 1, none⟩ lv0) := by
  subst hl
  obtain ⟨l1, l2⟩ := h.lt
  have hqx : x.heap[qb]? = some (.cells #[.int .i64 S.room, lv, .int .i64 S.lit, .bool S.down] 53 (0, 0)) := by rw [hb.block qb l1]; exact h.blk
  have hne : lv0.ownBlock ≠ some qb := fun e => by have := (hf.lt qb e).1; omega
  have t : Turn (fun k => k = qb) w (x.setCell ⟨qb, 1, none⟩ lv0) := (Turn.of_below (fun k => k = qb) hb (Nat.le_refl _)).trans (turn_head x qb 1 lv0)
  refine ⟨rfl, lv0, h.head t ?_ ?_ hne hg, t0.trans t, fun g hgg => Or.inr (Nat.le_trans t0.size (hf.lt g hgg).1)⟩
  · exact heap_setCell_same x qb 1 _ _ lv0 hqx
  · refine files_base (B := w.heap.size) ?_ h.base.2.2
    exact owns_kept hf (fun g hg => Below.heap_setCell _ _ _ _ (fun e => hne (by rw [hg, e])))

theorem good_puts {S : St} {f : Fl} (h : Good S) (hn : 1 ≤ f.nm.length ∧ f.nm.length ≤ 20) (hs : f.sure ≤ f.bt.length) (hfit : (total (puts S f).fs : Int) ≤ S.room) : Good (puts S f) := by
  obtain ⟨g1, g2, g3, g4, g5, g6⟩ := h
  have hm : ∀ x ∈ (puts S f).fs, x = f ∨ x ∈ S.fs := fun x hx => (mem_ins.1 hx).imp id (fun h => (mem_wo.1 h).1)
  refine ⟨up_ins (up_wo g1 _) (fun c hc => (mem_wo.1 hc).2), fun x hx => ?_, fun x hx => ?_, hfit, g5, g6⟩
  · rcases hm x hx with rfl | hx
    · exact hn
    · exact g2 x hx
  · rcases hm x hx with rfl | hx
    · exact hs
    · exact g3 x hx

theorem good_wo {S : St} (h : Good S) (n : List UInt8) : Good { S with fs := wo Fl.nm S.fs n } := by
  obtain ⟨g1, g2, g3, g4, g5, g6⟩ := h
  refine ⟨up_wo g1 n, fun f hf => g2 f (mem_wo.1 hf).1, fun f hf => g3 f (mem_wo.1 hf).1, ?_, g5, g6⟩
  dsimp only
  by_cases hx : ∃ f ∈ S.fs, f.nm = n
  · obtain ⟨f, hf, rfl⟩ := hx
    have := total_wo g1 hf
    omega
  · rw [wo_id (fun f hf e => hx ⟨f, hf, e⟩)]
    exact g4

/-- Where a file stands. -/
theorem find_at {l : List Fl} {n : List UInt8} {f : Fl} (h : find l n = some f) : ∃ i : Nat, l[i]? = some f ∧ f.nm = n := by
  obtain ⟨h1, h2⟩ := find_mem h
  obtain ⟨i, hi, e⟩ := List.mem_iff_getElem.1 h1
  exact ⟨i, by rw [← e]; exact List.getElem?_eq_getElem hi, h2⟩

/-- without, and with, in whatever world behind W2. -/
theorem without_old {B qb : Nat} {lv : Value} {S : St} {W2 : World} (h : Rf B W2 qb lv S) (n : List UInt8) (hcs : S.fs.length < 1000000000) : ∀ W, Old W2 W →
    Calls Try.prog 40 #[.pointer (some ⟨qb, 0, none⟩), .string (bs n)] W fun e w' => ∃ a c k, e = .returned (.slice a k c) ∧ Files w' W2.heap.size (.slice a k c) (wo Fl.nm S.fs n) ∧ Old W2 w' := by
  intro W hW
  refine (without_any (h.below hW) n hcs).mono ?_
  rintro e w' ⟨v, rfl, hf, hb⟩
  obtain ⟨a, c, rfl⟩ := files_form hf
  exact ⟨a, c, _, rfl, files_base hf hW.size, hW.trans (hb.mono hW.size)⟩

theorem with_old {W2 : World} {f : Fl} {l : List Fl} (hu : Up Fl.nm l) (hcs : l.length < 1000000000) : ∀ W v, Old W2 W → Files W W2.heap.size v l →
    Calls Try.prog 39 #[v, .agg #[.string (bs f.nm), .string (bs f.bt), .int .i64 f.sure]] W fun e w' => ∃ a c k, e = .returned (.slice a k c) ∧ Files w' W2.heap.size (.slice a k c) (ins Fl.nm l f) ∧ Old W2 w' := by
  intro W v hW hv
  refine (with_any hv f hu hcs).mono ?_
  rintro e w' ⟨v', rfl, hf, hb⟩
  obtain ⟨a, c, rfl⟩ := files_form hf
  exact ⟨a, c, _, rfl, files_base hf hW.size, hW.trans (hb.mono hW.size)⟩

theorem fs_sync_len {S : St} (h : Good S) {f : Fl} (hf : f ∈ S.fs) {g : Fl} (hg : g.nm = f.nm) (hl : g.bt.length ≤ f.bt.length) : (total (puts S g).fs : Int) ≤ S.room := by
  have h2 := total_wo h.up hf
  have h3 := h.fits
  simp only [puts, total_ins, hg]
  omega

/-! ### Sync -/
set_option maxHeartbeats 2000000 in
theorem refsync_any {B qb : Nat} {lv : Value} {S : St} {w : World} {n : List UInt8} (h : Rf B w qb lv S) (hcs : S.fs.length < 1000000000) :
    Calls Try.prog 12 #[.pointer (some ⟨qb, 0, none⟩), .string (bs n)] w (RfPost B qb lv (syS S n) (.int .i64 (syE S n)) w) := by
  cases hf : find S.fs n with
  | none =>
    have e1 : syS S n = S := by simp [syS, hf]
    have e2 : syE S n = 5 := by simp [syE, hf]
    rw [e1, e2]
    have hat := refat_no h hf hcs
    clear hf e1 e2
    go_enter Try.func12, Try.ntmps12
    go_wp2_with fail
    refine hat.mono ?_
    rintro e w1 ⟨rfl, rfl⟩
    go_wp2_with fail
    go_ret
    exact rfpost_same h (Turn.refl _ _)
  | some f =>
    obtain ⟨i, hi, hfn⟩ := find_at hf
    have hat := refat_yes h hi hfn hcs
    by_cases hbu : burns S = true
    · have e1 : syS S n = puts (burnt S) { f with sure := f.bt.length } := by simp [syS, hf, hbu]
      have e2 : syE S n = 0 := by simp [syE, hf, hbu]
      rw [e1, e2]
      have hfm := (find_mem hf).1
      have hS' : puts (burnt S) { f with sure := f.bt.length } = { burnt S with fs := ins Fl.nm (wo Fl.nm S.fs n) { f with sure := f.bt.length } } := by simp only [puts, fs_burnt, hfn]
      have hGo : Good (puts (burnt S) { f with sure := f.bt.length }) := good_puts (good_burnt h.good) (h.good.names f hfm) (Nat.le_refl _) (fs_sync_len (good_burnt h.good) (f := f) (by rw [fs_burnt]; exact hfm) rfl (Nat.le_refl _))
      have HB := Lib.hid hbu; have HI := Lib.hid hi; have HFN := Lib.hid hfn; have HF := Lib.hid hf; have HS' := Lib.hid hS'
      have hfl := len_le h.good hfm
      have hsz : (bs f.bt).size ≤ 1048576 := by rw [bs_size]; exact hfl
      clear e1 e2 hbu hi hfn hf hS'
      go_enter Try.func12, Try.ntmps12
      go_wp2_with fail
      refine hat.mono ?_
      rintro e w1 ⟨rfl, rfl⟩
      go_wp2_with fail
      refine (refburn_is h HB.out).mono ?_
      rintro e w1 ⟨rfl, h1, t1⟩
      obtain ⟨c0, c1, c2, c3, fz⟩ := h1.cells
      clear fz
      have hrow := h1.row
      rw [fs_burnt] at hrow
      obtain ⟨a, cap, hv⟩ := files_form hrow
      subst hv
      obtain ⟨g, hg, _, hgl, d0, d1, d2⟩ := files_at hrow HI.out
      subst hg
      have hil : i < S.fs.length := (List.getElem?_eq_some_iff.1 HI.out).1
      clear hat
      go_wp2_with fail
      rw [bs_size]
      clear d0 d1 d2
      generalize hW : World.alloc _ _ = W2
      have hB2 : Below w1.heap.size w1 W2 := by rw [← hW]; exact (Below.refl _ _).alloc (Nat.le_refl _) _
      have bw : W2.heap[w1.heap.size]? = some (.cells #[.string (bs f.nm), .string (bs f.bt), .int .i64 f.bt.length] 50 (0, 0)) := by rw [← hW]; exact heap_alloc_new w1 _
      clear hW
      have h2 : Rf B W2 qb (Value.slice (some ⟨g, 0, none⟩) S.fs.length cap) (burnt S) := h1.below hB2
      have hWO := without_old h2 n (by rw [fs_burnt]; exact hcs)
      rw [fs_burnt] at hWO
      have hWI := with_old (W2 := W2) (f := ({ f with sure := f.bt.length } : Fl)) (l := wo Fl.nm S.fs n) (up_wo h.good.up n) (by have := length_wo S.fs n; omega)
      have hsz2 : w1.heap.size < W2.heap.size := (Array.getElem?_eq_some_iff.1 bw).1
      have hA0 : ∀ W, Old W2 W → W.cell? ⟨w1.heap.size, 0, none⟩ = some (.string (bs f.nm)) := fun W hW => by rw [Below.cell (p := ⟨w1.heap.size, 0, none⟩) hW hsz2, cell_of_row W2 _ 0 _ _ (0, 0) bw]; rfl
      have hA1 : ∀ W, Old W2 W → W.cell? ⟨w1.heap.size, 1, none⟩ = some (.string (bs f.bt)) := fun W hW => by rw [Below.cell (p := ⟨w1.heap.size, 1, none⟩) hW hsz2, cell_of_row W2 _ 1 _ _ (0, 0) bw]; rfl
      have hA2 : ∀ W, Old W2 W → W.cell? ⟨w1.heap.size, 2, none⟩ = some (.int .i64 f.bt.length) := fun W hW => by rw [Below.cell (p := ⟨w1.heap.size, 2, none⟩) hW hsz2, cell_of_row W2 _ 2 _ _ (0, 0) bw]; rfl
      have hq := h2.lt.1
      obtain ⟨q0, q1, q2, q3, qz⟩ := h2.cells
      have hQ1 : ∀ W, Old W2 W → W.cell? ⟨qb, 1, none⟩ = some (Value.slice (some ⟨g, 0, none⟩) S.fs.length cap) := fun W hW => by rw [Below.cell (p := ⟨qb, 1, none⟩) hW hq]; exact q1
      have hQf : ∀ W, Old W2 W → W.frozen? ⟨qb, 1, none⟩ = false := fun W hW => by rw [Below.frozen (p := ⟨qb, 1, none⟩) hW hq]; exact qz 1
      have a0 := hA0 W2 (Old.refl _)
      have a1 := hA1 W2 (Old.refl _)
      have a2 := hA2 W2 (Old.refl _)
      have HWO := Lib.hid hWO; have HWI := Lib.hid hWI; have HA0 := Lib.hid hA0; have HA1 := Lib.hid hA1; have HA2 := Lib.hid hA2; have HQ1 := Lib.hid hQ1; have HQf := Lib.hid hQf
      clear hWO hWI hA0 hA1 hA2 hQ1 hQf q0 q2 q3 qz c0 c1 c2 c3 bw
      go_region_with (first
        | (go_at_call 40
           refine (HWO.out _ (by first | exact Old.refl _ | exact (Old.refl _).drew)).mono ?_
           rintro e w3 ⟨v3, k3, n3, rfl, hf3, hO3⟩
           have a0 := HA0.out w3 hO3
           have a1 := HA1.out w3 hO3
           have a2 := HA2.out w3 hO3)
        | (go_at_call 39
           refine (HWI.out _ _ (by first | exact hO3 | exact hO3.drew) (by first | exact hf3 | exact hf3.drew)).mono ?_
           rintro e w4 ⟨v4, k4, n4, rfl, hf4, hO4⟩
           have q1 := HQ1.out w4 hO4
           have qf := HQf.out w4 hO4))
      all_goals
        go_wp2_with fail
        go_ret
        exact rfpost_laid h2 (t1.trans (Turn.of_below _ hB2 (Nat.le_refl _))) hO4 hf4 HS'.out hGo
    · have hbu' : burns S = false := by simpa using hbu
      have e1 : syS S n = burnt S := by simp [syS, hf, hbu]
      have e2 : syE S n = 8 := by simp [syE, hf, hbu]
      rw [e1, e2]
      have HB := Lib.hid hbu'
      clear hf e1 e2 hbu hbu' hi
      go_enter Try.func12, Try.ntmps12
      go_wp2_with fail
      refine hat.mono ?_
      rintro e w1 ⟨rfl, rfl⟩
      go_wp2_with fail
      refine (refburn_is h HB.out).mono ?_
      rintro e w1 ⟨rfl, h1, t1⟩
      go_wp2_with fail
      go_ret
      exact rfpost_same h1 t1

/-! ### Remove -/
set_option maxHeartbeats 2000000 in
theorem refremove_any {B qb : Nat} {lv : Value} {S : St} {w : World} {n : List UInt8} (h : Rf B w qb lv S) (hcs : S.fs.length < 1000000000) :
    Calls Try.prog 16 #[.pointer (some ⟨qb, 0, none⟩), .string (bs n)] w (RfPost B qb lv (rmS S n) (.int .i64 (rmE S n)) w) := by
  cases hf : find S.fs n with
  | none =>
    have e1 : rmS S n = S := by simp [rmS, hf]
    have e2 : rmE S n = 5 := by simp [rmE, hf]
    rw [e1, e2]
    have hat := refat_no h hf hcs
    clear hf e1 e2
    go_enter Try.func16, Try.ntmps16
    go_wp2_with fail
    refine hat.mono ?_
    rintro e w1 ⟨rfl, rfl⟩
    go_wp2_with fail
    go_ret
    exact rfpost_same h (Turn.refl _ _)
  | some f =>
    obtain ⟨i, hi, hfn⟩ := find_at hf
    have hat := refat_yes h hi hfn hcs
    by_cases hbu : burns S = true
    · have e1 : rmS S n = { burnt S with fs := wo Fl.nm S.fs n } := by simp [rmS, hf, hbu]
      have e2 : rmE S n = 0 := by simp [rmE, hf, hbu]
      rw [e1, e2]
      have hGo : Good { burnt S with fs := wo Fl.nm S.fs n } := by have := good_wo (good_burnt h.good) n; rw [fs_burnt] at this; exact this
      have HB := Lib.hid hbu
      clear e1 e2 hbu hi hfn hf
      go_enter Try.func16, Try.ntmps16
      go_wp2_with fail
      refine hat.mono ?_
      rintro e w1 ⟨rfl, rfl⟩
      go_wp2_with fail
      refine (refburn_is h HB.out).mono ?_
      rintro e w1 ⟨rfl, h1, t1⟩
      go_wp2_with fail
      have hWO := without_old h1 n (by rw [fs_burnt]; exact hcs) w1 (Old.refl _)
      rw [fs_burnt] at hWO
      refine hWO.mono ?_
      rintro e w3 ⟨v3, k3, n3, rfl, hf3, hO3⟩
      have hq := h1.lt.1
      have q1 : w3.cell? ⟨qb, 1, none⟩ = some lv := by rw [Below.cell (p := ⟨qb, 1, none⟩) hO3 hq]; exact h1.cells.2.1
      have qf : w3.frozen? ⟨qb, 1, none⟩ = false := by rw [Below.frozen (p := ⟨qb, 1, none⟩) hO3 hq]; exact h1.cells.2.2.2.2 1
      clear hWO hat
      go_wp2_with fail
      go_ret
      exact rfpost_laid h1 t1 hO3 hf3 rfl hGo
    · have hbu' : burns S = false := by simpa using hbu
      have e1 : rmS S n = burnt S := by simp [rmS, hf, hbu]
      have e2 : rmE S n = 8 := by simp [rmE, hf, hbu]
      rw [e1, e2]
      have HB := Lib.hid hbu'
      clear hf e1 e2 hbu hbu' hi
      go_enter Try.func16, Try.ntmps16
      go_wp2_with fail
      refine hat.mono ?_
      rintro e w1 ⟨rfl, rfl⟩
      go_wp2_with fail
      refine (refburn_is h HB.out).mono ?_
      rintro e w1 ⟨rfl, h1, t1⟩
      go_wp2_with fail
      go_ret
      exact rfpost_same h1 t1
end Go.Proofs.Ytmpipfhlicfagaa
