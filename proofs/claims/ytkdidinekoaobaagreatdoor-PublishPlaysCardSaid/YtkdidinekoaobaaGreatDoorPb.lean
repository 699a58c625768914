/- Merged out of 5 texts, in build order: Ppz, Ppfetch, Ppupload, Pponce, Ppread. -/
import Derived.Test.YtkdidinekoaobaaGreatDoorPa
import Derived.Test.YtkdidinekoaobaaGreatDoorNc

/- The program's remote inside a walk: what has been called since, from a world on. -/
namespace Go.Proofs.YtkdidinekoaobaaGreatDoor.P
open Go.RowKit M J
set_option linter.unusedVariables false

def Pz (B pb : Nat) (F : Nat → Prop) (w1 : World) (S : Rs) (W : World) : Prop := ∃ F', RkS B W pb F' S ∧ (∀ k, F' k → F k) ∧ Turn F w1 W

section
variable {B pb : Nat} {F : Nat → Prop} {S S' : Rs} {w0 w1 W W2 W' : World} {n b : List UInt8}
theorem z_start (h : RkS B w0 pb F S) (hb : Below w0.heap.size w0 w1) : Pz B pb F w1 S w1 := ⟨F, h.below hb, fun _ h => h, Turn.refl _ _⟩
theorem z_below (h : Pz B pb F w1 S W) (t : Below W.heap.size W W') : Pz B pb F w1 S W' := by
  obtain ⟨F', h1, h2, h3⟩ := h
  exact ⟨F', h1.below t, h2, h3.trans (Turn.of_below _ t (Nat.le_refl _))⟩
theorem z_block (h : Pz B pb F w1 S W) {k : Nat} (hk : k < w1.heap.size) (hf : ¬ F k) : W.heap[k]? = w1.heap[k]? := by
  obtain ⟨F', _, _, h3⟩ := h
  exact h3.block k hk hf
theorem z_size (h : Pz B pb F w1 S W) : w1.heap.size ≤ W.heap.size := by
  obtain ⟨F', _, _, h3⟩ := h
  exact h3.size
/-- One more call. -/
theorem z_call {fn : Nat} {args : Array Value} {R : Ending → World → Prop} (h : Pz B pb F w1 S W)
    (hc : ∀ F', RkS B W pb F' S → Calls Tryz.prog fn args W fun e w' => R e w' ∧ ∃ F'', RkS B w' pb F'' S' ∧ (∀ k, F'' k → F' k) ∧ Turn F' W w') : Calls Tryz.prog fn args W fun e w' => R e w' ∧ Pz B pb F w1 S' w' := by
  obtain ⟨F', h1, h2, h3⟩ := h
  refine (hc F' h1).mono ?_
  rintro e w' ⟨hR, F'', k1, k2, k3⟩
  have hz := h3.size
  refine ⟨hR, F'', k1, fun k hk => h2 k (k2 k hk), k3.os.trans h3.os, k3.tape.trans h3.tape, k3.output.trans h3.output, Nat.le_trans hz k3.size, fun k hk hf => ?_⟩
  rw [k3.block k (by omega) (fun hg => hf (h2 k hg)), h3.block k hk hf]
def Ret (r : Value) (e : Ending) (_ : World) : Prop := e = .returned r
theorem z_get (h : Pz B pb F w1 S W) (hn : n.length ≤ 1000) (hc : S.n < 1000000000000) :
    Calls Tryz.prog 45 #[.pointer (some ⟨pb, 0, none⟩), .string (bs n)] W fun e w' => e = .returned (.tuple #[.string (bs (gB S n)), .int .i64 (gE S n)]) ∧ Pz B pb F w1 (used S) w' :=
  z_call (R := Ret (.tuple #[.string (bs (gB S n)), .int .i64 (gE S n)])) h (fun F' hF => get_s hF (by unfold maxLen; omega) hc)
theorem z_put (h : Pz B pb F w1 S W) (hn : n.length ≤ 1000) (hc : S.n < 1000000000000) (hf : S.obs.length < 1000000000) :
    Calls Tryz.prog 21 #[.pointer (some ⟨pb, 0, none⟩), .string (bs n), .string (bs b)] W fun e w' => e = .returned (.int .i64 (errOf S 0)) ∧ Pz B pb F w1 (takes S (lays S.obs n b)) w' :=
  z_call (R := Ret (.int .i64 (errOf S 0))) h (fun F' hF => put_s hF (by unfold maxLen; omega) hc hf)
theorem z_putNew (h : Pz B pb F w1 S W) (hn : n.length ≤ 1000) (hc : S.n < 1000000000000) (hf : S.obs.length < 1000000000) :
    Calls Tryz.prog 75 #[.pointer (some ⟨pb, 0, none⟩), .string (bs n), .string (bs b)] W fun e w' => e = .returned (.int .i64 (putE S n)) ∧ Pz B pb F w1 (putS S n b) w' :=
  z_call (R := Ret (.int .i64 (putE S n))) h (fun F' hF => putNew_s hF (by unfold maxLen; omega) hc hf)
/-- Below B nothing has turned. -/
theorem z_low (h : RkS B w0 pb F S) (hb : Below w0.heap.size w0 w1) (hz : Pz B pb F w1 S' W) : Below B w0 W := by
  obtain ⟨F', h1, h2, h3⟩ := hz
  exact (hb.mono h.size).trans (h3.below (fun k hk => (h.lt hk).1) (Nat.le_trans h.size hb.size))
/-- The walk began at w0; what it made ahead of its first call, and behind its last one, may be stored into. -/
theorem z_end2 (h : RkS B w0 pb F S) (hb : Below w0.heap.size w0 w1) (hz : Pz B pb F w1 S' W) (hb2 : Below W.heap.size W W2) (t : Turn (fun k => w0.heap.size ≤ k ∧ (k < w1.heap.size ∨ W.heap.size ≤ k)) W2 W') : ∃ F', Goes B pb F S' w0 W' F' ∧ ∀ k, F' k → k < W.heap.size ∧ F k := by
  obtain ⟨F', h1, h2, h3⟩ := hz
  have hz0 := hb.size
  have hz1 := h3.size
  have hz2 := hb2.size
  refine ⟨F', ⟨(h1.below hb2).kept t (fun k hk hf hg => ?_), fun k hk => ?_, t.os.trans (hb2.os.trans (h3.os.trans hb.os)), t.tape.trans (hb2.tape.trans (h3.tape.trans hb.tape)), t.output.trans (hb2.output.trans (h3.output.trans hb.output)), Nat.le_trans hz0 (Nat.le_trans hz1 (Nat.le_trans hz2 t.size)), fun k hk hf => ?_⟩, fun k hk => ⟨(h1.lt hk).2, h2 k hk⟩⟩
  · have := (h1.lt hf).2
    have := (h.lt (h2 k hf)).2
    omega
  · exact Or.inl (h2 k hk)
  · rw [t.block k (by omega) (fun hg => by omega), hb2.block k (by omega), h3.block k (by omega) hf, hb.block k hk]
theorem z_end (h : RkS B w0 pb F S) (hb : Below w0.heap.size w0 w1) (hz : Pz B pb F w1 S' W) (t : Turn (fun k => w0.heap.size ≤ k ∧ k < w1.heap.size) W W') : ∃ F', Goes B pb F S' w0 W' F' ∧ ∀ k, F' k → F k := by
  obtain ⟨F', h, hf⟩ := z_end2 h hb hz (Below.refl _ _) (t.mono (fun k _ hk => ⟨hk.1, Or.inl hk.2⟩))
  exact ⟨F', h, fun k hk => (hf k hk).2⟩
end
theorem ob_few (n : Int) : (ob n).length ≤ 100 := by unfold ob; split <;> simp [dig_len]
theorem nm_few (n : Int) : (nm n).length ≤ 100 := by unfold nm; split <;> simp [dig_len]
end Go.Proofs.YtkdidinekoaobaaGreatDoor.P

/- The program's Fetch. -/
namespace Go.Proofs.YtkdidinekoaobaaGreatDoor.P
open Go.RowKit M J
set_option linter.unusedVariables false
set_option linter.unusedSimpArgs false

set_option maxRecDepth 100000 in
set_option maxHeartbeats 2000000 in
theorem pfetch_any {B pb : Nat} {F : Nat → Prop} {S : Rs} {w : World} {s : Sg} (h : RkS B w pb F S) (hV : Vb B w) (hS : Room S) (hf : s.fit) :
    Calls Tryz.prog 18 #[.pointer (some ⟨pb, 0, none⟩), sgV s] w fun e w' => ∃ F', e = .returned (.tuple #[.string (bs (fetch S s).2.1), .int .i64 (fetch S s).2.2]) ∧ Goes B pb F (fetch S s).1 w w' F' := by
  have hb0 : Below w.heap.size w (w.alloc (.cells #[.int .i64 s.n, .int .i64 s.size, .int .u32 (s.sum : Nat)] 51)) := (Below.refl _ _).alloc (Nat.le_refl _) _
  have HN := Lib.hid (heap_alloc_new w (.cells #[.int .i64 s.n, .int .i64 s.size, .int .u32 (s.sum : Nat)] 51))
  have HOB := Lib.hid (manC.object (v := s.n) (hV.vt.later hb0) hf.1)
  have HQ := Lib.hid (fun W h => z_get (S := S) (n := ob s.n) (W := W) (B := B) (pb := pb) (F := F) (w1 := w.alloc (.cells #[.int .i64 s.n, .int .i64 s.size, .int .u32 (s.sum : Nat)] 51)) h (by have := ob_few s.n; omega) (by have := hS.1; omega))
  have H0 := Lib.hid (z_start h hb0)
  have HB0 := Lib.hid hb0
  have HR := Lib.hid h
  have hgl := gB_len hS.2 (ob s.n)
  have HOF := Lib.hid (fun W => manC.of (n := s.n) (b := gB S (ob s.n)) (w := W) hf.1 (by omega))
  have hlt : w.heap.size < (w.alloc (.cells #[.int .i64 s.n, .int .i64 s.size, .int .u32 (s.sum : Nat)] 51)).heap.size := by simp
  have hnf : ¬ F w.heap.size := fun hf => by have := (h.lt hf).2; omega
  have hft : fetch S s = if gE S (ob s.n) ≠ 0 then (used S, [], gE S (ob s.n)) else if sgOf s.n (gB S (ob s.n)) = s then (used S, gB S (ob s.n), 0) else (used S, [], 4) := rfl
  rw [hft]
  clear hb0 hS hf h hgl hft hV
  unfold sgV
  obtain ⟨sn, sz, sx⟩ := s
  simp only at *
  have hsg : sgOf sn (gB S (ob sn)) = ⟨sn, ((gB S (ob sn)).length : Nat), sum (gB S (ob sn))⟩ := rfl
  rw [hsg]
  have y0 : (sn == sn) = true := by simp
  generalize hos : bs (ob sn) = O at *
  generalize hg : gE S (ob sn) = g at *
  by_cases h1 : g = 0
  · subst h1
    rw [if_neg (by simp)]
    generalize gB S (ob sn) = c at *
    by_cases h2 : (c.length : Int) = sz
    · subst h2
      have y1 : ((c.length : Int) == (c.length : Int)) = true := by simp
      by_cases h3 : sum c = sx
      · subst h3
        rw [if_pos rfl]
        have y2 : (((sum c : Nat) : Int) == ((sum c : Nat) : Int)) = true := by simp
        generalize ((sum c : Nat) : Int) = cs at *
        generalize (c.length : Int) = cl at *
        go_enter Tryz.func18, Tryz.ntmps18
        go_wp2_with fail
        generalize w.alloc _ = w1 at *
        refine HOB.out.mono ?_
        rintro e w2 ⟨rfl, b2⟩
        go_wp2_with fail
        refine (HQ.out _ (z_below H0.out b2)).mono ?_
        rintro e w3 ⟨rfl, q3⟩
        have hn3 : w3.heap[w.heap.size]? = _ := (z_block q3 hlt hnf).trans HN.out
        have hl3 : w.heap.size < w3.heap.size := (Array.getElem?_eq_some_iff.1 hn3).1
        obtain ⟨d0, d1, d2⟩ := row3_cells hn3
        have m0 : ∀ W, Old w3 W → W.cell? ⟨w.heap.size, 0, none⟩ = _ := fun W hW => (Below.cell (p := ⟨w.heap.size, 0, none⟩) hW hl3).trans d0
        have m1 : ∀ W, Old w3 W → W.cell? ⟨w.heap.size, 1, none⟩ = _ := fun W hW => (Below.cell (p := ⟨w.heap.size, 1, none⟩) hW hl3).trans d1
        have m2 : ∀ W, Old w3 W → W.cell? ⟨w.heap.size, 2, none⟩ = _ := fun W hW => (Below.cell (p := ⟨w.heap.size, 2, none⟩) hW hl3).trans d2
        have K0 := Old.refl w3
        have Q3 := Lib.hid q3
        clear hn3 d0 d1 d2 q3 b2
        go_wp2_with fail
        go_region_held3 (fun W => Old w3 W) (first | assumption | exact K0 | exact K0.drew | exact Old.drew ‹_›)
          ((go_at_call 46
            (with_reducible refine (HOF.out _).mono ?_)
            rintro e8 w8 ⟨rfl, hb8⟩
            have hO8 : Old w3 w8 := Old.below (by first | assumption | exact K0 | exact K0.drew | exact Old.drew ‹_›) hb8))
        all_goals
          have HQF := Lib.hid (z_end HR.out HB0.out (z_below Q3.out hO8) (Turn.refl _ _))
          clear hO8 K0 m0 m1 m2
          go_wp2_with fail
          go_ret2
          obtain ⟨F9, h9, _⟩ := HQF.out
          exact ⟨F9, rfl, h9⟩
      · rw [if_neg (fun e => h3 (by injection e))]
        have y2 : (((sum c : Nat) : Int) == ((sx : Nat) : Int)) = false := beq_eq_false_iff_ne.2 (fun e => h3 (by omega))
        generalize ((sum c : Nat) : Int) = cs at *
        generalize ((sx : Nat) : Int) = cx at *
        generalize (c.length : Int) = cl at *
        go_enter Tryz.func18, Tryz.ntmps18
        go_wp2_with fail
        generalize w.alloc _ = w1 at *
        refine HOB.out.mono ?_
        rintro e w2 ⟨rfl, b2⟩
        go_wp2_with fail
        refine (HQ.out _ (z_below H0.out b2)).mono ?_
        rintro e w3 ⟨rfl, q3⟩
        have hn3 : w3.heap[w.heap.size]? = _ := (z_block q3 hlt hnf).trans HN.out
        have hl3 : w.heap.size < w3.heap.size := (Array.getElem?_eq_some_iff.1 hn3).1
        obtain ⟨d0, d1, d2⟩ := row3_cells hn3
        have m0 : ∀ W, Old w3 W → W.cell? ⟨w.heap.size, 0, none⟩ = _ := fun W hW => (Below.cell (p := ⟨w.heap.size, 0, none⟩) hW hl3).trans d0
        have m1 : ∀ W, Old w3 W → W.cell? ⟨w.heap.size, 1, none⟩ = _ := fun W hW => (Below.cell (p := ⟨w.heap.size, 1, none⟩) hW hl3).trans d1
        have m2 : ∀ W, Old w3 W → W.cell? ⟨w.heap.size, 2, none⟩ = _ := fun W hW => (Below.cell (p := ⟨w.heap.size, 2, none⟩) hW hl3).trans d2
        have K0 := Old.refl w3
        have Q3 := Lib.hid q3
        clear hn3 d0 d1 d2 q3 b2
        go_wp2_with fail
        go_region_held3 (fun W => Old w3 W) (first | assumption | exact K0 | exact K0.drew | exact Old.drew ‹_›)
          ((go_at_call 46
            (with_reducible refine (HOF.out _).mono ?_)
            rintro e8 w8 ⟨rfl, hb8⟩
            have hO8 : Old w3 w8 := Old.below (by first | assumption | exact K0 | exact K0.drew | exact Old.drew ‹_›) hb8))
        all_goals
          have HQF := Lib.hid (z_end HR.out HB0.out (z_below Q3.out hO8) (Turn.refl _ _))
          clear hO8 K0 m0 m1 m2
          go_wp2_with fail
          go_ret2
          obtain ⟨F9, h9, _⟩ := HQF.out
          exact ⟨F9, rfl, h9⟩
    · rw [if_neg (fun e => h2 (by injection e))]
      have y1 : ((c.length : Int) == sz) = false := by simpa using h2
      generalize ((sum c : Nat) : Int) = cs at *
      generalize ((sx : Nat) : Int) = cx at *
      generalize (c.length : Int) = cl at *
      go_enter Tryz.func18, Tryz.ntmps18
      go_wp2_with fail
      generalize w.alloc _ = w1 at *
      refine HOB.out.mono ?_
      rintro e w2 ⟨rfl, b2⟩
      go_wp2_with fail
      refine (HQ.out _ (z_below H0.out b2)).mono ?_
      rintro e w3 ⟨rfl, q3⟩
      have hn3 : w3.heap[w.heap.size]? = _ := (z_block q3 hlt hnf).trans HN.out
      have hl3 : w.heap.size < w3.heap.size := (Array.getElem?_eq_some_iff.1 hn3).1
      obtain ⟨d0, d1, d2⟩ := row3_cells hn3
      have m0 : ∀ W, Old w3 W → W.cell? ⟨w.heap.size, 0, none⟩ = _ := fun W hW => (Below.cell (p := ⟨w.heap.size, 0, none⟩) hW hl3).trans d0
      have m1 : ∀ W, Old w3 W → W.cell? ⟨w.heap.size, 1, none⟩ = _ := fun W hW => (Below.cell (p := ⟨w.heap.size, 1, none⟩) hW hl3).trans d1
      have m2 : ∀ W, Old w3 W → W.cell? ⟨w.heap.size, 2, none⟩ = _ := fun W hW => (Below.cell (p := ⟨w.heap.size, 2, none⟩) hW hl3).trans d2
      have K0 := Old.refl w3
      have Q3 := Lib.hid q3
      clear hn3 d0 d1 d2 q3 b2
      go_wp2_with fail
      go_region_held3 (fun W => Old w3 W) (first | assumption | exact K0 | exact K0.drew | exact Old.drew ‹_›)
        ((go_at_call 46
          (with_reducible refine (HOF.out _).mono ?_)
          rintro e8 w8 ⟨rfl, hb8⟩
          have hO8 : Old w3 w8 := Old.below (by first | assumption | exact K0 | exact K0.drew | exact Old.drew ‹_›) hb8))
      all_goals
        have HQF := Lib.hid (z_end HR.out HB0.out (z_below Q3.out hO8) (Turn.refl _ _))
        clear hO8 K0 m0 m1 m2
        go_wp2_with fail
        go_ret2
        obtain ⟨F9, h9, _⟩ := HQF.out
        exact ⟨F9, rfl, h9⟩
  · rw [if_pos h1]
    have y1 : (g == 0) = false := by simpa using h1
    go_enter Tryz.func18, Tryz.ntmps18
    go_wp2_with fail
    generalize w.alloc _ = w1 at *
    refine HOB.out.mono ?_
    rintro e w2 ⟨rfl, b2⟩
    go_wp2_with fail
    refine (HQ.out _ (z_below H0.out b2)).mono ?_
    rintro e w3 ⟨rfl, q3⟩
    have HQF := Lib.hid (z_end HR.out HB0.out q3 (Turn.refl _ _))
    clear q3 b2
    go_wp2_with fail
    go_ret2
    obtain ⟨F9, h9, _⟩ := HQF.out
    exact ⟨F9, rfl, h9⟩
end Go.Proofs.YtkdidinekoaobaaGreatDoor.P

/- The program's Upload. -/
namespace Go.Proofs.YtkdidinekoaobaaGreatDoor.P
open Go.RowKit M J
set_option linter.unusedVariables false
set_option linter.unusedSimpArgs false

theorem ob_none (n : Int) : (bs (ob n)).toList.isEmpty = decide (¬ (0 ≤ n ∧ n ≤ 999999)) := by
  rw [bs_toList]
  by_cases h : 0 ≤ n ∧ n ≤ 999999
  · rw [ob_yes h, decide_eq_false (fun h' => h' h)]; rfl
  · rw [show ob n = [] by unfold ob; rw [if_neg h], decide_eq_true h]; rfl

set_option maxRecDepth 100000 in
set_option maxHeartbeats 4000000 in
theorem pupload_any {B pb : Nat} {F : Nat → Prop} {S : Rs} {w : World} {n : Int} {b : List UInt8} (h : RkS B w pb F S) (hV : Vb B w) (hS : Room S) (hn : i64 n) (hb : b.length ≤ 1500) :
    Calls Tryz.prog 16 #[.pointer (some ⟨pb, 0, none⟩), .int .i64 n, .string (bs b)] w fun e w' => ∃ F', e = .returned (.tuple #[sgV (upload S n b).2.1, .int .i64 (upload S n b).2.2]) ∧ Goes B pb F (upload S n b).1 w w' F' := by
  have hb0 : Below w.heap.size w (w.alloc (.cells #[.int .i64 0, .int .i64 0, .int .u32 0] 51)) := (Below.refl _ _).alloc (Nat.le_refl _) _
  have HN := Lib.hid (heap_alloc_new w (.cells #[.int .i64 0, .int .i64 0, .int .u32 0] 51))
  have H0 := Lib.hid (z_start h hb0)
  have HB0 := Lib.hid hb0
  have HR := Lib.hid h
  have hlt : w.heap.size < (w.alloc (.cells #[.int .i64 0, .int .i64 0, .int .u32 0] 51)).heap.size := by simp
  have hnf : ¬ F w.heap.size := fun hf => by have := (h.lt hf).2; omega
  have zs : ((bs b).size : Int) = (b.length : Int) := by rw [bs_size]
  have zl : ¬ (1048576 : Int) < ((bs b).size : Int) := by omega
  have HOB := Lib.hid (manC.object (v := n) (hV.vt.later hb0) hn)
  have hol := ob_few n
  have HQP := Lib.hid (fun W h => z_put (S := S) (n := ob n) (b := b) (W := W) (B := B) (pb := pb) (F := F) (w1 := (w.alloc (.cells #[.int .i64 0, .int .i64 0, .int .u32 0] 51))) h (by omega) (by have := hS.1; omega) (by have := hS.2.2; omega))
  have hS1 := small_takes hS.2 hol hb
  have HQG := Lib.hid (fun W h => z_get (S := takes S (lays S.obs (ob n) b)) (n := ob n) (W := W) (B := B) (pb := pb) (F := F) (w1 := (w.alloc (.cells #[.int .i64 0, .int .i64 0, .int .u32 0] 51))) h (by omega) (by have := hS.1; rw [n_takes]; omega))
  have HOF := Lib.hid (fun W => manC.of (n := n) (b := b) (w := W) hn (by omega))
  have hoe := ob_none n
  unfold sgV
  by_cases hok : 0 ≤ n ∧ n ≤ 999999
  · have hup : upload S n b = if gE (takes S (lays S.obs (ob n) b)) (ob n) ≠ 0 then (used (takes S (lays S.obs (ob n) b)), noSg, gE (takes S (lays S.obs (ob n) b)) (ob n)) else if gB (takes S (lays S.obs (ob n) b)) (ob n) = b then (used (takes S (lays S.obs (ob n) b)), sgOf n b, 0) else (used (takes S (lays S.obs (ob n) b)), noSg, 4) := by
      unfold upload
      rw [if_pos (show upOk n b from ⟨hok, by omega⟩)]
    rw [hup]
    rw [decide_eq_false (fun h' => h' hok)] at hoe
    clear hup hok hb0 hS h hS1 hol hn hV
    have hcmp : ((bs (gB (takes S (lays S.obs (ob n) b)) (ob n))).toList == (bs b).toList) = decide (gB (takes S (lays S.obs (ob n) b)) (ob n) = b) := by
      rw [bs_toList, bs_toList]
      by_cases h : gB (takes S (lays S.obs (ob n) b)) (ob n) = b
      · rw [decide_eq_true h]; simpa using h
      · rw [decide_eq_false h]; simpa using h
    generalize takes S (lays S.obs (ob n) b) = S1 at *
    generalize hg : gE S1 (ob n) = g at *
    generalize hos : bs (ob n) = O at *
    by_cases h1 : g = 0
    · subst h1
      rw [if_neg (by simp)]
      generalize gB S1 (ob n) = c at *
      by_cases h2 : c = b
      · rw [if_pos h2]
        rw [decide_eq_true h2] at hcmp
        clear h2
        rw [show (sgOf n b).n = n from rfl, show (sgOf n b).size = (b.length : Nat) from rfl, show (sgOf n b).sum = sum b from rfl]
        generalize bs c = Cb at *
        generalize bs b = Bb at *
        generalize ((sum b : Nat) : Int) = cs at *
        generalize (b.length : Int) = cl at *
        go_enter Tryz.func16, Tryz.ntmps16
        go_wp2_with fail
        generalize w.alloc _ = w1 at *
        refine HOB.out.mono ?_
        rintro e w2 ⟨rfl, b2⟩
        have q2 := z_below H0.out b2
        clear b2
        go_wp2_with fail
        refine (HQP.out _ q2).mono ?_
        rintro e w3 ⟨rfl, q3⟩
        clear q2
        go_wp2_with fail
        refine (HQG.out _ q3).mono ?_
        rintro e w5 ⟨rfl, q5⟩
        clear q3
        go_wp2_with fail
        refine HOF.out _ |>.mono ?_
        rintro e w6 ⟨rfl, b6⟩
        have q6 := z_below q5 b6
        clear b6
        have hn9 : w6.heap[w.heap.size]? = _ := (z_block q6 hlt hnf).trans HN.out
        obtain ⟨k0, k1, k2, kf, k3⟩ := row3_set hn9 (.int .i64 n) (.int .i64 cl) (.int .u32 cs)
        obtain ⟨j0, j1, j2⟩ := row3_cells k3
        have HQF := Lib.hid (z_end HR.out HB0.out q6 (turn3 (q := w.heap.size) (B := w.heap.size) ⟨Nat.le_refl _, hlt⟩ (.int .i64 n) (.int .i64 cl) (.int .u32 cs)))
        clear hn9 k3 q5 q6
        go_wp2_with fail
        generalize ((w6.setCell _ _).setCell _ _).setCell _ _ = wf at *
        obtain ⟨F9, h9, _⟩ := HQF.out
        exact bodyPost_ret (v := .tuple #[.agg #[.int .i64 n, .int .i64 cl, .int .u32 cs], .int .i64 0]) (by simp [results, Tryz.results16, go_sem, j0, j1, j2]) rfl ⟨F9, rfl, h9⟩
      · rw [if_neg h2]
        rw [decide_eq_false h2] at hcmp
        clear h2
        rw [show noSg.n = 0 from rfl, show noSg.size = 0 from rfl, show noSg.sum = 0 from rfl]
        generalize bs c = Cb at *
        generalize bs b = Bb at *
        go_enter Tryz.func16, Tryz.ntmps16
        go_wp2_with fail
        generalize w.alloc _ = w1 at *
        refine HOB.out.mono ?_
        rintro e w2 ⟨rfl, b2⟩
        have q2 := z_below H0.out b2
        clear b2
        go_wp2_with fail
        refine (HQP.out _ q2).mono ?_
        rintro e w3 ⟨rfl, q3⟩
        clear q2
        go_wp2_with fail
        refine (HQG.out _ q3).mono ?_
        rintro e w5 ⟨rfl, q5⟩
        clear q3
        have hn9 : w5.heap[w.heap.size]? = _ := (z_block q5 hlt hnf).trans HN.out
        obtain ⟨k0, k1, k2, kf, k3⟩ := row3_set hn9 (.int .i64 0) (.int .i64 0) (.int .u32 0)
        obtain ⟨j0, j1, j2⟩ := row3_cells k3
        have HQF := Lib.hid (z_end HR.out HB0.out q5 (turn3 (q := w.heap.size) (B := w.heap.size) ⟨Nat.le_refl _, hlt⟩ (.int .i64 0) (.int .i64 0) (.int .u32 0)))
        clear hn9 k3 q5
        go_wp2_with fail
        generalize ((w5.setCell _ _).setCell _ _).setCell _ _ = wf at *
        obtain ⟨F9, h9, _⟩ := HQF.out
        exact bodyPost_ret (v := .tuple #[.agg #[.int .i64 0, .int .i64 0, .int .u32 0], .int .i64 4]) (by simp [results, Tryz.results16, go_sem, j0, j1, j2]) rfl ⟨F9, rfl, h9⟩
    · rw [if_pos h1]
      rw [show noSg.n = 0 from rfl, show noSg.size = 0 from rfl, show noSg.sum = 0 from rfl]
      have y1 : (g == 0) = false := by simpa using h1
      generalize bs (gB S1 (ob n)) = Cb at *
      generalize bs b = Bb at *
      go_enter Tryz.func16, Tryz.ntmps16
      go_wp2_with fail
      generalize w.alloc _ = w1 at *
      refine HOB.out.mono ?_
      rintro e w2 ⟨rfl, b2⟩
      have q2 := z_below H0.out b2
      clear b2
      go_wp2_with fail
      refine (HQP.out _ q2).mono ?_
      rintro e w3 ⟨rfl, q3⟩
      clear q2
      go_wp2_with fail
      refine (HQG.out _ q3).mono ?_
      rintro e w5 ⟨rfl, q5⟩
      clear q3
      have hn9 : w5.heap[w.heap.size]? = _ := (z_block q5 hlt hnf).trans HN.out
      obtain ⟨k0, k1, k2, kf, k3⟩ := row3_set hn9 (.int .i64 0) (.int .i64 0) (.int .u32 0)
      obtain ⟨j0, j1, j2⟩ := row3_cells k3
      have HQF := Lib.hid (z_end HR.out HB0.out q5 (turn3 (q := w.heap.size) (B := w.heap.size) ⟨Nat.le_refl _, hlt⟩ (.int .i64 0) (.int .i64 0) (.int .u32 0)))
      clear hn9 k3 q5
      go_wp2_with fail
      generalize ((w5.setCell _ _).setCell _ _).setCell _ _ = wf at *
      obtain ⟨F9, h9, _⟩ := HQF.out
      exact bodyPost_ret (v := .tuple #[.agg #[.int .i64 0, .int .i64 0, .int .u32 0], .int .i64 g]) (by simp [results, Tryz.results16, go_sem, j0, j1, j2]) rfl ⟨F9, rfl, h9⟩
  · rw [show upload S n b = (S, noSg, 1) by unfold upload; rw [if_neg (fun hh => hok hh.1)]]
    rw [show noSg.n = 0 from rfl, show noSg.size = 0 from rfl, show noSg.sum = 0 from rfl]
    rw [decide_eq_true hok] at hoe
    clear hb0 hS h hS1 hol hn hV hok
    generalize bs b = Bb at *
    generalize hos : bs (ob n) = O at *
    go_enter Tryz.func16, Tryz.ntmps16
    go_wp2_with fail
    generalize w.alloc _ = w1 at *
    refine HOB.out.mono ?_
    rintro e w2 ⟨rfl, b2⟩
    have q2 := z_below H0.out b2
    clear b2
    have hn9 : w2.heap[w.heap.size]? = _ := (z_block q2 hlt hnf).trans HN.out
    obtain ⟨k0, k1, k2, kf, k3⟩ := row3_set hn9 (.int .i64 0) (.int .i64 0) (.int .u32 0)
    obtain ⟨j0, j1, j2⟩ := row3_cells k3
    have HQF := Lib.hid (z_end HR.out HB0.out q2 (turn3 (q := w.heap.size) (B := w.heap.size) ⟨Nat.le_refl _, hlt⟩ (.int .i64 0) (.int .i64 0) (.int .u32 0)))
    clear hn9 k3 q2
    go_wp2_with fail
    generalize ((w2.setCell _ _).setCell _ _).setCell _ _ = wf at *
    obtain ⟨F9, h9, _⟩ := HQF.out
    exact bodyPost_ret (v := .tuple #[.agg #[.int .i64 0, .int .i64 0, .int .u32 0], .int .i64 1]) (by simp [results, Tryz.results16, go_sem, j0, j1, j2]) rfl ⟨F9, rfl, h9⟩
end Go.Proofs.YtkdidinekoaobaaGreatDoor.P

/- The program's putOnce. -/
namespace Go.Proofs.YtkdidinekoaobaaGreatDoor.P
open Go.RowKit M J
set_option linter.unusedVariables false
set_option linter.unusedSimpArgs false

/-- An object that no call may replace. -/
def po (S : Rs) (n b : List UInt8) : Rs × Int := if putE S n = 0 then (putS S n b, 0) else if gE (putS S n b) n = 0 ∧ gB (putS S n b) n = b then (used (putS S n b), 0) else (used (putS S n b), putE S n)
theorem putE_cases (S : Rs) (n : List UInt8) : putE S n = 0 ∨ putE S n = 7 ∨ putE S n = 9 := by
  unfold putE errOf newE
  split
  · exact Or.inr (Or.inr rfl)
  · split
    · exact Or.inr (Or.inl rfl)
    · exact Or.inl rfl
theorem next_po (S : Rs) (ver : Int) (l : List Sg) (h : Right (nextMf ver l)) : next S ver l = ((po S (nm (nextMf ver l).ver) (mbs (nextMf ver l)).1).1, if (po S (nm (nextMf ver l).ver) (mbs (nextMf ver l)).1).2 = 0 then nextMf ver l else noMf, (po S (nm (nextMf ver l).ver) (mbs (nextMf ver l)).1).2) := by
  have hr : ¬ right (nextMf ver l) = false := by rw [right_iff.2 h]; simp
  simp only [next, if_neg hr, po]
  split
  · simp
  · split
    · simp
    · rename_i h0 _
      simp [h0]
theorem next_bad (S : Rs) (ver : Int) (l : List Sg) (h : ¬ Right (nextMf ver l)) : next S ver l = (S, noMf, 1) := by
  simp only [next, if_pos (right_no h)]
theorem putS_n (S : Rs) (n b : List UInt8) : (putS S n b).n = S.n + 1 := by unfold putS takes used; rfl

set_option maxRecDepth 100000 in
set_option maxHeartbeats 2000000 in
theorem putOnce_any {B pb : Nat} {F : Nat → Prop} {S : Rs} {w : World} {n b : List UInt8} (h : RkS B w pb F S) (hn : n.length ≤ 1000) (hS : S.n < 900000000000) (ho : S.obs.length < 1000000000) :
    Calls Tryz.prog 39 #[.pointer (some ⟨pb, 0, none⟩), .string (bs n), .string (bs b)] w fun e w' => e = .returned (.int .i64 (po S n b).2) ∧ ∃ F', Goes B pb F (po S n b).1 w w' F' ∧ ∀ k, F' k → F k := by
  have hb0 : Below w.heap.size w w := Below.refl _ _
  have H0 := Lib.hid (z_start h hb0)
  have HP := Lib.hid (z_putNew (n := n) (b := b) H0.out hn (by omega) ho)
  have HG := Lib.hid (fun W h => z_get (S := putS S n b) (n := n) (W := W) (B := B) (pb := pb) (F := F) (w1 := w) h hn (by rw [putS_n]; omega))
  have HR := Lib.hid h
  have HB0 := Lib.hid hb0
  have hpo : po S n b = if putE S n = 0 then (putS S n b, 0) else if gE (putS S n b) n = 0 ∧ gB (putS S n b) n = b then (used (putS S n b), 0) else (used (putS S n b), putE S n) := rfl
  have hc := putE_cases S n
  have hcmp : ((bs (gB (putS S n b) n)).toList == (bs b).toList) = decide (gB (putS S n b) n = b) := by
    rw [bs_toList, bs_toList]
    by_cases h : gB (putS S n b) n = b
    · rw [decide_eq_true h]; simpa using h
    · rw [decide_eq_false h]; simpa using h
  clear h hb0 hn hS ho
  generalize po S n b = R at *
  generalize putE S n = x at *
  generalize putS S n b = S1 at *
  generalize gE S1 n = g at *
  generalize gB S1 n = c at *
  by_cases h0 : x = 0
  · subst h0
    rw [if_pos rfl] at hpo
    subst hpo
    clear hc hcmp
    generalize bs n = On at *
    generalize bs b = Ob at *
    go_enter Tryz.func39, Tryz.ntmps39
    go_wp2_with fail
    refine HP.out.mono ?_
    rintro e w2 ⟨rfl, q2⟩
    have HE := Lib.hid (z_end HR.out HB0.out q2 (Turn.refl _ _))
    clear q2
    go_wp2_with fail
    go_ret
    exact ⟨rfl, HE.out⟩
  · rw [if_neg h0] at hpo
    have hx : x = 7 ∨ x = 9 := by omega
    clear h0 hc
    have main : ∀ (y : Bool) (z : Int), ((bs c).toList == (bs b).toList) = y → (R = (used S1, z)) → (z = if g = 0 ∧ y = true then 0 else x) → Calls Tryz.prog 39 #[.pointer (some ⟨pb, 0, none⟩), .string (bs n), .string (bs b)] w fun e w' => e = .returned (.int .i64 R.2) ∧ ∃ F', Goes B pb F R.1 w w' F' ∧ ∀ k, F' k → F k := by
      intro y z hy hR hz
      subst hR
      clear hpo hcmp
      generalize bs n = On at *
      generalize bs b = Ob at *
      generalize bs c = Oc at *
      by_cases hg : g = 0
      · subst hg
        cases y with
        | true =>
          rw [if_pos ⟨rfl, rfl⟩] at hz
          subst hz
          rcases hx with rfl | rfl
          all_goals
            go_enter Tryz.func39, Tryz.ntmps39
            go_wp2_with fail
            refine HP.out.mono ?_
            rintro e w2 ⟨rfl, q2⟩
            go_wp2_with fail
            refine (HG.out _ q2).mono ?_
            rintro e w3 ⟨rfl, q3⟩
            have HE := Lib.hid (z_end HR.out HB0.out q3 (Turn.refl _ _))
            clear q2 q3
            go_wp2_with fail
            go_ret
            exact ⟨rfl, HE.out⟩
        | false =>
          rw [if_neg (by simp)] at hz
          rcases hx with rfl | rfl
          all_goals
            subst hz
            go_enter Tryz.func39, Tryz.ntmps39
            go_wp2_with fail
            refine HP.out.mono ?_
            rintro e w2 ⟨rfl, q2⟩
            go_wp2_with fail
            refine (HG.out _ q2).mono ?_
            rintro e w3 ⟨rfl, q3⟩
            have HE := Lib.hid (z_end HR.out HB0.out q3 (Turn.refl _ _))
            clear q2 q3
            go_wp2_with fail
            go_ret
            exact ⟨rfl, HE.out⟩
      · rw [if_neg (fun h => hg h.1)] at hz
        have hg' : (g == 0) = false := by simpa using hg
        clear hg
        rcases hx with rfl | rfl
        all_goals
          subst hz
          go_enter Tryz.func39, Tryz.ntmps39
          go_wp2_with fail
          refine HP.out.mono ?_
          rintro e w2 ⟨rfl, q2⟩
          go_wp2_with fail
          refine (HG.out _ q2).mono ?_
          rintro e w3 ⟨rfl, q3⟩
          have HE := Lib.hid (z_end HR.out HB0.out q3 (Turn.refl _ _))
          clear q2 q3
          go_wp2_with fail
          go_ret
          exact ⟨rfl, HE.out⟩
    refine main (decide (c = b)) (if g = 0 ∧ c = b then 0 else x) hcmp ?_ (by simp)
    rw [hpo]
    split <;> rfl
end Go.Proofs.YtkdidinekoaobaaGreatDoor.P

/- The program's read of one version. -/
namespace Go.Proofs.YtkdidinekoaobaaGreatDoor.P
open Go.RowKit M J
set_option linter.unusedVariables false
set_option linter.unusedSimpArgs false

noncomputable def rdX (S : Rs) (v : Int) : Int := if gE S (nm v) ≠ 0 then gE S (nm v) else if (mrd (gB S (nm v))).2 ≠ 0 then ((mrd (gB S (nm v))).2 : Nat) else if (mrd (gB S (nm v))).1.ver ≠ v then 2 else 0
noncomputable def rdM (S : Rs) (v : Int) : Mf := if rdX S v = 0 then (mrd (gB S (nm v))).1 else noMf
theorem two_turn {w : World} {q : Nat} {G : Nat → Prop} (h : G q) (v0 v1 : Value) : Turn G w ((w.setCell ⟨q, 0, none⟩ v0).setCell ⟨q, 1, none⟩ v1) :=
  ((Turn.refl _ w).setCell (p := ⟨q, 0, none⟩) h v0).setCell (p := ⟨q, 1, none⟩) h v1
theorem far_two {w : World} {a : Option Addr} {l : List Sg} (h : SgsIn w a l) {q : Nat} (hq : ∀ x, a = some x → x.block ≠ q) (v0 v1 : Value) : SgsIn ((w.setCell ⟨q, 0, none⟩ v0).setCell ⟨q, 1, none⟩ v1) a l :=
  (h.far ⟨q, 0, none⟩ hq v0).far ⟨q, 1, none⟩ hq v1
def ReadPost (B pb : Nat) (F : Nat → Prop) (S : Rs) (v : Int) (w : World) (e : Ending) (w' : World) : Prop :=
  ∃ F' a cap, e = .returned (.tuple #[mfV (rdM S v).ver a (rdM S v).segs.length cap, .int .i64 (rdX S v)]) ∧ SgsIn w' a (rdM S v).segs ∧ NewRow w F' a ∧ Goes B pb F (used S) w w' F' ∧ ∀ k, F' k → F k

set_option maxRecDepth 100000 in
set_option maxHeartbeats 2000000 in
theorem pubread_any {B pb : Nat} {F : Nat → Prop} {S : Rs} {w : World} {v : Int} (h : RkS B w pb F S) (hV : Vb B w) (hS : S.n < 950000000000 ∧ Small 1000 S) (hv : i64 v) :
    Calls Tryz.prog 32 #[.pointer (some ⟨pb, 0, none⟩), .int .i64 v] w (ReadPost B pb F S v w) := by
  have hb0 : Below w.heap.size w (w.alloc (.cells #[.int .i64 0, .slice none 0 0] 33)) := (Below.refl _ _).alloc (Nat.le_refl _) _
  have HN := Lib.hid (heap_alloc_new w (.cells #[.int .i64 0, .slice none 0 0] 33))
  have HNM := Lib.hid (manC.name (v := v) (hV.vt.later hb0) hv)
  have HQ := Lib.hid (fun W h => z_get (S := S) (n := nm v) (W := W) (B := B) (pb := pb) (F := F) (w1 := w.alloc (.cells #[.int .i64 0, .slice none 0 0] 33)) h (by have := nm_few v; omega) (by have := hS.1; omega))
  have H0 := Lib.hid (z_start h hb0)
  have HB0 := Lib.hid hb0
  have HR := Lib.hid h
  have hlt : w.heap.size < (w.alloc (.cells #[.int .i64 0, .slice none 0 0] 33)).heap.size := by simp
  have hnf : ¬ F w.heap.size := fun hf => by have := (h.lt hf).2; omega
  have hgl := gB_len hS.2 (nm v)
  have HRD := Lib.hid (fun W => pread_new (gB S (nm v)) W (by omega))
  unfold RdNew at HRD
  have hX : rdX S v = if gE S (nm v) ≠ 0 then gE S (nm v) else if (mrd (gB S (nm v))).2 ≠ 0 then ((mrd (gB S (nm v))).2 : Nat) else if (mrd (gB S (nm v))).1.ver ≠ v then 2 else 0 := rfl
  have hM : rdM S v = if rdX S v = 0 then (mrd (gB S (nm v))).1 else noMf := rfl
  clear hb0 hS h hV hv hgl
  generalize hb : mrd (gB S (nm v)) = M at *
  clear hb
  obtain ⟨m, x⟩ := M
  simp only at hX hM HRD
  unfold ReadPost
  generalize gB S (nm v) = b at *
  generalize gE S (nm v) = g at *
  generalize bs (nm v) = O at *
  generalize rdX S v = X at *
  generalize rdM S v = R at *
  by_cases h1 : g = 0
  · subst h1
    rw [if_neg (by simp)] at hX
    by_cases h2 : x = 0
    · subst h2
      rw [if_neg (by simp)] at hX
      by_cases h3 : m.ver = v
      · rw [if_neg (by simpa using h3)] at hX
        subst hX
        rw [if_pos rfl] at hM
        subst hM
        have y0 : (R.ver == v) = true := by simpa using h3
        clear h3
        go_enter Tryz.func32, Tryz.ntmps32
        go_wp2_with fail
        generalize w.alloc _ = w1 at *
        refine HNM.out.mono ?_
        rintro e w2 ⟨rfl, b2⟩
        have q2 := z_below H0.out b2
        clear b2
        go_wp2_with fail
        refine (HQ.out _ q2).mono ?_
        rintro e w3 ⟨rfl, q3⟩
        clear q2
        go_wp2_with fail
        refine (HRD.out _).mono ?_
        rintro e w4 ⟨a, cap, rfl, hin, hnew, b4⟩
        have n5 := heap_alloc_new w4 (.cells #[.int .i64 R.ver, .slice a R.segs.length cap] 33)
        have b5 : Below w4.heap.size w4 (w4.alloc (.cells #[.int .i64 R.ver, .slice a R.segs.length cap] 33)) := (Below.refl _ _).alloc (Nat.le_refl _) _
        have z4 := b4.size
        have b35 := b4.trans (b5.mono z4)
        have hz3 := z_size q3
        have h9 : (w4.alloc (.cells #[.int .i64 R.ver, .slice a R.segs.length cap] 33)).heap[w.heap.size]? = _ := (b35.block _ (Nat.lt_of_lt_of_le hlt hz3)).trans ((z_block q3 hlt hnf).trans HN.out)
        have hin5 := hin.later b5 (Nat.le_refl _)
        obtain ⟨d0, d1⟩ := two_cells n5
        obtain ⟨k0, k1, kf, k2⟩ := two_set h9 (.int .i64 R.ver) (.slice a R.segs.length cap)
        obtain ⟨j0, j1⟩ := two_cells k2
        have HI := Lib.hid (far_two hin5 (q := w.heap.size) (fun x hx => by have := hnew x hx; omega) (.int .i64 R.ver) (.slice a R.segs.length cap))
        have HE := Lib.hid (z_end2 HR.out HB0.out q3 b35 (two_turn (q := w.heap.size) ⟨Nat.le_refl _, Or.inl hlt⟩ (.int .i64 R.ver) (.slice a R.segs.length cap)))
        have HNW := Lib.hid hnew
        clear hin5 b35 h9 k2 n5 b5 hin hnew b4 q3
        unfold mfV
        go_wp2_with fail
        generalize (w4.alloc _).setCell _ _ = w6 at *
        generalize w6.setCell _ _ = wf at *
        obtain ⟨F9, h9, hf9⟩ := HE.out
        exact bodyPost_ret (v := .tuple #[mfV R.ver a R.segs.length cap, .int .i64 0]) (by simp [results, Tryz.results32, go_sem, j0, j1, mfV]) rfl ⟨F9, a, cap, rfl, HI.out, fun x hx => ⟨by have := HNW.out x hx; omega, fun hf => by have := HNW.out x hx; have := (hf9 _ hf).1; omega⟩, h9, fun k hk => (hf9 k hk).2⟩
      · rw [if_pos h3] at hX
        subst hX
        rw [if_neg (by simp)] at hM
        subst hM
        have y0 : (m.ver == v) = false := by simpa using h3
        clear h3
        show Calls _ _ _ _ (fun e w' => ∃ F' a cap, e = .returned (.tuple #[mfV 0 a 0 cap, .int .i64 2]) ∧ SgsIn w' a [] ∧ NewRow w F' a ∧ Goes B pb F (used S) w w' F' ∧ ∀ k, F' k → F k)
        go_enter Tryz.func32, Tryz.ntmps32
        go_wp2_with fail
        generalize w.alloc _ = w1 at *
        refine HNM.out.mono ?_
        rintro e w2 ⟨rfl, b2⟩
        have q2 := z_below H0.out b2
        clear b2
        go_wp2_with fail
        refine (HQ.out _ q2).mono ?_
        rintro e w3 ⟨rfl, q3⟩
        clear q2
        go_wp2_with fail
        refine (HRD.out _).mono ?_
        rintro e w4 ⟨a, cap, rfl, hin, hnew, b4⟩
        have n5 := heap_alloc_new w4 (.cells #[.int .i64 m.ver, .slice a m.segs.length cap] 33)
        have b5 : Below w4.heap.size w4 (w4.alloc (.cells #[.int .i64 m.ver, .slice a m.segs.length cap] 33)) := (Below.refl _ _).alloc (Nat.le_refl _) _
        have z4 := b4.size
        have b35 := b4.trans (b5.mono z4)
        have hz3 := z_size q3
        have h9 : (w4.alloc (.cells #[.int .i64 m.ver, .slice a m.segs.length cap] 33)).heap[w.heap.size]? = _ := (b35.block _ (Nat.lt_of_lt_of_le hlt hz3)).trans ((z_block q3 hlt hnf).trans HN.out)
        obtain ⟨d0, d1⟩ := two_cells n5
        obtain ⟨k0, k1, kf, k2⟩ := two_set h9 (.int .i64 0) (.slice none 0 0)
        obtain ⟨j0, j1⟩ := two_cells k2
        have HE := Lib.hid (z_end2 HR.out HB0.out q3 b35 (two_turn (q := w.heap.size) ⟨Nat.le_refl _, Or.inl hlt⟩ (.int .i64 0) (.slice none 0 0)))
        clear b35 h9 k2 n5 b5 hin hnew b4 q3
        unfold mfV
        go_wp2_with fail
        generalize (w4.alloc _).setCell _ _ = w6 at *
        generalize w6.setCell _ _ = wf at *
        obtain ⟨F9, h9, hf9⟩ := HE.out
        exact bodyPost_ret (v := .tuple #[mfV 0 none 0 0, .int .i64 2]) (by simp [results, Tryz.results32, go_sem, j0, j1, mfV]) rfl ⟨F9, none, 0, rfl, SgsIn.nil _ _, (fun x hx => nomatch hx), h9, fun k hk => (hf9 k hk).2⟩
    · rw [if_pos h2] at hX
      have hx0 : ¬ X = 0 := by omega
      rw [if_neg hx0] at hM
      subst hM
      have y1 : (((x : Nat) : Int) == 0) = false := by simpa using h2
      rw [← hX] at y1
      clear hx0
      show Calls _ _ _ _ (fun e w' => ∃ F' a cap, e = .returned (.tuple #[mfV 0 a 0 cap, .int .i64 X]) ∧ SgsIn w' a [] ∧ NewRow w F' a ∧ Goes B pb F (used S) w w' F' ∧ ∀ k, F' k → F k)
      rw [← hX] at HRD
      clear hX h2
      go_enter Tryz.func32, Tryz.ntmps32
      go_wp2_with fail
      generalize w.alloc _ = w1 at *
      refine HNM.out.mono ?_
      rintro e w2 ⟨rfl, b2⟩
      have q2 := z_below H0.out b2
      clear b2
      go_wp2_with fail
      refine (HQ.out _ q2).mono ?_
      rintro e w3 ⟨rfl, q3⟩
      clear q2
      go_wp2_with fail
      refine (HRD.out _).mono ?_
      rintro e w4 ⟨a, cap, rfl, hin, hnew, b4⟩
      have n5 := heap_alloc_new w4 (.cells #[.int .i64 m.ver, .slice a m.segs.length cap] 33)
      have b5 : Below w4.heap.size w4 (w4.alloc (.cells #[.int .i64 m.ver, .slice a m.segs.length cap] 33)) := (Below.refl _ _).alloc (Nat.le_refl _) _
      have z4 := b4.size
      have b35 := b4.trans (b5.mono z4)
      have hz3 := z_size q3
      have h9 : (w4.alloc (.cells #[.int .i64 m.ver, .slice a m.segs.length cap] 33)).heap[w.heap.size]? = _ := (b35.block _ (Nat.lt_of_lt_of_le hlt hz3)).trans ((z_block q3 hlt hnf).trans HN.out)
      obtain ⟨d0, d1⟩ := two_cells n5
      obtain ⟨k0, k1, kf, k2⟩ := two_set h9 (.int .i64 0) (.slice none 0 0)
      obtain ⟨j0, j1⟩ := two_cells k2
      have HE := Lib.hid (z_end2 HR.out HB0.out q3 b35 (two_turn (q := w.heap.size) ⟨Nat.le_refl _, Or.inl hlt⟩ (.int .i64 0) (.slice none 0 0)))
      clear b35 h9 k2 n5 b5 hin hnew b4 q3
      unfold mfV
      go_wp2_with fail
      generalize (w4.alloc _).setCell _ _ = w6 at *
      generalize w6.setCell _ _ = wf at *
      obtain ⟨F9, h9, hf9⟩ := HE.out
      exact bodyPost_ret (v := .tuple #[mfV 0 none 0 0, .int .i64 X]) (by simp [results, Tryz.results32, go_sem, j0, j1, mfV]) rfl ⟨F9, none, 0, rfl, SgsIn.nil _ _, (fun x hx => nomatch hx), h9, fun k hk => (hf9 k hk).2⟩
  · rw [if_pos h1] at hX
    subst hX
    rw [if_neg h1] at hM
    subst hM
    have y1 : (X == 0) = false := by simpa using h1
    clear h1
    show Calls _ _ _ _ (fun e w' => ∃ F' a cap, e = .returned (.tuple #[mfV 0 a 0 cap, .int .i64 X]) ∧ SgsIn w' a [] ∧ NewRow w F' a ∧ Goes B pb F (used S) w w' F' ∧ ∀ k, F' k → F k)
    go_enter Tryz.func32, Tryz.ntmps32
    go_wp2_with fail
    generalize w.alloc _ = w1 at *
    refine HNM.out.mono ?_
    rintro e w2 ⟨rfl, b2⟩
    have q2 := z_below H0.out b2
    clear b2
    go_wp2_with fail
    refine (HQ.out _ q2).mono ?_
    rintro e w3 ⟨rfl, q3⟩
    clear q2
    have h9 : w3.heap[w.heap.size]? = _ := (z_block q3 hlt hnf).trans HN.out
    obtain ⟨k0, k1, kf, k2⟩ := two_set h9 (.int .i64 0) (.slice none 0 0)
    obtain ⟨j0, j1⟩ := two_cells k2
    have HE := Lib.hid (z_end2 HR.out HB0.out q3 (Below.refl _ _) (two_turn (q := w.heap.size) ⟨Nat.le_refl _, Or.inl hlt⟩ (.int .i64 0) (.slice none 0 0)))
    clear h9 k2 q3
    go_wp2_with fail
    generalize (w3.setCell _ _).setCell _ _ = wf at *
    obtain ⟨F9, h9, hf9⟩ := HE.out
    exact bodyPost_ret (v := .tuple #[mfV 0 none 0 0, .int .i64 X]) (by simp [results, Tryz.results32, go_sem, j0, j1, mfV]) rfl ⟨F9, none, 0, rfl, SgsIn.nil _ _, (fun x hx => nomatch hx), h9, fun k hk => (hf9 k hk).2⟩
end Go.Proofs.YtkdidinekoaobaaGreatDoor.P
