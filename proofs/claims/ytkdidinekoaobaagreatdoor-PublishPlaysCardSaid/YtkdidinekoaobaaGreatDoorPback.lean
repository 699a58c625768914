/- PublishBack, over what is asked of the program's publish. -/
import Derived.Test.YtkdidinekoaobaaGreatDoorPawake
namespace Go.Proofs.YtkdidinekoaobaaGreatDoor.P
open Go.RowKit M J
set_option linter.unusedVariables false
set_option linter.unusedSimpArgs false

/-- Rows of fates. -/
def FatesIn (w : World) (a : Option Addr) (ll : List (List Int)) : Prop := ∀ i (h : i < ll.length), ∃ b off ka kc, a = some ⟨b, off, none⟩ ∧ b < w.heap.size ∧ w.cell? ⟨b, off + i, none⟩ = some (.slice ka ll[i].length kc) ∧ Vals w ka (ll[i].map (Value.int .i64))
theorem vals_below {w w' : World} {B : Nat} {a : Option Addr} {vs : List Value} (h : Vals w a vs) (hb : Below B w w') (hB : w.heap.size ≤ B) : Vals w' a vs := fun i hi => by
  obtain ⟨b, off, h1, h2, h3⟩ := h i hi
  exact ⟨b, off, h1, Nat.lt_of_lt_of_le h2 hb.size, (hb.cell (p := ⟨b, _, none⟩) (by show b < B; omega)).trans h3⟩
theorem ints_vals {w : World} {a : Option Addr} {l : List Int} (h : Vals w a (l.map (Value.int .i64))) : IntsAt w a l := fun i y hy => by
  obtain ⟨hi, e⟩ := List.getElem?_eq_some_iff.1 hy
  obtain ⟨b, off, h1, h2, h3⟩ := h i (by simpa using hi)
  exact ⟨b, off, h1, h2, by rw [h3]; simp [e]⟩
theorem script_g {B pb : Nat} {F : Nat → Prop} {S : Rs} {w : World} (h : RkS B w pb F S) (a : Option Addr) (l : List Int) (c : Nat) (hl : IntsAt w a l) (hb : l.length ≤ 100) (hr : ∀ y ∈ l, -9223372036854775808 ≤ y ∧ y ≤ 9223372036854775807) :
    Calls Tryz.prog 20 #[.pointer (some ⟨pb, 0, none⟩), .slice a l.length c] w fun e w' => ∃ F', e = .returned (.tuple #[]) ∧ Goes B pb F (setS S l) w w' F' :=
  (script_m h a l c hl (by omega) hr).mono fun e w' ⟨h1, F', h2, h3, h4⟩ => ⟨F', h1, h2, h3, h4⟩
theorem ints_nil (w : World) : IntsAt w none [] := fun i y hy => by simp at hy
theorem upload_small {k : Nat} {S : Rs} (h : Small k S) {n : Int} {b : List UInt8} (hb : b.length ≤ 1500) : Small (k + 1) (upload S n b).1 ∧ (upload S n b).1.n ≤ S.n + 2 := by
  have hol : (ob n).length ≤ 100 := by unfold ob; split <;> simp [dig_len]
  have h1 := small_takes h hol hb
  have hn : ∀ l, (used (takes S l)).n = S.n + 2 := fun l => by show S.n + 1 + 1 = _; omega
  unfold upload
  split
  · dsimp only
    split
    · exact ⟨h1, by rw [hn]; omega⟩
    · split
      · exact ⟨h1, by rw [hn]; omega⟩
      · exact ⟨h1, by rw [hn]; omega⟩
  · exact ⟨⟨h.1, by have := h.2; show S.obs.length ≤ _; omega⟩, by show S.n ≤ _; omega⟩
theorem fetch_used (S : Rs) (s : Sg) : (fetch S s).1 = used S := by
  unfold fetch
  split
  · rfl
  · split <;> rfl
theorem room_of {k : Nat} {S : Rs} (h : Small k S) (hk : k ≤ 1000) (hn : S.n ≤ 100000) : Room S := ⟨by omega, h.1, Nat.le_trans h.2 hk⟩

set_option maxRecDepth 100000 in
set_option maxHeartbeats 4000000 in
theorem back_walk (C : PubC) (n : Int) (ts : List (List UInt8)) (fs : List (List Int)) (a1 a2 : Option Addr) (c1 c2 : Nat) (w : World) (hV : Vt w) (hn : i64 n) (ht : Vals w a1 (strs ts)) (hf : FatesIn w a2 fs) (hfr : ∀ l ∈ fs, ∀ y ∈ l, -9223372036854775808 ≤ y ∧ y ≤ 9223372036854775807)
    (hl1 : ts.length ≤ 9223372036854775807) (hl2 : fs.length ≤ 9223372036854775807) (hts : ∀ t ∈ ts, t.length ≤ 9223372036854775807) :
    Calls Tryz.prog 6 #[.int .i64 n, .slice a1 ts.length c1, .slice a2 fs.length c2] w fun e w' => e = .returned (.bool true) ∧ Below w.heap.size w w' := by
  have HAW := Lib.hid (awake_any C w hV)
  have HC := Lib.hid C; have HVT := Lib.hid hV; have HNI := Lib.hid hn; have HT := Lib.hid ht; have HF := Lib.hid hf; have HFR := Lib.hid hfr; have HTS := Lib.hid hts
  obtain ⟨L, hL⟩ : ∃ L, L = ts.length := ⟨_, rfl⟩
  obtain ⟨M', hM⟩ : ∃ M', M' = fs.length := ⟨_, rfl⟩
  rw [← hL] at hl1 ⊢
  rw [← hM] at hl2 ⊢
  have HL := Lib.hid hL; have HM := Lib.hid hM
  clear C hV hn ht hf hfr hL hM hts
  by_cases h20 : 20 < L
  · go_enter Tryz.func6, Tryz.ntmps6
    go_wp2_with fail
    refine HAW.out.mono ?_
    rintro e w1 ⟨rfl, b1⟩
    go_wp2_with fail
    refine (new_any w1).mono ?_
    rintro e w2 ⟨pb, F0, rfl, r0, hF0, b2⟩
    have HB := Lib.hid (b1.trans (b2.mono b1.size))
    clear r0 hF0 b1 b2
    go_wp2_with fail
    go_ret
    exact ⟨rfl, HB.out⟩
  by_cases hML : M' < L
  · go_enter Tryz.func6, Tryz.ntmps6
    go_wp2_with fail
    refine HAW.out.mono ?_
    rintro e w1 ⟨rfl, b1⟩
    go_wp2_with fail
    refine (new_any w1).mono ?_
    rintro e w2 ⟨pb, F0, rfl, r0, hF0, b2⟩
    have HB := Lib.hid (b1.trans (b2.mono b1.size))
    clear r0 hF0 b1 b2
    go_wp2_with fail
    go_ret
    exact ⟨rfl, HB.out⟩
  go_enter Tryz.func6, Tryz.ntmps6
  go_wp2_with fail
  refine HAW.out.mono ?_
  rintro e w1 ⟨rfl, b1⟩
  go_wp2_with fail
  refine (new_any w1).mono ?_
  rintro e w2 ⟨pb, F0, rfl, r0, hF0, b2⟩
  have HB1 := Lib.hid b1
  have hb1z := b1.size
  obtain ⟨B, hBd⟩ : ∃ B, B = w1.heap.size := ⟨_, rfl⟩
  have HB := Lib.hid (b1.trans (b2.mono b1.size))
  rw [← hBd] at r0 hb1z
  have R0 := Lib.hid r0
  clear r0 hF0 b1 b2 hBd HB1
  go_wp2_with fail
  go_loopg [9] L (fun g it wr => ∃ (i : Nat) (F : Nat → Prop) (S : Rs), i + g = L ∧ it = .int .i64 i ∧ RkS B wr pb F S ∧ Small i S ∧ S.n ≤ 3 * i ∧ Below w.heap.size w wr)
  case atStart => exact ⟨0, F0, newS, by omega, rfl, R0.out, ⟨fun o ho => by simp [newS] at ho, by simp [newS]⟩, by simp [newS], HB.out⟩
  case round =>
    obtain ⟨i, F, S, hi, rfl, hr, hsm, hsn, hbw⟩ := hrel
    have R := Lib.hid hr; have SM := Lib.hid hsm; have BW := Lib.hid hbw
    clear hr hsm hbw R0 HB
    by_cases hlt : i < L
    · have hit : i < ts.length := by rw [← HL.out]; exact hlt
      have hif : i < fs.length := by rw [← HM.out]; omega
      obtain ⟨tb, toff, rfl, htl, htc⟩ := HT.out i (by simpa [strs] using hit)
      obtain ⟨fb, foff, ka, kc, rfl, hfl2, hfc, hfv⟩ := HF.out i hif
      have hsz : (bs ts[i]).size = ts[i].length := bs_size _
      have HTS1 := Lib.hid (HTS.out ts[i] (List.getElem_mem hit))
      have HFR1 := Lib.hid (HFR.out fs[i] (List.getElem_mem hif))
      simp only [strs, List.getElem_map] at htc
      have t0 := (BW.out.cell (p := ⟨tb, _, none⟩) htl).trans htc
      have f0 := (BW.out.cell (p := ⟨fb, _, none⟩) hfl2).trans hfc
      have HFV := Lib.hid hfv; have HTC := Lib.hid htc
      clear htc hfc hfv
      generalize ts[i] = t at *
      generalize fs[i] = l at *
      have hiM : i < M' := by omega
      by_cases h300 : 300 < t.length
      · have x1 : (300 : Int) < ((bs t).size : Int) := by omega
        generalize bs t = T at *
        go_wp2_with fail
        go_ret
        exact ⟨rfl, BW.out⟩
      by_cases h50 : 50 < l.length
      · have x1 : ¬ (300 : Int) < ((bs t).size : Int) := by omega
        generalize bs t = T at *
        generalize l.length = ll at *
        go_wp2_with fail
        go_ret
        exact ⟨rfl, BW.out⟩
      have x1 : ¬ (300 : Int) < ((bs t).size : Int) := by omega
      by_cases n1 : n < 0
      · go_wp2_with fail
        refine (script_g R.out ka l kc (ints_vals (vals_below HFV.out BW.out (Nat.le_refl _))) (by omega) HFR1.out).mono ?_
        rintro e w3 ⟨F3, rfl, g3⟩
        have B3 := Lib.hid (BW.out.trans ((goes_below R.out g3).mono hb1z))
        have t3 := (B3.out.cell (p := ⟨tb, _, none⟩) htl).trans HTC.out
        have R3 := Lib.hid g3.1
        clear g3
        go_wp2_with fail
        refine (HC.out.upload (n := n) (b := t) R3.out (vb_of HVT.out hb1z B3.out) (room_of (k := i) SM.out (by omega) (by show S.n ≤ _; omega)) HNI.out (by omega)).mono ?_
        rintro e w4 ⟨F4, rfl, g4⟩
        have B4 := Lib.hid (B3.out.trans ((goes_below R3.out g4).mono hb1z))
        have R4 := Lib.hid g4.1
        clear g4 t3
        have hus := upload_small (n := n) (b := t) (show Small i (setS S l) from SM.out) (by omega)
        have HUS := Lib.hid hus
        clear hus
        have hup : upload (setS S l) n t = (setS S l, noSg, 1) := by unfold upload; rw [if_neg (fun hh => by have := hh.1; omega)]
        rw [hup] at R4 HUS ⊢
        rw [show sgV (setS S l, noSg, (1 : Int)).2.1 = .agg #[.int .i64 0, .int .i64 0, .int .u32 0] from rfl]
        try unfold sgV
        have a5 : Below w4.heap.size w4 (w4.alloc (.cells #[.int .i64 0, .int .i64 0, .int .u32 0] 51)) := (Below.refl _ _).alloc (Nat.le_refl _) _
        have n5 := heap_alloc_new w4 (.cells #[.int .i64 0, .int .i64 0, .int .u32 0] 51)
        have f5 : ¬ F4 w4.heap.size := fun hf => by have := (R4.out.lt hf).2; omega
        have R5 := Lib.hid (R4.out.below a5)
        have B5 := Lib.hid (B4.out.trans (a5.mono B4.out.size))
        have N5 := Lib.hid n5; have F5 := Lib.hid f5
        clear a5 n5 f5
        go_wp2_with fail
        generalize w4.alloc _ = w5 at *
        refine (script_g R5.out none [] 0 (ints_nil _) (by simp) (fun y hy => by simp at hy)).mono ?_
        rintro e w6 ⟨F6, rfl, g6⟩
        have B6 := Lib.hid (B5.out.trans ((goes_below R5.out g6).mono hb1z))
        have l5 : w4.heap.size < w5.heap.size := (Array.getElem?_eq_some_iff.1 N5.out).1
        have n6 := (goes_block g6 l5 F5.out).trans N5.out
        have R6 := Lib.hid g6.1
        clear g6
        clear n6
        go_wp2_with fail
        go_roundg (gk - 1)
        case measure => omega
        case rel => exact ⟨i + 1, F6, setS (setS S l) [], by omega, by go_num, R6.out, ⟨SM.out.1, by have := SM.out.2; show S.obs.length ≤ _; omega⟩, by show S.n ≤ _; push_cast; omega, B6.out⟩
      by_cases n2 : 999999 < n
      · go_wp2_with fail
        refine (script_g R.out ka l kc (ints_vals (vals_below HFV.out BW.out (Nat.le_refl _))) (by omega) HFR1.out).mono ?_
        rintro e w3 ⟨F3, rfl, g3⟩
        have B3 := Lib.hid (BW.out.trans ((goes_below R.out g3).mono hb1z))
        have t3 := (B3.out.cell (p := ⟨tb, _, none⟩) htl).trans HTC.out
        have R3 := Lib.hid g3.1
        clear g3
        go_wp2_with fail
        refine (HC.out.upload (n := n) (b := t) R3.out (vb_of HVT.out hb1z B3.out) (room_of (k := i) SM.out (by omega) (by show S.n ≤ _; omega)) HNI.out (by omega)).mono ?_
        rintro e w4 ⟨F4, rfl, g4⟩
        have B4 := Lib.hid (B3.out.trans ((goes_below R3.out g4).mono hb1z))
        have R4 := Lib.hid g4.1
        clear g4 t3
        have hus := upload_small (n := n) (b := t) (show Small i (setS S l) from SM.out) (by omega)
        have HUS := Lib.hid hus
        clear hus
        have hup : upload (setS S l) n t = (setS S l, noSg, 1) := by unfold upload; rw [if_neg (fun hh => by have := hh.1; omega)]
        rw [hup] at R4 HUS ⊢
        rw [show sgV (setS S l, noSg, (1 : Int)).2.1 = .agg #[.int .i64 0, .int .i64 0, .int .u32 0] from rfl]
        try unfold sgV
        have a5 : Below w4.heap.size w4 (w4.alloc (.cells #[.int .i64 0, .int .i64 0, .int .u32 0] 51)) := (Below.refl _ _).alloc (Nat.le_refl _) _
        have n5 := heap_alloc_new w4 (.cells #[.int .i64 0, .int .i64 0, .int .u32 0] 51)
        have f5 : ¬ F4 w4.heap.size := fun hf => by have := (R4.out.lt hf).2; omega
        have R5 := Lib.hid (R4.out.below a5)
        have B5 := Lib.hid (B4.out.trans (a5.mono B4.out.size))
        have N5 := Lib.hid n5; have F5 := Lib.hid f5
        clear a5 n5 f5
        go_wp2_with fail
        generalize w4.alloc _ = w5 at *
        refine (script_g R5.out none [] 0 (ints_nil _) (by simp) (fun y hy => by simp at hy)).mono ?_
        rintro e w6 ⟨F6, rfl, g6⟩
        have B6 := Lib.hid (B5.out.trans ((goes_below R5.out g6).mono hb1z))
        have l5 : w4.heap.size < w5.heap.size := (Array.getElem?_eq_some_iff.1 N5.out).1
        have n6 := (goes_block g6 l5 F5.out).trans N5.out
        have R6 := Lib.hid g6.1
        clear g6
        clear n6
        go_wp2_with fail
        go_roundg (gk - 1)
        case measure => omega
        case rel => exact ⟨i + 1, F6, setS (setS S l) [], by omega, by go_num, R6.out, ⟨SM.out.1, by have := SM.out.2; show S.obs.length ≤ _; omega⟩, by show S.n ≤ _; push_cast; omega, B6.out⟩
      by_cases he : (upload (setS S l) n t).2.2 = 0
      · go_wp2_with fail
        refine (script_g R.out ka l kc (ints_vals (vals_below HFV.out BW.out (Nat.le_refl _))) (by omega) HFR1.out).mono ?_
        rintro e w3 ⟨F3, rfl, g3⟩
        have B3 := Lib.hid (BW.out.trans ((goes_below R.out g3).mono hb1z))
        have t3 := (B3.out.cell (p := ⟨tb, _, none⟩) htl).trans HTC.out
        have R3 := Lib.hid g3.1
        clear g3
        go_wp2_with fail
        refine (HC.out.upload (n := n) (b := t) R3.out (vb_of HVT.out hb1z B3.out) (room_of (k := i) SM.out (by omega) (by show S.n ≤ _; omega)) HNI.out (by omega)).mono ?_
        rintro e w4 ⟨F4, rfl, g4⟩
        have B4 := Lib.hid (B3.out.trans ((goes_below R3.out g4).mono hb1z))
        have R4 := Lib.hid g4.1
        clear g4 t3
        have hus := upload_small (n := n) (b := t) (show Small i (setS S l) from SM.out) (by omega)
        have HUS := Lib.hid hus
        clear hus
        have hbk := upload_back (S := setS S l) (n := n) (b := t) ⟨by omega, by omega⟩ he (by omega) (upload (setS S l) n t).1.n
        obtain ⟨hbk1, hbk2⟩ := hbk
        rw [hbk1, he]
        obtain ⟨u, hu⟩ : ∃ u, u = sgOf n t := ⟨_, rfl⟩
        rw [← hu] at hbk2 ⊢
        have hufit : u.fit := by
          rw [hu]
          exact ⟨HNI.out, by show i64 (t.length : Nat); unfold i64; omega, sum_lt t⟩
        have HB2 := Lib.hid hbk2; have HUF := Lib.hid hufit
        clear hbk1 hbk2 hu he hufit
        try unfold sgV
        have a5 : Below w4.heap.size w4 (w4.alloc (.cells #[.int .i64 u.n, .int .i64 u.size, .int .u32 (u.sum : Nat)] 51)) := (Below.refl _ _).alloc (Nat.le_refl _) _
        have n5 := heap_alloc_new w4 (.cells #[.int .i64 u.n, .int .i64 u.size, .int .u32 (u.sum : Nat)] 51)
        have f5 : ¬ F4 w4.heap.size := fun hf => by have := (R4.out.lt hf).2; omega
        have R5 := Lib.hid (R4.out.below a5)
        have B5 := Lib.hid (B4.out.trans (a5.mono B4.out.size))
        have N5 := Lib.hid n5; have F5 := Lib.hid f5
        clear a5 n5 f5
        go_wp2_with fail
        generalize w4.alloc _ = w5 at *
        refine (script_g R5.out none [] 0 (ints_nil _) (by simp) (fun y hy => by simp at hy)).mono ?_
        rintro e w6 ⟨F6, rfl, g6⟩
        have B6 := Lib.hid (B5.out.trans ((goes_below R5.out g6).mono hb1z))
        have l5 : w4.heap.size < w5.heap.size := (Array.getElem?_eq_some_iff.1 N5.out).1
        have n6 := (goes_block g6 l5 F5.out).trans N5.out
        have R6 := Lib.hid g6.1
        clear g6
        have hc6 := fun j => cell_of_row w6 w4.heap.size j _ _ (0, 0) n6
        have e0 := hc6 0; have e1 := hc6 1; have e2 := hc6 2
        simp only [List.getElem?_toArray, List.getElem?_cons_succ, List.getElem?_cons_zero] at e0 e1 e2
        clear hc6 n6
        go_wp2_with fail
        refine (HC.out.fetch (s := u) R6.out (vb_of HVT.out hb1z B6.out) (room_of (k := i + 1) (show Small (i + 1) (setS (upload (setS S l) n t).1 []) from HUS.out.1) (by omega) (by have := HUS.out.2; show (upload (setS S l) n t).1.n ≤ _; have e : (setS S l).n = S.n := rfl; omega)) HUF.out).mono ?_
        rintro e w7 ⟨F7, rfl, g7⟩
        have hst : setS (upload (setS S l) n t).1 [] = ⟨(upload (setS S l) n t).1.obs, [], (upload (setS S l) n t).1.n⟩ := rfl
        rw [hst] at g7
        rw [hst, HB2.out]
        rw [HB2.out] at g7
        have B7 := Lib.hid (B6.out.trans ((goes_below R6.out ⟨g7.1, g7.2.1, g7.2.2⟩).mono hb1z))
        have t7 := (B7.out.cell (p := ⟨tb, _, none⟩) htl).trans HTC.out
        have R7 := Lib.hid g7.1
        clear g7 e0 e1 e2
        have y1 : ((bs t).toList == (bs t).toList) = true := by simp
        go_wp2_with fail
        go_roundg (gk - 1)
        case measure => omega
        case rel => exact ⟨i + 1, F7, _, by omega, by go_num, R7.out, HUS.out.1, by have := HUS.out.2; have e : (setS S l).n = S.n := rfl; show (upload (setS S l) n t).1.n + 1 ≤ _; push_cast; omega, B7.out⟩
      · go_wp2_with fail
        refine (script_g R.out ka l kc (ints_vals (vals_below HFV.out BW.out (Nat.le_refl _))) (by omega) HFR1.out).mono ?_
        rintro e w3 ⟨F3, rfl, g3⟩
        have B3 := Lib.hid (BW.out.trans ((goes_below R.out g3).mono hb1z))
        have t3 := (B3.out.cell (p := ⟨tb, _, none⟩) htl).trans HTC.out
        have R3 := Lib.hid g3.1
        clear g3
        go_wp2_with fail
        refine (HC.out.upload (n := n) (b := t) R3.out (vb_of HVT.out hb1z B3.out) (room_of (k := i) SM.out (by omega) (by show S.n ≤ _; omega)) HNI.out (by omega)).mono ?_
        rintro e w4 ⟨F4, rfl, g4⟩
        have B4 := Lib.hid (B3.out.trans ((goes_below R3.out g4).mono hb1z))
        have R4 := Lib.hid g4.1
        clear g4 t3
        have hus := upload_small (n := n) (b := t) (show Small i (setS S l) from SM.out) (by omega)
        have HUS := Lib.hid hus
        clear hus
        have y1 : ((upload (setS S l) n t).2.2 == 0) = false := by simpa using he
        generalize hu2 : (upload (setS S l) n t).2.1 = u at *
        generalize hue : (upload (setS S l) n t).2.2 = ue at *
        clear he
        try unfold sgV
        have a5 : Below w4.heap.size w4 (w4.alloc (.cells #[.int .i64 u.n, .int .i64 u.size, .int .u32 (u.sum : Nat)] 51)) := (Below.refl _ _).alloc (Nat.le_refl _) _
        have n5 := heap_alloc_new w4 (.cells #[.int .i64 u.n, .int .i64 u.size, .int .u32 (u.sum : Nat)] 51)
        have f5 : ¬ F4 w4.heap.size := fun hf => by have := (R4.out.lt hf).2; omega
        have R5 := Lib.hid (R4.out.below a5)
        have B5 := Lib.hid (B4.out.trans (a5.mono B4.out.size))
        have N5 := Lib.hid n5; have F5 := Lib.hid f5
        clear a5 n5 f5
        go_wp2_with fail
        generalize w4.alloc _ = w5 at *
        refine (script_g R5.out none [] 0 (ints_nil _) (by simp) (fun y hy => by simp at hy)).mono ?_
        rintro e w6 ⟨F6, rfl, g6⟩
        have B6 := Lib.hid (B5.out.trans ((goes_below R5.out g6).mono hb1z))
        have l5 : w4.heap.size < w5.heap.size := (Array.getElem?_eq_some_iff.1 N5.out).1
        have n6 := (goes_block g6 l5 F5.out).trans N5.out
        have R6 := Lib.hid g6.1
        clear g6
        clear n6
        go_wp2_with fail
        go_roundg (gk - 1)
        case measure => omega
        case rel => exact ⟨i + 1, F6, setS (upload (setS S l) n t).1 [], by omega, by go_num, R6.out, HUS.out.1, by have := HUS.out.2; have e : (setS S l).n = S.n := rfl; show (upload (setS S l) n t).1.n ≤ _; push_cast; omega, B6.out⟩
    · obtain rfl : i = L := by omega
      go_wp2_with fail
      go_ret
      exact ⟨rfl, BW.out⟩
end Go.Proofs.YtkdidinekoaobaaGreatDoor.P
