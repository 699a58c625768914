/- MergeTells over what is asked: the newest records of any, those that stand, what is left of them, and their batches. -/
import Derived.Test.YtfcfleeiffmjdaaGlst
namespace Go.Proofs.Ytfcfleeiffmjdaa.G
open Go.RowKit
set_option linter.unusedVariables false
set_option linter.unusedSimpArgs false

theorem rw_recs {w : World} {B : Nat} {v : Value} {l : List Rc} (h : Rw w B v l) : ∃ a cap, v = .slice a l.length cap ∧ Recs w a l := by
  obtain ⟨a, cap, h1, h2⟩ := h.recs
  exact ⟨a, cap, h1, h2.1⟩
/-- Two rows of the same records are the same. -/
theorem same_rows {w : World} {B B' : Nat} {v v' : Value} {l : List Rc} (h : Rw w B v l) (h' : Rw w B' v' l) (hl : l.length ≤ 1000000) :
    Calls Try.prog 11 #[v, v'] w fun e w' => e = .returned (.bool true) ∧ Below w.heap.size w w' := by
  obtain ⟨a, c, rfl, h1⟩ := rw_recs h
  obtain ⟨a', c', rfl, h2⟩ := rw_recs h'
  exact same_yes l a a' c c' w (by omega) h1 h2

set_option maxRecDepth 100000 in
set_option maxHeartbeats 4000000 in
theorem tells_walk (C : MrgC) (ll : List (List Rc)) (a : Option Addr) (cap : Nat) (elder : Bool) (w : World) (hlm : ll.length ≤ 9223372036854775807) (hin : Inp w a cap ll) (_ : True) :
    Calls Try.prog 3 #[.slice a ll.length cap, .bool elder] w fun e w' => e = .returned (.bool true) ∧ Below w.heap.size w w' := by
  have HAW := Lib.hid (fun W => awake_any C W)
  have HC := Lib.hid C
  have HI := Lib.hid hin
  have hLI : ∀ W, Old w W → Calls Try.prog 8 #[.slice a ll.length cap] W fun e w' => ∃ b : Bool, e = .returned (.bool b) ∧ (b = true → ll.length ≤ 20 ∧ ∀ l ∈ ll, l.length ≤ 40) ∧ Old w w' := fun W hW =>
    (light_law ⟨hin.lst.later hW (Nat.le_refl _), hin.came, hin.len⟩).mono fun e w' ⟨b, h1, h2, h3⟩ => ⟨b, h1, h2, hW.below h3⟩
  have HLI := Lib.hid hLI
  obtain ⟨n, hn⟩ : ∃ n, ll.length = n := ⟨_, rfl⟩
  have HN := Lib.hid hn
  rw [hn] at HLI hlm ⊢
  clear hin hLI hn
  go_enter Try.func3, Try.ntmps3
  go_wp2_with fail
  refine (HAW.out _).mono ?_
  rintro e w1 ⟨rfl, b1⟩
  have B1 := Lib.hid (show Old w w1 from b1)
  clear b1
  go_wp2_with fail
  refine (HLI.out _ B1.out).mono ?_
  rintro e w2 ⟨ok, rfl, hok, B2⟩
  have HB2 := Lib.hid B2
  clear B2 B1 HLI HAW
  cases ok
  · clear hok
    go_wp2_with fail
    go_ret
    exact ⟨rfl, HB2.out⟩
  obtain ⟨hok1, hok2⟩ := hok rfl
  have hroom := room_of (ll := ll) (by rw [HN.out]; omega) (fun l hl => by have := hok2 l hl; omega)
  have HR := Lib.hid hroom
  have hn20 : n ≤ 20 := hok1
  have HF : Hid (Fits2 ll) := Lib.hid (fun l hl => Came2.fits HI.out.came l hl)
  have hRN : ∀ W, Old w W → Calls Try.prog 10 #[.slice a n cap] W fun e w' => ∃ v, e = .returned v ∧ Rw w' w.heap.size v (nw ll.flatten) ∧ Old w w' ∧ Below W.heap.size W w' := fun W hW => by
    have h := refnewest_any (cap := cap) (HI.out.lst.later hW (Nat.le_refl _)).1.bats hroom HF.out
    rw [HN.out] at h
    exact h.mono fun e w' ⟨v, h1, h2, h3⟩ => ⟨v, h1, h2.base hW.size, hW.below h3, h3⟩
  have hRL : ∀ W, Old w W → Calls Try.prog 9 #[.slice a n cap] W fun e w' => ∃ v, e = .returned v ∧ Rw w' w.heap.size v (live ll.flatten) ∧ Old w w' ∧ Below W.heap.size W w' := fun W hW => by
    have h := reflive_any (cap := cap) (HI.out.lst.later hW (Nat.le_refl _)).1.bats hroom HF.out
    rw [HN.out] at h
    exact h.mono fun e w' ⟨v, h1, h2, h3⟩ => ⟨v, h1, h2.base hW.size, hW.below h3, h3⟩
  have hPN : ∀ W, Old w W → Calls Try.prog 12 #[.slice a n cap] W fun e w' => ∃ v, e = .returned v ∧ Rw w' w.heap.size v (nw ll.flatten) ∧ Old w w' ∧ Below W.heap.size W w' := fun W hW => by
    have h := HC.out.newest (HI.out.lst.later hW (Nat.le_refl _)) hroom HI.out.came
    rw [HN.out] at h
    exact h.mono fun e w' ⟨v, h1, h2, h3⟩ => ⟨v, h1, h2.base hW.size, hW.below h3, h3⟩
  have hPL : ∀ W, Old w W → Calls Try.prog 13 #[.slice a n cap] W fun e w' => ∃ v, e = .returned v ∧ Rw w' w.heap.size v (live ll.flatten) ∧ Old w w' ∧ Below W.heap.size W w' := fun W hW => by
    have h := HC.out.live (HI.out.lst.later hW (Nat.le_refl _)) hroom HI.out.came
    rw [HN.out] at h
    exact h.mono fun e w' ⟨v, h1, h2, h3⟩ => ⟨v, h1, h2.base hW.size, hW.below h3, h3⟩
  have hPM : ∀ W, Old w W → Calls Try.prog 14 #[.bool elder, .slice a n cap] W fun e w' => ∃ v, e = .returned v ∧ Rw w' w.heap.size v (mrg elder ll.flatten) ∧ Old w w' ∧ Below W.heap.size W w' := fun W hW => by
    have h := HC.out.merge (elder := elder) (HI.out.lst.later hW (Nat.le_refl _)) hroom HI.out.came
    rw [HN.out] at h
    exact h.mono fun e w' ⟨v, h1, h2, h3⟩ => ⟨v, h1, h2.base hW.size, hW.below h3, h3⟩
  have hz1 : (nw ll.flatten).length ≤ 1000000 := Nat.le_trans (nw_length _) hroom.2.2
  have hz2 : (live ll.flatten).length ≤ 1000000 := Nat.le_trans (live_length _) hroom.2.2
  have HZ1 := Lib.hid hz1; have HZ2 := Lib.hid hz2
  have HRN := Lib.hid hRN; have HRL := Lib.hid hRL; have HPN := Lib.hid hPN; have HPL := Lib.hid hPL; have HPM := Lib.hid hPM
  have HK1 := Lib.hid hok1; have HK2 := Lib.hid hok2
  clear hok hok1 hok2 hroom hRN hRL hPN hPL hPM hz1 hz2
  go_wp2_with fail
  refine (HRL.out _ HB2.out).mono ?_
  rintro e w3 ⟨v3, rfl, r3, o3, _⟩
  have HR3 := Lib.hid r3; have HO3 := Lib.hid o3
  clear r3 o3 HB2
  -- what is wanted of Merge
  cases elder
  · have HWT : Hid (Rw w3 w.heap.size v3 (mrg false ll.flatten)) := Lib.hid HR3.out
    have HO4 := Lib.hid HO3.out
    have HZ : Hid ((mrg false ll.flatten).length ≤ 1000000) := Lib.hid HZ2.out
    clear HR3 HO3
    have HWM : Hid ((mrg false ll.flatten).length ≤ 1000000) := Lib.hid HZ.out
    go_wp2_with fail
    refine (HPN.out _ HO4.out).mono ?_
    rintro e w5 ⟨v5, rfl, r5, o5, b5⟩
    have H5 := Lib.hid r5; have O5 := Lib.hid o5; have HWT5 := Lib.hid (HWT.out.later b5)
    clear r5 o5 b5 HO4 HWT
    go_wp2_with fail
    refine (HRN.out _ O5.out).mono ?_
    rintro e w6 ⟨v6, rfl, r6, o6, b6⟩
    have H6 := Lib.hid r6; have O6 := Lib.hid o6; have H56 := Lib.hid (H5.out.later b6); have HWT6 := Lib.hid (HWT5.out.later b6)
    clear r6 o6 b6 O5 H5 HWT5
    go_wp2_with fail
    refine (same_rows H56.out H6.out HZ1.out).mono ?_
    rintro e w7 ⟨rfl, b7⟩
    have O7 := Lib.hid (O6.out.below b7); have HWT7 := Lib.hid (HWT6.out.later b7)
    clear b7 O6 H6 H56 HWT6
    go_wp2_with fail
    refine (HPL.out _ O7.out).mono ?_
    rintro e w8 ⟨v8, rfl, r8, o8, b8⟩
    have H8 := Lib.hid r8; have O8 := Lib.hid o8; have HWT8 := Lib.hid (HWT7.out.later b8)
    clear r8 o8 b8 O7 HWT7
    go_wp2_with fail
    refine (HRL.out _ O8.out).mono ?_
    rintro e w9 ⟨v9, rfl, r9, o9, b9⟩
    have H9 := Lib.hid r9; have O9 := Lib.hid o9; have H89 := Lib.hid (H8.out.later b9); have HWT9 := Lib.hid (HWT8.out.later b9)
    clear r9 o9 b9 O8 H8 HWT8
    go_wp2_with fail
    refine (same_rows H89.out H9.out HZ2.out).mono ?_
    rintro e w10 ⟨rfl, b10⟩
    have O10 := Lib.hid (O9.out.below b10); have HWT10 := Lib.hid (HWT9.out.later b10)
    clear b10 O9 H9 H89 HWT9
    go_wp2_with fail
    refine (HPM.out _ O10.out).mono ?_
    rintro e w11 ⟨v11, rfl, r11, o11, b11⟩
    have H11 := Lib.hid r11; have O11 := Lib.hid o11; have HWT11 := Lib.hid (HWT10.out.later b11)
    clear r11 o11 b11 O10 HWT10
    go_wp2_with fail
    refine (same_rows H11.out HWT11.out HWM.out).mono ?_
    rintro e w12 ⟨rfl, b12⟩
    have O12 := Lib.hid (O11.out.below b12)
    clear b12 O11 H11 HWT11 HPN HRN HPL HRL HPM
    have K0 := Old.refl w12
    by_cases h0 : n = 0
    · subst h0
      go_wp2_with fail
      refine wp_region_held_drew (S := fun W => Old w12 W) (by kernel_rfl) K0.drew (fun hHeld => ?_)
      refine wpAnyH_take (i := 0) (v := ?_) rfl (by kernel_rfl) (by kernel_rfl) (by kernel_rfl) (fun _ _ _ h => h) (Or.inl ⟨by rfl, ?_⟩) hHeld ?_
      rotate_left
      · intro W hSw
        go_simp
        try with_reducible rfl
      try simp only [Act.put, List.getElem_toArray, List.getElem_cons_zero, List.getElem_cons_succ, List.setIfInBounds_toArray, List.set_cons_zero, List.set_cons_succ]
      refine wpAnyH_take (i := 1) (v := ?_) rfl (by kernel_rfl) (by kernel_rfl) (by kernel_rfl) (fun _ _ _ h => h) (Or.inl ⟨by rfl, ?_⟩) hHeld ?_
      rotate_left
      · intro W hSw
        go_simp
        try with_reducible rfl
      try simp only [Act.put, List.getElem_toArray, List.getElem_cons_zero, List.getElem_cons_succ, List.setIfInBounds_toArray, List.set_cons_zero, List.set_cons_succ]
      refine wpAnyH_take (i := 2) (v := ?_) rfl (by kernel_rfl) (by kernel_rfl) (by kernel_rfl) (fun _ _ _ h => h) (Or.inl ⟨by rfl, ?_⟩) hHeld ?_
      rotate_left
      · intro W hSw
        go_simp
        try with_reducible rfl
      try simp only [Act.put, List.getElem_toArray, List.getElem_cons_zero, List.getElem_cons_succ, List.setIfInBounds_toArray, List.set_cons_zero, List.set_cons_succ]
      refine wpAnyH_take (i := 3) (v := ?_) rfl (by kernel_rfl) (by kernel_rfl) (by kernel_rfl) (fun _ _ _ h => h) (Or.inl ⟨by rfl, ?_⟩) hHeld ?_
      rotate_left
      · intro W hSw
        go_simp
        try with_reducible rfl
      try simp only [Act.put, List.getElem_toArray, List.getElem_cons_zero, List.getElem_cons_succ, List.setIfInBounds_toArray, List.set_cons_zero, List.set_cons_succ]
      refine wpAnyH_take (i := 4) (v := undef) rfl (by kernel_rfl) (by kernel_rfl) (by kernel_rfl) (fun _ _ _ h => h) (Or.inr ⟨by kernel_rfl, rfl⟩) hHeld ?_
      try simp only [Act.put, List.getElem_toArray, List.getElem_cons_zero, List.getElem_cons_succ, List.setIfInBounds_toArray, List.set_cons_zero, List.set_cons_succ]
      refine wpAnyH_take (i := 5) (v := undef) rfl (by kernel_rfl) (by kernel_rfl) (by kernel_rfl) (fun _ _ _ h => h) (Or.inr ⟨by kernel_rfl, rfl⟩) hHeld ?_
      try simp only [Act.put, List.getElem_toArray, List.getElem_cons_zero, List.getElem_cons_succ, List.setIfInBounds_toArray, List.set_cons_zero, List.set_cons_succ]
      refine wpAnyH_take (i := 6) (v := undef) rfl (by kernel_rfl) (by kernel_rfl) (by kernel_rfl) (fun _ _ _ h => h) (Or.inr ⟨by kernel_rfl, rfl⟩) hHeld ?_
      try simp only [Act.put, List.getElem_toArray, List.getElem_cons_zero, List.getElem_cons_succ, List.setIfInBounds_toArray, List.set_cons_zero, List.set_cons_succ]
      refine wpAnyH_take (i := 7) (v := undef) rfl (by kernel_rfl) (by kernel_rfl) (by kernel_rfl) (fun _ _ _ h => h) (Or.inr ⟨by kernel_rfl, rfl⟩) hHeld ?_
      try simp only [Act.put, List.getElem_toArray, List.getElem_cons_zero, List.getElem_cons_succ, List.setIfInBounds_toArray, List.set_cons_zero, List.set_cons_succ]
      refine wpAnyH_take (i := 8) (v := undef) rfl (by kernel_rfl) (by kernel_rfl) (by kernel_rfl) (fun _ _ _ h => h) (Or.inr ⟨by kernel_rfl, rfl⟩) hHeld ?_
      try simp only [Act.put, List.getElem_toArray, List.getElem_cons_zero, List.getElem_cons_succ, List.setIfInBounds_toArray, List.set_cons_zero, List.set_cons_succ]
      refine wpAnyH_take (i := 9) (v := undef) rfl (by kernel_rfl) (by kernel_rfl) (by kernel_rfl) (fun _ _ _ h => h) (Or.inr ⟨by kernel_rfl, rfl⟩) hHeld ?_
      try simp only [Act.put, List.getElem_toArray, List.getElem_cons_zero, List.getElem_cons_succ, List.setIfInBounds_toArray, List.set_cons_zero, List.set_cons_succ]
      refine wpAnyH_take (i := 10) (v := undef) rfl (by kernel_rfl) (by kernel_rfl) (by kernel_rfl) (fun _ _ _ h => h) (Or.inr ⟨by kernel_rfl, rfl⟩) hHeld ?_
      try simp only [Act.put, List.getElem_toArray, List.getElem_cons_zero, List.getElem_cons_succ, List.setIfInBounds_toArray, List.set_cons_zero, List.set_cons_succ]
      refine wpAnyH_take (i := 11) (v := undef) rfl (by kernel_rfl) (by kernel_rfl) (by kernel_rfl) (fun _ _ _ h => h) (Or.inr ⟨by kernel_rfl, rfl⟩) hHeld ?_
      try simp only [Act.put, List.getElem_toArray, List.getElem_cons_zero, List.getElem_cons_succ, List.setIfInBounds_toArray, List.set_cons_zero, List.set_cons_succ]
      refine wpAnyH_take (i := 12) (v := undef) rfl (by kernel_rfl) (by kernel_rfl) (by kernel_rfl) (fun _ _ _ h => h) (Or.inr ⟨by kernel_rfl, rfl⟩) hHeld ?_
      try simp only [Act.put, List.getElem_toArray, List.getElem_cons_zero, List.getElem_cons_succ, List.setIfInBounds_toArray, List.set_cons_zero, List.set_cons_succ]
      refine wpAnyH_take (i := 13) (v := ?_) rfl (by kernel_rfl) (by kernel_rfl) (by kernel_rfl) (fun _ _ _ h => h) (Or.inl ⟨by rfl, ?_⟩) hHeld ?_
      rotate_left
      · intro W hSw
        go_simp
        try with_reducible rfl
      try simp only [Act.put, List.getElem_toArray, List.getElem_cons_zero, List.getElem_cons_succ, List.setIfInBounds_toArray, List.set_cons_zero, List.set_cons_succ]
      refine wpAnyH_take (i := 14) (v := ?_) rfl (by kernel_rfl) (by kernel_rfl) (by kernel_rfl) (fun _ _ _ h => h) (Or.inl ⟨by rfl, ?_⟩) hHeld ?_
      rotate_left
      · intro W hSw
        go_simp
        try with_reducible rfl
      try simp only [Act.put, List.getElem_toArray, List.getElem_cons_zero, List.getElem_cons_succ, List.setIfInBounds_toArray, List.set_cons_zero, List.set_cons_succ]
      refine wpAnyH_done (by kernel_rfl) ?_ _
      go_wp2_with fail
      go_ret
      exact ⟨rfl, O12.out.drew⟩
    · obtain ⟨b0, off0, ha, hb0, a0, cap0, c0, k1, k2, r0⟩ := HI.out.lst.1 0 (by rw [HN.out]; omega)
      have HL0 : Hid (ll[0]'(by rw [HN.out]; omega) ∈ ll) := Lib.hid (List.getElem_mem _)
      obtain ⟨l0, hl0⟩ : ∃ l0, ll[0]'(by rw [HN.out]; omega) = l0 := ⟨_, rfl⟩
      rw [hl0] at c0 k1 r0 HL0
      have h40 : l0.length ≤ 40 := HK2.out l0 HL0.out
      have hcm := HI.out.came l0 HL0.out
      have hbl := bat_len l0
      have hsz : ∀ l ∈ bat l0, l.length ≤ 9223372036854775807 := fun l hl => by
        obtain ⟨i, hi, rfl⟩ := List.mem_iff_getElem.1 hl
        have := (bat_size l0 i hi).2
        omega
      have hPB : ∀ W, Old w W → Calls Try.prog 16 #[.slice a0 l0.length cap0] W fun e w' => ∃ a' cap', e = .returned (.slice a' (bat l0).length cap') ∧ Bats w' a' (bat l0) ∧ Old w w' ∧ Below W.heap.size W w' := fun W hW =>
        (HC.out.batches (r0.later hW (Nat.le_refl _)) (by omega) k1 k2 hcm.2).mono fun e w' ⟨a', c', h1, h2, h3⟩ => ⟨a', c', h1, h2, hW.below h3, h3⟩
      have hRB : ∀ W, Old w W → Calls Try.prog 17 #[.slice a0 l0.length cap0] W fun e w' => ∃ a' cap', e = .returned (.slice a' (bat l0).length cap') ∧ Bats w' a' (bat l0) ∧ Old w w' ∧ Below W.heap.size W w' := fun W hW =>
        (refbatches_any (r0.later hW (Nat.le_refl _)) (by omega) k1).mono fun e w' ⟨a', c', h1, h2, h3⟩ => ⟨a', c', h1, h2, hW.below h3, h3⟩
      have hSA : ∀ W a' c' a'' c'', Old w W → Bats W a' (bat l0) → Bats W a'' (bat l0) → Calls Try.prog 15 #[.slice a' (bat l0).length c', .slice a'' (bat l0).length c''] W fun e w' => e = .returned (.bool true) ∧ Old w w' ∧ Below W.heap.size W w' := fun W a' c' a'' c'' hW h1 h2 =>
        (same2_yes (bat l0) a' a'' c' c'' W (by omega) hsz h1 h2).mono fun e w' h => ⟨h.1, hW.below h.2, h.2⟩
      have HPB := Lib.hid hPB; have HRB := Lib.hid hRB; have HSA := Lib.hid hSA
      have hO12 := O12.out
      have m0 : ∀ W, Old w12 W → W.cell? ⟨b0, off0, none⟩ = some (.slice a0 l0.length cap0) := fun W hW => by
        have := (Below.cell (p := ⟨b0, off0 + 0, none⟩) (hO12.below hW) hb0).trans c0
        exact this
      clear hPB hRB hSA hcm hsz c0 r0 hl0
      have hB1 : (bat l0).length ≤ 10 := by omega
      clear hbl
      generalize (bat l0).length = BL at *
      generalize l0.length = L0 at *
      subst ha
      have hn0 : 0 < n := by omega
      have hn0' : (0 : Int) < (n : Int) := by omega
      have q0 : (n == 0) = false := by rw [beq_eq_false_iff_ne]; exact h0
      have q1 : ((n : Int) == 0) = false := by rw [beq_eq_false_iff_ne]; omega
      have q2 : decide ((n : Int) = 0) = false := decide_eq_false (by omega)
      have q3 : decide (n = 0) = false := decide_eq_false h0
      clear hO12
      go_wp2_with fail
      have HT := Lib.hid (fun W (hW : Old w12 W) => O12.out.below hW)
      go_region_held3 (fun W => Old w12 W) (first | assumption | exact K0 | exact K0.drew | exact Old.drew ‹_›)
        (first
          | (go_at_call 16
             refine (HPB.out _ (HT.out _ (by first | exact K0.drew | assumption | exact Old.drew ‹_›))).mono ?_
             rintro e w13 ⟨a13, c13, rfl, h13, o13, b13⟩
             have K13 : Old w12 w13 := Old.below (by first | exact K0.drew | assumption | exact Old.drew ‹_›) b13
             try dsimp only)
          | (go_at_call 17
             refine (HRB.out _ (HT.out _ (by first | assumption | exact Old.drew ‹_›))).mono ?_
             rintro e w14 ⟨a14, c14, rfl, h14, o14, b14⟩
             have K14 : Old w12 w14 := Old.below (by first | assumption | exact Old.drew ‹_›) b14
             have h13' := Bats.later h13 b14 (Nat.le_refl _)
             try dsimp only)
          | (go_at_call 15
             (with_reducible refine (HSA.out w14 a13 c13 a14 c14 o14 h13' h14).mono ?_)
             rintro e w15 ⟨rfl, o15, b15⟩
             have K15 : Old w12 w15 := K14.below b15
             try dsimp only))
      have HFN := Lib.hid o15
      clear m0 h13 h13' h14 K13 K14 K15 b13 b14 b15 K0 o13 o14 o15
      go_wp2_with fail
      go_ret
      exact ⟨rfl, HFN.out⟩
  · go_wp2_with fail
    refine (HRN.out _ HO3.out).mono ?_
    rintro e w4 ⟨v4, rfl, r4, o4, _⟩
    have HWT : Hid (Rw w4 w.heap.size v4 (mrg true ll.flatten)) := Lib.hid r4
    have HO4 := Lib.hid o4
    have HZ : Hid ((mrg true ll.flatten).length ≤ 1000000) := Lib.hid HZ1.out
    clear HR3 HO3 r4 o4
    have HWM : Hid ((mrg true ll.flatten).length ≤ 1000000) := Lib.hid HZ.out
    go_wp2_with fail
    refine (HPN.out _ HO4.out).mono ?_
    rintro e w5 ⟨v5, rfl, r5, o5, b5⟩
    have H5 := Lib.hid r5; have O5 := Lib.hid o5; have HWT5 := Lib.hid (HWT.out.later b5)
    clear r5 o5 b5 HO4 HWT
    go_wp2_with fail
    refine (HRN.out _ O5.out).mono ?_
    rintro e w6 ⟨v6, rfl, r6, o6, b6⟩
    have H6 := Lib.hid r6; have O6 := Lib.hid o6; have H56 := Lib.hid (H5.out.later b6); have HWT6 := Lib.hid (HWT5.out.later b6)
    clear r6 o6 b6 O5 H5 HWT5
    go_wp2_with fail
    refine (same_rows H56.out H6.out HZ1.out).mono ?_
    rintro e w7 ⟨rfl, b7⟩
    have O7 := Lib.hid (O6.out.below b7); have HWT7 := Lib.hid (HWT6.out.later b7)
    clear b7 O6 H6 H56 HWT6
    go_wp2_with fail
    refine (HPL.out _ O7.out).mono ?_
    rintro e w8 ⟨v8, rfl, r8, o8, b8⟩
    have H8 := Lib.hid r8; have O8 := Lib.hid o8; have HWT8 := Lib.hid (HWT7.out.later b8)
    clear r8 o8 b8 O7 HWT7
    go_wp2_with fail
    refine (HRL.out _ O8.out).mono ?_
    rintro e w9 ⟨v9, rfl, r9, o9, b9⟩
    have H9 := Lib.hid r9; have O9 := Lib.hid o9; have H89 := Lib.hid (H8.out.later b9); have HWT9 := Lib.hid (HWT8.out.later b9)
    clear r9 o9 b9 O8 H8 HWT8
    go_wp2_with fail
    refine (same_rows H89.out H9.out HZ2.out).mono ?_
    rintro e w10 ⟨rfl, b10⟩
    have O10 := Lib.hid (O9.out.below b10); have HWT10 := Lib.hid (HWT9.out.later b10)
    clear b10 O9 H9 H89 HWT9
    go_wp2_with fail
    refine (HPM.out _ O10.out).mono ?_
    rintro e w11 ⟨v11, rfl, r11, o11, b11⟩
    have H11 := Lib.hid r11; have O11 := Lib.hid o11; have HWT11 := Lib.hid (HWT10.out.later b11)
    clear r11 o11 b11 O10 HWT10
    go_wp2_with fail
    refine (same_rows H11.out HWT11.out HWM.out).mono ?_
    rintro e w12 ⟨rfl, b12⟩
    have O12 := Lib.hid (O11.out.below b12)
    clear b12 O11 H11 HWT11 HPN HRN HPL HRL HPM
    have K0 := Old.refl w12
    by_cases h0 : n = 0
    · subst h0
      go_wp2_with fail
      refine wp_region_held_drew (S := fun W => Old w12 W) (by kernel_rfl) K0.drew (fun hHeld => ?_)
      refine wpAnyH_take (i := 0) (v := ?_) rfl (by kernel_rfl) (by kernel_rfl) (by kernel_rfl) (fun _ _ _ h => h) (Or.inl ⟨by rfl, ?_⟩) hHeld ?_
      rotate_left
      · intro W hSw
        go_simp
        try with_reducible rfl
      try simp only [Act.put, List.getElem_toArray, List.getElem_cons_zero, List.getElem_cons_succ, List.setIfInBounds_toArray, List.set_cons_zero, List.set_cons_succ]
      refine wpAnyH_take (i := 1) (v := ?_) rfl (by kernel_rfl) (by kernel_rfl) (by kernel_rfl) (fun _ _ _ h => h) (Or.inl ⟨by rfl, ?_⟩) hHeld ?_
      rotate_left
      · intro W hSw
        go_simp
        try with_reducible rfl
      try simp only [Act.put, List.getElem_toArray, List.getElem_cons_zero, List.getElem_cons_succ, List.setIfInBounds_toArray, List.set_cons_zero, List.set_cons_succ]
      refine wpAnyH_take (i := 2) (v := ?_) rfl (by kernel_rfl) (by kernel_rfl) (by kernel_rfl) (fun _ _ _ h => h) (Or.inl ⟨by rfl, ?_⟩) hHeld ?_
      rotate_left
      · intro W hSw
        go_simp
        try with_reducible rfl
      try simp only [Act.put, List.getElem_toArray, List.getElem_cons_zero, List.getElem_cons_succ, List.setIfInBounds_toArray, List.set_cons_zero, List.set_cons_succ]
      refine wpAnyH_take (i := 3) (v := ?_) rfl (by kernel_rfl) (by kernel_rfl) (by kernel_rfl) (fun _ _ _ h => h) (Or.inl ⟨by rfl, ?_⟩) hHeld ?_
      rotate_left
      · intro W hSw
        go_simp
        try with_reducible rfl
      try simp only [Act.put, List.getElem_toArray, List.getElem_cons_zero, List.getElem_cons_succ, List.setIfInBounds_toArray, List.set_cons_zero, List.set_cons_succ]
      refine wpAnyH_take (i := 4) (v := undef) rfl (by kernel_rfl) (by kernel_rfl) (by kernel_rfl) (fun _ _ _ h => h) (Or.inr ⟨by kernel_rfl, rfl⟩) hHeld ?_
      try simp only [Act.put, List.getElem_toArray, List.getElem_cons_zero, List.getElem_cons_succ, List.setIfInBounds_toArray, List.set_cons_zero, List.set_cons_succ]
      refine wpAnyH_take (i := 5) (v := undef) rfl (by kernel_rfl) (by kernel_rfl) (by kernel_rfl) (fun _ _ _ h => h) (Or.inr ⟨by kernel_rfl, rfl⟩) hHeld ?_
      try simp only [Act.put, List.getElem_toArray, List.getElem_cons_zero, List.getElem_cons_succ, List.setIfInBounds_toArray, List.set_cons_zero, List.set_cons_succ]
      refine wpAnyH_take (i := 6) (v := undef) rfl (by kernel_rfl) (by kernel_rfl) (by kernel_rfl) (fun _ _ _ h => h) (Or.inr ⟨by kernel_rfl, rfl⟩) hHeld ?_
      try simp only [Act.put, List.getElem_toArray, List.getElem_cons_zero, List.getElem_cons_succ, List.setIfInBounds_toArray, List.set_cons_zero, List.set_cons_succ]
      refine wpAnyH_take (i := 7) (v := undef) rfl (by kernel_rfl) (by kernel_rfl) (by kernel_rfl) (fun _ _ _ h => h) (Or.inr ⟨by kernel_rfl, rfl⟩) hHeld ?_
      try simp only [Act.put, List.getElem_toArray, List.getElem_cons_zero, List.getElem_cons_succ, List.setIfInBounds_toArray, List.set_cons_zero, List.set_cons_succ]
      refine wpAnyH_take (i := 8) (v := undef) rfl (by kernel_rfl) (by kernel_rfl) (by kernel_rfl) (fun _ _ _ h => h) (Or.inr ⟨by kernel_rfl, rfl⟩) hHeld ?_
      try simp only [Act.put, List.getElem_toArray, List.getElem_cons_zero, List.getElem_cons_succ, List.setIfInBounds_toArray, List.set_cons_zero, List.set_cons_succ]
      refine wpAnyH_take (i := 9) (v := undef) rfl (by kernel_rfl) (by kernel_rfl) (by kernel_rfl) (fun _ _ _ h => h) (Or.inr ⟨by kernel_rfl, rfl⟩) hHeld ?_
      try simp only [Act.put, List.getElem_toArray, List.getElem_cons_zero, List.getElem_cons_succ, List.setIfInBounds_toArray, List.set_cons_zero, List.set_cons_succ]
      refine wpAnyH_take (i := 10) (v := undef) rfl (by kernel_rfl) (by kernel_rfl) (by kernel_rfl) (fun _ _ _ h => h) (Or.inr ⟨by kernel_rfl, rfl⟩) hHeld ?_
      try simp only [Act.put, List.getElem_toArray, List.getElem_cons_zero, List.getElem_cons_succ, List.setIfInBounds_toArray, List.set_cons_zero, List.set_cons_succ]
      refine wpAnyH_take (i := 11) (v := undef) rfl (by kernel_rfl) (by kernel_rfl) (by kernel_rfl) (fun _ _ _ h => h) (Or.inr ⟨by kernel_rfl, rfl⟩) hHeld ?_
      try simp only [Act.put, List.getElem_toArray, List.getElem_cons_zero, List.getElem_cons_succ, List.setIfInBounds_toArray, List.set_cons_zero, List.set_cons_succ]
      refine wpAnyH_take (i := 12) (v := undef) rfl (by kernel_rfl) (by kernel_rfl) (by kernel_rfl) (fun _ _ _ h => h) (Or.inr ⟨by kernel_rfl, rfl⟩) hHeld ?_
      try simp only [Act.put, List.getElem_toArray, List.getElem_cons_zero, List.getElem_cons_succ, List.setIfInBounds_toArray, List.set_cons_zero, List.set_cons_succ]
      refine wpAnyH_take (i := 13) (v := ?_) rfl (by kernel_rfl) (by kernel_rfl) (by kernel_rfl) (fun _ _ _ h => h) (Or.inl ⟨by rfl, ?_⟩) hHeld ?_
      rotate_left
      · intro W hSw
        go_simp
        try with_reducible rfl
      try simp only [Act.put, List.getElem_toArray, List.getElem_cons_zero, List.getElem_cons_succ, List.setIfInBounds_toArray, List.set_cons_zero, List.set_cons_succ]
      refine wpAnyH_take (i := 14) (v := ?_) rfl (by kernel_rfl) (by kernel_rfl) (by kernel_rfl) (fun _ _ _ h => h) (Or.inl ⟨by rfl, ?_⟩) hHeld ?_
      rotate_left
      · intro W hSw
        go_simp
        try with_reducible rfl
      try simp only [Act.put, List.getElem_toArray, List.getElem_cons_zero, List.getElem_cons_succ, List.setIfInBounds_toArray, List.set_cons_zero, List.set_cons_succ]
      refine wpAnyH_done (by kernel_rfl) ?_ _
      go_wp2_with fail
      go_ret
      exact ⟨rfl, O12.out.drew⟩
    · obtain ⟨b0, off0, ha, hb0, a0, cap0, c0, k1, k2, r0⟩ := HI.out.lst.1 0 (by rw [HN.out]; omega)
      have HL0 : Hid (ll[0]'(by rw [HN.out]; omega) ∈ ll) := Lib.hid (List.getElem_mem _)
      obtain ⟨l0, hl0⟩ : ∃ l0, ll[0]'(by rw [HN.out]; omega) = l0 := ⟨_, rfl⟩
      rw [hl0] at c0 k1 r0 HL0
      have h40 : l0.length ≤ 40 := HK2.out l0 HL0.out
      have hcm := HI.out.came l0 HL0.out
      have hbl := bat_len l0
      have hsz : ∀ l ∈ bat l0, l.length ≤ 9223372036854775807 := fun l hl => by
        obtain ⟨i, hi, rfl⟩ := List.mem_iff_getElem.1 hl
        have := (bat_size l0 i hi).2
        omega
      have hPB : ∀ W, Old w W → Calls Try.prog 16 #[.slice a0 l0.length cap0] W fun e w' => ∃ a' cap', e = .returned (.slice a' (bat l0).length cap') ∧ Bats w' a' (bat l0) ∧ Old w w' ∧ Below W.heap.size W w' := fun W hW =>
        (HC.out.batches (r0.later hW (Nat.le_refl _)) (by omega) k1 k2 hcm.2).mono fun e w' ⟨a', c', h1, h2, h3⟩ => ⟨a', c', h1, h2, hW.below h3, h3⟩
      have hRB : ∀ W, Old w W → Calls Try.prog 17 #[.slice a0 l0.length cap0] W fun e w' => ∃ a' cap', e = .returned (.slice a' (bat l0).length cap') ∧ Bats w' a' (bat l0) ∧ Old w w' ∧ Below W.heap.size W w' := fun W hW =>
        (refbatches_any (r0.later hW (Nat.le_refl _)) (by omega) k1).mono fun e w' ⟨a', c', h1, h2, h3⟩ => ⟨a', c', h1, h2, hW.below h3, h3⟩
      have hSA : ∀ W a' c' a'' c'', Old w W → Bats W a' (bat l0) → Bats W a'' (bat l0) → Calls Try.prog 15 #[.slice a' (bat l0).length c', .slice a'' (bat l0).length c''] W fun e w' => e = .returned (.bool true) ∧ Old w w' ∧ Below W.heap.size W w' := fun W a' c' a'' c'' hW h1 h2 =>
        (same2_yes (bat l0) a' a'' c' c'' W (by omega) hsz h1 h2).mono fun e w' h => ⟨h.1, hW.below h.2, h.2⟩
      have HPB := Lib.hid hPB; have HRB := Lib.hid hRB; have HSA := Lib.hid hSA
      have hO12 := O12.out
      have m0 : ∀ W, Old w12 W → W.cell? ⟨b0, off0, none⟩ = some (.slice a0 l0.length cap0) := fun W hW => by
        have := (Below.cell (p := ⟨b0, off0 + 0, none⟩) (hO12.below hW) hb0).trans c0
        exact this
      clear hPB hRB hSA hcm hsz c0 r0 hl0
      have hB1 : (bat l0).length ≤ 10 := by omega
      clear hbl
      generalize (bat l0).length = BL at *
      generalize l0.length = L0 at *
      subst ha
      have hn0 : 0 < n := by omega
      have hn0' : (0 : Int) < (n : Int) := by omega
      have q0 : (n == 0) = false := by rw [beq_eq_false_iff_ne]; exact h0
      have q1 : ((n : Int) == 0) = false := by rw [beq_eq_false_iff_ne]; omega
      have q2 : decide ((n : Int) = 0) = false := decide_eq_false (by omega)
      have q3 : decide (n = 0) = false := decide_eq_false h0
      clear hO12
      go_wp2_with fail
      have HT := Lib.hid (fun W (hW : Old w12 W) => O12.out.below hW)
      go_region_held3 (fun W => Old w12 W) (first | assumption | exact K0 | exact K0.drew | exact Old.drew ‹_›)
        (first
          | (go_at_call 16
             refine (HPB.out _ (HT.out _ (by first | exact K0.drew | assumption | exact Old.drew ‹_›))).mono ?_
             rintro e w13 ⟨a13, c13, rfl, h13, o13, b13⟩
             have K13 : Old w12 w13 := Old.below (by first | exact K0.drew | assumption | exact Old.drew ‹_›) b13
             try dsimp only)
          | (go_at_call 17
             refine (HRB.out _ (HT.out _ (by first | assumption | exact Old.drew ‹_›))).mono ?_
             rintro e w14 ⟨a14, c14, rfl, h14, o14, b14⟩
             have K14 : Old w12 w14 := Old.below (by first | assumption | exact Old.drew ‹_›) b14
             have h13' := Bats.later h13 b14 (Nat.le_refl _)
             try dsimp only)
          | (go_at_call 15
             (with_reducible refine (HSA.out w14 a13 c13 a14 c14 o14 h13' h14).mono ?_)
             rintro e w15 ⟨rfl, o15, b15⟩
             have K15 : Old w12 w15 := K14.below b15
             try dsimp only))
      have HFN := Lib.hid o15
      clear m0 h13 h13' h14 K13 K14 K15 b13 b14 b15 K0 o13 o14 o15
      go_wp2_with fail
      go_ret
      exact ⟨rfl, HFN.out⟩
end Go.Proofs.Ytfcfleeiffmjdaa.G
