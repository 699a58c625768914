/- UploadFirst: which of any is to go on first. -/
import Derived.Test.YtnjeobpabaojaaaUref
import Derived.Test.YtnjeobpabaojaaaUptotal
namespace Go.Proofs.Ytnjeobpabaojaaa.U
open Go.RowKit
set_option linter.unusedVariables false
set_option linter.unusedSimpArgs false

/-- The cells of these, one behind the other. -/
def uflat (l : List Upl) : List Value := l.flatMap fun u => [.int .i64 u.st, .int .i64 u.tr, .int .i64 u.nx]
theorem uflat_snoc (l : List Upl) (u : Upl) : uflat (l ++ [u]) = uflat l ++ [.int .i64 u.st, .int .i64 u.tr, .int .i64 u.nx] := by simp [uflat]
theorem uflat_get : ∀ (l : List Upl) (i : Nat) (h : i < l.length), (uflat l)[i * 3]? = some (.int .i64 l[i].st) ∧ (uflat l)[i * 3 + 1]? = some (.int .i64 l[i].tr) ∧ (uflat l)[i * 3 + 2]? = some (.int .i64 l[i].nx)
  | u :: l, 0, _ => by simp [uflat]
  | u :: l, i + 1, h => by
    have := uflat_get l i (by simpa using h)
    have e : uflat (u :: l) = [.int .i64 u.st, .int .i64 u.tr, .int .i64 u.nx] ++ uflat l := by simp [uflat]
    have s : ∀ j, (uflat (u :: l))[(i + 1) * 3 + j]? = (uflat l)[i * 3 + j]? := fun j => by
      rw [e, List.getElem?_append_right (by simp; omega)]
      congr 1
      simp
      omega
    have s0 := s 0
    simp only [Nat.add_zero] at s0
    rw [s0, s 1, s 2]
    exact this
theorem owns_later {w w' : World} {base n : Nat} {e : TypeId} {size : Nat} {v : Value} {xs : List Value} (h : w.ownsRow base e size v n xs) (hb : Below w.heap.size w w') : w'.ownsRow base e size v n xs := by
  have hl := h.lt
  refine ⟨h.1, ?_⟩
  rcases h.2 with hn | ⟨g, cap, cur, rfl, hbg, hg, rest⟩
  · exact .inl hn
  · exact .inr ⟨g, cap, cur, rfl, hbg, by rw [hb.block g (hl g rfl).2]; exact hg, rest⟩
theorem owns_ups {t : TypeId} {w : World} {base : Nat} {v : Value} {l : List Upl} (h : w.ownsRow base t 3 v l.length (uflat l)) : ∃ a cap, v = .slice a l.length cap ∧ UpsIn w a l := by
  have hl := h.lt
  have hc := fun g hg => h.cells (g := g) hg
  rcases h.2 with ⟨rfl, h0⟩ | ⟨g, cap, cur, rfl, hbg, hg, rest⟩
  · exact ⟨none, 0, by rw [h0], fun i h1 => by omega⟩
  · refine ⟨_, cap, rfl, fun i hi => ⟨g, 0, rfl, (hl g rfl).2, ?_⟩⟩
    obtain ⟨f0, f1, f2⟩ := uflat_get l i hi
    have key : ∀ j u, (uflat l)[j]? = some u → w.cell? ⟨g, j, none⟩ = some u := fun j u hu => by
      have := hc g rfl j u hu
      rwa [show (⟨g, 0, none⟩ : Addr).add j = ⟨g, j, none⟩ from by simp [Addr.add]; omega] at this
    simp only [Nat.zero_add]
    exact ⟨key _ _ f0, key _ _ f1, key _ _ f2⟩
theorem cell_three_new (w : World) (c0 c1 c2 : Value) (t : TypeId) : ∀ j u, [c0, c1, c2][j]? = some u → (w.alloc (.cells #[c0, c1, c2] t)).cell? ((⟨w.heap.size, 0, none⟩ : Addr).add j) = some u := by
  intro j u hu
  rw [show (⟨w.heap.size, 0, none⟩ : Addr).add j = ⟨w.heap.size, j, none⟩ from by simp [Addr.add]; omega, World.cell?_alloc_mark]
  simpa using hu
theorem infoRup : (Try.prog.info? 26).map (fun i => (i.zero, i.size, i.bytes)) = some (some (.agg #[.int .i64 0, .int .i64 0, .int .i64 0]), 3, 24) := by kernel_rfl
/-- The first one is due, and none that is due has a lesser Next; where there is none, none is due. -/
theorem fst_spec (now : Int) (l : List Upl) : ∀ k : Nat, (fstFrom now l k < 0 → ∀ i, i < k → due (l.getD i default) now = false) ∧
    ∀ j : Nat, fstFrom now l k = j → due (l.getD j default) now = true ∧ ∀ i, i < k → due (l.getD i default) now = true → (l.getD j default).nx ≤ (l.getD i default).nx
  | 0 => ⟨fun _ i h => by omega, fun j h => by simp [fstFrom] at h⟩
  | k + 1 => by
    obtain ⟨h1, h2⟩ := fst_spec now l k
    have hr := fst_range now l k
    cases hd : due (l.getD k default) now
    · rw [fst_no hd]
      refine ⟨fun hn i hi => ?_, fun j hj => ⟨(h2 j hj).1, fun i hi hdi => ?_⟩⟩
      · rcases Nat.lt_or_ge i k with h | h
        · exact h1 hn i h
        · rw [show i = k by omega]; exact hd
      · rcases Nat.lt_or_ge i k with h | h
        · exact (h2 j hj).2 i h hdi
        · rw [show i = k by omega, hd] at hdi; cases hdi
    · by_cases hf : fstFrom now l k < 0
      · rw [fst_new hd hf]
        refine ⟨fun hn => by omega, fun j hj => ?_⟩
        obtain rfl : k = j := by omega
        refine ⟨hd, fun i hi hdi => ?_⟩
        rcases Nat.lt_or_ge i k with h | h
        · rw [h1 hf i h] at hdi; cases hdi
        · rw [show i = k by omega]; exact Int.le_refl _
      · obtain ⟨j0, hj0⟩ : ∃ j : Nat, fstFrom now l k = j := ⟨(fstFrom now l k).toNat, by omega⟩
        by_cases hn : (l.getD k default).nx < (l.getD j0 default).nx
        · rw [fst_less hd hj0 hn]
          refine ⟨fun h => by omega, fun j hj => ?_⟩
          obtain rfl : k = j := by omega
          refine ⟨hd, fun i hi hdi => ?_⟩
          rcases Nat.lt_or_ge i k with h | h
          · have := (h2 j0 hj0).2 i h hdi; omega
          · rw [show i = k by omega]; exact Int.le_refl _
        · rw [fst_more hd hj0 hn]
          refine ⟨fun h => by omega, fun j hj => ?_⟩
          obtain rfl : j0 = j := by omega
          refine ⟨(h2 j0 hj0).1, fun i hi hdi => ?_⟩
          rcases Nat.lt_or_ge i k with h | h
          · exact (h2 j0 hj0).2 i h hdi
          · rw [show i = k by omega]; omega

set_option maxRecDepth 100000 in
set_option maxHeartbeats 2000000 in
theorem first_walk (now : Int) (l : List Upl) (a : Option Addr) (cap : Nat) (w : World) (hn : i64 now) (hlm : l.length ≤ 9223372036854775807) (hl : UpsIn w a l) (hfit : ∀ u ∈ l, u.fit) :
    Calls Try.prog 3 #[.int .i64 now, .slice a l.length cap] w fun e w' => e = .returned (.bool true) ∧ Below w.heap.size w w' := by
  have HAW := Lib.hid (fun W => awake_any upC W)
  have HL := Lib.hid hl; have HF := Lib.hid hfit; have HNW := Lib.hid hn
  have B0 := Lib.hid (Old.refl w)
  obtain ⟨i0, hi, hz0, hz1, hz2⟩ := info_parts infoRup
  have HI := Lib.hid (And.intro hi (And.intro hz0 (And.intro hz1 hz2)))
  clear hi hz0 hz1 hz2
  obtain ⟨N, hN⟩ : ∃ N, l.length = N := ⟨_, rfl⟩
  have HFP : Hid (∀ W, Old w W → Calls Try.prog 8 #[.int .i64 now, .slice a N cap] W fun e w' => e = .returned (.int .i64 (fst now l)) ∧ Old w w' ∧ Below W.heap.size W w') ∨ 100 < N := by
    by_cases h : 100 < N
    · exact Or.inr h
    · refine Or.inl (Lib.hid fun W hW => ?_)
      rw [← hN]
      exact (pfirst_any (ups_later HL.out hW) (by omega) HF.out HNW.out).mono fun e w' h => ⟨h.1, hW.below h.2, h.2⟩
  rw [hN] at hlm ⊢
  have HLN := Lib.hid hN
  clear hl hfit hn hN
  go_enter Try.func3, Try.ntmps3
  go_wp2_with fail
  refine (HAW.out _).mono ?_
  rintro e w1 ⟨rfl, b1⟩
  have B1 := Lib.hid (B0.out.below b1)
  clear b1 B0
  by_cases a0 : 100 < N
  · clear HFP
    go_wp2_with fail
    go_ret
    exact ⟨rfl, B1.out⟩
  have HFC := HFP.resolve_right a0
  clear HFP HAW
  go_wp2_with fail
  go_loopg [6, 7] N (fun g mv iv wr => ∃ i : Nat, i + g = N ∧ iv = .int .i64 i ∧ wr.ownsRow w.heap.size 26 3 mv i (uflat (l.take i)) ∧ Old w wr)
  case atStart => exact ⟨0, by omega, rfl, ⟨rfl, Or.inl ⟨rfl, rfl⟩⟩, B1.out⟩
  case round =>
    obtain ⟨i, hi, rfl, hown, hold⟩ := hrel
    have HO := Lib.hid hold; have HW := Lib.hid hown
    clear hold hown B1
    by_cases hlt : i < N
    · have hil : i < l.length := by rw [HLN.out]; exact hlt
      obtain ⟨b, off, rfl, hbl, d0, d1, d2⟩ := ups_at (ups_later HL.out HO.out) (i := i) hil
      have HTO := Lib.hid (fun W => to_any (l.getD i default) W)
      have htk : uflat (l.take (i + 1)) = uflat (l.take i) ++ [.int .i64 (l.getD i default).st, .int .i64 (l.getD i default).tr, .int .i64 (l.getD i default).nx] := by
        rw [← uflat_snoc, List.take_add_one]
        congr 2
        simp [List.getD, hil]
      have HTK := Lib.hid htk
      clear htk
      generalize l.getD i default = u at *
      obtain ⟨st, tr, nx⟩ := u
      unfold upV at HTO
      simp only at d0 d1 d2 HTK
      have hsl : st = st := rfl
      go_wp2_with fail
      refine (HTO.out _).mono ?_
      rintro e w2 ⟨rfl, b2⟩
      have O2 := Lib.hid (owns_later HW.out b2)
      have B2 := Lib.hid (HO.out.below b2)
      have hb2 := B2.out.size
      have HVL := Lib.hid HW.out.1
      clear b2 HTO d0 d1 d2 hbl HW
      go_wp2_with (at_builtin; refine wpList_append_own _ rfl _ _ 24 rfl w.heap.size 26 i0 (.agg #[.int .i64 0, .int .i64 0, .int .i64 0]) 3 24 Try.underlying24 HI.out.1 HI.out.2.1 HI.out.2.2.1 HI.out.2.2.2 rfl (by decide) _ _ _ rfl (O2.out.alloc _) ⟨w2.heap.size, 0, none⟩ 1 1 [.int .i64 st, .int .i64 tr, .int .i64 nx] rfl rfl ?c1 (fun x hx => by simp at hx; rcases hx with rfl | rfl | rfl <;> rfl) (by unfold maxLen; omega) (by omega) (by simp; omega) ?_)
      case c1 => exact cell_three_new w2 _ _ _ _
      intro v' w7 hown' hgrow _
      have B7 : Hid (Below w.heap.size w w7) := Lib.hid (Below.grown (Below.alloc B2.out hb2 _) hgrow (by simp; omega) (fun j hj => (O2.out.lt _ hj).1))
      have O7 := Lib.hid hown'
      clear hown' hgrow
      go_wp2_with fail
      go_roundg (gk - 1)
      case measure => omega
      case rel => exact ⟨i + 1, by omega, by go_num, by rw [HTK.out]; exact O7.out, B7.out⟩
    · obtain rfl : i = N := by omega
      have hall : l.take i = l := List.take_of_length_le (by rw [HLN.out]; exact Nat.le_refl _)
      have how := HW.out
      rw [hall, ← HLN.out] at how
      obtain ⟨a2, cap2, rfl, hups⟩ := owns_ups how
      rw [HLN.out]
      have HRF : Hid (∀ W, Old wr W → Calls Try.prog 9 #[.int .i64 now, .slice a2 i cap2] W fun e w' => e = .returned (.int .i64 (fst now l)) ∧ Old wr w') :=
        Lib.hid (fun W hW => by
          have h := rfirst_any (cap := cap2) (ups_later hups hW) (by rw [HLN.out]; omega) HF.out HNW.out
          rw [HLN.out] at h
          exact h.mono fun e w' h => ⟨h.1, hW.below h.2⟩)
      have hrg := fst_range now l i
      have HSP := Lib.hid (fst_spec now l i)
      have hfe : fst now l = fstFrom now l i := by unfold fst; rw [HLN.out]
      rw [hfe] at HRF HFC
      clear how hall hfe hups HW
      obtain ⟨F, hF⟩ : ∃ F, fstFrom now l i = F := ⟨_, rfl⟩
      rw [hF] at hrg HRF HFC HSP
      clear hF
      go_wp2_with fail
      refine (HFC.out _ HO.out).mono ?_
      rintro e w3 ⟨rfl, hO3, b3⟩
      have HO3 := Lib.hid hO3
      have hK3 : Old wr w3 := (Old.refl wr).below b3
      clear hO3 b3 HFC
      go_wp2_with fail
      refine (HRF.out _ hK3).mono ?_
      rintro e w4 ⟨rfl, hK4⟩
      have HO4 := Lib.hid (HO.out.below hK4)
      clear hK3 hK4 HRF HO3
      go_wp2_with fail
      rw [decide_eq_false (show ¬ (i : Int) ≤ F by omega), decide_eq_false (show ¬ F < -1 by omega)]
      go_loopg [9] i (fun g kv w6 => ∃ k : Nat, k + g = i ∧ kv = .int .i64 k ∧ Old w w6)
      case atStart => exact ⟨0, by omega, rfl, HO4.out⟩
      case round =>
        obtain ⟨k, hk, rfl, hold⟩ := hrel
        generalize wr = w6 at *
        have HO6 := Lib.hid hold
        clear hold
        by_cases hlt2 : k < i
        · obtain ⟨b, off, rfl, hbl, d0, d1, d2⟩ := ups_at (ups_later HL.out HO6.out) (i := k) (by rw [HLN.out]; exact hlt2)
          have hui := fit_at HF.out (i := k) (by rw [HLN.out]; exact hlt2)
          have hq : ∀ W, Old w6 W → ∀ j, (h : j < i) → W.cell? ⟨b, off + j * 3 + 2, none⟩ = some (.int .i64 (l.getD j default).nx) := fun W hW j h => by
            obtain ⟨b', off', hbb, _, _, _, g2⟩ := ups_at (ups_later HL.out HO6.out) (i := j) (by rw [HLN.out]; exact h)
            cases hbb
            exact (Below.cell (p := ⟨b, off + j * 3 + 2, none⟩) hW (World.block_lt_of_cell? _ _ g2)).trans g2
          have HQ := Lib.hid hq
          clear hq
          have HDU := Lib.hid (fun W => pdue_any (l.getD k default) now W hui HNW.out)
          obtain ⟨u, hu⟩ : ∃ u, l.getD k default = u := ⟨_, rfl⟩
          obtain ⟨dd, hdd⟩ : ∃ d, due (l.getD k default) now = d := ⟨_, rfl⟩
          have HDD := Lib.hid hdd
          rw [hdd, hu] at HDU
          rw [hu] at d0 d1 d2
          obtain ⟨st, tr, nx⟩ := u
          have HNX := Lib.hid (show (l.getD k default).nx = nx by rw [hu])
          clear hu hdd
          unfold upV at HDU
          simp only at d0 d1 d2
          have p0 : ∀ W, Old w6 W → W.cell? ⟨b, off + k * 3, none⟩ = some (.int .i64 st) := fun W hW => (Below.cell (p := ⟨b, off + k * 3, none⟩) hW (World.block_lt_of_cell? _ _ d0)).trans d0
          have p1 : ∀ W, Old w6 W → W.cell? ⟨b, off + k * 3 + 1, none⟩ = some (.int .i64 tr) := fun W hW => (Below.cell (p := ⟨b, off + k * 3 + 1, none⟩) hW (World.block_lt_of_cell? _ _ d1)).trans d1
          have p2 : ∀ W, Old w6 W → W.cell? ⟨b, off + k * 3 + 2, none⟩ = some (.int .i64 nx) := fun W hW => (Below.cell (p := ⟨b, off + k * 3 + 2, none⟩) hW (World.block_lt_of_cell? _ _ d2)).trans d2
          have K6 := Old.refl w6
          have HD6 : Hid (∀ W, Old w6 W → Calls Try.prog 10 #[.agg #[.int .i64 st, .int .i64 tr, .int .i64 nx], .int .i64 now] W fun e w' => e = .returned (.bool dd) ∧ Old w6 w') :=
            Lib.hid (fun W hW => (HDU.out W).mono fun e w' h => ⟨h.1, hW.below h.2⟩)
          clear HDU d0 d1 d2 hbl
          go_wp2_with fail
          cases dd
          · clear HSP
            refine wp_region_held_drew (S := fun W => Old w6 W) (by kernel_rfl) K6.drew (fun hHeld => ?_)
            refine wpAnyH_take (i := 0) (v := ?_) rfl (by kernel_rfl) (by kernel_rfl) (by kernel_rfl) (fun _ _ _ h => h) (Or.inl ⟨by rfl, ?_⟩) hHeld ?_
            rotate_left
            · intro W hSw
              go_simp
              try with_reducible rfl
            try simp only [Act.put, List.getElem_toArray, List.getElem_cons_zero, List.getElem_cons_succ, List.setIfInBounds_toArray, List.set_cons_zero, List.set_cons_succ]
            refine wpAnyH_take (i := 1) (v := ?_) rfl (by kernel_rfl) (by kernel_rfl) (by kernel_rfl) (fun _ _ _ h => h) (Or.inl ⟨by rfl, ?_⟩) hHeld ?_
            rotate_left
            · intro W hSw
              go_simp
              try with_reducible rfl
            try simp only [Act.put, List.getElem_toArray, List.getElem_cons_zero, List.getElem_cons_succ, List.setIfInBounds_toArray, List.set_cons_zero, List.set_cons_succ]
            refine wpAnyH_take (i := 2) (v := ?_) rfl (by kernel_rfl) (by kernel_rfl) (by kernel_rfl) (fun _ _ _ h => h) (Or.inl ⟨by rfl, ?_⟩) hHeld ?_
            rotate_left
            · intro W hSw
              go_simp
              try with_reducible rfl
            try simp only [Act.put, List.getElem_toArray, List.getElem_cons_zero, List.getElem_cons_succ, List.setIfInBounds_toArray, List.set_cons_zero, List.set_cons_succ]
            refine wpAnyH_take (i := 3) (v := ?_) rfl (by kernel_rfl) (by kernel_rfl) (by kernel_rfl) (fun _ _ _ h => h) (Or.inl ⟨by rfl, ?_⟩) hHeld ?_
            rotate_left
            · intro W hSw
              go_simp
              try with_reducible rfl
            try simp only [Act.put, List.getElem_toArray, List.getElem_cons_zero, List.getElem_cons_succ, List.setIfInBounds_toArray, List.set_cons_zero, List.set_cons_succ]
            refine wpAnyH_take (i := 4) (v := ?_) rfl (by kernel_rfl) (by kernel_rfl) (by kernel_rfl) (fun _ _ _ h => h) (Or.inl ⟨by rfl, ?_⟩) hHeld ?_
            rotate_left
            · intro W hSw
              go_simp
              try with_reducible rfl
            try simp only [Act.put, List.getElem_toArray, List.getElem_cons_zero, List.getElem_cons_succ, List.setIfInBounds_toArray, List.set_cons_zero, List.set_cons_succ]
            refine wpAnyH_ready (rs := [5]) (by kernel_rfl) (by simp) ?_
            refine AllReadyH.cons rfl (fun K hK => ?_) AllReadyH.nil
            go_simp
            refine (HD6.out _ (by first | assumption | exact Old.drew ‹_›)).mono ?_
            rintro e w7 ⟨rfl, hO7⟩
            try dsimp only
            refine hK.out _ _ (by exact hO7) (fun hHeld => ?_)
            clear hK K
            try simp only [Act.put, List.getElem_toArray, List.getElem_cons_zero, List.getElem_cons_succ, List.setIfInBounds_toArray, List.set_cons_zero, List.set_cons_succ]
            refine wpAnyH_take (i := 6) (v := ?_) rfl (by kernel_rfl) (by kernel_rfl) (by kernel_rfl) (fun _ _ _ h => h) (Or.inl ⟨by rfl, ?_⟩) hHeld ?_
            rotate_left
            · intro W hSw
              go_simp
              try with_reducible rfl
            try simp only [Act.put, List.getElem_toArray, List.getElem_cons_zero, List.getElem_cons_succ, List.setIfInBounds_toArray, List.set_cons_zero, List.set_cons_succ]
            refine wpAnyH_take (i := 7) (v := undef) rfl (by kernel_rfl) (by kernel_rfl) (by kernel_rfl) (fun _ _ _ h => h) (Or.inr ⟨by kernel_rfl, rfl⟩) hHeld ?_
            try simp only [Act.put, List.getElem_toArray, List.getElem_cons_zero, List.getElem_cons_succ, List.setIfInBounds_toArray, List.set_cons_zero, List.set_cons_succ]
            refine wpAnyH_take (i := 8) (v := undef) rfl (by kernel_rfl) (by kernel_rfl) (by kernel_rfl) (fun _ _ _ h => h) (Or.inr ⟨by kernel_rfl, rfl⟩) hHeld ?_
            try simp only [Act.put, List.getElem_toArray, List.getElem_cons_zero, List.getElem_cons_succ, List.setIfInBounds_toArray, List.set_cons_zero, List.set_cons_succ]
            refine wpAnyH_take (i := 9) (v := undef) rfl (by kernel_rfl) (by kernel_rfl) (by kernel_rfl) (fun _ _ _ h => h) (Or.inr ⟨by kernel_rfl, rfl⟩) hHeld ?_
            try simp only [Act.put, List.getElem_toArray, List.getElem_cons_zero, List.getElem_cons_succ, List.setIfInBounds_toArray, List.set_cons_zero, List.set_cons_succ]
            refine wpAnyH_take (i := 10) (v := undef) rfl (by kernel_rfl) (by kernel_rfl) (by kernel_rfl) (fun _ _ _ h => h) (Or.inr ⟨by kernel_rfl, rfl⟩) hHeld ?_
            try simp only [Act.put, List.getElem_toArray, List.getElem_cons_zero, List.getElem_cons_succ, List.setIfInBounds_toArray, List.set_cons_zero, List.set_cons_succ]
            refine wpAnyH_take (i := 11) (v := undef) rfl (by kernel_rfl) (by kernel_rfl) (by kernel_rfl) (fun _ _ _ h => h) (Or.inr ⟨by kernel_rfl, rfl⟩) hHeld ?_
            try simp only [Act.put, List.getElem_toArray, List.getElem_cons_zero, List.getElem_cons_succ, List.setIfInBounds_toArray, List.set_cons_zero, List.set_cons_succ]
            refine wpAnyH_take (i := 12) (v := undef) rfl (by kernel_rfl) (by kernel_rfl) (by kernel_rfl) (fun _ _ _ h => h) (Or.inr ⟨by kernel_rfl, rfl⟩) hHeld ?_
            try simp only [Act.put, List.getElem_toArray, List.getElem_cons_zero, List.getElem_cons_succ, List.setIfInBounds_toArray, List.set_cons_zero, List.set_cons_succ]
            refine wpAnyH_take (i := 13) (v := undef) rfl (by kernel_rfl) (by kernel_rfl) (by kernel_rfl) (fun _ _ _ h => h) (Or.inr ⟨by kernel_rfl, rfl⟩) hHeld ?_
            try simp only [Act.put, List.getElem_toArray, List.getElem_cons_zero, List.getElem_cons_succ, List.setIfInBounds_toArray, List.set_cons_zero, List.set_cons_succ]
            refine wpAnyH_take (i := 14) (v := undef) rfl (by kernel_rfl) (by kernel_rfl) (by kernel_rfl) (fun _ _ _ h => h) (Or.inr ⟨by kernel_rfl, rfl⟩) hHeld ?_
            try simp only [Act.put, List.getElem_toArray, List.getElem_cons_zero, List.getElem_cons_succ, List.setIfInBounds_toArray, List.set_cons_zero, List.set_cons_succ]
            refine wpAnyH_take (i := 15) (v := undef) rfl (by kernel_rfl) (by kernel_rfl) (by kernel_rfl) (fun _ _ _ h => h) (Or.inr ⟨by kernel_rfl, rfl⟩) hHeld ?_
            try simp only [Act.put, List.getElem_toArray, List.getElem_cons_zero, List.getElem_cons_succ, List.setIfInBounds_toArray, List.set_cons_zero, List.set_cons_succ]
            refine wpAnyH_take (i := 16) (v := undef) rfl (by kernel_rfl) (by kernel_rfl) (by kernel_rfl) (fun _ _ _ h => h) (Or.inr ⟨by kernel_rfl, rfl⟩) hHeld ?_
            try simp only [Act.put, List.getElem_toArray, List.getElem_cons_zero, List.getElem_cons_succ, List.setIfInBounds_toArray, List.set_cons_zero, List.set_cons_succ]
            refine wpAnyH_take (i := 17) (v := undef) rfl (by kernel_rfl) (by kernel_rfl) (by kernel_rfl) (fun _ _ _ h => h) (Or.inr ⟨by kernel_rfl, rfl⟩) hHeld ?_
            try simp only [Act.put, List.getElem_toArray, List.getElem_cons_zero, List.getElem_cons_succ, List.setIfInBounds_toArray, List.set_cons_zero, List.set_cons_succ]
            refine wpAnyH_take (i := 18) (v := undef) rfl (by kernel_rfl) (by kernel_rfl) (by kernel_rfl) (fun _ _ _ h => h) (Or.inr ⟨by kernel_rfl, rfl⟩) hHeld ?_
            try simp only [Act.put, List.getElem_toArray, List.getElem_cons_zero, List.getElem_cons_succ, List.setIfInBounds_toArray, List.set_cons_zero, List.set_cons_succ]
            refine wpAnyH_take (i := 19) (v := undef) rfl (by kernel_rfl) (by kernel_rfl) (by kernel_rfl) (fun _ _ _ h => h) (Or.inr ⟨by kernel_rfl, rfl⟩) hHeld ?_
            try simp only [Act.put, List.getElem_toArray, List.getElem_cons_zero, List.getElem_cons_succ, List.setIfInBounds_toArray, List.set_cons_zero, List.set_cons_succ]
            refine wpAnyH_take (i := 20) (v := undef) rfl (by kernel_rfl) (by kernel_rfl) (by kernel_rfl) (fun _ _ _ h => h) (Or.inr ⟨by kernel_rfl, rfl⟩) hHeld ?_
            try simp only [Act.put, List.getElem_toArray, List.getElem_cons_zero, List.getElem_cons_succ, List.setIfInBounds_toArray, List.set_cons_zero, List.set_cons_succ]
            refine wpAnyH_take (i := 21) (v := undef) rfl (by kernel_rfl) (by kernel_rfl) (by kernel_rfl) (fun _ _ _ h => h) (Or.inr ⟨by kernel_rfl, rfl⟩) hHeld ?_
            try simp only [Act.put, List.getElem_toArray, List.getElem_cons_zero, List.getElem_cons_succ, List.setIfInBounds_toArray, List.set_cons_zero, List.set_cons_succ]
            refine wpAnyH_take (i := 22) (v := ?_) rfl (by kernel_rfl) (by kernel_rfl) (by kernel_rfl) (fun _ _ _ h => h) (Or.inl ⟨by rfl, ?_⟩) hHeld ?_
            rotate_left
            · intro W hSw
              go_simp
              try with_reducible rfl
            try simp only [Act.put, List.getElem_toArray, List.getElem_cons_zero, List.getElem_cons_succ, List.setIfInBounds_toArray, List.set_cons_zero, List.set_cons_succ]
            refine wpAnyH_done (by kernel_rfl) ?_ _
            have HO7 := Lib.hid (HO6.out.below hO7)
            clear hO7 p0 p1 p2 K6 HD6
            go_wp2_with fail
            go_roundg (gk - 1)
            case measure => omega
            case rel => exact ⟨k + 1, by omega, by go_num, HO7.out⟩
          · obtain ⟨j, rfl⟩ : ∃ j : Nat, F = j := ⟨F.toNat, by
              have h : ¬ F < 0 := fun hn => by have := HSP.out.1 hn k (by omega); rw [HDD.out] at this; cases this
              omega⟩
            have hle := (HSP.out.2 j rfl).2 k (by omega) HDD.out
            rw [HNX.out] at hle
            have p3 : ∀ W, Old w6 W → W.cell? ⟨b, off + j * 3 + 2, none⟩ = some (.int .i64 (l.getD j default).nx) := fun W hW => HQ.out W hW j (by omega)
            have hjN : j < i := by omega
            generalize (l.getD j default).nx = nj at *
            have hnn : ¬ nx < nj := by omega
            clear HSP HQ hle
            refine wp_region_held_drew (S := fun W => Old w6 W) (by kernel_rfl) K6.drew (fun hHeld => ?_)
            refine wpAnyH_take (i := 0) (v := ?_) rfl (by kernel_rfl) (by kernel_rfl) (by kernel_rfl) (fun _ _ _ h => h) (Or.inl ⟨by rfl, ?_⟩) hHeld ?_
            rotate_left
            · intro W hSw
              go_simp
              try with_reducible rfl
            try simp only [Act.put, List.getElem_toArray, List.getElem_cons_zero, List.getElem_cons_succ, List.setIfInBounds_toArray, List.set_cons_zero, List.set_cons_succ]
            refine wpAnyH_take (i := 1) (v := ?_) rfl (by kernel_rfl) (by kernel_rfl) (by kernel_rfl) (fun _ _ _ h => h) (Or.inl ⟨by rfl, ?_⟩) hHeld ?_
            rotate_left
            · intro W hSw
              go_simp
              try with_reducible rfl
            try simp only [Act.put, List.getElem_toArray, List.getElem_cons_zero, List.getElem_cons_succ, List.setIfInBounds_toArray, List.set_cons_zero, List.set_cons_succ]
            refine wpAnyH_take (i := 2) (v := ?_) rfl (by kernel_rfl) (by kernel_rfl) (by kernel_rfl) (fun _ _ _ h => h) (Or.inl ⟨by rfl, ?_⟩) hHeld ?_
            rotate_left
            · intro W hSw
              go_simp
              try with_reducible rfl
            try simp only [Act.put, List.getElem_toArray, List.getElem_cons_zero, List.getElem_cons_succ, List.setIfInBounds_toArray, List.set_cons_zero, List.set_cons_succ]
            refine wpAnyH_take (i := 3) (v := ?_) rfl (by kernel_rfl) (by kernel_rfl) (by kernel_rfl) (fun _ _ _ h => h) (Or.inl ⟨by rfl, ?_⟩) hHeld ?_
            rotate_left
            · intro W hSw
              go_simp
              try with_reducible rfl
            try simp only [Act.put, List.getElem_toArray, List.getElem_cons_zero, List.getElem_cons_succ, List.setIfInBounds_toArray, List.set_cons_zero, List.set_cons_succ]
            refine wpAnyH_take (i := 4) (v := ?_) rfl (by kernel_rfl) (by kernel_rfl) (by kernel_rfl) (fun _ _ _ h => h) (Or.inl ⟨by rfl, ?_⟩) hHeld ?_
            rotate_left
            · intro W hSw
              go_simp
              try with_reducible rfl
            try simp only [Act.put, List.getElem_toArray, List.getElem_cons_zero, List.getElem_cons_succ, List.setIfInBounds_toArray, List.set_cons_zero, List.set_cons_succ]
            refine wpAnyH_ready (rs := [5]) (by kernel_rfl) (by simp) ?_
            refine AllReadyH.cons rfl (fun K hK => ?_) AllReadyH.nil
            go_simp
            refine (HD6.out _ (by first | assumption | exact Old.drew ‹_›)).mono ?_
            rintro e w7 ⟨rfl, hO7⟩
            try dsimp only
            refine hK.out _ _ (by exact hO7) (fun hHeld => ?_)
            clear hK K
            try simp only [Act.put, List.getElem_toArray, List.getElem_cons_zero, List.getElem_cons_succ, List.setIfInBounds_toArray, List.set_cons_zero, List.set_cons_succ]
            refine wpAnyH_take (i := 6) (v := ?_) rfl (by kernel_rfl) (by kernel_rfl) (by kernel_rfl) (fun _ _ _ h => h) (Or.inl ⟨by rfl, ?_⟩) hHeld ?_
            rotate_left
            · intro W hSw
              go_simp
              try with_reducible rfl
            try simp only [Act.put, List.getElem_toArray, List.getElem_cons_zero, List.getElem_cons_succ, List.setIfInBounds_toArray, List.set_cons_zero, List.set_cons_succ]
            refine wpAnyH_take (i := 7) (v := ?_) rfl (by kernel_rfl) (by kernel_rfl) (by kernel_rfl) (fun _ _ _ h => h) (Or.inl ⟨by rfl, ?_⟩) hHeld ?_
            rotate_left
            · intro W hSw
              go_simp
              try with_reducible rfl
            try simp only [Act.put, List.getElem_toArray, List.getElem_cons_zero, List.getElem_cons_succ, List.setIfInBounds_toArray, List.set_cons_zero, List.set_cons_succ]
            refine wpAnyH_take (i := 8) (v := ?_) rfl (by kernel_rfl) (by kernel_rfl) (by kernel_rfl) (fun _ _ _ h => h) (Or.inl ⟨by rfl, ?_⟩) hHeld ?_
            rotate_left
            · intro W hSw
              go_simp
              try with_reducible rfl
            try simp only [Act.put, List.getElem_toArray, List.getElem_cons_zero, List.getElem_cons_succ, List.setIfInBounds_toArray, List.set_cons_zero, List.set_cons_succ]
            refine wpAnyH_take (i := 9) (v := ?_) rfl (by kernel_rfl) (by kernel_rfl) (by kernel_rfl) (fun _ _ _ h => h) (Or.inl ⟨by rfl, ?_⟩) hHeld ?_
            rotate_left
            · intro W hSw
              go_simp
              try with_reducible rfl
            try simp only [Act.put, List.getElem_toArray, List.getElem_cons_zero, List.getElem_cons_succ, List.setIfInBounds_toArray, List.set_cons_zero, List.set_cons_succ]
            refine wpAnyH_take (i := 10) (v := ?_) rfl (by kernel_rfl) (by kernel_rfl) (by kernel_rfl) (fun _ _ _ h => h) (Or.inl ⟨by rfl, ?_⟩) hHeld ?_
            rotate_left
            · intro W hSw
              go_simp
              try with_reducible rfl
            try simp only [Act.put, List.getElem_toArray, List.getElem_cons_zero, List.getElem_cons_succ, List.setIfInBounds_toArray, List.set_cons_zero, List.set_cons_succ]
            refine wpAnyH_take (i := 11) (v := ?_) rfl (by kernel_rfl) (by kernel_rfl) (by kernel_rfl) (fun _ _ _ h => h) (Or.inl ⟨by rfl, ?_⟩) hHeld ?_
            rotate_left
            · intro W hSw
              go_simp
              try with_reducible rfl
            try simp only [Act.put, List.getElem_toArray, List.getElem_cons_zero, List.getElem_cons_succ, List.setIfInBounds_toArray, List.set_cons_zero, List.set_cons_succ]
            refine wpAnyH_take (i := 12) (v := ?_) rfl (by kernel_rfl) (by kernel_rfl) (by kernel_rfl) (fun _ _ _ h => h) (Or.inl ⟨by rfl, ?_⟩) hHeld ?_
            rotate_left
            · intro W hSw
              go_simp
              try with_reducible rfl
            try simp only [Act.put, List.getElem_toArray, List.getElem_cons_zero, List.getElem_cons_succ, List.setIfInBounds_toArray, List.set_cons_zero, List.set_cons_succ]
            refine wpAnyH_take (i := 13) (v := ?_) rfl (by kernel_rfl) (by kernel_rfl) (by kernel_rfl) (fun _ _ _ h => h) (Or.inl ⟨by rfl, ?_⟩) hHeld ?_
            rotate_left
            · intro W hSw
              go_simp
              try with_reducible rfl
            try simp only [Act.put, List.getElem_toArray, List.getElem_cons_zero, List.getElem_cons_succ, List.setIfInBounds_toArray, List.set_cons_zero, List.set_cons_succ]
            refine wpAnyH_take (i := 14) (v := ?_) rfl (by kernel_rfl) (by kernel_rfl) (by kernel_rfl) (fun _ _ _ h => h) (Or.inl ⟨by rfl, ?_⟩) hHeld ?_
            rotate_left
            · intro W hSw
              go_simp
              try with_reducible rfl
            try simp only [Act.put, List.getElem_toArray, List.getElem_cons_zero, List.getElem_cons_succ, List.setIfInBounds_toArray, List.set_cons_zero, List.set_cons_succ]
            refine wpAnyH_take (i := 15) (v := ?_) rfl (by kernel_rfl) (by kernel_rfl) (by kernel_rfl) (fun _ _ _ h => h) (Or.inl ⟨by rfl, ?_⟩) hHeld ?_
            rotate_left
            · intro W hSw
              go_simp
              try with_reducible rfl
            try simp only [Act.put, List.getElem_toArray, List.getElem_cons_zero, List.getElem_cons_succ, List.setIfInBounds_toArray, List.set_cons_zero, List.set_cons_succ]
            refine wpAnyH_take (i := 16) (v := ?_) rfl (by kernel_rfl) (by kernel_rfl) (by kernel_rfl) (fun _ _ _ h => h) (Or.inl ⟨by rfl, ?_⟩) hHeld ?_
            rotate_left
            · intro W hSw
              go_simp
              try with_reducible rfl
            try simp only [Act.put, List.getElem_toArray, List.getElem_cons_zero, List.getElem_cons_succ, List.setIfInBounds_toArray, List.set_cons_zero, List.set_cons_succ]
            refine wpAnyH_take (i := 17) (v := ?_) rfl (by kernel_rfl) (by kernel_rfl) (by kernel_rfl) (fun _ _ _ h => h) (Or.inl ⟨by rfl, ?_⟩) hHeld ?_
            rotate_left
            · intro W hSw
              go_simp
              try with_reducible rfl
            try simp only [Act.put, List.getElem_toArray, List.getElem_cons_zero, List.getElem_cons_succ, List.setIfInBounds_toArray, List.set_cons_zero, List.set_cons_succ]
            refine wpAnyH_take (i := 18) (v := ?_) rfl (by kernel_rfl) (by kernel_rfl) (by kernel_rfl) (fun _ _ _ h => h) (Or.inl ⟨by rfl, ?_⟩) hHeld ?_
            rotate_left
            · intro W hSw
              go_simp
              try with_reducible rfl
            try simp only [Act.put, List.getElem_toArray, List.getElem_cons_zero, List.getElem_cons_succ, List.setIfInBounds_toArray, List.set_cons_zero, List.set_cons_succ]
            refine wpAnyH_take (i := 19) (v := ?_) rfl (by kernel_rfl) (by kernel_rfl) (by kernel_rfl) (fun _ _ _ h => h) (Or.inl ⟨by rfl, ?_⟩) hHeld ?_
            rotate_left
            · intro W hSw
              go_simp
              try with_reducible rfl
            try simp only [Act.put, List.getElem_toArray, List.getElem_cons_zero, List.getElem_cons_succ, List.setIfInBounds_toArray, List.set_cons_zero, List.set_cons_succ]
            refine wpAnyH_take (i := 20) (v := ?_) rfl (by kernel_rfl) (by kernel_rfl) (by kernel_rfl) (fun _ _ _ h => h) (Or.inl ⟨by rfl, ?_⟩) hHeld ?_
            rotate_left
            · intro W hSw
              go_simp
              try with_reducible rfl
            try simp only [Act.put, List.getElem_toArray, List.getElem_cons_zero, List.getElem_cons_succ, List.setIfInBounds_toArray, List.set_cons_zero, List.set_cons_succ]
            refine wpAnyH_take (i := 21) (v := ?_) rfl (by kernel_rfl) (by kernel_rfl) (by kernel_rfl) (fun _ _ _ h => h) (Or.inl ⟨by rfl, ?_⟩) hHeld ?_
            rotate_left
            · intro W hSw
              go_simp
              try with_reducible rfl
            try simp only [Act.put, List.getElem_toArray, List.getElem_cons_zero, List.getElem_cons_succ, List.setIfInBounds_toArray, List.set_cons_zero, List.set_cons_succ]
            refine wpAnyH_take (i := 22) (v := ?_) rfl (by kernel_rfl) (by kernel_rfl) (by kernel_rfl) (fun _ _ _ h => h) (Or.inl ⟨by rfl, ?_⟩) hHeld ?_
            rotate_left
            · intro W hSw
              go_simp
              try with_reducible rfl
            try simp only [Act.put, List.getElem_toArray, List.getElem_cons_zero, List.getElem_cons_succ, List.setIfInBounds_toArray, List.set_cons_zero, List.set_cons_succ]
            refine wpAnyH_done (by kernel_rfl) ?_ _
            have HO7 := Lib.hid (HO6.out.below hO7)
            clear hO7 p0 p1 p2 K6 HD6
            go_wp2_with fail
            go_roundg (gk - 1)
            case measure => omega
            case rel => exact ⟨k + 1, by omega, by go_num, HO7.out⟩
        · obtain rfl : k = i := by omega
          by_cases hF0 : F < 0
          · clear HSP
            go_wp2_with fail
            go_ret
            exact ⟨by simp [hF0], HO6.out⟩
          · obtain ⟨j, rfl⟩ : ∃ j : Nat, F = j := ⟨F.toNat, by omega⟩
            have hdj := (HSP.out.2 j rfl).1
            obtain ⟨b, off, rfl, hbl, d0, d1, d2⟩ := ups_at (ups_later HL.out HO6.out) (i := j) (by rw [HLN.out]; omega)
            have HDU := Lib.hid (fun W => pdue_any (l.getD j default) now W (fit_at HF.out (i := j) (by rw [HLN.out]; omega)) HNW.out)
            rw [hdj] at HDU
            have hjk : j < k := by omega
            clear HSP hdj
            generalize l.getD j default = u at *
            obtain ⟨st, tr, nx⟩ := u
            unfold upV at HDU
            simp only at d0 d1 d2
            go_wp2_with fail
            refine (HDU.out _).mono ?_
            rintro e w7 ⟨rfl, b7⟩
            have HO7 := Lib.hid (HO6.out.below b7)
            clear b7 HDU d0 d1 d2
            go_wp2_with fail
            go_ret
            exact ⟨rfl, HO7.out⟩
end Go.Proofs.Ytnjeobpabaojaaa.U
