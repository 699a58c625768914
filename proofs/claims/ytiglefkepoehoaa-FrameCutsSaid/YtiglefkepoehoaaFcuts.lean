/- The walk of the law FrameCuts. -/
import Derived.Test.YtiglefkepoehoaaFawake
import Derived.Test.YtiglefkepoehoaaFopens
import Derived.Laws.MakeOwn
import Derived.OpenShut
namespace Go.Proofs.Ytiglefkepoehoaa
open Go.RowKit

/-- Nothing that was there ahead has turned; block eb holds n integers. -/
def Ends (w0 : World) (eb n : Nat) (f : Nat → Int) (W : World) : Prop :=
  Below w0.heap.size w0 W ∧ w0.heap.size ≤ eb ∧ eb < W.heap.size ∧ ∀ j, j < n → W.cell? ⟨eb, j, none⟩ = some (.int .i64 (f j)) ∧ W.frozen? ⟨eb, j, none⟩ = false

theorem Ends.drewN {w0 W : World} {eb n : Nat} {f : Nat → Int} (h : Ends w0 eb n f W) (d : Nat) : Ends w0 eb n f (W.drewN d) := ⟨below_drewN h.1 d, h.2⟩
theorem Ends.call {w0 W W' : World} {eb n : Nat} {f : Nat → Int} (h : Ends w0 eb n f W) (b : Below W.heap.size W W') : Ends w0 eb n f W' :=
  ⟨h.1.trans (b.mono h.1.size), h.2.1, Nat.lt_of_lt_of_le h.2.2.1 b.size,
    fun j hj => ⟨by rw [b.cell h.2.2.1]; exact (h.2.2.2 j hj).1, by rw [b.frozen h.2.2.1]; exact (h.2.2.2 j hj).2⟩⟩
def upds (f : Nat → Int) (k : Nat) (v : Int) : Nat → Int := fun j => if j = k then v else f j
theorem Ends.store {w0 W : World} {eb n : Nat} {f : Nat → Int} (h : Ends w0 eb n f W) (k : Nat) (hk : k < n) (v : Int) :
    Ends w0 eb n (upds f k v) (W.setCell ⟨eb, k, none⟩ (.int .i64 v)) := by
  refine ⟨h.1.setCell h.2.1 _, h.2.1, by simpa [World.setCell] using h.2.2.1, fun j hj => ⟨?_, ?_⟩⟩
  · by_cases e : k = j
    · subst e
      rw [World.cell?_setCell_same (h := (h.2.2.2 k hk).1), upds, if_pos rfl]
    · rw [World.cell?_setCell_other (a := ⟨eb, k, none⟩) (b := ⟨eb, j, none⟩) (h := fun q => e (congrArg Addr.off q)), upds, if_neg (fun h => e h.symm)]
      exact (h.2.2.2 j hj).1
  · rw [World.frozen?_setCell]
    exact (h.2.2.2 j hj).2

theorem makeInts (w : World) (n : Nat) (h : n ≤ 300) : (Instr.makeSlice 38 (.int .i64 (n : Int)) (.int .i64 (n : Int))).run Try.prog w = .ok (.slice (some ⟨w.heap.size, 0, none⟩) n n) (w.alloc (.cells (madeCells #[.int .i64 0] n) 3)) := by
  have := run_make (P := Try.prog) w 38 3 Try.t3 (.int .i64 0) Try.underlying38 (by kernel_rfl) (by kernel_rfl) .i64 .i64 n n (by omega) (Int.le_refl _) (by show ((8 : Nat) : Int) * (n : Int) ≤ _; omega) (by omega)
  rw [Int.toNat_natCast, show (Value.int .i64 0).cells = #[Value.int .i64 0] from rfl, show Try.t3.size = 1 from rfl, Nat.mul_one] at this
  exact this

theorem Ends.made {w0 W : World} (hb : Below w0.heap.size w0 W) (n : Nat) : Ends w0 W.heap.size n (fun _ => 0) (W.alloc (.cells (madeCells #[.int .i64 0] n) 3)) := by
  refine ⟨hb.alloc hb.size _, hb.size, by simp, fun j hj => ⟨?_, ?_⟩⟩
  · rw [World.cell?_alloc_mark]
    simp [madeCells, hj, Nat.mod_one]
  · have := World.frozen?_alloc_mark W (madeCells #[.int .i64 0] n) 3 0 0 j
    rw [this]
    simp

/-- What the batches so far come to. -/
def sofar (ll : List (List Rc)) (f : Nat → Int) (k : Nat) : Prop := (∀ l ∈ ll.take k, good l = true) ∧ ∀ j, j < k → f j = ((cat (ll.take (j + 1))).length : Int)

theorem cat_take_succ (ll : List (List Rc)) {k : Nat} (hk : k < ll.length) : cat (ll.take (k + 1)) = cat (ll.take k) ++ fbs ll[k] := by
  rw [List.take_succ_eq_append_getElem hk, cat_snoc]

theorem cat_len {ll : List (List Rc)} : ∀ (k : Nat), (∀ l ∈ ll.take k, good l = true) → (cat (ll.take k)).length ≤ 6000 * k := by
  intro k
  induction k with
  | zero => intro _; simp [cat]
  | succ k ih =>
    intro h
    by_cases hk : k < ll.length
    · have h1 : good ll[k] = true := h _ (by rw [List.take_succ_eq_append_getElem hk]; exact List.mem_append_right _ (List.mem_singleton.2 rfl))
      have := ih fun l hl => h l (by rw [List.take_succ_eq_append_getElem hk]; exact List.mem_append_left _ hl)
      have h2 := fbs_len h1
      rw [cat_take_succ ll hk, List.length_append]
      omega
    · have h2 : ll.take (k + 1) = ll.take k := by rw [List.take_of_length_le (by omega), List.take_of_length_le (by omega)]
      rw [h2] at h ⊢
      have := ih h
      omega

theorem sofar.next {ll : List (List Rc)} {f : Nat → Int} {k : Nat} (h : sofar ll f k) (hk : k < ll.length) (hg : good ll[k] = true) (v : Int) (hv : v = ((cat (ll.take (k + 1))).length : Int)) : sofar ll (upds f k v) (k + 1) := by
  refine ⟨fun l hl => ?_, fun j hj => ?_⟩
  · rw [List.take_succ_eq_append_getElem hk, List.mem_append] at hl
    rcases hl with hl | hl
    · exact h.1 l hl
    · simp at hl; subst hl; exact hg
  · unfold upds
    by_cases e : j = k
    · subst e; rw [if_pos rfl, hv]
    · rw [if_neg e]; exact h.2 j (by omega)

theorem sofar.zero (ll : List (List Rc)) (f : Nat → Int) : sofar ll f 0 := ⟨fun l hl => by simp at hl, fun j hj => by omega⟩

/-- What Scan leaves of batches' bytes that were cut. -/
def CutPost (w : World) (ll : List (List Rc)) (j : Nat) (e : Ending) (w' : World) : Prop :=
  ∃ a cap, e = .returned (.tuple #[.slice a j cap, .int .i64 (((cat (ll.take j)).length : Nat) : Int)]) ∧ Bats w' a (ll.take j) ∧ Below w.heap.size w w'

theorem cut_post (ll : List (List Rc)) (hg : ∀ l ∈ ll, good l = true) (q j : Nat) (hj : j ≤ ll.length) (hlo : (cat (ll.take j)).length ≤ q) (hhi : j < ll.length → q < (cat (ll.take (j + 1))).length) (hq : q ≤ (cat ll).length) (w : World) (hb : q ≤ 1000000) :
    Calls Try.prog 12 #[.string ((bs (cat ll)).extract 0 q)] w (CutPost w ll j) := by
  have := fscan_any ((cat ll).take q) w (by rw [List.length_take]; omega)
  rw [fs_cut ll hg q j hj hlo hhi hq] at this
  rw [ext_to, bs_list]
  refine this.mono ?_
  rintro e w' ⟨a, cap, rfl, hb, hw⟩
  exact ⟨a, cap, by simp only [List.length_take, Nat.min_eq_left hj], hb, hw⟩

set_option maxRecDepth 100000 in
set_option maxHeartbeats 1000000 in
theorem cuts_of (ll : List (List Rc)) (a : Option Addr) (cap : Nat) (c : Int) (w : World) (hl : ll.length ≤ 9223372036854775807) (hr : BatsIn w a cap ll) (hf : Fits2 ll) (hc : c ≤ 9223372036854775807) :
    Calls Try.prog 4 #[.slice a ll.length cap, .int .i64 c] w fun e w' => e = .returned (.bool true) ∧ Below w.heap.size w w' := by
  obtain ⟨hr, hcap1, hcap2, hcap3⟩ := hr
  unfold maxLen at hcap2
  have HR := Lib.hid hr
  have HF := Lib.hid hf
  have HNO := Lib.hid hcap3
  clear hr hf hcap3
  obtain ⟨n, hn⟩ : ∃ n, n = ll.length := ⟨_, rfl⟩
  have HN := Lib.hid hn
  have h2 := fun W (hW : Below w.heap.size w W) => light2_any ll a cap W (by omega) (HR.out.later hW (Nat.le_refl _)) HF.out
  rw [← hn] at hl h2 hcap1 ⊢
  have H2 := Lib.hid h2
  clear hn h2
  go_enter Try.func4, Try.ntmps4
  go_wp2_with fail
  refine (awake_any _).mono ?_
  rintro e w1 ⟨rfl, b1⟩
  go_wp2_with fail
  (with_reducible refine (H2.out _ b1).mono ?_)
  rintro e w2 ⟨ok, rfl, h40, b2⟩
  have B2 := Lib.hid (b1.trans (b2.mono b1.size))
  clear b1 b2
  cases ok with
  | false =>
    go_wp2_with fail
    go_ret
    exact ⟨rfl, B2.out⟩
  | true =>
    by_cases hc0 : c < 0
    · clear h40
      go_wp2_with fail
      go_ret
      exact ⟨rfl, B2.out⟩
    obtain ⟨h20, h40⟩ := h40 rfl
    have hn20 : n ≤ 20 := by rw [HN.out]; exact h20
    have HQ := Lib.hid h40
    clear h40 h20
    have hmk := makeInts w2 n (by omega)
    have E0 := Ends.made B2.out n
    generalize w2.alloc (.cells (madeCells #[.int .i64 0] n) 3) = W0 at *
    generalize w2.heap.size = eb at *
    go_wp2_with fail
    clear hmk
    go_loopw [7, 9] (fun s i wr => ∃ (k : Nat) (f : Nat → Int), k ≤ n ∧ i = .int .i64 k ∧ s = .string (bs (cat (ll.take k))) ∧ sofar ll f k ∧ Ends w eb n f wr) (fun _ i _ => n - (intOf i).toNat)
    case atStart => exact ⟨0, fun _ => 0, by omega, rfl, by simp [cat]; rfl, sofar.zero _ _, E0⟩
    case round =>
      obtain ⟨k, f, hk, rfl, rfl, hsf, hE⟩ := hrel
      have HE := Lib.hid hE
      have HSF := Lib.hid hsf
      clear hsf hE E0
      by_cases hlt : k < n
      · obtain ⟨g1, off1, a1, cap1, rfl, hbl1, c1, r1⟩ := bat_of HR.out k (by rw [← HN.out]; exact hlt)
        obtain ⟨hf1, hll⟩ := HF.out _ (List.getElem_mem (by rw [← HN.out]; exact hlt : k < ll.length))
        rw [← HE.out.1.cell (p := ⟨g1, _, none⟩) hbl1] at c1
        have h3 := fun W (hW : Below w.heap.size w W) => fbytes_any _ a1 cap1 W hll (r1.later hW (Nat.le_refl _)) hf1
        by_cases hg : good (ll[k]'(by rw [← HN.out]; exact hlt)) = true
        · have hcl := cat_len k HSF.out.1
          have hfl := fbs_len hg
          have HC := Lib.hid (cat_take_succ ll (by rw [← HN.out]; exact hlt : k < ll.length))
          have HNX := Lib.hid (fun v => HSF.out.next (by rw [← HN.out]; exact hlt : k < ll.length) hg v)
          rw [fbV_yes hg] at h3
          have H3 := Lib.hid h3
          clear h3 hg r1 hf1
          generalize ll[k]'(by rw [← HN.out]; exact hlt) = r at *
          have z1 := bs_size (cat (ll.take k))
          have z2 := bs_size (fbs r)
          rw [← z1] at hcl
          rw [← z2] at hfl
          obtain ⟨hfl1, hfl2⟩ := hfl
          have hk20 : 6000 * k ≤ 120000 := by omega
          have hcl' : (bs (cat (ll.take k))).size ≤ 120000 := by omega
          have HZ : Hid (bs (cat (ll.take (k + 1))) = bs (cat (ll.take k)) ++ bs (fbs r)) := Lib.hid (by rw [HC.out, bs_app])
          have hzl : (cat (ll.take (k + 1))).length = (bs (cat (ll.take k))).size + (bs (fbs r)).size := by rw [HC.out, List.length_append]; omega
          have HZL := Lib.hid hzl
          clear z1 z2 hcl hzl
          generalize bs (cat (ll.take k)) = X at *
          generalize bs (fbs r) = Y at *
          have hlti : (k : Int) < (n : Int) := by omega
          have hbw := HE.out.1
          go_wp2_with fail
          (with_reducible refine (H3.out _ hbw).mono ?_)
          rintro e w3 ⟨rfl, b3⟩
          have E3 := Lib.hid (HE.out.call b3)
          have c3 := (E3.out.2.2.2 k hlt).1
          have c4 := (E3.out.2.2.2 k hlt).2
          clear b3 c1 hbw
          go_wp2_with fail
          exact ⟨⟨k + 1, upds f k ((X.size : Int) + (Y.size : Int)), by omega, by go_num, by rw [HZ.out], HNX.out _ (by rw [HZL.out]; omega), E3.out.store k hlt _⟩, by simp [intOf]; omega⟩
        · rw [fbV_no hg] at h3
          have H3 := Lib.hid h3
          clear h3 hg r1 hf1
          generalize ll[k]'(by rw [← HN.out]; exact hlt) = r at *
          generalize bs (cat (ll.take k)) = X at *
          have hlti : (k : Int) < (n : Int) := by omega
          have hbw := HE.out.1
          go_wp2_with fail
          (with_reducible refine (H3.out _ hbw).mono ?_)
          rintro e w3 ⟨rfl, b3⟩
          have E3 := Lib.hid (HE.out.call b3)
          clear b3 c1 hbw
          go_wp2_with fail
          go_ret
          exact ⟨rfl, E3.out.1⟩
      · have e : k = n := by omega
        subst e
        have hgood : ∀ l ∈ ll, good l = true := by
          have := HSF.out.1
          rwa [List.take_of_length_le (by rw [← HN.out]; exact Nat.le_refl _)] at this
        have hall : cat (ll.take k) = cat ll := by rw [List.take_of_length_le (by rw [← HN.out]; exact Nat.le_refl _)]
        have hcl := cat_len k HSF.out.1
        rw [hall] at hcl ⊢
        have z1 := bs_size (cat ll)
        rw [← z1] at hcl
        have hcl' : (bs (cat ll)).size ≤ 120000 := by omega
        clear hcl
        have HZ := Lib.hid z1
        clear z1 hall
        have m1 := Int.emod_nonneg c (b := ((bs (cat ll)).size : Int) + 1) (by omega)
        have m2 := Int.emod_lt_of_pos c (b := ((bs (cat ll)).size : Int) + 1) (by omega)
        obtain ⟨q, hq⟩ : ∃ q : Nat, c % (((bs (cat ll)).size : Int) + 1) = (q : Int) := ⟨(c % (((bs (cat ll)).size : Int) + 1)).toNat, by omega⟩
        rw [hq] at m1 m2
        have hqs : q ≤ (bs (cat ll)).size := by omega
        generalize hX : bs (cat ll) = X at *
        have HX := Lib.hid hX
        clear hX
        go_wp2_with fail
        rw [hq]
        clear hq
        have cells : ∀ j, j < k → wr.cell? ⟨eb, j, none⟩ = some (.int .i64 ((cat (ll.take (j + 1))).length : Int)) := fun j hj => by
          rw [← HSF.out.2 j hj]; exact (HE.out.2.2.2 j hj).1
        have HCE := Lib.hid cells
        have hgood' := Lib.hid hgood
        clear cells hgood
        go_loop [13] (fun s => ∃ j : Nat, j ≤ k ∧ s = .int .i64 j ∧ (cat (ll.take j)).length ≤ q) (fun s => k - (intOf s).toNat)
        case atStart => exact ⟨0, by omega, rfl, by simp [cat]⟩
        case round =>
          obtain ⟨j, hj, rfl, hjq⟩ := hrel
          by_cases hin : j < k ∧ (cat (ll.take (j + 1))).length ≤ q
          · obtain ⟨hjk, hin⟩ := hin
            have c1 := HCE.out j hjk
            have hjki : (j : Int) < (k : Int) := by omega
            have HIN := Lib.hid hin
            have hini : ((cat (ll.take (j + 1))).length : Int) ≤ (q : Int) := by omega
            clear hin hjq
            generalize hz : (cat (ll.take (j + 1))).length = z at *
            have HZ2 := Lib.hid hz
            clear hz
            go_wp2_with fail
            go_round
            case rel => exact ⟨j + 1, by omega, by go_num, by rw [HZ2.out]; exact HIN.out⟩
            case measure => simp [intOf]; omega
          · have h4 := cut_post ll hgood'.out q j (by rw [← HN.out]; exact hj) hjq (fun hjl => by rw [← HN.out] at hjl; omega) (by rw [← HZ.out]; exact hqs)
            rw [HX.out] at h4
            have H4 := Lib.hid (fun W => h4 W (by omega))
            have HS := Lib.hid (fun W (hW : Below w.heap.size w W) x y z => same2_yes (ll.take j) x a y z W (by rw [List.length_take, ← HN.out]; omega) (fun l hl => (HF.out l (List.mem_of_mem_take hl)).2))
            have hjl : (ll.take j).length = j := by rw [List.length_take, ← HN.out]; omega
            have hS2 := fun W (hW : Below w.heap.size w W) x y z (hx : Bats W x (ll.take j)) => HS.out W hW x y z hx ((HR.out.later hW (Nat.le_refl _)).take j)
            rw [hjl] at hS2
            have HS2 := Lib.hid hS2
            clear h4 hS2 hjl HS
            by_cases hjk : j < k
            · have c1 := HCE.out j hjk
              have hnin : ¬ ((cat (ll.take (j + 1))).length : Int) ≤ (q : Int) := by omega
              have hjki : (j : Int) < (k : Int) := by omega
              clear hin hjq
              generalize (cat (ll.take (j + 1))).length = z at *
              go_wp2_with fail
              (with_reducible refine (H4.out _).mono ?_)
              rintro e w5 ⟨a5, c5, rfl, r5, b5⟩
              have E5 := Lib.hid (HE.out.call b5)
              have R5 := Lib.hid r5
              have B5 := E5.out.1
              clear r5 b5 c1 hnin
              by_cases j0 : 0 < j
              · obtain ⟨i, rfl⟩ : ∃ i, j = i + 1 := ⟨j - 1, by omega⟩
                have c6 := (E5.out.2.2.2 i (by omega)).1
                rw [HSF.out.2 i (by omega)] at c6
                go_wp2_with fail
                (with_reducible refine (HS2.out _ B5 _ _ _ R5.out).mono ?_)
                rintro e w6 ⟨rfl, b6⟩
                have B6 := Lib.hid (E5.out.1.trans (b6.mono E5.out.1.size))
                clear b6 HS2
                go_wp2_with fail
                go_ret
                exact ⟨rfl, B6.out⟩
              · obtain rfl : j = 0 := by omega
                rw [show (cat (ll.take 0)).length = 0 from rfl]
                go_wp2_with fail
                (with_reducible refine (HS2.out _ B5 _ _ _ R5.out).mono ?_)
                rintro e w6 ⟨rfl, b6⟩
                have B6 := Lib.hid (E5.out.1.trans (b6.mono E5.out.1.size))
                clear b6 HS2
                go_wp2_with fail
                go_ret
                exact ⟨rfl, B6.out⟩
            · have hjki : ¬ (j : Int) < (k : Int) := by omega
              obtain rfl : j = k := by omega
              clear hin hjq
              go_wp2_with fail
              (with_reducible refine (H4.out _).mono ?_)
              rintro e w5 ⟨a5, c5, rfl, r5, b5⟩
              have E5 := Lib.hid (HE.out.call b5)
              have R5 := Lib.hid r5
              have B5 := E5.out.1
              clear r5 b5
              by_cases j0 : 0 < j
              · obtain ⟨i, rfl⟩ : ∃ i, j = i + 1 := ⟨j - 1, by omega⟩
                have c6 := (E5.out.2.2.2 i (by omega)).1
                rw [HSF.out.2 i (by omega)] at c6
                go_wp2_with fail
                (with_reducible refine (HS2.out _ B5 _ _ _ R5.out).mono ?_)
                rintro e w6 ⟨rfl, b6⟩
                have B6 := Lib.hid (E5.out.1.trans (b6.mono E5.out.1.size))
                clear b6 HS2
                go_wp2_with fail
                go_ret
                exact ⟨rfl, B6.out⟩
              · obtain rfl : j = 0 := by omega
                rw [show (cat (ll.take 0)).length = 0 from rfl]
                go_wp2_with fail
                (with_reducible refine (HS2.out _ B5 _ _ _ R5.out).mono ?_)
                rintro e w6 ⟨rfl, b6⟩
                have B6 := Lib.hid (E5.out.1.trans (b6.mono E5.out.1.size))
                clear b6 HS2
                go_wp2_with fail
                go_ret
                exact ⟨rfl, B6.out⟩

theorem cuts_law (ll : List (List Rc)) (a : Option Addr) (cap : Nat) (c : Int) (w : World) (hl : ll.length ≤ 9223372036854775807) (hr : BatsIn w a cap ll) (hf : Came2 ll) (hc : (Lit.int .i64 c).wf = true) :
    Calls Try.prog 4 #[.slice a ll.length cap, .int .i64 c] w fun e w' => e = .returned (.bool true) ∧ Below w.heap.size w w' :=
  cuts_of ll a cap c w hl hr hf.fits (bounds_i64 hc).2

end Go.Proofs.Ytiglefkepoehoaa
