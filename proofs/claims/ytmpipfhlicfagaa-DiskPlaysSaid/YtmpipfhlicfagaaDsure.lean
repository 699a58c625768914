/- The law DiskSure, walked. -/
import Derived.Test.YtmpipfhlicfagaaDawake
namespace Go.Proofs.Ytmpipfhlicfagaa
open Go.RowKit Go.Maps
set_option linter.unusedVariables false

/-- A disk among the blocks from B on. -/
def DkB (B : Nat) (w : World) (pb : Nat) (S : St) : Prop := ∃ F, DkS B w pb F S

theorem DkB.size {B pb : Nat} {w : World} {S : St} (h : DkB B w pb S) : B ≤ w.heap.size := by
  obtain ⟨F, mb, nv, u, cs, h, _⟩ := h
  exact h.base.2.2.2.2.2
theorem DkB.good {B pb : Nat} {w : World} {S : St} (h : DkB B w pb S) : Good S := by obtain ⟨F, h⟩ := h; exact h.good
theorem DkPost.b {B pb : Nat} {F : Nat → Prop} {S S' : St} {r : Value} {w w' : World} {e : Ending} (h : DkS B w pb F S) (hp : DkPost B pb F S' r w e w') : e = .returned r ∧ DkB B w' pb S' ∧ Below B w w' := by
  obtain ⟨rfl, F', h', _, t⟩ := hp
  exact ⟨rfl, ⟨F', h'⟩, t.below (fun k hk => (h.lt hk).1) (DkB.size ⟨F, h⟩)⟩
theorem DkB.kept {B pb : Nat} {w w' : World} {S : St} (h : DkB B w pb S) (t : Below w.heap.size w w') : DkB B w' pb S := by
  obtain ⟨F, h⟩ := h
  exact ⟨F, h.kept (Turn.of_below (fun _ => False) t (Nat.le_refl _)) (fun _ _ _ f => f)⟩

/-- A slice holds these values. -/
def Vals (w : World) (a : Option Addr) (vs : List Value) : Prop := ∀ i (h : i < vs.length), ∃ b off, a = some ⟨b, off, none⟩ ∧ b < w.heap.size ∧ w.cell? ⟨b, off + i, none⟩ = some vs[i]

theorem Vals.at {w w' : World} {B : Nat} {a : Option Addr} {vs : List Value} (h : Vals w a vs) (hb : Below B w w') (hB : w.heap.size ≤ B) (i : Nat) (v : Value) (hv : vs[i]? = some v) : ∃ b off, a = some ⟨b, off, none⟩ ∧ w'.cell? ⟨b, off + i, none⟩ = some v := by
  obtain ⟨hi, e⟩ := List.getElem?_eq_some_iff.1 hv
  obtain ⟨b, off, h1, h2, h3⟩ := h i hi
  exact ⟨b, off, h1, by rw [hb.cell (p := ⟨b, off + i, none⟩) (Nat.lt_of_lt_of_le h2 hB), h3, e]⟩

/-- The disk with the one file f. -/
def one (cb : List UInt8) (k : Nat) : St := ⟨100000, [⟨[102], cb, k⟩], -1, false⟩
def non : St := ⟨100000, [], -1, false⟩

theorem ap_non (b : List UInt8) (hb : b.length ≤ 100000) : apS non [102] b = one b 0 ∧ apE non [102] b = 0 := by
  have h1 : rightName [102] = true := rfl
  have h2 : burns non = true := rfl
  have h3 : (b.length : Int) ≤ left non := by show (b.length : Int) ≤ 100000 - ((0 : Nat) : Int); omega
  constructor
  · rw [apS, if_pos h1, if_pos ⟨h2, h3⟩]; rfl
  · rw [apE, if_pos h1, if_pos h2, if_pos h3]

theorem ap_one (cb b : List UInt8) (k : Nat) (hb : cb.length + b.length ≤ 100000) : apS (one cb k) [102] b = one (cb ++ b) k ∧ apE (one cb k) [102] b = 0 := by
  have h1 : rightName [102] = true := rfl
  have h2 : burns (one cb k) = true := rfl
  have h3 : (b.length : Int) ≤ left (one cb k) := by show (b.length : Int) ≤ 100000 - ((cb.length + 0 : Nat) : Int); omega
  constructor
  · rw [apS, if_pos h1, if_pos ⟨h2, h3⟩]; rfl
  · rw [apE, if_pos h1, if_pos h2, if_pos h3]

theorem sy_one (cb : List UInt8) (k : Nat) : syS (one cb k) [102] = one cb cb.length ∧ syE (one cb k) [102] = 0 := ⟨rfl, rfl⟩

theorem cr_one (cb : List UInt8) (k : Nat) (kept : List Int) : crS (one cb k) kept = one (cb.take (stays kept 0 ⟨[102], cb, k⟩)) (stays kept 0 ⟨[102], cb, k⟩) := rfl
theorem all_one (cb : List UInt8) (k : Nat) : allB (one cb k) [102] = cb := rfl

/-- What was put, and how much of it is sure, behind so many rounds. -/
def full (l : List (List UInt8)) (i : Nat) : List UInt8 := (l.take i).flatten
def sure (l : List (List UInt8)) (sy : List Bool) : Nat → Nat
  | 0 => 0
  | i + 1 => if sy[i]? = some true then (full l (i + 1)).length else sure l sy i
def stAt (l : List (List UInt8)) (sy : List Bool) (i : Nat) : St := if i = 0 then non else one (full l i) (sure l sy i)

theorem full_succ {l : List (List UInt8)} {i : Nat} {b : List UInt8} (h : l[i]? = some b) : full l (i + 1) = full l i ++ b := by
  unfold full
  rw [List.take_add_one, h]
  simp
theorem full_mono (l : List (List UInt8)) (i : Nat) : (full l i).length ≤ (full l (i + 1)).length := by
  cases h : l[i]? with
  | none =>
    unfold full
    rw [List.take_add_one, h]
    simp
  | some b => rw [full_succ h, List.length_append]; omega
theorem sure_le (l : List (List UInt8)) (sy : List Bool) : ∀ i, sure l sy i ≤ (full l i).length
  | 0 => Nat.zero_le _
  | i + 1 => by
    rw [sure]
    split
    · exact Nat.le_refl _
    · exact Nat.le_trans (sure_le l sy i) (full_mono l i)
theorem sure_yes {l : List (List UInt8)} {sy : List Bool} {i : Nat} (h : sy[i]? = some true) : sure l sy (i + 1) = (full l (i + 1)).length := by rw [sure, if_pos h]
theorem sure_no {l : List (List UInt8)} {sy : List Bool} {i : Nat} (h : sy[i]? = some false) : sure l sy (i + 1) = sure l sy i := by rw [sure, if_neg (by rw [h]; simp)]

theorem ap_at {l : List (List UInt8)} {sy : List Bool} {i : Nat} {b : List UInt8} (h : l[i]? = some b) (hl : (full l (i + 1)).length ≤ 100000) :
    apS (stAt l sy i) [102] b = one (full l (i + 1)) (sure l sy i) ∧ apE (stAt l sy i) [102] b = 0 := by
  rw [full_succ h] at hl ⊢
  rw [List.length_append] at hl
  unfold stAt
  by_cases h0 : i = 0
  · subst h0
    rw [if_pos rfl]
    have := ap_non b (by omega)
    simpa [full, sure] using this
  · rw [if_neg h0]
    exact ap_one _ _ _ hl

theorem bs_take (s : List UInt8) (d : Nat) : (bs s).extract 0 d = bs (s.take d) := by
  apply ByteArray.ext
  apply Array.ext'
  simp [bs]

theorem bs_app (a b : List UInt8) : bs (a ++ b) = bs a ++ bs b := by
  apply ByteArray.ext
  apply Array.ext'
  simp [bs]

theorem slice_str (s : List UInt8) (d : Nat) (hd : d ≤ s.length) (W : World) : (Instr.slice 9 (.string (bs s)) none (some (.int .i64 (d : Int))) none).run Try.prog W = .ok (.string (bs (s.take d))) W := by
  rw [run_slice_string_h (P := Try.prog) (w := W) (t := 9) (s := bs s) (ht := by kernel_rfl) .i64 (d : Int) (by omega) (by rw [bs_size]; omega), Int.toNat_natCast, bs_take]

set_option maxHeartbeats 4000000 in
set_option maxRecDepth 100000 in
theorem sure_walk (l : List (List UInt8)) (sy : List Bool) (kept : Int) (a0 a1 : Option Addr) (cap0 cap1 : Nat) (w : World) (hl : Vals w a0 (strs l)) (hs : Vals w a1 (sy.map Value.bool)) (hlm : l.length ≤ 9223372036854775807) (hsm : sy.length ≤ 9223372036854775807)
    (hll : ∀ b ∈ l, b.length ≤ 9223372036854775807) (hk1 : -9223372036854775808 ≤ kept) (hk2 : kept ≤ 9223372036854775807) :
    Calls Try.prog 4 #[.slice a0 l.length cap0, .slice a1 sy.length cap1, .int .i64 kept] w fun e w' => e = .returned (.bool true) ∧ Below w.heap.size w w' := by
  obtain ⟨n, hn⟩ : ∃ n, n = l.length := ⟨_, rfl⟩
  obtain ⟨m, hm⟩ : ∃ m, m = sy.length := ⟨_, rfl⟩
  rw [← hn, ← hm]
  rw [← hn] at hlm
  rw [← hm] at hsm
  have HN := Lib.hid hn; have HM := Lib.hid hm; have HL := Lib.hid hl; have HS := Lib.hid hs; have HLL := Lib.hid hll
  clear hn hm hl hs hll
  by_cases hbig : 30 < n ∨ m < n
  · by_cases hb1 : 30 < n
    · clear hbig
      go_enter Try.func4, Try.ntmps4
      go_wp2_with fail
      refine (awake_any w).mono ?_
      rintro e w1 ⟨rfl, b1⟩
      go_wp2_with fail
      refine (new_yes 100000 w1 (by omega) (by omega)).mono ?_
      rintro e w2 ⟨pb, F, rfl, h2, hF, b2⟩
      go_wp2_with fail
      go_ret
      exact ⟨rfl, b1.trans (b2.mono b1.size)⟩
    · have hb2 : m < n := by omega
      have hb1' : n ≤ 30 := by omega
      clear hbig
      go_enter Try.func4, Try.ntmps4
      go_wp2_with fail
      refine (awake_any w).mono ?_
      rintro e w1 ⟨rfl, b1⟩
      go_wp2_with fail
      refine (new_yes 100000 w1 (by omega) (by omega)).mono ?_
      rintro e w2 ⟨pb, F, rfl, h2, hF, b2⟩
      go_wp2_with fail
      go_ret
      exact ⟨rfl, b1.trans (b2.mono b1.size)⟩
  · have h30 : n ≤ 30 := by omega
    have hmn : n ≤ m := by omega
    clear hbig
    have dT1 : decide ((30 : Int) < (n : Int)) = false := by simp; omega
    have dT2 : decide ((m : Int) < (n : Int)) = false := by simp; omega
    have dT3 : decide (m < n) = false := by simp; omega
    go_enter Try.func4, Try.ntmps4
    go_wp2_with fail
    refine (awake_any w).mono ?_
    rintro e w1 ⟨rfl, b1⟩
    go_wp2_with fail
    refine (new_yes 100000 w1 (by omega) (by omega)).mono ?_
    rintro e w2 ⟨pb, F, rfl, h2, hF, b2⟩
    have B2 := Lib.hid (b1.trans (b2.mono b1.size))
    have D2 : Hid (DkB w1.heap.size w2 pb non) := Lib.hid ⟨F, h2⟩
    have hz1 := b1.size
    clear b2 h2 hF
    go_wp2_with fail
    go_loopw [10, 11, 12] (fun fu su it wr => ∃ i : Nat, i ≤ n ∧ it = .int .i64 i ∧ fu = .string (bs (full l i)) ∧ su = .int .i64 (sure l sy i : Nat) ∧ (full l i).length ≤ 300 * i ∧ DkB w1.heap.size wr pb (stAt l sy i) ∧ Below w.heap.size w wr) (fun _ _ it _ => n - (intOf it).toNat)
    case atStart => exact ⟨0, by omega, rfl, by simp [full]; rfl, rfl, by simp [full], D2.out, B2.out⟩
    case round =>
      obtain ⟨i, hi, rfl, rfl, rfl, hfl, hd, hbw⟩ := hrel
      by_cases hlt : i < n
      · have hil : i < l.length := by rw [← HN.out]; exact hlt
        have his : i < sy.length := by rw [← HM.out]; omega
        obtain ⟨b, hb⟩ : ∃ b, l[i]? = some b := ⟨_, List.getElem?_eq_getElem hil⟩
        obtain ⟨s, hsb⟩ : ∃ s, sy[i]? = some s := ⟨_, List.getElem?_eq_getElem his⟩
        obtain ⟨g0, o0, hg0, c0⟩ := HL.out.at hbw (Nat.le_refl _) i (.string (bs b)) (by rw [strs_at, hb]; rfl)
        obtain ⟨g1, o1, hg1, c1⟩ := HS.out.at hbw (Nat.le_refl _) i (.bool s) (by rw [List.getElem?_map, hsb]; rfl)
        subst hg0 hg1
        have hbl := HLL.out b (List.mem_of_getElem? hb)
        have HB := Lib.hid hb; have HSB := Lib.hid hsb; clear hb hsb
        have hsz : ((bs b).size : Int) = b.length := by rw [bs_size]
        by_cases h300 : 300 < b.length
        · have hb3 : 300 < (bs b).size := by rw [bs_size]; exact h300
          have hb4 : (bs b).size ≤ 9223372036854775807 := by rw [bs_size]; exact hbl
          clear hsz
          go_wp2_with fail
          go_ret
          exact ⟨rfl, hbw⟩
        · have hb3 : (bs b).size ≤ 300 := by rw [bs_size]; omega
          clear hsz
          have hfs := full_succ HB.out
          have hfl1 : (full l (i + 1)).length ≤ 300 * i + 300 := by rw [hfs, List.length_append]; omega
          have HFS := Lib.hid hfs; clear hfs
          go_wp2_with fail
          obtain ⟨F1, hd1⟩ := hd
          have hap := append_any (n := [102]) (b := b) hd1 (by unfold maxLen; simp) hbl (by unfold stAt; split <;> simp [non, one])
          obtain ⟨ea, eb⟩ := ap_at (sy := sy) HB.out (by omega)
          rw [ea, eb] at hap
          have hap' := hap.mono (fun e w' h => DkPost.b hd1 h)
          clear hap ea eb
          refine hap'.mono ?_
          rintro e w3 ⟨rfl, hd3, b3⟩
          clear hap'
          have hz3 : w1.heap.size ≤ wr.heap.size := DkB.size ⟨F1, hd1⟩
          have hbw3 : Below w.heap.size w w3 := hbw.trans (b3.mono hz1)
          clear hd1 b3
          have d1 : w3.cell? ⟨g1, o1 + i, none⟩ = some (.bool s) := by
            obtain ⟨g1', o1', hg1', c1'⟩ := HS.out.at hbw3 (Nat.le_refl _) i (.bool s) (by rw [List.getElem?_map, HSB.out]; rfl)
            cases hg1'; exact c1'
          have d0 : w3.cell? ⟨g0, o0 + i, none⟩ = some (.string (bs b)) := by
            obtain ⟨g0', o0', hg0', c0'⟩ := HL.out.at hbw3 (Nat.le_refl _) i (.string (bs b)) (by rw [strs_at, HB.out]; rfl)
            cases hg0'; exact c0'
          have hfz : (bs (full l i)).size ≤ 9000 := by rw [bs_size]; omega
          have HZ : Hid (bs (full l (i + 1)) = bs (full l i) ++ bs b) := Lib.hid (by rw [HFS.out, bs_app])
          have HZL : Hid ((full l (i + 1)).length = (bs (full l i)).size + (bs b).size) := Lib.hid (by rw [HFS.out, List.length_append, bs_size, bs_size])
          cases s with
          | true =>
            go_wp2_with fail
            rw [← HZ.out]
            obtain ⟨F3, hd3⟩ := hd3
            have hsy := sync_any (n := [102]) hd3 (by unfold maxLen; simp) (by simp [one])
            rw [(sy_one _ _).1, (sy_one _ _).2] at hsy
            have hsy' := hsy.mono (fun e w' h => DkPost.b hd3 h)
            clear hsy
            refine hsy'.mono ?_
            rintro e w4 ⟨rfl, hd4, b4⟩
            clear hsy'
            have hz4 : w1.heap.size ≤ w3.heap.size := DkB.size ⟨F3, hd3⟩
            have hbw4 : Below w.heap.size w w4 := hbw3.trans (b4.mono hz1)
            have hfz' : (bs (full l (i + 1))).size ≤ 9000 := by rw [bs_size]; omega
            go_wp2_with fail
            go_roundw
            case rel =>
              refine ⟨i + 1, by omega, by go_num, rfl, ?_, by omega, ?_, hbw4⟩
              · rw [sure_yes HSB.out, bs_size]
              · unfold stAt
                rw [if_neg (by omega), sure_yes HSB.out]
                exact hd4
            case measure => simp [intOf]; omega
          | false =>
            go_wp2_with fail
            rw [← HZ.out]
            go_roundw
            case rel =>
              refine ⟨i + 1, by omega, by go_num, rfl, ?_, by omega, ?_, hbw3⟩
              · rw [sure_no HSB.out]
              · unfold stAt
                rw [if_neg (by omega), sure_no HSB.out]
                exact hd3
            case measure => simp [intOf]; omega
      · obtain rfl : i = n := by omega
        by_cases h0 : i = 0
        · subst h0
          go_wp2_with fail
          go_ret
          exact ⟨rfl, hbw⟩
        · have hfz : (bs (full l i)).size ≤ 9000 := by rw [bs_size]; omega
          have hst : stAt l sy i = one (full l i) (sure l sy i) := by unfold stAt; rw [if_neg h0]
          rw [hst] at hd
          clear hst
          have hpos : 0 < i := by omega
          have hkT := sure_le l sy i
          obtain ⟨T, hT⟩ : ∃ T, T = full l i := ⟨_, rfl⟩
          obtain ⟨k, hk⟩ : ∃ k, k = sure l sy i := ⟨_, rfl⟩
          rw [← hT, ← hk] at hd hkT
          rw [← hT] at hfz
          rw [← hT, ← hk]
          clear hT hk hfl HL HS
          go_wp2_with fail
          obtain ⟨F5, hd5⟩ := hd
          have hd6 : DkS w1.heap.size (wr.alloc (.cells #[.int .i64 kept] 3)) pb F5 (one T k) := hd5.kept ((Turn.refl (fun _ => False) wr).alloc _) (fun _ _ _ f => f)
          have hsz6 : w1.heap.size ≤ wr.heap.size := DkB.size ⟨F5, hd5⟩
          have hints : IntsIn (wr.alloc (.cells #[.int .i64 kept] 3)) F5 (some ⟨wr.heap.size, 0, none⟩) [kept] := fun j hj => by
            obtain rfl : j = 0 := by simp at hj; exact hj
            refine ⟨wr.heap.size, 0, rfl, by simp, by simp, fun hf => ?_, hk1, hk2⟩
            have := (hd5.lt hf).2
            omega
          have hcr := crash_any (kc := 1) (kept := [kept]) hd6 hints (by unfold maxLen; simp) (by simp [one])
          have hcr' := hcr.mono (fun e w' h => DkPost.b hd6 h)
          clear hcr
          obtain ⟨d, hd⟩ : ∃ d, d = stays [kept] 0 ⟨[102], T, k⟩ := ⟨_, rfl⟩
          rw [cr_one, ← hd] at hcr'
          have hdv : d = k + min kept.toNat (T.length - k) := by rw [hd]; rfl
          have hdi : (d : Int) = (k : Int) + min (max kept 0) (((bs T).size : Int) - (k : Int)) := by rw [bs_size, hdv]; omega
          have hdT : d ≤ T.length := by omega
          have hsl : ∀ W : World, (Instr.slice 9 (.string (bs T)) none (some (.int .i64 ((k : Int) + min (max kept 0) (((bs T).size : Int) - (k : Int))))) none).run Try.prog W = .ok (.string (bs (T.take d))) W := fun W => by
            rw [← hdi]; exact slice_str T d hdT W
          have hkz : k ≤ (bs T).size := by rw [bs_size]; exact hkT
          have HDT := Lib.hid hdT
          clear hd hdv hdi hdT hkT
          refine hcr'.mono ?_
          rintro e w5 ⟨rfl, hd7, b5⟩
          clear hcr'
          go_wp2_with fail
          clear hsl
          have bw5 : Below w.heap.size w w5 := (hbw.alloc (Nat.le_trans hz1 hsz6) (.cells #[.int .i64 kept] 3)).trans (b5.mono hz1)
          obtain ⟨F7, hd7⟩ := hd7
          have hal := all_any (n := [102]) hd7 (by unfold maxLen; simp)
          unfold allPost at hal
          rw [all_one] at hal
          refine hal.mono ?_
          rintro e w6 ⟨rfl, b6⟩
          clear hal
          have hsz7 : w1.heap.size ≤ w5.heap.size := DkB.size ⟨F7, hd7⟩
          have bw6 : Below w.heap.size w w6 := bw5.trans (b6.mono (Nat.le_trans hz1 hsz7))
          have hd8 : DkS w1.heap.size w6 pb F7 (one (T.take d) d) := hd7.kept (Turn.of_below (fun _ => False) b6 (Nat.le_refl _)) (fun _ _ _ f => f)
          go_wp2_with fail
          have hcr := crash_any (ka := none) (kc := 0) (kept := []) hd8 (fun j hj => by simp at hj) (by unfold maxLen; simp) (by simp [one])
          have hcr' := hcr.mono (fun e w' h => DkPost.b hd8 h)
          clear hcr
          have hlen : (T.take d).length = d := by rw [List.length_take]; have := HDT.out; omega
          have hst0 : stays [] 0 ⟨[102], T.take d, d⟩ = d := rfl
          rw [cr_one, hst0, List.take_of_length_le (by rw [hlen]; exact Nat.le_refl _)] at hcr'
          clear hlen hst0
          refine hcr'.mono ?_
          rintro e w7 ⟨rfl, hd9, b7⟩
          clear hcr'
          have bw7 : Below w.heap.size w w7 := bw6.trans (b7.mono hz1)
          go_wp2_with fail
          obtain ⟨F9, hd9⟩ := hd9
          have hal := all_any (n := [102]) hd9 (by unfold maxLen; simp)
          unfold allPost at hal
          rw [all_one] at hal
          refine hal.mono ?_
          rintro e w8 ⟨rfl, b8⟩
          clear hal
          have hsz9 : w1.heap.size ≤ w7.heap.size := DkB.size ⟨F9, hd9⟩
          go_wp2_with fail
          go_ret
          exact ⟨rfl, bw7.trans (b8.mono (Nat.le_trans hz1 hsz9))⟩
end Go.Proofs.Ytmpipfhlicfagaa
