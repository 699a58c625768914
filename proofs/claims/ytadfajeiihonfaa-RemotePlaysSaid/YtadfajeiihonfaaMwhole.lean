/- RemoteWhole: the walk. -/
import Derived.Test.YtadfajeiihonfaaMawake
import Derived.Test.YtadfajeiihonfaaBopens
namespace Go.Proofs.Ytadfajeiihonfaa
open Go.RowKit Go.Maps
set_option linter.unusedVariables false

/-- A remote somewhere among the blocks from B on. -/
def RkB (B : Nat) (w : World) (pb : Nat) (S : Rs) : Prop := ∃ F, RkS B w pb F S
theorem RkPost.b {B pb : Nat} {F : Nat → Prop} {S S' : Rs} {r : Value} {w : World} (h : RkS B w pb F S) {e : Ending} {w' : World} (k : RkPost B pb F S' r w e w') : e = .returned r ∧ RkB B w' pb S' ∧ Below B w w' := by
  obtain ⟨rfl, F', h', hF, t⟩ := k
  exact ⟨rfl, ⟨F', h'⟩, t.below (fun k hk => (h.lt hk).1) h.size⟩

section
variable {B pb : Nat} {S : Rs} {w : World} {n b : List UInt8} (h : RkB B w pb S) (hn : n.length ≤ maxLen) (hc : S.n < 1000000000000)
include h hn hc
theorem put_b (hf : S.obs.length < 1000000000) {S' : Rs} {x : Int} (hS : takes S (lays S.obs n b) = S' ∧ errOf S 0 = x) : Calls Try.prog 8 #[.pointer (some ⟨pb, 0, none⟩), .string (bs n), .string (bs b)] w fun e w' => e = .returned (.int .i64 x) ∧ RkB B w' pb S' ∧ Below B w w' := by
  obtain ⟨rfl, rfl⟩ := hS
  obtain ⟨F, h⟩ := h
  exact (put_m h hn hc hf).mono fun _ _ k => RkPost.b h k
theorem putNew_b (hf : S.obs.length < 1000000000) {S' : Rs} {x : Int} (hS : takes S (newL S.obs n b) = S' ∧ errOf S (newE S.obs n) = x) : Calls Try.prog 10 #[.pointer (some ⟨pb, 0, none⟩), .string (bs n), .string (bs b)] w fun e w' => e = .returned (.int .i64 x) ∧ RkB B w' pb S' ∧ Below B w w' := by
  obtain ⟨rfl, rfl⟩ := hS
  obtain ⟨F, h⟩ := h
  exact (putNew_m h hn hc hf).mono fun _ _ k => RkPost.b h k
theorem get_b {S' : Rs} {t : List UInt8} {x : Int} (hS : used S = S' ∧ bytesIf S (getB S.obs n) = t ∧ errOf S (getE S.obs n) = x) : Calls Try.prog 12 #[.pointer (some ⟨pb, 0, none⟩), .string (bs n)] w fun e w' => e = .returned (.tuple #[.string (bs t), .int .i64 x]) ∧ RkB B w' pb S' ∧ Below B w w' := by
  obtain ⟨rfl, rfl, rfl⟩ := hS
  obtain ⟨F, h⟩ := h
  exact (get_m h hn hc).mono fun _ _ k => RkPost.b h k
end

theorem calls_b {B pb : Nat} {w : World} {S : Rs} (h : RkB B w pb S) : Calls Try.prog 20 #[.pointer (some ⟨pb, 0, none⟩)] w fun e w' => e = .returned (.int .i64 S.n) ∧ w = w' := by
  obtain ⟨F, h⟩ := h
  exact calls_any h

/-- A script of one fate, out of a new block. -/
theorem script_one {B pb : Nat} {w : World} {S : Rs} (h : RkB B w pb S) (f : Int) (hf : -9223372036854775808 ≤ f ∧ f ≤ 9223372036854775807) :
    Calls Try.prog 19 #[.pointer (some ⟨pb, 0, none⟩), .slice (some ⟨w.heap.size, 0, none⟩) 1 1] (w.alloc (.cells #[.int .i64 f] 3)) fun e w' => e = .returned (.tuple #[]) ∧ RkB B w' pb (setS S [f]) ∧ Below B w w' := by
  obtain ⟨F, h⟩ := h
  have hb : Below w.heap.size w (w.alloc (.cells #[.int .i64 f] 3)) := (Below.refl _ w).alloc (Nat.le_refl _) _
  have h1 := h.below hb
  refine (script_m h1 (some ⟨w.heap.size, 0, none⟩) [f] 1 (ints_lit (heap_alloc_new w (.cells #[.int .i64 f] 3))) (by simp) (by simpa using hf)).mono fun e w' k => ?_
  obtain ⟨e1, h2, b2⟩ := RkPost.b h1 k
  exact ⟨e1, h2, (hb.mono h.size).trans b2⟩

/-! ### the object that is there behind i rounds -/
def wn (l : List (List UInt8)) (fs : List Int) : Nat → Option (List UInt8)
  | 0 => none
  | i + 1 => if fs[i]? = some 1 then wn l fs i else l[i]?
def oneOb : Option (List UInt8) → List Ob
  | none => []
  | some t => [⟨[97], t⟩]
def stW (l : List (List UInt8)) (fs : List Int) (i : Nat) : Rs := ⟨oneOb (wn l fs i), [], 2 * i⟩

theorem lays_one (o : Option (List UInt8)) (b : List UInt8) : lays (oneOb o) [97] b = oneOb (some b) := by cases o <;> rfl
theorem wn_lost {l : List (List UInt8)} {fs : List Int} {i : Nat} (h : fs[i]? = some 1) : wn l fs (i + 1) = wn l fs i := by rw [wn, if_pos h]
theorem wn_other {l : List (List UInt8)} {fs : List Int} {i : Nat} {f : Int} {b : List UInt8} (h : fs[i]? = some f) (hf : f ≠ 1) (hb : l[i]? = some b) : wn l fs (i + 1) = some b := by rw [wn, if_neg (by rw [h]; simpa using hf), hb]
theorem few_one (o : Option (List UInt8)) : (oneOb o).length < 1000000000 := by cases o <;> simp [oneOb]

/-- A Put of one fate. -/
theorem w_put (o : Option (List UInt8)) (f : Int) (b : List UInt8) (k : Int) :
    takes (setS ⟨oneOb o, [], k⟩ [f]) (lays (setS ⟨oneOb o, [], k⟩ [f]).obs [97] b) = ⟨if f = 1 then oneOb o else oneOb (some b), [], k + 1⟩ ∧ errOf (setS ⟨oneOb o, [], k⟩ [f]) 0 = if f = 1 ∨ f = 2 then 9 else 0 := by
  show takes (setS ⟨oneOb o, [], k⟩ [f]) (lays (oneOb o) [97] b) = _ ∧ _
  rw [lays_one]
  exact ⟨rfl, rfl⟩
theorem w_get (o : Option (List UInt8)) (k : Int) : used ⟨oneOb o, [], k⟩ = ⟨oneOb o, [], k + 1⟩ ∧ bytesIf ⟨oneOb o, [], k⟩ (getB (oneOb o) [97]) = o.getD [] ∧ errOf ⟨oneOb o, [], k⟩ (getE (oneOb o) [97]) = if o.isSome then 0 else 5 := by
  cases o <;> exact ⟨rfl, rfl, rfl⟩

set_option maxHeartbeats 4000000 in
set_option maxRecDepth 100000 in
theorem whole_walk (l : List (List UInt8)) (fs : List Int) (a0 a1 : Option Addr) (cap0 cap1 : Nat) (w : World) (hl : Vals w a0 (strs l)) (hs : Vals w a1 (fs.map (Value.int .i64))) (hlm : l.length ≤ 9223372036854775807) (hsm : fs.length ≤ 9223372036854775807)
    (hr : ∀ y ∈ fs, -9223372036854775808 ≤ y ∧ y ≤ 9223372036854775807) :
    Calls Try.prog 4 #[.slice a0 l.length cap0, .slice a1 fs.length cap1] w fun e w' => e = .returned (.bool true) ∧ Below w.heap.size w w' := by
  obtain ⟨n, hn⟩ : ∃ n, n = l.length := ⟨_, rfl⟩
  obtain ⟨m, hm⟩ : ∃ m, m = fs.length := ⟨_, rfl⟩
  rw [← hn, ← hm]
  rw [← hn] at hlm
  rw [← hm] at hsm
  have HN := Lib.hid hn; have HM := Lib.hid hm; have HL := Lib.hid hl; have HS := Lib.hid hs; have HR := Lib.hid hr
  clear hn hm hl hs hr
  by_cases hbig : 40 < n ∨ m < n
  · by_cases hb1 : 40 < n
    · clear hbig
      go_enter Try.func4, Try.ntmps4
      go_wp2_with fail
      refine (awake_any w).mono ?_
      rintro e w1 ⟨rfl, b1⟩
      go_wp2_with fail
      refine (new_any w1).mono ?_
      rintro e w2 ⟨pb, F, rfl, h2, hF, b2⟩
      go_wp2_with fail
      go_ret
      exact ⟨rfl, b1.trans (b2.mono b1.size)⟩
    · have hb2 : m < n := by omega
      have hb1' : n ≤ 40 := by omega
      clear hbig
      go_enter Try.func4, Try.ntmps4
      go_wp2_with fail
      refine (awake_any w).mono ?_
      rintro e w1 ⟨rfl, b1⟩
      go_wp2_with fail
      refine (new_any w1).mono ?_
      rintro e w2 ⟨pb, F, rfl, h2, hF, b2⟩
      go_wp2_with fail
      go_ret
      exact ⟨rfl, b1.trans (b2.mono b1.size)⟩
  · have h30 : n ≤ 40 := by omega
    have hmn : n ≤ m := by omega
    clear hbig
    have dT1 : decide ((40 : Int) < (n : Int)) = false := by simp; omega
    have dT2 : decide ((m : Int) < (n : Int)) = false := by simp; omega
    have dT3 : decide (m < n) = false := by simp; omega
    go_enter Try.func4, Try.ntmps4
    go_wp2_with fail
    refine (awake_any w).mono ?_
    rintro e w1 ⟨rfl, b1⟩
    go_wp2_with fail
    refine (new_any w1).mono ?_
    rintro e w2 ⟨pb, F, rfl, h2, hF, b2⟩
    have B2 := Lib.hid (b1.trans (b2.mono b1.size))
    have D2 : Hid (RkB w1.heap.size w2 pb newS) := Lib.hid ⟨F, h2⟩
    have hz1 := b1.size
    clear b2 h2 hF
    go_wp2_with fail
    go_loopw [7, 8, 9] (fun wa is it wr => ∃ i : Nat, i ≤ n ∧ it = .int .i64 i ∧ wa = .string (bs ((wn l fs i).getD [])) ∧ is = .bool (wn l fs i).isSome ∧ RkB w1.heap.size wr pb (stW l fs i) ∧ Below w.heap.size w wr) (fun _ _ it _ => n - (intOf it).toNat)
    case atStart => exact ⟨0, by omega, rfl, rfl, rfl, D2.out, B2.out⟩
    case round =>
      obtain ⟨i, hi, rfl, rfl, rfl, hd, hbw⟩ := hrel
      by_cases hlt : i < n
      · have hil : i < l.length := by rw [← HN.out]; exact hlt
        have his : i < fs.length := by rw [← HM.out]; omega
        obtain ⟨b, hb⟩ : ∃ b, l[i]? = some b := ⟨_, List.getElem?_eq_getElem hil⟩
        obtain ⟨f, hf⟩ : ∃ f, fs[i]? = some f := ⟨_, List.getElem?_eq_getElem his⟩
        obtain ⟨g0, o0, hg0, c0⟩ := HL.out.at hbw (Nat.le_refl _) i (.string (bs b)) (by rw [strs_at, hb]; rfl)
        obtain ⟨g1, o1, hg1, c1⟩ := HS.out.at hbw (Nat.le_refl _) i (.int .i64 f) (by rw [List.getElem?_map, hf]; rfl)
        have l0 : g0 < w.heap.size := by
          obtain ⟨b', o', e1, e2, _⟩ := HL.out i (by rw [strs_len]; exact hil)
          rw [hg0] at e1; cases e1; exact e2
        have l1 : g1 < w.heap.size := by
          obtain ⟨b', o', e1, e2, _⟩ := HS.out i (by simpa using his)
          rw [hg1] at e1; cases e1; exact e2
        subst hg0 hg1
        have hfr := HR.out f (List.mem_of_getElem? hf)
        have hz : w.heap.size ≤ wr.heap.size := hbw.size
        have hlost := fun h1 : f = 1 => wn_lost (l := l) (i := i) (h1 ▸ hf)
        have hother := fun h1 : f ≠ 1 => wn_other hf h1 hb
        have hst : stW l fs i = ⟨oneOb (wn l fs i), [], 2 * (i : Int)⟩ := rfl
        have hst' : stW l fs (i + 1) = ⟨oneOb (wn l fs (i + 1)), [], 2 * (i : Int) + 1 + 1⟩ := by
          show (⟨_, _, 2 * ((i + 1 : Nat) : Int)⟩ : Rs) = _
          rw [show (2 * ((i + 1 : Nat) : Int)) = 2 * (i : Int) + 1 + 1 by omega]
        rw [hst] at hd
        have HST := Lib.hid hst'; clear hst hst' hb hf
        by_cases h1 : f = 1
        · subst h1
          have HW := Lib.hid (hlost rfl)
          clear hlost hother
          cases ho : wn l fs i with
          | none =>
            rw [ho] at hd
            have HE : Hid (wn l fs (i + 1) = none) := Lib.hid (HW.out.trans ho)
            clear ho HW
            go_wp2_with fail
            refine (script_one hd 1 hfr).mono ?_
            rintro e w3 ⟨rfl, d3, b3⟩
            have c03 := later_at b3 c0 (by omega)
            have c13 := later_at b3 c1 (by omega)
            clear hd c0 c1
            go_wp2_with fail
            refine (put_b (n := [97]) (b := b) d3 (by unfold maxLen; simp) (by show 2 * (i : Int) < _; omega) (few_one (none)) (S' := ⟨oneOb (none), [], 2 * (i : Int) + 1⟩) (x := 9) (w_put (none) 1 b (2 * (i : Int)))).mono ?_
            rintro e w4 ⟨rfl, d4, b4⟩
            have c04 := later_at b4 c03 (by omega)
            have c14 := later_at b4 c13 (by omega)
            clear d3 c03 c13
            go_wp2_with fail
            refine (get_b (n := [97]) d4 (by unfold maxLen; simp) (by show 2 * (i : Int) + 1 < _; omega) (w_get (none) (2 * (i : Int) + 1))).mono ?_
            rintro e w5 ⟨rfl, d5, b5⟩
            have hb5 : Below w.heap.size w w5 := (((hbw.trans (b3.mono hz1)).trans (b4.mono hz1)).trans (b5.mono hz1))
            clear d4 c04 c14 b3 b4 b5
            go_wp2_with fail
            go_roundw
            case rel => exact ⟨i + 1, by omega, by go_num, by rw [HE.out]; rfl, by rw [HE.out]; rfl, by rw [HST.out, HE.out]; exact d5, hb5⟩
            case measure => simp [intOf]; omega
          | some t =>
            rw [ho] at hd
            have HE : Hid (wn l fs (i + 1) = some t) := Lib.hid (HW.out.trans ho)
            clear ho HW
            go_wp2_with fail
            refine (script_one hd 1 hfr).mono ?_
            rintro e w3 ⟨rfl, d3, b3⟩
            have c03 := later_at b3 c0 (by omega)
            have c13 := later_at b3 c1 (by omega)
            clear hd c0 c1
            go_wp2_with fail
            refine (put_b (n := [97]) (b := b) d3 (by unfold maxLen; simp) (by show 2 * (i : Int) < _; omega) (few_one (some t)) (S' := ⟨oneOb (some t), [], 2 * (i : Int) + 1⟩) (x := 9) (w_put (some t) 1 b (2 * (i : Int)))).mono ?_
            rintro e w4 ⟨rfl, d4, b4⟩
            have c04 := later_at b4 c03 (by omega)
            have c14 := later_at b4 c13 (by omega)
            clear d3 c03 c13
            go_wp2_with fail
            refine (get_b (n := [97]) d4 (by unfold maxLen; simp) (by show 2 * (i : Int) + 1 < _; omega) (w_get (some t) (2 * (i : Int) + 1))).mono ?_
            rintro e w5 ⟨rfl, d5, b5⟩
            have hb5 : Below w.heap.size w w5 := (((hbw.trans (b3.mono hz1)).trans (b4.mono hz1)).trans (b5.mono hz1))
            clear d4 c04 c14 b3 b4 b5
            go_wp2_with fail
            go_roundw
            case rel => exact ⟨i + 1, by omega, by go_num, by rw [HE.out]; rfl, by rw [HE.out]; rfl, by rw [HST.out, HE.out]; exact d5, hb5⟩
            case measure => simp [intOf]; omega
        · have HE := Lib.hid (hother h1)
          clear hlost hother
          have hneq : (f == 1) = false := by simpa using h1
          have hnne : (f != 1) = true := by simpa using h1
          generalize wn l fs i = ow at hd ⊢
          by_cases h2 : f = 2
          · subst h2
            clear h1 hneq hnne
            go_wp2_with fail
            refine (script_one hd 2 hfr).mono ?_
            rintro e w3 ⟨rfl, d3, b3⟩
            have c03 := later_at b3 c0 (by omega)
            have c13 := later_at b3 c1 (by omega)
            clear hd c0 c1
            go_wp2_with fail
            refine (put_b (n := [97]) (b := b) d3 (by unfold maxLen; simp) (by show 2 * (i : Int) < _; omega) (few_one (ow)) (S' := ⟨oneOb (some b), [], 2 * (i : Int) + 1⟩) (x := 9) (w_put ow 2 b (2 * (i : Int)))).mono ?_
            rintro e w4 ⟨rfl, d4, b4⟩
            have c04 := later_at b4 c03 (by omega)
            have c14 := later_at b4 c13 (by omega)
            clear d3 c03 c13
            go_wp2_with fail
            refine (get_b (n := [97]) d4 (by unfold maxLen; simp) (by show 2 * (i : Int) + 1 < _; omega) (w_get (some b) (2 * (i : Int) + 1))).mono ?_
            rintro e w5 ⟨rfl, d5, b5⟩
            have hb5 : Below w.heap.size w w5 := (((hbw.trans (b3.mono hz1)).trans (b4.mono hz1)).trans (b5.mono hz1))
            clear d4 c04 c14 b3 b4 b5
            go_wp2_with fail
            go_roundw
            case rel => exact ⟨i + 1, by omega, by go_num, by rw [HE.out]; rfl, by rw [HE.out]; rfl, by rw [HST.out, HE.out]; exact d5, hb5⟩
            case measure => simp [intOf]; omega
          · have hneq2 : (f == 2) = false := by simpa using h2
            have HP := Lib.hid (w_put ow f b (2 * (i : Int)))
            have hp : takes (setS ⟨oneOb ow, [], 2 * (i : Int)⟩ [f]) (lays (setS ⟨oneOb ow, [], 2 * (i : Int)⟩ [f]).obs [97] b) = ⟨oneOb (some b), [], 2 * (i : Int) + 1⟩ ∧ errOf (setS ⟨oneOb ow, [], 2 * (i : Int)⟩ [f]) 0 = 0 := by
              have := HP.out
              rw [if_neg h1, if_neg (by omega)] at this
              exact this
            have HQ := Lib.hid hp
            clear h1 h2 HP hp
            go_wp2_with fail
            refine (script_one hd f hfr).mono ?_
            rintro e w3 ⟨rfl, d3, b3⟩
            have c03 := later_at b3 c0 (by omega)
            have c13 := later_at b3 c1 (by omega)
            clear hd c0 c1
            go_wp2_with fail
            refine (put_b (n := [97]) (b := b) d3 (by unfold maxLen; simp) (by show 2 * (i : Int) < _; omega) (few_one (ow)) (S' := ⟨oneOb (some b), [], 2 * (i : Int) + 1⟩) (x := 0) HQ.out).mono ?_
            rintro e w4 ⟨rfl, d4, b4⟩
            have c04 := later_at b4 c03 (by omega)
            have c14 := later_at b4 c13 (by omega)
            clear d3 c03 c13
            go_wp2_with fail
            refine (get_b (n := [97]) d4 (by unfold maxLen; simp) (by show 2 * (i : Int) + 1 < _; omega) (w_get (some b) (2 * (i : Int) + 1))).mono ?_
            rintro e w5 ⟨rfl, d5, b5⟩
            have hb5 : Below w.heap.size w w5 := (((hbw.trans (b3.mono hz1)).trans (b4.mono hz1)).trans (b5.mono hz1))
            clear d4 c04 c14 b3 b4 b5
            go_wp2_with fail
            go_roundw
            case rel => exact ⟨i + 1, by omega, by go_num, by rw [HE.out]; rfl, by rw [HE.out]; rfl, by rw [HST.out, HE.out]; exact d5, hb5⟩
            case measure => simp [intOf]; omega
      · obtain rfl : i = n := by omega
        have hsn : (stW l fs i).n = 2 * i := rfl
        have HD := Lib.hid hd; clear hd
        go_wp2_with fail
        refine (calls_b HD.out).mono ?_
        rintro e w9 ⟨rfl, rfl⟩
        rw [hsn]
        go_wp2_with fail
        go_ret
        exact ⟨rfl, hbw⟩

theorem whole_of (l : List (List UInt8)) (a0 : Option Addr) (cap0 : Nat) (fs : List Int) (a1 : Option Addr) (cap1 : Nat) (w : World) (h1 : l.length ≤ 9223372036854775807) (h2 : Vals w a0 (strs l)) (h3 : ∀ b ∈ l, b.length ≤ 9223372036854775807)
    (h4 : fs.length ≤ 9223372036854775807) (h5 : Vals w a1 (fs.map (Value.int .i64))) (h6 : ∀ y ∈ fs, -9223372036854775808 ≤ y ∧ y ≤ 9223372036854775807) :
    Calls Try.prog 4 #[.slice a0 l.length cap0, .slice a1 fs.length cap1] w fun e w' => e = .returned (.bool true) ∧ Below w.heap.size w w' := whole_walk l fs a0 a1 cap0 cap1 w h2 h5 h1 h4 h6
end Go.Proofs.Ytadfajeiihonfaa
