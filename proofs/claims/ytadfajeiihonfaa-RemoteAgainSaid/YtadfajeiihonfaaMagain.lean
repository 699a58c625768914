/- RemoteAgain: the walk. -/
import Derived.Test.YtadfajeiihonfaaMwhole
namespace Go.Proofs.Ytadfajeiihonfaa
open Go.RowKit Go.Maps
set_option linter.unusedVariables false

/-- The first of the calls that came through. -/
def ff (fs : List Int) : Nat → Option Nat
  | 0 => none
  | i + 1 => match ff fs i with
    | some k => some k
    | none => if fs[i]? = some 1 then none else some i
def ffInt : Option Nat → Int
  | none => -1
  | some k => k
theorem ff_lt {fs : List Int} : ∀ {i k : Nat}, ff fs i = some k → k < i
  | 0, _, h => by cases h
  | i + 1, k, h => by
    rw [ff] at h
    cases hi : ff fs i with
    | some j => rw [hi] at h; cases h; exact Nat.lt_succ_of_lt (ff_lt hi)
    | none =>
      rw [hi] at h
      dsimp only at h
      split at h
      · cases h
      · cases h; exact Nat.lt_succ_self _
theorem ff_some {fs : List Int} {i k : Nat} (h : ff fs i = some k) : ff fs (i + 1) = some k := by rw [ff, h]
theorem ff_lost {fs : List Int} {i : Nat} (h : ff fs i = none) (hf : fs[i]? = some 1) : ff fs (i + 1) = none := by rw [ff, h]; exact if_pos hf
theorem ff_first {fs : List Int} {i : Nat} {f : Int} (h : ff fs i = none) (hf : fs[i]? = some f) (h1 : f ≠ 1) : ff fs (i + 1) = some i := by rw [ff, h]; exact if_neg (by rw [hf]; simpa using h1)

def oA (l : List (List UInt8)) (fs : List Int) (i : Nat) : Option (List UInt8) := (ff fs i).bind fun k => l[k]?
def stA (l : List (List UInt8)) (fs : List Int) (i : Nat) : Rs := ⟨oneOb (oA l fs i), [], i⟩

/-- A PutNew of one fate, where nothing is there, and where there is. -/
theorem a_none (f : Int) (b : List UInt8) (k : Int) :
    takes (setS ⟨oneOb none, [], k⟩ [f]) (newL (setS ⟨oneOb none, [], k⟩ [f]).obs [97] b) = ⟨if f = 1 then oneOb none else oneOb (some b), [], k + 1⟩ ∧ errOf (setS ⟨oneOb none, [], k⟩ [f]) (newE (setS ⟨oneOb none, [], k⟩ [f]).obs [97]) = if f = 1 ∨ f = 2 then 9 else 0 := ⟨rfl, rfl⟩
theorem a_some (f : Int) (t b : List UInt8) (k : Int) :
    takes (setS ⟨oneOb (some t), [], k⟩ [f]) (newL (setS ⟨oneOb (some t), [], k⟩ [f]).obs [97] b) = ⟨oneOb (some t), [], k + 1⟩ ∧ errOf (setS ⟨oneOb (some t), [], k⟩ [f]) (newE (setS ⟨oneOb (some t), [], k⟩ [f]).obs [97]) = if f = 1 ∨ f = 2 then 9 else 7 := by
  refine ⟨?_, rfl⟩
  show takes (setS ⟨oneOb (some t), [], k⟩ [f]) (oneOb (some t)) = _
  unfold takes
  rw [show (setS ⟨oneOb (some t), [], k⟩ [f]).obs = oneOb (some t) from rfl, ite_self]
  rfl

set_option maxHeartbeats 4000000 in
set_option maxRecDepth 100000 in
theorem again_walk (l : List (List UInt8)) (fs : List Int) (a0 a1 : Option Addr) (cap0 cap1 : Nat) (w : World) (hl : Vals w a0 (strs l)) (hs : Vals w a1 (fs.map (Value.int .i64))) (hlm : l.length ≤ 9223372036854775807) (hsm : fs.length ≤ 9223372036854775807)
    (hr : ∀ y ∈ fs, -9223372036854775808 ≤ y ∧ y ≤ 9223372036854775807) :
    Calls Try.prog 5 #[.slice a0 l.length cap0, .slice a1 fs.length cap1] w fun e w' => e = .returned (.bool true) ∧ Below w.heap.size w w' := by
  obtain ⟨n, hn⟩ : ∃ n, n = l.length := ⟨_, rfl⟩
  obtain ⟨m, hm⟩ : ∃ m, m = fs.length := ⟨_, rfl⟩
  rw [← hn, ← hm]
  rw [← hn] at hlm
  rw [← hm] at hsm
  have HN := Lib.hid hn; have HM := Lib.hid hm; have HL := Lib.hid hl; have HS := Lib.hid hs; have HR := Lib.hid hr
  clear hn hm hl hs hr
  by_cases hbig : 40 < n ∨ m < n
  · by_cases hb1 : 40 < n
    · clear hbig
      go_enter Try.func5, Try.ntmps5
      go_wp2_with fail
      refine (awake_any w).mono ?_
      rintro e w1 ⟨rfl, b1⟩
      go_wp2_with fail
      refine (new_any w1).mono ?_
      rintro e w2 ⟨pb, F, rfl, h2, hF, b2⟩
      go_wp2_with fail
      go_ret
      exact ⟨rfl, b1.trans (b2.mono b1.size)⟩
    · have hb2 : m < n := by omega
      have hb1' : n ≤ 40 := by omega
      clear hbig
      go_enter Try.func5, Try.ntmps5
      go_wp2_with fail
      refine (awake_any w).mono ?_
      rintro e w1 ⟨rfl, b1⟩
      go_wp2_with fail
      refine (new_any w1).mono ?_
      rintro e w2 ⟨pb, F, rfl, h2, hF, b2⟩
      go_wp2_with fail
      go_ret
      exact ⟨rfl, b1.trans (b2.mono b1.size)⟩
  · have h30 : n ≤ 40 := by omega
    have hmn : n ≤ m := by omega
    clear hbig
    have dT1 : decide ((40 : Int) < (n : Int)) = false := by simp; omega
    have dT2 : decide ((m : Int) < (n : Int)) = false := by simp; omega
    have dT3 : decide (m < n) = false := by simp; omega
    go_enter Try.func5, Try.ntmps5
    go_wp2_with fail
    refine (awake_any w).mono ?_
    rintro e w1 ⟨rfl, b1⟩
    go_wp2_with fail
    refine (new_any w1).mono ?_
    rintro e w2 ⟨pb, F, rfl, h2, hF, b2⟩
    have B2 := Lib.hid (b1.trans (b2.mono b1.size))
    have D2 : Hid (RkB w1.heap.size w2 pb newS) := Lib.hid ⟨F, h2⟩
    have hz1 := b1.size
    clear b2 h2 hF
    go_wp2_with fail
    go_loopw [7, 8] (fun fi it wr => ∃ i : Nat, i ≤ n ∧ it = .int .i64 i ∧ fi = .int .i64 (ffInt (ff fs i)) ∧ RkB w1.heap.size wr pb (stA l fs i) ∧ Below w.heap.size w wr) (fun _ it _ => n - (intOf it).toNat)
    case atStart => exact ⟨0, by omega, rfl, rfl, D2.out, B2.out⟩
    case round =>
      obtain ⟨i, hi, rfl, rfl, hd, hbw⟩ := hrel
      by_cases hlt : i < n
      · have hil : i < l.length := by rw [← HN.out]; exact hlt
        have his : i < fs.length := by rw [← HM.out]; omega
        obtain ⟨b, hb⟩ : ∃ b, l[i]? = some b := ⟨_, List.getElem?_eq_getElem hil⟩
        obtain ⟨f, hf⟩ : ∃ f, fs[i]? = some f := ⟨_, List.getElem?_eq_getElem his⟩
        obtain ⟨g0, o0, hg0, c0⟩ := HL.out.at hbw (Nat.le_refl _) i (.string (bs b)) (by rw [strs_at, hb]; rfl)
        obtain ⟨g1, o1, hg1, c1⟩ := HS.out.at hbw (Nat.le_refl _) i (.int .i64 f) (by rw [List.getElem?_map, hf]; rfl)
        have l0 : g0 < w.heap.size := by
          obtain ⟨b', o', e1, e2, _⟩ := HL.out i (by rw [strs_len]; exact hil)
          rw [hg0] at e1; cases e1; exact e2
        have l1 : g1 < w.heap.size := by
          obtain ⟨b', o', e1, e2, _⟩ := HS.out i (by simpa using his)
          rw [hg1] at e1; cases e1; exact e2
        subst hg0 hg1
        have hfr := HR.out f (List.mem_of_getElem? hf)
        have hz : w.heap.size ≤ wr.heap.size := hbw.size
        have hst' : stA l fs (i + 1) = ⟨oneOb (oA l fs (i + 1)), [], (i : Int) + 1⟩ := rfl
        have HST := Lib.hid hst'; clear hst'
        cases hff : ff fs i with
        | none =>
          have hd : RkB w1.heap.size wr pb ⟨oneOb none, [], i⟩ := by have h := hd; rw [stA, oA, hff] at h; exact h
          have hlost := fun h1 : f = 1 => ff_lost hff (h1 ▸ hf)
          have hother := fun h1 : f ≠ 1 => ff_first hff hf h1
          have HB := Lib.hid hb
          clear hff hb hf
          rw [show ffInt none = -1 from rfl]
          by_cases h1 : f = 1
          · subst h1
            have HE := Lib.hid (hlost rfl)
            clear hlost hother
            go_wp2_with fail
            refine (script_one hd 1 hfr).mono ?_
            rintro e w3 ⟨rfl, d3, b3⟩
            have c03 := later_at b3 c0 (by omega)
            have c13 := later_at b3 c1 (by omega)
            clear hd c0 c1
            go_wp2_with fail
            refine (putNew_b (n := [97]) (b := b) d3 (by unfold maxLen; simp) (by show (i : Int) < _; omega) (few_one none) (S' := ⟨oneOb none, [], (i : Int) + 1⟩) (x := 9) (a_none 1 b i)).mono ?_
            rintro e w4 ⟨rfl, d4, b4⟩
            have c04 := later_at b4 c03 (by omega)
            have c14 := later_at b4 c13 (by omega)
            have hb4 : Below w.heap.size w w4 := ((hbw.trans (b3.mono hz1)).trans (b4.mono hz1))
            clear d3 c03 c13 b3 b4
            go_wp2_with fail
            go_roundw
            case rel => exact ⟨i + 1, by omega, by go_num, by rw [HE.out]; rfl, by rw [HST.out, oA, HE.out]; exact d4, hb4⟩
            case measure => simp [intOf]; omega
          · have he := hother h1
            clear hlost hother
            have HE : Hid (ff fs (i + 1) = some i) := Lib.hid he
            have hO : (some i).bind (fun k => l[k]?) = some b := HB.out
            have HO := Lib.hid hO; clear hO he
            by_cases h2 : f = 2
            · subst h2
              clear h1
              go_wp2_with fail
              refine (script_one hd 2 hfr).mono ?_
              rintro e w3 ⟨rfl, d3, b3⟩
              have c03 := later_at b3 c0 (by omega)
              have c13 := later_at b3 c1 (by omega)
              clear hd c0 c1
              go_wp2_with fail
              refine (putNew_b (n := [97]) (b := b) d3 (by unfold maxLen; simp) (by show (i : Int) < _; omega) (few_one none) (S' := ⟨oneOb (some b), [], (i : Int) + 1⟩) (x := 9) (a_none 2 b i)).mono ?_
              rintro e w4 ⟨rfl, d4, b4⟩
              have c04 := later_at b4 c03 (by omega)
              have c14 := later_at b4 c13 (by omega)
              have hb4 : Below w.heap.size w w4 := ((hbw.trans (b3.mono hz1)).trans (b4.mono hz1))
              clear d3 c03 c13 b3 b4
              go_wp2_with fail
              go_roundw
              case rel => exact ⟨i + 1, by omega, by go_num, by rw [HE.out]; rfl, by rw [HST.out, oA, HE.out, HO.out]; exact d4, hb4⟩
              case measure => simp [intOf]; omega
            · have hneq : (f == 1) = false := by simpa using h1
              have hnne : (f != 1) = true := by simpa using h1
              have hneq2 : (f == 2) = false := by simpa using h2
              have hnne2 : (f != 2) = true := by simpa using h2
              have hp := a_none f b i
              rw [if_neg h1, if_neg (by omega)] at hp
              have HQ := Lib.hid hp
              clear h1 h2 hp
              go_wp2_with fail
              refine (script_one hd f hfr).mono ?_
              rintro e w3 ⟨rfl, d3, b3⟩
              have c03 := later_at b3 c0 (by omega)
              have c13 := later_at b3 c1 (by omega)
              clear hd c0 c1
              go_wp2_with fail
              refine (putNew_b (n := [97]) (b := b) d3 (by unfold maxLen; simp) (by show (i : Int) < _; omega) (few_one none) (S' := ⟨oneOb (some b), [], (i : Int) + 1⟩) (x := 0) HQ.out).mono ?_
              rintro e w4 ⟨rfl, d4, b4⟩
              have c04 := later_at b4 c03 (by omega)
              have c14 := later_at b4 c13 (by omega)
              have hb4 : Below w.heap.size w w4 := ((hbw.trans (b3.mono hz1)).trans (b4.mono hz1))
              clear d3 c03 c13 b3 b4
              go_wp2_with fail
              go_roundw
              case rel => exact ⟨i + 1, by omega, by go_num, by rw [HE.out]; rfl, by rw [HST.out, oA, HE.out, HO.out]; exact d4, hb4⟩
              case measure => simp [intOf]; omega
        | some k =>
          have hki := ff_lt hff
          obtain ⟨t, ht⟩ : ∃ t, l[k]? = some t := ⟨_, List.getElem?_eq_getElem (by omega)⟩
          have HO : Hid ((some k).bind (fun k => l[k]?) = some t) := Lib.hid ht
          have hd : RkB w1.heap.size wr pb ⟨oneOb (some t), [], i⟩ := by have h := hd; rw [stA, oA, hff, HO.out] at h; exact h
          have HE := Lib.hid (ff_some hff)
          clear hff hb hf ht
          rw [show ffInt (some k) = k from rfl]
          have hk0 : ¬ ((k : Int) < 0) := by omega
          have hp := a_some f t b i
          by_cases h1 : f = 1
          · subst h1
            have HQ := Lib.hid hp; clear hp
            go_wp2_with fail
            refine (script_one hd 1 hfr).mono ?_
            rintro e w3 ⟨rfl, d3, b3⟩
            have c03 := later_at b3 c0 (by omega)
            have c13 := later_at b3 c1 (by omega)
            clear hd c0 c1
            go_wp2_with fail
            refine (putNew_b (n := [97]) (b := b) d3 (by unfold maxLen; simp) (by show (i : Int) < _; omega) (few_one (some t)) (S' := ⟨oneOb (some t), [], (i : Int) + 1⟩) (x := 9) HQ.out).mono ?_
            rintro e w4 ⟨rfl, d4, b4⟩
            have c04 := later_at b4 c03 (by omega)
            have c14 := later_at b4 c13 (by omega)
            have hb4 : Below w.heap.size w w4 := ((hbw.trans (b3.mono hz1)).trans (b4.mono hz1))
            clear d3 c03 c13 b3 b4
            go_wp2_with fail
            go_roundw
            case rel => exact ⟨i + 1, by omega, by go_num, by rw [HE.out]; rfl, by rw [HST.out, oA, HE.out, HO.out]; exact d4, hb4⟩
            case measure => simp [intOf]; omega
          · by_cases h2 : f = 2
            · subst h2
              clear h1
              have HQ := Lib.hid hp; clear hp
              go_wp2_with fail
              refine (script_one hd 2 hfr).mono ?_
              rintro e w3 ⟨rfl, d3, b3⟩
              have c03 := later_at b3 c0 (by omega)
              have c13 := later_at b3 c1 (by omega)
              clear hd c0 c1
              go_wp2_with fail
              refine (putNew_b (n := [97]) (b := b) d3 (by unfold maxLen; simp) (by show (i : Int) < _; omega) (few_one (some t)) (S' := ⟨oneOb (some t), [], (i : Int) + 1⟩) (x := 9) HQ.out).mono ?_
              rintro e w4 ⟨rfl, d4, b4⟩
              have c04 := later_at b4 c03 (by omega)
              have c14 := later_at b4 c13 (by omega)
              have hb4 : Below w.heap.size w w4 := ((hbw.trans (b3.mono hz1)).trans (b4.mono hz1))
              clear d3 c03 c13 b3 b4
              go_wp2_with fail
              go_roundw
              case rel => exact ⟨i + 1, by omega, by go_num, by rw [HE.out]; rfl, by rw [HST.out, oA, HE.out, HO.out]; exact d4, hb4⟩
              case measure => simp [intOf]; omega
            · have hneq : (f == 1) = false := by simpa using h1
              have hnne : (f != 1) = true := by simpa using h1
              have hneq2 : (f == 2) = false := by simpa using h2
              have hnne2 : (f != 2) = true := by simpa using h2
              rw [if_neg (by omega)] at hp
              have HQ := Lib.hid hp
              clear h1 h2 hp
              go_wp2_with fail
              refine (script_one hd f hfr).mono ?_
              rintro e w3 ⟨rfl, d3, b3⟩
              have c03 := later_at b3 c0 (by omega)
              have c13 := later_at b3 c1 (by omega)
              clear hd c0 c1
              go_wp2_with fail
              refine (putNew_b (n := [97]) (b := b) d3 (by unfold maxLen; simp) (by show (i : Int) < _; omega) (few_one (some t)) (S' := ⟨oneOb (some t), [], (i : Int) + 1⟩) (x := 7) HQ.out).mono ?_
              rintro e w4 ⟨rfl, d4, b4⟩
              have c04 := later_at b4 c03 (by omega)
              have c14 := later_at b4 c13 (by omega)
              have hb4 : Below w.heap.size w w4 := ((hbw.trans (b3.mono hz1)).trans (b4.mono hz1))
              clear d3 c03 c13 b3 b4
              go_wp2_with fail
              go_roundw
              case rel => exact ⟨i + 1, by omega, by go_num, by rw [HE.out]; rfl, by rw [HST.out, oA, HE.out, HO.out]; exact d4, hb4⟩
              case measure => simp [intOf]; omega
      · obtain rfl : i = n := by omega
        cases hff : ff fs i with
        | none =>
          have hd : RkB w1.heap.size wr pb ⟨oneOb none, [], i⟩ := by have h := hd; rw [stA, oA, hff] at h; exact h
          clear hff
          rw [show ffInt none = -1 from rfl]
          have HD := Lib.hid hd; clear hd
          go_wp2_with fail
          refine (get_b (n := [97]) HD.out (by unfold maxLen; simp) (by show (i : Int) < _; omega) (w_get none i)).mono ?_
          rintro e w5 ⟨rfl, d5, b5⟩
          go_wp2_with fail
          go_ret
          exact ⟨rfl, hbw.trans (b5.mono hz1)⟩
        | some k =>
          have hki := ff_lt hff
          obtain ⟨t, ht⟩ : ∃ t, l[k]? = some t := ⟨_, List.getElem?_eq_getElem (by rw [← HN.out]; exact hki)⟩
          have hd : RkB w1.heap.size wr pb ⟨oneOb (some t), [], i⟩ := by have h := hd; rw [stA, oA, hff, show (some k).bind (fun k => l[k]?) = some t from ht] at h; exact h
          obtain ⟨g0, o0, hg0, c0⟩ := HL.out.at hbw (Nat.le_refl _) k (.string (bs t)) (by rw [strs_at, ht]; rfl)
          have l0 : g0 < w.heap.size := by
            obtain ⟨b', o', e1, e2, _⟩ := HL.out k (by rw [strs_len, ← HN.out]; exact hki)
            rw [hg0] at e1; cases e1; exact e2
          subst hg0
          clear hff ht
          rw [show ffInt (some k) = k from rfl]
          have hk0 : ¬ ((k : Int) < 0) := by omega
          have HD := Lib.hid hd; clear hd
          go_wp2_with fail
          refine (get_b (n := [97]) HD.out (by unfold maxLen; simp) (by show (i : Int) < _; omega) (w_get (some t) i)).mono ?_
          rintro e w5 ⟨rfl, d5, b5⟩
          have c05 := later_at b5 c0 (by omega)
          go_wp2_with fail
          go_ret
          exact ⟨rfl, hbw.trans (b5.mono hz1)⟩

theorem again_of (l : List (List UInt8)) (a0 : Option Addr) (cap0 : Nat) (fs : List Int) (a1 : Option Addr) (cap1 : Nat) (w : World) (h1 : l.length ≤ 9223372036854775807) (h2 : Vals w a0 (strs l)) (h3 : ∀ b ∈ l, b.length ≤ 9223372036854775807)
    (h4 : fs.length ≤ 9223372036854775807) (h5 : Vals w a1 (fs.map (Value.int .i64))) (h6 : ∀ y ∈ fs, -9223372036854775808 ≤ y ∧ y ≤ 9223372036854775807) :
    Calls Try.prog 5 #[.slice a0 l.length cap0, .slice a1 fs.length cap1] w fun e w' => e = .returned (.bool true) ∧ Below w.heap.size w w' := again_walk l fs a0 a1 cap0 cap1 w h2 h5 h1 h4 h6
end Go.Proofs.Ytadfajeiihonfaa
