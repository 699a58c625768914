/- Merged out of 4 texts, in build order: Cmath, Csums, Cseals, Crefs. -/
import Derived.Test.YtkdidinekoaobaaGreatDoorVc
import Derived.WalkKit
import Derived.WalkSpells
import Derived.WalkLawsBesides
import Derived.Deep.QuietTactic
import Derived.BigQuiet
import Derived.Lib.Hide
import Derived.Lib.Strings
import Derived.Laws.BitsAllLaws
import Derived.Laws.IdiomStrings
import Derived.Laws.Rows
import Derived.Laws.Tables
import Derived.Deep.WholeRow
import Derived.Deep.RegionWith
import Derived.IntWalk

/- Plain facts on CRC-32C: a step is linear for xor and turns no number but 0 to 0; a byte is eight steps; what is turned in four bytes in a row turns the sum. Nothing of the program is used here. -/
namespace Go.Proofs.YtkdidinekoaobaaGreatDoor

/-- A step: the half, xored with the polynomial if the number was odd. -/
def step (n : Nat) : Nat := if n % 2 = 1 then n / 2 ^^^ 2197175160 else n / 2

theorem step_odd {n : Nat} (h : n % 2 = 1) : step n = n / 2 ^^^ 2197175160 := by rw [step, if_pos h]
theorem step_even {n : Nat} (h : ¬ n % 2 = 1) : step n = n / 2 := by rw [step, if_neg h]

theorem step_lt {n : Nat} (h : n < 4294967296) : step n < 4294967296 := by
  by_cases ho : n % 2 = 1
  · rw [step_odd ho]; exact Nat.xor_lt_two_pow (n := 32) (by omega) (by omega)
  · rw [step_even ho]; omega

theorem xor_half (a b : Nat) : (a ^^^ b) / 2 = a / 2 ^^^ b / 2 := Nat.xor_div_two
theorem xor_odd (a b : Nat) : (a ^^^ b) % 2 = (a + b) % 2 := by
  have h := Nat.testBit_xor a b 0
  simp only [Nat.testBit_zero] at h
  rcases Nat.mod_two_eq_zero_or_one a with h1 | h1 <;> rcases Nat.mod_two_eq_zero_or_one b with h2 | h2 <;> rcases Nat.mod_two_eq_zero_or_one (a ^^^ b) with h3 | h3 <;> rw [h1, h2, h3] at h <;> first | omega | exact absurd h (by decide)
theorem xor_zero {a b : Nat} (h : a ^^^ b = 0) : a = b := by
  have := Nat.xor_assoc a b b
  rw [h, Nat.xor_self, Nat.xor_zero, Nat.zero_xor] at this
  exact this.symm

theorem step_xor (a b : Nat) : step (a ^^^ b) = step a ^^^ step b := by
  have hx := xor_odd a b
  have hh := xor_half a b
  by_cases ha : a % 2 = 1 <;> by_cases hb : b % 2 = 1
  · rw [step_even (by omega), step_odd ha, step_odd hb, hh]
    rw [Nat.xor_comm (b / 2), ← Nat.xor_assoc, Nat.xor_assoc (a / 2), Nat.xor_self, Nat.xor_zero]
  · rw [step_odd (by omega), step_odd ha, step_even hb, hh]
    rw [Nat.xor_assoc, Nat.xor_assoc, Nat.xor_comm (b / 2)]
  · rw [step_odd (by omega), step_even ha, step_odd hb, hh, Nat.xor_assoc]
  · rw [step_even (by omega), step_even ha, step_even hb, hh]

theorem step_zero : step 0 = 0 := rfl

theorem step_ne {n : Nat} (h : n < 4294967296) (hn : n ≠ 0) : step n ≠ 0 := by
  by_cases ho : n % 2 = 1
  · rw [step_odd ho]
    intro e
    have := xor_zero e
    omega
  · rw [step_even ho]; omega

/-- So many steps. -/
def steps : Nat → Nat → Nat
  | 0, n => n
  | k + 1, n => steps k (step n)

theorem steps_snoc : ∀ k n, step (steps k n) = steps (k + 1) n
  | 0, _ => rfl
  | k + 1, n => steps_snoc k (step n)
theorem steps_add : ∀ j k n, steps j (steps k n) = steps (k + j) n
  | j, 0, n => by rw [Nat.zero_add]; rfl
  | j, k + 1, n => by rw [show k + 1 + j = (k + j) + 1 by omega]; exact steps_add j k (step n)
theorem steps_lt : ∀ k {n}, n < 4294967296 → steps k n < 4294967296
  | 0, _, h => h
  | k + 1, _, h => steps_lt k (step_lt h)
theorem steps_xor : ∀ k a b, steps k (a ^^^ b) = steps k a ^^^ steps k b
  | 0, _, _ => rfl
  | k + 1, a, b => by
    show steps k (step (a ^^^ b)) = steps k (step a) ^^^ steps k (step b)
    rw [step_xor, steps_xor k]
theorem steps_zero : ∀ k, steps k 0 = 0
  | 0 => rfl
  | k + 1 => steps_zero k
theorem steps_ne : ∀ k {n}, n < 4294967296 → n ≠ 0 → steps k n ≠ 0
  | 0, _, _, h => h
  | k + 1, _, hl, h => steps_ne k (step_lt hl) (step_ne hl h)
/-- What lies above the steps' bits is shifted down alone. -/
theorem steps_up (x : Nat) : steps 8 (256 * x) = x := by
  have h2 : ∀ y, step (2 * y) = y := fun y => by rw [step_even (by omega)]; omega
  have e : 256 * x = 2 * (2 * (2 * (2 * (2 * (2 * (2 * (2 * x))))))) := by omega
  rw [e]
  show step (step (step (step (step (step (step (step _))))))) = x
  simp only [h2]

attribute [irreducible] steps

/-- All steps of a byte on a number. -/
theorem steps_byte (a x : Nat) : steps 8 (a ^^^ 256 * x) = steps 8 a ^^^ x := by rw [steps_xor, steps_up]

theorem split256 (c : Nat) : c = c % 256 ^^^ 256 * (c / 256) := by
  apply Nat.eq_of_testBit_eq
  intro i
  rw [Nat.testBit_xor, show (256 : Nat) = 2 ^ 8 from rfl, Nat.testBit_mod_two_pow, Nat.testBit_two_pow_mul]
  by_cases hi : i < 8
  · have : ¬ i ≥ 8 := by omega
    simp [hi, this]
  · have h8 : i ≥ 8 := by omega
    have e := Nat.testBit_div_two_pow (x := c) (i := i - 8) (n := 8)
    rw [show i - 8 + 8 = i by omega] at e
    rw [e]
    simp [hi, h8]

/-- One lookup in the array of the bytes' sums is eight steps. -/
theorem lookup (c x : Nat) : c / 256 ^^^ steps 8 (c % 256 ^^^ x) = steps 8 (c ^^^ x) := by
  have e : c ^^^ x = (c % 256 ^^^ x) ^^^ 256 * (c / 256) := by
    rw [Nat.xor_assoc, Nat.xor_comm x, ← Nat.xor_assoc, ← split256]
  rw [e, steps_byte, Nat.xor_comm]

/-- The bytes of a row, one by one. -/
def upd : Nat → List UInt8 → Nat
  | c, [] => c
  | c, x :: l => upd (steps 8 (c ^^^ x.toNat)) l

theorem upd_nil (c : Nat) : upd c [] = c := rfl
theorem upd_cons (c : Nat) (x : UInt8) (l : List UInt8) : upd c (x :: l) = upd (steps 8 (c ^^^ x.toNat)) l := rfl
theorem u8_lt (x : UInt8) : x.toNat < 256 := UInt8.toNat_lt x
theorem upd_append : ∀ (a b : List UInt8) (c : Nat), upd c (a ++ b) = upd (upd c a) b
  | [], _, _ => rfl
  | _ :: a, b, _ => upd_append a b _
theorem upd_snoc (c : Nat) (l : List UInt8) (x : UInt8) : upd c (l ++ [x]) = steps 8 (upd c l ^^^ x.toNat) := by rw [upd_append]; rfl
theorem upd_lt : ∀ (l : List UInt8) {c : Nat}, c < 4294967296 → upd c l < 4294967296
  | [], _, h => h
  | x :: l, _, h => upd_lt l (steps_lt 8 (Nat.xor_lt_two_pow (n := 32) h (by have := u8_lt x; omega)))

/-- All bits turned. -/
def inv (n : Nat) : Nat := n ^^^ 4294967295
theorem inv_inv (n : Nat) : inv (inv n) = n := by rw [inv, inv, Nat.xor_assoc, Nat.xor_self, Nat.xor_zero]
theorem inv_lt {n : Nat} (h : n < 4294967296) : inv n < 4294967296 := Nat.xor_lt_two_pow (n := 32) h (by omega)

/-- The check of a row, on one that was told. -/
def more (s : Nat) (l : List UInt8) : Nat := inv (upd (inv s) l)
def sum (l : List UInt8) : Nat := more 0 l

theorem more_lt {s : Nat} (l : List UInt8) (h : s < 4294967296) : more s l < 4294967296 := inv_lt (upd_lt l (inv_lt h))
theorem sum_lt (l : List UInt8) : sum l < 4294967296 := more_lt l (by omega)
theorem more_goes (s : Nat) (a b : List UInt8) : more (more s a) b = more s (a ++ b) := by
  rw [more, more, more, inv_inv, upd_append]
theorem more_nil (s : Nat) : more s [] = s := inv_inv s
theorem sum_nil : sum [] = 0 := more_nil 0

/-- Two rows, turned by one another. -/
def xors : List UInt8 → List UInt8 → List UInt8
  | x :: a, y :: b => (x ^^^ y) :: xors a b
  | _, _ => []

theorem u8_xor_toNat (x y : UInt8) : (x ^^^ y).toNat = x.toNat ^^^ y.toNat := UInt8.toNat_xor x y

theorem upd_xor : ∀ (a b : List UInt8) (c d : Nat), a.length = b.length → upd (c ^^^ d) (xors a b) = upd c a ^^^ upd d b
  | [], [], _, _, _ => rfl
  | x :: a, y :: b, c, d, h => by
    show upd (steps 8 ((c ^^^ d) ^^^ (x ^^^ y).toNat)) (xors a b) = _
    have e : (c ^^^ d) ^^^ (x ^^^ y).toNat = (c ^^^ x.toNat) ^^^ (d ^^^ y.toNat) := by
      rw [u8_xor_toNat, Nat.xor_assoc, Nat.xor_assoc, ← Nat.xor_assoc d, Nat.xor_comm d, Nat.xor_assoc x.toNat]
    rw [e, steps_xor]
    exact upd_xor a b _ _ (by simpa using h)
  | [], _ :: _, _, _, h => by simp at h
  | _ :: _, [], _, _, h => by simp at h

theorem xors_length : ∀ (a b : List UInt8), a.length = b.length → (xors a b).length = a.length
  | [], [], _ => rfl
  | x :: a, y :: b, h => by simp only [xors, List.length_cons]; rw [xors_length a b (by simpa using h)]
  | [], _ :: _, h => by simp at h
  | _ :: _, [], h => by simp at h

theorem xors_get : ∀ (a b : List UInt8) (i : Nat) (ha : i < a.length) (hb : i < b.length) (h : i < (xors a b).length), (xors a b)[i] = a[i] ^^^ b[i]
  | x :: a, y :: b, 0, _, _, _ => rfl
  | x :: a, y :: b, i + 1, ha, hb, h => by
    simp only [xors, List.getElem_cons_succ]
    exact xors_get a b i _ _ _

/-- Of three rows of a length, turned by one another, the check is the three checks, turned by one another. -/
theorem sum_three (a b c : List UInt8) (h1 : a.length = b.length) (h2 : a.length = c.length) : sum (xors (xors a b) c) = sum a ^^^ sum b ^^^ sum c := by
  have h3 : (xors a b).length = c.length := by rw [xors_length a b h1, h2]
  have e0 : inv 0 = (inv 0 ^^^ inv 0) ^^^ inv 0 := by rw [Nat.xor_self, Nat.zero_xor]
  have e : upd (inv 0) (xors (xors a b) c) = (upd (inv 0) a ^^^ upd (inv 0) b) ^^^ upd (inv 0) c := by
    rw [← upd_xor a b _ _ h1, ← upd_xor _ c _ _ h3, ← e0]
  simp only [sum, more, e]
  generalize upd (inv 0) a = x
  generalize upd (inv 0) b = y
  generalize upd (inv 0) c = z
  simp only [inv]
  generalize 4294967295 = m
  rw [Nat.xor_assoc x m, ← Nat.xor_assoc m y m, Nat.xor_comm m y, Nat.xor_assoc y m m, Nat.xor_self, Nat.xor_zero, Nat.xor_assoc (x ^^^ y) z m]

/-! ### What is turned -/

/-- The number that a row begins with, the lowest byte first. -/
def le : List UInt8 → Nat
  | [] => 0
  | x :: l => x.toNat ^^^ 256 * le l

theorem mul256_xor (a b : Nat) : 256 * (a ^^^ b) = 256 * a ^^^ 256 * b := by
  apply Nat.eq_of_testBit_eq
  intro i
  simp only [show (256 : Nat) = 2 ^ 8 from rfl, Nat.testBit_two_pow_mul, Nat.testBit_xor]
  by_cases h : i ≥ 8 <;> simp [h]

theorem upd_le : ∀ (l : List UInt8) (c : Nat), upd c l = steps (8 * l.length) (c ^^^ le l)
  | [], c => by rw [upd_nil, le, Nat.xor_zero, List.length_nil, Nat.mul_zero, steps]
  | x :: l, c => by
    rw [upd_cons, upd_le l, le, ← Nat.xor_assoc, ← steps_byte, steps_add, List.length_cons, show 8 * (l.length + 1) = 8 + 8 * l.length by omega]

theorem le_lt : ∀ (l : List UInt8), le l < 256 ^ l.length
  | [] => by simp [le]
  | x :: l => by
    have h := le_lt l
    have hx := u8_lt x
    have e : x.toNat ^^^ 256 * le l = x.toNat + 256 * le l := by
      have := split256 (x.toNat + 256 * le l)
      rw [show (x.toNat + 256 * le l) % 256 = x.toNat by omega, show (x.toNat + 256 * le l) / 256 = le l by omega] at this
      exact this.symm
    rw [le, e, List.length_cons, Nat.pow_succ]
    omega

theorem le_zero : ∀ (l : List UInt8), le l = 0 → ∀ x ∈ l, x = 0
  | [], _, _, hx => by simp at hx
  | y :: l, h, x, hx => by
    rw [le] at h
    have h2 := xor_zero h
    have hy := u8_lt y
    have hl : le l = 0 := by omega
    have hy0 : y = 0 := by
      have : y.toNat = 0 := by omega
      exact UInt8.toNat_inj.1 this
    rcases List.mem_cons.1 hx with rfl | hx
    · exact hy0
    · exact le_zero l hl x hx

/-- Up to four bytes, not all 0, turn the sum. -/
theorem upd_four (l : List UInt8) (h : l.length ≤ 4) (hn : ∃ x ∈ l, x ≠ 0) : upd 0 l ≠ 0 := by
  rw [upd_le, Nat.zero_xor]
  refine steps_ne _ ?_ ?_
  · exact Nat.lt_of_lt_of_le (le_lt l) (Nat.le_trans (Nat.pow_le_pow_right (by omega) h) (by decide))
  · intro e
    obtain ⟨x, hx, h0⟩ := hn
    exact h0 (le_zero l e x hx)

theorem upd_zeros : ∀ k, upd 0 (List.replicate k 0) = 0
  | 0 => rfl
  | k + 1 => by
    rw [List.replicate_succ, upd_cons, show (0 : Nat) ^^^ (0 : UInt8).toNat = 0 from rfl, steps_zero]
    exact upd_zeros k

theorem upd_ne : ∀ (l : List UInt8) (c d : Nat), c < 4294967296 → d < 4294967296 → c ≠ d → upd c l ≠ upd d l
  | [], _, _, _, _, h => h
  | x :: l, c, d, hc, hd, h => by
    have hx := u8_lt x
    refine upd_ne l _ _ (steps_lt 8 (Nat.xor_lt_two_pow (n := 32) hc (by omega))) (steps_lt 8 (Nat.xor_lt_two_pow (n := 32) hd (by omega))) ?_
    intro e
    have e2 : steps 8 ((c ^^^ x.toNat) ^^^ (d ^^^ x.toNat)) = 0 := by rw [steps_xor, e, Nat.xor_self]
    have e3 : (c ^^^ x.toNat) ^^^ (d ^^^ x.toNat) = c ^^^ d := by
      rw [Nat.xor_comm d, ← Nat.xor_assoc, Nat.xor_assoc c, Nat.xor_self, Nat.xor_zero]
    rw [e3] at e2
    exact steps_ne 8 (Nat.xor_lt_two_pow (n := 32) hc hd) (fun h0 => h (xor_zero h0)) e2

/-- Two rows that differ in up to four bytes in a row, and somewhere there: their checks differ. -/
theorem sum_ne (p m m' q : List UInt8) (hl : m.length = m'.length) (h4 : m.length ≤ 4) (hne : m ≠ m') : sum (p ++ m ++ q) ≠ sum (p ++ m' ++ q) := by
  have hp : upd (inv 0) p < 4294967296 := upd_lt p (inv_lt (by omega))
  have hx : ∃ x ∈ xors m m', x ≠ 0 := by
    apply Classical.byContradiction
    intro hno
    apply hne
    apply List.ext_getElem hl
    intro i h1 h2
    have hlen := xors_length m m' hl
    have hg := xors_get m m' i h1 h2 (by omega)
    have h0 : (xors m m')[i]'(by omega) = 0 := Classical.byContradiction fun h => hno ⟨_, List.getElem_mem _, h⟩
    rw [hg] at h0
    exact UInt8.xor_eq_zero_iff.1 h0
  have hm : upd (upd (inv 0) p) m ≠ upd (upd (inv 0) p) m' := by
    intro e
    have := upd_xor m m' (upd (inv 0) p) (upd (inv 0) p) hl
    rw [e, Nat.xor_self, Nat.xor_self] at this
    exact upd_four _ (by rw [xors_length m m' hl]; exact h4) hx this
  have hq := upd_ne q _ _ (upd_lt m hp) (upd_lt m' hp) hm
  intro e
  apply hq
  rw [sum, sum, more, more, upd_append, upd_append, upd_append, upd_append] at e
  have := congrArg inv e
  rwa [inv_inv, inv_inv] at this

/-! ### Four bytes -/

/-- A number in four bytes, the lowest first. -/
def four (n : Nat) : List UInt8 := [UInt8.ofNat n, UInt8.ofNat (n / 256), UInt8.ofNat (n / 65536), UInt8.ofNat (n / 16777216)]

theorem four_length (n : Nat) : (four n).length = 4 := rfl
theorem four_inj {a b : Nat} (ha : a < 4294967296) (hb : b < 4294967296) (h : four a = four b) : a = b := by
  simp only [four, List.cons.injEq, and_true, ← UInt8.toNat_inj, UInt8.toNat_ofNat'] at h
  omega

/-- What was sealed. -/
def seal4 (l : List UInt8) : List UInt8 := four (sum l) ++ l

/-- What is opened. -/
def opn (l : List UInt8) : List UInt8 × Bool :=
  if l.length < 4 then ([], false) else if four (sum (l.drop 4)) = l.take 4 then (l.drop 4, true) else ([], false)

theorem opn_short {l : List UInt8} (h : l.length < 4) : opn l = ([], false) := by rw [opn, if_pos h]
theorem opn_yes {l : List UInt8} (h : ¬ l.length < 4) (e : four (sum (l.drop 4)) = l.take 4) : opn l = (l.drop 4, true) := by rw [opn, if_neg h, if_pos e]
theorem opn_no {l : List UInt8} (h : ¬ l.length < 4) (e : ¬ four (sum (l.drop 4)) = l.take 4) : opn l = ([], false) := by rw [opn, if_neg h, if_neg e]

theorem opn_seal (l : List UInt8) : opn (seal4 l) = (l, true) := by
  have hd : (seal4 l).drop 4 = l := rfl
  have ht : (seal4 l).take 4 = four (sum l) := rfl
  rw [opn_yes (by simp [seal4, four_length]) (by rw [hd, ht]), hd]

theorem opn_turned (l l' : List UInt8) (h : sum l ≠ sum l') : opn (four (sum l) ++ l') = ([], false) := by
  refine opn_no (by simp [four_length]) ?_
  show ¬ four (sum l') = four (sum l)
  exact fun e => h (four_inj (sum_lt l') (sum_lt l) e).symm

end Go.Proofs.YtkdidinekoaobaaGreatDoor

/- What the calls of package crc that make checks return: step, byteSums, More and Sum. -/
namespace Go.Proofs.YtkdidinekoaobaaGreatDoor
open Go.RowKit

set_option maxHeartbeats 400000 in
theorem step_any (n : Nat) (w : World) (h : n < 4294967296) :
    Calls Tryz.prog 151 #[.int .u32 (n : Int)] w fun e w' => e = .returned (.int .u32 ((step n : Nat) : Int)) ∧ w = w' := by
  by_cases ho : n % 2 = 1
  · have hx : bits .xor .u32 ((n : Int) / 2) 2197175160 = ((step n : Nat) : Int) := by
      rw [step_odd ho, ← u32_xor_nat (n / 2) 2197175160 (by omega) (by omega)]; rfl
    generalize step n = s at *
    have hb : ((n : Int) % 2 == 1) = true := by rw [beq_iff_eq]; omega
    clear ho
    go_enter Tryz.func151, Tryz.ntmps151
    go_wp2
    go_ret
    exact ⟨rfl, rfl⟩
  · rw [step_even ho]
    have hb : ((n : Int) % 2 == 1) = false := by rw [beq_eq_false_iff_ne]; omega
    clear ho
    go_enter Tryz.func151, Tryz.ntmps151
    go_wp2
    go_ret
    exact ⟨ret_int (by omega), rfl⟩

/-- The array of the bytes' sums, filled up to place k. -/
def tab (k : Nat) : Array Value := ((List.range 256).map fun i => Value.int .u32 ((if i < k then steps 8 i else 0 : Nat) : Int)).toArray

theorem tab_size (k : Nat) : (tab k).size = 256 := by simp [tab]
theorem tab_get (k i : Nat) (h : i < 256) : (tab k)[i]? = some (.int .u32 ((if i < k then steps 8 i else 0 : Nat) : Int)) := by
  simp [tab, h]
theorem tab_set (k : Nat) (h : k < 256) : (tab k).setIfInBounds k (.int .u32 ((steps 8 k : Nat) : Int)) = tab (k + 1) := by
  apply Array.ext_getElem?
  intro i
  rw [Array.getElem?_setIfInBounds]
  by_cases hi : i < 256
  · rw [tab_get (k + 1) i hi, tab_get k i hi, tab_size]
    by_cases e : k = i
    · subst e; rw [if_pos rfl, if_pos h, if_pos (by omega)]
    · rw [if_neg e]
      by_cases hl : i < k
      · rw [if_pos hl, if_pos (by omega)]
      · rw [if_neg hl, if_neg (by omega)]
  · rw [if_neg (by omega), Array.getElem?_eq_none (by rw [tab_size]; omega), Array.getElem?_eq_none (by rw [tab_size]; omega)]

theorem tab_one (k : Nat) : (tab k).all (·.oneCell') = true := by
  rw [Array.all_eq_true_iff_forall_mem]
  intro v hv
  unfold tab at hv
  rw [List.mem_toArray, List.mem_map] at hv
  obtain ⟨i, _, rfl⟩ := hv
  rfl
theorem below_setRow {B g : Nat} {w w' : World} (h : Below B w w') (hg : B ≤ g) (cs : Array Value) : Below B w (w'.setRow g cs) :=
  h.trans ⟨rfl, rfl, rfl, by simp [World.setRow], fun k hk => setRow_other w' g k cs (by omega)⟩

theorem info256 : (Tryz.prog.info? 178).map (·.size) = some 256 := by kernel_rfl
theorem zero256 (w : World) : (zeroValue 178).run Tryz.prog w = .ok (.agg (tab 0)) w := by kernel_rfl
theorem alloc256 (w : World) : (Instr.alloc 178 true (.tuple #[])).run Tryz.prog w = .ok (.pointer (some ⟨w.heap.size, 0, none⟩)) (w.alloc (.cells (tab 0) 178)) := by
  simp only [Instr.alloc, Sem.run_bind, zero256, Result.andThen]
  rfl

set_option maxRecDepth 100000 in
set_option maxHeartbeats 400000 in
theorem table_any (w : World) :
    Calls Tryz.prog 134 #[] w fun e w' => e = .returned (.agg (tab 256)) ∧ Below w.heap.size w w' := by
  have ha := zero256
  go_enter Tryz.func134, Tryz.ntmps134
  go_wp2
  go_loopw [4] (fun i wr => ∃ (k : Nat), k ≤ 256 ∧ i = .int .i64 k ∧ wr = (w.alloc (.cells (tab 0) 178)).alloc (.cells (tab k) 178)) (fun i _ => 256 - (intOf i).toNat)
  case atStart => exact ⟨0, by omega, rfl, rfl⟩
  case round =>
    obtain ⟨k, hk, rfl, rfl⟩ := hrel
    by_cases hlt : k < 256
    · have hg := tab_get k k hlt
      have hlti : (k : Int) < 256 := by omega
      go_wp2
      go_loop [3, 9] (fun c i => ∃ j : Nat, j ≤ 8 ∧ i = .int .i64 j ∧ c = .int .u32 ((steps j k : Nat) : Int)) (fun _ i => 8 - (intOf i).toNat)
      case atStart => exact ⟨0, by omega, rfl, by rw [steps]⟩
      case round =>
        obtain ⟨j, hj, rfl, rfl⟩ := hrel
        by_cases hj8 : j < 8
        · have hs := step_any (steps j k) ((w.alloc (.cells (tab 0) 178)).alloc (.cells (tab k) 178)) (steps_lt j (by omega))
          rw [steps_snoc] at hs
          have HS := Lib.hid hs
          clear hs
          go_wp2_with fail
          refine HS.out.mono ?_
          rintro e w' ⟨rfl, rfl⟩
          go_wp2_with fail
          go_round
          case rel => exact ⟨j + 1, by omega, by go_num, rfl⟩
          case measure => simp [intOf]; omega
        · have e8 : j = 8 := by omega
          subst e8
          have HT := Lib.hid (tab_set k hlt)
          generalize steps 8 k = x at *
          go_wp2
          go_roundw
          case rel => exact ⟨k + 1, by omega, by go_num, by rw [HT.out]⟩
          case measure => simp [intOf]; omega
    · have e : k = 256 := by omega
      subst e
      clear hlt hk ha
      have g1 := heap_alloc2_new w (.cells (tab 0) 178) (.cells (tab 256) 178)
      have g0 := heap_alloc2_old w (.cells (tab 0) 178) (.cells (tab 256) 178)
      have G1 := Lib.hid g1
      have G0 := Lib.hid g0
      have G2 := Lib.hid (setRow_heap _ _ _ (tab 256) _ _ g0)
      have b1 : Below w.heap.size w ((w.alloc (.cells (tab 0) 178)).alloc (.cells (tab 256) 178)) := ((Below.refl _ _).alloc (Nat.le_refl _) _).alloc (by simp) _
      have B1 := Lib.hid (below_setRow b1 (Nat.le_refl _) (tab 256))
      clear g1 g0 b1
      go_wp2_with (first | (refine wpList_load_row rfl 178 _ rfl _ rfl 178 _ _ _ G1.out Tryz.underlying178 rfl (by rw [tab_size]; exact info256) ?_) | (refine wpList_store_row rfl 178 _ _ rfl _ (tab 256) rfl rfl 178 _ G0.out (by rw [tab_size]; exact info256) (by rw [tab_size, tab_size]) (tab_one _) ?_))
      refine bodyPost_ret (v := .agg (tab 256)) ?_ rfl ⟨rfl, B1.out⟩
      exact results_cell_row rfl _ _ _ _ _ _ _ rfl G2.out Tryz.underlying178 rfl (by rw [tab_size]; exact info256)

theorem not32 (n : Nat) (h : n < 4294967296) : bits .xor .u32 IntKind.u32.max (n : Int) = ((inv n : Nat) : Int) := by
  rw [inv, Nat.xor_comm, ← u32_xor_nat 4294967295 n (by omega) h]; rfl

set_option maxRecDepth 100000 in
set_option maxHeartbeats 400000 in
theorem more_any (n : Nat) (b : ByteArray) (w : World) (hn : n < 4294967296) (hb : b.size ≤ 9223372036854775807) :
    Calls Tryz.prog 102 #[.int .u32 (n : Int), .string b] w fun e w' => e = .returned (.int .u32 ((more n b.data.toList : Nat) : Int)) ∧ Below w.heap.size w w' := by
  have ha := zero256
  go_enter Tryz.func102, Tryz.ntmps102
  go_wp2_with fail
  refine (table_any w).mono ?_
  rintro e w1 ⟨rfl, b1⟩
  have G0 := Lib.hid (heap_alloc_last w1 (.cells (tab 0) 178))
  go_wp2_with (refine wpList_store_row rfl 178 _ _ rfl _ (tab 256) rfl rfl 178 _ G0.out (by rw [tab_size]; exact info256) (by rw [tab_size, tab_size]) (tab_one _) ?_)
  rw [World.setRow_alloc_new]
  have HN := Lib.hid (not32 n hn)
  go_loop [6, 13] (fun c i => ∃ k x : Nat, k ≤ b.size ∧ i = .int .i64 k ∧ c = .int .u32 x ∧ x = upd (inv n) (b.data.toList.take k)) (fun _ i => b.size - (intOf i).toNat)
  case atStart => exact ⟨0, inv n, by omega, rfl, by rw [HN.out], by rw [List.take_zero, upd_nil]⟩
  case round =>
    obtain ⟨k, x, hk, rfl, rfl, hx⟩ := hrel
    have hxl : x < 4294967296 := by rw [hx]; exact upd_lt _ (inv_lt hn)
    have HX := Lib.hid hx
    clear hx ha
    by_cases hlt : k < b.size
    · have hc := u8_lt b[k]
      have hi : x % 256 ^^^ b[k].toNat < 256 := Nat.xor_lt_two_pow (n := 8) (by omega) (by omega)
      have e1 : bits .xor .u8 ((x : Int) % 256) (b[k].toNat : Int) = ((x % 256 ^^^ b[k].toNat : Nat) : Int) := by
        rw [← u8_xor_nat (x % 256) b[k].toNat (by omega) (by omega)]; rfl
      have hg := tab_get 256 _ hi
      rw [if_pos hi] at hg
      have hy : steps 8 (x % 256 ^^^ b[k].toNat) < 4294967296 := steps_lt 8 (by omega)
      have e2 : bits .xor .u32 ((x : Int) / 256) ((steps 8 (x % 256 ^^^ b[k].toNat) : Nat) : Int) = ((steps 8 (x ^^^ b[k].toNat) : Nat) : Int) := by
        rw [← lookup x, ← u32_xor_nat (x / 256) _ (by omega) hy]; rfl
      have HS := Lib.hid (upd_snoc (inv n) (b.data.toList.take k) b[k])
      generalize steps 8 (x % 256 ^^^ b[k].toNat) = y at *
      generalize x % 256 ^^^ b[k].toNat = z at *
      go_wp2
      go_round
      case rel => exact ⟨k + 1, _, by omega, by go_num, rfl, by rw [take_snoc b k hlt, HS.out, HX.out]⟩
      case measure => simp [intOf]; omega
    · have HM := Lib.hid (not32 x hxl)
      go_wp2
      go_ret
      refine ⟨ret_int ?_, ?_⟩
      · rw [HM.out, HX.out, List.take_of_length_le (by rw [len_size]; omega), more]
      · exact b1.alloc b1.size _

set_option maxRecDepth 100000 in
set_option maxHeartbeats 400000 in
theorem sum_any (b : ByteArray) (w : World) (hb : b.size ≤ 9223372036854775807) :
    Calls Tryz.prog 84 #[.string b] w fun e w' => e = .returned (.int .u32 ((sum b.data.toList : Nat) : Int)) ∧ Below w.heap.size w w' := by
  go_enter Tryz.func84, Tryz.ntmps84
  go_wp2_with fail
  refine (more_any 0 b w (by omega) hb).mono ?_
  rintro e w1 ⟨rfl, b1⟩
  go_wp2
  go_ret
  exact ⟨rfl, b1⟩

end Go.Proofs.YtkdidinekoaobaaGreatDoor

/- What the calls of package crc on sealed bytes return: sumText, Seal and Open. -/
namespace Go.Proofs.YtkdidinekoaobaaGreatDoor
open Go.RowKit

/-- The array of four bytes that holds those so far. -/
def row4 (l : List UInt8) : Array Value := (l.map (fun c => Value.int .u8 c.toNat) ++ List.replicate (4 - l.length) (Value.int .u8 0)).toArray

theorem row4_cell (l : List UInt8) (k : Nat) (hl : l.length = k) (hk : k ≤ 3) : (row4 l)[k]? = some (Value.int .u8 0) := by
  subst hl
  obtain ⟨j, hj⟩ : ∃ j, 4 - l.length = j + 1 := ⟨3 - l.length, by omega⟩
  unfold row4
  rw [List.getElem?_toArray, List.getElem?_append_right (by simp), hj]
  simp

theorem row4_push (l : List UInt8) (k : Nat) (c : UInt8) (hl : l.length = k) (hk : k ≤ 3) : (row4 l).setIfInBounds k (Value.int .u8 c.toNat) = row4 (l ++ [c]) := by
  subst hl
  obtain ⟨j, hj⟩ : ∃ j, 4 - l.length = j + 1 := ⟨3 - l.length, by omega⟩
  have hj2 : 4 - (l ++ [c]).length = j := by simp; omega
  unfold row4
  rw [hj2, hj, List.setIfInBounds_toArray, List.replicate_succ]
  simp

theorem row4_next (n k : Nat) (hk : k < 4) : (row4 ((four n).take k)).setIfInBounds k (Value.int .u8 ((n : Int) / 2 ^ (8 * k) % 256)) = row4 ((four n).take (k + 1)) := by
  have key : ∀ (m : Nat) (l : List UInt8), l.length = k → (row4 l).setIfInBounds k (Value.int .u8 ((m : Int) % 256)) = row4 (l ++ [UInt8.ofNat m]) := by
    intro m l hl
    have e : ((UInt8.ofNat m).toNat : Int) = (m : Int) % 256 := by rw [UInt8.toNat_ofNat']; omega
    rw [← e]
    exact row4_push l k _ hl (by omega)
  obtain rfl | rfl | rfl | rfl : k = 0 ∨ k = 1 ∨ k = 2 ∨ k = 3 := by omega
  · rw [show (n : Int) / 2 ^ (8 * 0) = (n : Int) from by simp]
    exact key n [] rfl
  · exact key (n / 256) _ rfl
  · exact key (n / 65536) _ rfl
  · exact key (n / 16777216) _ rfl

theorem conv4 (l : List UInt8) (w : World) (hl : l.length = 4) :
    (convert 125 9 (.slice (some ⟨w.heap.size, 0, none⟩) 4 4)).run Tryz.prog (w.alloc (.cells (row4 l) 174)) = .ok (.string (bs l)) (w.alloc (.cells (row4 l) 174)) := by
  rw [show (Value.slice (some ⟨w.heap.size, 0, none⟩) 4 4) = Value.slice (some ⟨w.heap.size, 0, none⟩) l.length 4 from by rw [hl]]
  refine run_convert_bytes_back _ 125 9 5 ⟨w.heap.size, 0, none⟩ 4 l (by kernel_rfl) (by kernel_rfl) (by kernel_rfl) fun j hj => ?_
  have e : (⟨w.heap.size, 0, none⟩ : Addr).add j = ⟨w.heap.size, j, none⟩ := by simp [Addr.add]; omega
  rw [e, World.cell?_alloc_mark]
  unfold row4
  rw [List.getElem?_toArray, List.getElem?_append_left (by simpa using hj)]
  simp [hj]

set_option maxRecDepth 100000 in
set_option maxHeartbeats 400000 in
theorem text4_any (b : ByteArray) (w : World) (hb : b.size ≤ 9223372036854775807) :
    Calls Tryz.prog 98 #[.string b] w fun e w' => e = .returned (.string (bs (four (sum b.data.toList)))) ∧ Below w.heap.size w w' := by
  have hs := sum_any b w hb
  have hl := sum_lt b.data.toList
  generalize sum b.data.toList = n at *
  have HS := Lib.hid hs
  clear hs
  go_enter Tryz.func98, Tryz.ntmps98
  go_wp2_with fail
  refine HS.out.mono ?_
  rintro e w1 ⟨rfl, b1⟩
  go_wp2
  go_loopw [8] (fun i wr => ∃ k : Nat, k ≤ 4 ∧ i = .int .i64 k ∧ wr = w1.alloc (.cells (row4 ((four n).take k)) 174)) (fun i _ => 4 - (intOf i).toNat)
  case atStart => exact ⟨0, by omega, rfl, rfl⟩
  case round =>
    obtain ⟨k, hk, rfl, rfl⟩ := hrel
    by_cases hlt : k < 4
    · have hcell := row4_cell ((four n).take k) k (by simp [four_length]; omega) (by omega)
      go_wp2
      go_roundw
      case rel => exact ⟨k + 1, by omega, by go_num, by rw [row4_next n k hlt]⟩
      case measure => simp [intOf]; omega
    · have e : k = 4 := by omega
      subst e
      have hc := conv4 ((four n).take 4) w1 rfl
      go_wp2
      go_ret
      exact ⟨rfl, b1.alloc b1.size _⟩

theorem bs_append (l r : List UInt8) : bs (l ++ r) = bs l ++ bs r := (ByteArray.mk_append_mk l r).symm
theorem bs_add (l : List UInt8) (r : ByteArray) : bs l ++ r = bs (l ++ r.data.toList) := by rw [bs_append, bs_of]

set_option maxRecDepth 100000 in
set_option maxHeartbeats 400000 in
theorem seal_any (b : ByteArray) (w : World) (hb : b.size ≤ 281474976710656) :
    Calls Tryz.prog 73 #[.string b] w fun e w' => e = .returned (.string (bs (seal4 b.data.toList))) ∧ Below w.heap.size w w' := by
  have ht := text4_any b w (by omega)
  have hz : (bs (four (sum b.data.toList))).size = 4 := bs_size _
  rw [show bs (seal4 b.data.toList) = bs (four (sum b.data.toList)) ++ b from by rw [bs_add]; rfl]
  generalize bs (four (sum b.data.toList)) = q at *
  have HT := Lib.hid ht
  have hz4 : q.size ≤ 4 := by omega
  clear ht hz
  go_enter Tryz.func73, Tryz.ntmps73
  go_wp2_with fail
  refine HT.out.mono ?_
  rintro e w1 ⟨rfl, b1⟩
  go_wp2
  go_ret
  exact ⟨rfl, b1⟩

/-- What Open returns. -/
def opnV (l : List UInt8) : Value := .tuple #[.string (bs (opn l).1), .bool (opn l).2]

set_option maxRecDepth 100000 in
set_option maxHeartbeats 400000 in
theorem open_any (b : ByteArray) (w : World) (hb : b.size ≤ 9223372036854775807) :
    Calls Tryz.prog 94 #[.string b] w fun e w' => e = .returned (opnV b.data.toList) ∧ Below w.heap.size w w' := by
  by_cases hs : b.data.toList.length < 4
  · have e : opnV b.data.toList = .tuple #[.string (bs []), .bool false] := by rw [opnV, opn_short hs]
    rw [e]
    clear e
    rw [len_size] at hs
    go_enter Tryz.func94, Tryz.ntmps94
    go_wp2
    go_ret2
    exact ⟨rfl, Below.refl _ _⟩
  · have hsz : ¬ b.size < 4 := by rw [len_size] at hs; exact hs
    have hsi : ¬ (b.size : Int) < 4 := by omega
    have ht : ∀ w, Calls Tryz.prog 98 #[.string (b.extract 4 b.size)] w fun e w' => e = .returned (.string (bs (four (sum (b.data.toList.drop 4))))) ∧ Below w.heap.size w w' := fun w => by
      have := text4_any (b.extract 4 b.size) w (by rw [ByteArray.size_extract]; omega)
      rwa [ext_from, bs_list, ← ext_from] at this
    have HT := Lib.hid ht
    have HF := Lib.hid (ext_from b 4)
    clear ht
    by_cases hq : four (sum (b.data.toList.drop 4)) = b.data.toList.take 4
    · have e : opnV b.data.toList = .tuple #[.string (b.extract 4 b.size), .bool true] := by rw [opnV, opn_yes hs hq, ext_from]
      have hcmp : ((bs (four (sum (b.data.toList.drop 4)))).toList == (b.extract 0 4).toList) = true := by rw [ext_to, bs_toList, bs_toList, hq]; simp
      rw [e]
      clear e hq hs
      generalize bs (four (sum (b.data.toList.drop 4))) = q at *
      go_enter Tryz.func94, Tryz.ntmps94
      go_wp2_with fail
      go_region_with (go_at_call 98; refine (HT.out _).mono ?_; rintro e w' ⟨rfl, hb1⟩)
      go_wp2
      go_ret2
      exact ⟨rfl, (Below.refl _ _).drew.trans hb1⟩
    · have e : opnV b.data.toList = .tuple #[.string (bs []), .bool false] := by rw [opnV, opn_no hs hq]
      have hcmp : ((bs (four (sum (b.data.toList.drop 4)))).toList == (b.extract 0 4).toList) = false := by rw [ext_to, bs_toList, bs_toList]; simpa using hq
      rw [e]
      clear e hq hs
      generalize bs (four (sum (b.data.toList.drop 4))) = q at *
      go_enter Tryz.func94, Tryz.ntmps94
      go_wp2_with fail
      go_region_with (go_at_call 98; refine (HT.out _).mono ?_; rintro e w' ⟨rfl, hb1⟩)
      go_wp2
      go_ret2
      exact ⟨rfl, (Below.refl _ _).drew.trans hb1⟩

end Go.Proofs.YtkdidinekoaobaaGreatDoor

/- What the document's own answers of layer 2 return. -/
namespace Go.Proofs.YtkdidinekoaobaaGreatDoor
open Go.RowKit

set_option maxHeartbeats 400000 in
theorem refstep_any (n : Nat) (w : World) (h : n < 4294967296) :
    Calls Tryz.prog 135 #[.int .u32 (n : Int)] w fun e w' => e = .returned (.int .u32 ((step n : Nat) : Int)) ∧ w = w' := by
  by_cases ho : n % 2 = 1
  · have hx : bits .xor .u32 ((n : Int) / 2) 2197175160 = ((step n : Nat) : Int) := by
      rw [step_odd ho, ← u32_xor_nat (n / 2) 2197175160 (by omega) (by omega)]; rfl
    generalize step n = s at *
    have hb : ((n : Int) % 2 == 1) = true := by rw [beq_iff_eq]; omega
    clear ho
    go_enter Tryz.func135, Tryz.ntmps135
    go_wp2
    go_ret
    exact ⟨rfl, rfl⟩
  · rw [step_even ho]
    have hb : ((n : Int) % 2 == 1) = false := by rw [beq_eq_false_iff_ne]; omega
    clear ho
    go_enter Tryz.func135, Tryz.ntmps135
    go_wp2
    go_ret
    exact ⟨ret_int (by omega), rfl⟩

set_option maxRecDepth 100000 in
set_option maxHeartbeats 400000 in
theorem refmore_any (n : Nat) (b : ByteArray) (w : World) (hn : n < 4294967296) (hb : b.size ≤ 9223372036854775807) :
    Calls Tryz.prog 103 #[.int .u32 (n : Int), .string b] w fun e w' => e = .returned (.int .u32 ((more n b.data.toList : Nat) : Int)) ∧ w = w' := by
  go_enter Tryz.func103, Tryz.ntmps103
  go_wp2_with fail
  have HN := Lib.hid (not32 n hn)
  go_loop [5, 6] (fun c i => ∃ k x : Nat, k ≤ b.size ∧ i = .int .i64 k ∧ c = .int .u32 x ∧ x = upd (inv n) (b.data.toList.take k)) (fun _ i => b.size - (intOf i).toNat)
  case atStart => exact ⟨0, inv n, by omega, rfl, by rw [HN.out], by rw [List.take_zero, upd_nil]⟩
  case round =>
    obtain ⟨k, x, hk, rfl, rfl, hx⟩ := hrel
    have hxl : x < 4294967296 := by rw [hx]; exact upd_lt _ (inv_lt hn)
    have HX := Lib.hid hx
    clear hx
    by_cases hlt : k < b.size
    · have hc := u8_lt b[k]
      have e1 : bits .xor .u32 (x : Int) (b[k].toNat : Int) = ((x ^^^ b[k].toNat : Nat) : Int) := u32_xor_nat x b[k].toNat (by omega) (by omega)
      have hy : x ^^^ b[k].toNat < 4294967296 := Nat.xor_lt_two_pow (n := 32) (by omega) (by omega)
      have HS := Lib.hid (upd_snoc (inv n) (b.data.toList.take k) b[k])
      have HE : Hid (upd (inv n) (b.data.toList.take (k + 1)) = steps 8 (x ^^^ b[k].toNat)) := Lib.hid (by rw [take_snoc b k hlt, HS.out, HX.out])
      generalize x ^^^ b[k].toNat = y at *
      clear HS
      go_wp2_with fail
      go_loop [5, 7] (fun c i => ∃ j : Nat, j ≤ 8 ∧ i = .int .i64 j ∧ c = .int .u32 ((steps j y : Nat) : Int)) (fun _ i => 8 - (intOf i).toNat)
      case atStart => exact ⟨0, by omega, rfl, by rw [steps]⟩
      case round =>
        obtain ⟨j, hj, rfl, rfl⟩ := hrel
        by_cases hj8 : j < 8
        · have hs := refstep_any (steps j y) w (steps_lt j hy)
          rw [steps_snoc] at hs
          have HS := Lib.hid hs
          clear hs
          go_wp2_with fail
          refine HS.out.mono ?_
          rintro e w' ⟨rfl, rfl⟩
          go_wp2_with fail
          go_round
          case rel => exact ⟨j + 1, by omega, by go_num, rfl⟩
          case measure => simp [intOf]; omega
        · have e8 : j = 8 := by omega
          subst e8
          go_wp2
          go_round
          case rel => exact ⟨k + 1, _, by omega, by go_num, rfl, HE.out.symm⟩
          case measure => simp [intOf]; omega
    · have HM := Lib.hid (not32 x hxl)
      go_wp2
      go_ret
      refine ⟨ret_int ?_, rfl⟩
      rw [HM.out, HX.out, List.take_of_length_le (by rw [len_size]; omega), more]

set_option maxRecDepth 100000 in
set_option maxHeartbeats 400000 in
theorem refsum_any (b : ByteArray) (w : World) (hb : b.size ≤ 9223372036854775807) :
    Calls Tryz.prog 85 #[.string b] w fun e w' => e = .returned (.int .u32 ((sum b.data.toList : Nat) : Int)) ∧ w = w' := by
  go_enter Tryz.func85, Tryz.ntmps85
  go_wp2_with fail
  refine (refmore_any 0 b w (by omega) hb).mono ?_
  rintro e w1 ⟨rfl, rfl⟩
  go_wp2
  go_ret
  exact ⟨rfl, rfl⟩

theorem refconv (W : World) (b n : Nat) (h0 : W.cell? ⟨b, 0, none⟩ = some (.int .u8 ((n : Int) % 256))) (h1 : W.cell? ⟨b, 1, none⟩ = some (.int .u8 ((n : Int) / 256 % 256)))
    (h2 : W.cell? ⟨b, 2, none⟩ = some (.int .u8 ((n : Int) / 65536 % 256))) (hl : n < 4294967296) (h3 : W.cell? ⟨b, 3, none⟩ = some (.int .u8 ((n : Int) / 16777216))) :
    (convert 125 9 (.slice (some ⟨b, 0, none⟩) 4 4)).run Tryz.prog W = .ok (.string (bs (four n))) W := by
  refine run_convert_bytes_back W 125 9 5 ⟨b, 0, none⟩ 4 (four n) (by kernel_rfl) (by kernel_rfl) (by kernel_rfl) fun j hj => ?_
  obtain rfl | rfl | rfl | rfl : j = 0 ∨ j = 1 ∨ j = 2 ∨ j = 3 := by rw [four_length] at hj; omega
  · simp [Addr.add, h0, four]
  · simp [Addr.add, h1, four]
  · simp [Addr.add, h2, four]
  · rw [show (n : Int) / 16777216 = (n : Int) / 16777216 % 256 by omega] at h3
    simp [Addr.add, h3, four]

set_option maxRecDepth 100000 in
set_option maxHeartbeats 400000 in
theorem refseal_any (b : ByteArray) (w : World) (hb : b.size ≤ 281474976710656) :
    Calls Tryz.prog 80 #[.string b] w fun e w' => e = .returned (.string (bs (seal4 b.data.toList))) ∧ Below w.heap.size w w' := by
  have hs := refsum_any b w (by omega)
  have hl := sum_lt b.data.toList
  rw [show bs (seal4 b.data.toList) = bs (four (sum b.data.toList)) ++ b from by rw [bs_add]; rfl]
  have hz : (bs (four (sum b.data.toList))).size = 4 := bs_size _
  generalize sum b.data.toList = n at *
  have hc : ∀ (W : World) (b : Nat), W.cell? ⟨b, 0, none⟩ = some (.int .u8 ((n : Int) % 256)) → W.cell? ⟨b, 1, none⟩ = some (.int .u8 ((n : Int) / 256 % 256)) → W.cell? ⟨b, 2, none⟩ = some (.int .u8 ((n : Int) / 65536 % 256)) → W.cell? ⟨b, 3, none⟩ = some (.int .u8 ((n : Int) / 16777216)) →
    (convert 125 9 (.slice (some ⟨b, 0, none⟩) 4 4)).run Tryz.prog W = .ok (.string (bs (four n))) W := fun W b h0 h1 h2 h3 => refconv W b n h0 h1 h2 hl h3
  generalize bs (four n) = q at *
  have HS := Lib.hid hs
  have hz4 : q.size ≤ 4 := by omega
  clear hs hz
  go_enter Tryz.func80, Tryz.ntmps80
  go_wp2_with fail
  refine HS.out.mono ?_
  rintro e w1 ⟨rfl, rfl⟩
  go_wp2
  go_ret
  exact ⟨rfl, (Below.refl _ _).alloc (Nat.le_refl _) _⟩

theorem seal_eq (b : ByteArray) : (four (sum (b.data.toList.drop 4)) = b.data.toList.take 4) ↔ seal4 (b.data.toList.drop 4) = b.data.toList := by
  generalize b.data.toList = l at *
  have e := List.take_append_drop 4 l
  constructor
  · intro q
    rw [seal4, q, e]
  · intro q
    rw [seal4] at q
    have := congrArg (List.take 4) q
    rwa [List.take_left' (four_length _)] at this

set_option maxRecDepth 100000 in
set_option maxHeartbeats 400000 in
theorem refopen_any (b : ByteArray) (w : World) (hb : b.size ≤ 281474976710656) :
    Calls Tryz.prog 68 #[.string b] w fun e w' => e = .returned (opnV b.data.toList) ∧ Below w.heap.size w w' := by
  by_cases hs : b.data.toList.length < 4
  · have e : opnV b.data.toList = .tuple #[.string (bs []), .bool false] := by rw [opnV, opn_short hs]
    rw [e]
    clear e
    rw [len_size] at hs
    go_enter Tryz.func68, Tryz.ntmps68
    go_wp2
    go_ret2
    exact ⟨rfl, Below.refl _ _⟩
  · have hsz : ¬ b.size < 4 := by rw [len_size] at hs; exact hs
    have hsi : ¬ (b.size : Int) < 4 := by omega
    have hse := seal_eq b
    have ht : ∀ w, Calls Tryz.prog 80 #[.string (b.extract 4 b.size)] w fun e w' => e = .returned (.string (bs (seal4 (b.data.toList.drop 4)))) ∧ Below w.heap.size w w' := fun w => by
      have := refseal_any (b.extract 4 b.size) w (by rw [ByteArray.size_extract]; omega)
      rwa [ext_from, bs_list, ← ext_from] at this
    have HT := Lib.hid ht
    clear ht
    by_cases hq : four (sum (b.data.toList.drop 4)) = b.data.toList.take 4
    · have e : opnV b.data.toList = .tuple #[.string (b.extract 4 b.size), .bool true] := by rw [opnV, opn_yes hs hq, ext_from]
      have hcmp : ((bs (seal4 (b.data.toList.drop 4))).toList == b.toList) = true := by rw [bs_toList, hse.1 hq, Lib.toList_data]; simp
      rw [e]
      clear e hq hs hse
      generalize bs (seal4 (b.data.toList.drop 4)) = q at *
      go_enter Tryz.func68, Tryz.ntmps68
      go_wp2_with fail
      refine (HT.out _).mono ?_
      rintro e w1 ⟨rfl, b1⟩
      go_wp2
      go_ret2
      exact ⟨rfl, b1⟩
    · have e : opnV b.data.toList = .tuple #[.string (bs []), .bool false] := by rw [opnV, opn_no hs hq]
      have hcmp : ((bs (seal4 (b.data.toList.drop 4))).toList == b.toList) = false := by
        rw [bs_toList, Lib.toList_data]
        simpa using fun h => hq (hse.2 h)
      rw [e]
      clear e hq hs hse
      generalize bs (seal4 (b.data.toList.drop 4)) = q at *
      go_enter Tryz.func68, Tryz.ntmps68
      go_wp2_with fail
      refine (HT.out _).mono ?_
      rintro e w1 ⟨rfl, b1⟩
      go_wp2
      go_ret2
      exact ⟨rfl, b1⟩

end Go.Proofs.YtkdidinekoaobaaGreatDoor
