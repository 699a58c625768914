/- Plain facts on CRC-32C: a step is linear for xor and turns no number but 0 to 0; a byte is eight steps; what is turned in four bytes in a row turns the sum. Nothing of the program is used here. -/
namespace Go.Proofs.YtbefhnpmilcffaaDoor

/-- A step: the half, xored with the polynomial if the number was odd. -/
def step (n : Nat) : Nat := if n % 2 = 1 then n / 2 ^^^ 2197175160 else n / 2

theorem step_odd {n : Nat} (h : n % 2 = 1) : step n = n / 2 ^^^ 2197175160 := by rw [step, if_pos h]
theorem step_even {n : Nat} (h : ¬ n % 2 = 1) : step n = n / 2 := by rw [step, if_neg h]

theorem step_lt {n : Nat} (h : n < 4294967296) : step n < 4294967296 := by
  by_cases ho : n % 2 = 1
  · rw [step_odd ho]; exact Nat.xor_lt_two_pow (n := 32) (by omega) (by omega)
  · rw [step_even ho]; omega

theorem xor_half (a b : Nat) : (a ^^^ b) / 2 = a / 2 ^^^ b / 2 := Nat.xor_div_two
theorem xor_odd (a b : Nat) : (a ^^^ b) % 2 = (a + b) % 2 := by
  have h := Nat.testBit_xor a b 0
  simp only [Nat.testBit_zero] at h
  rcases Nat.mod_two_eq_zero_or_one a with h1 | h1 <;> rcases Nat.mod_two_eq_zero_or_one b with h2 | h2 <;> rcases Nat.mod_two_eq_zero_or_one (a ^^^ b) with h3 | h3 <;> rw [h1, h2, h3] at h <;> first | omega | exact absurd h (by decide)
theorem xor_zero {a b : Nat} (h : a ^^^ b = 0) : a = b := by
  have := Nat.xor_assoc a b b
  rw [h, Nat.xor_self, Nat.xor_zero, Nat.zero_xor] at this
  exact this.symm

theorem step_xor (a b : Nat) : step (a ^^^ b) = step a ^^^ step b := by
  have hx := xor_odd a b
  have hh := xor_half a b
  by_cases ha : a % 2 = 1 <;> by_cases hb : b % 2 = 1
  · rw [step_even (by omega), step_odd ha, step_odd hb, hh]
    rw [Nat.xor_comm (b / 2), ← Nat.xor_assoc, Nat.xor_assoc (a / 2), Nat.xor_self, Nat.xor_zero]
  · rw [step_odd (by omega), step_odd ha, step_even hb, hh]
    rw [Nat.xor_assoc, Nat.xor_assoc, Nat.xor_comm (b / 2)]
  · rw [step_odd (by omega), step_even ha, step_odd hb, hh, Nat.xor_assoc]
  · rw [step_even (by omega), step_even ha, step_even hb, hh]

theorem step_zero : step 0 = 0 := rfl

theorem step_ne {n : Nat} (h : n < 4294967296) (hn : n ≠ 0) : step n ≠ 0 := by
  by_cases ho : n % 2 = 1
  · rw [step_odd ho]
    intro e
    have := xor_zero e
    omega
  · rw [step_even ho]; omega

/-- So many steps. -/
def steps : Nat → Nat → Nat
  | 0, n => n
  | k + 1, n => steps k (step n)

theorem steps_snoc : ∀ k n, step (steps k n) = steps (k + 1) n
  | 0, _ => rfl
  | k + 1, n => steps_snoc k (step n)
theorem steps_add : ∀ j k n, steps j (steps k n) = steps (k + j) n
  | j, 0, n => by rw [Nat.zero_add]; rfl
  | j, k + 1, n => by rw [show k + 1 + j = (k + j) + 1 by omega]; exact steps_add j k (step n)
theorem steps_lt : ∀ k {n}, n < 4294967296 → steps k n < 4294967296
  | 0, _, h => h
  | k + 1, _, h => steps_lt k (step_lt h)
theorem steps_xor : ∀ k a b, steps k (a ^^^ b) = steps k a ^^^ steps k b
  | 0, _, _ => rfl
  | k + 1, a, b => by
    show steps k (step (a ^^^ b)) = steps k (step a) ^^^ steps k (step b)
    rw [step_xor, steps_xor k]
theorem steps_zero : ∀ k, steps k 0 = 0
  | 0 => rfl
  | k + 1 => steps_zero k
theorem steps_ne : ∀ k {n}, n < 4294967296 → n ≠ 0 → steps k n ≠ 0
  | 0, _, _, h => h
  | k + 1, _, hl, h => steps_ne k (step_lt hl) (step_ne hl h)
/-- What lies above the steps' bits is shifted down alone. -/
theorem steps_up (x : Nat) : steps 8 (256 * x) = x := by
  have h2 : ∀ y, step (2 * y) = y := fun y => by rw [step_even (by omega)]; omega
  have e : 256 * x = 2 * (2 * (2 * (2 * (2 * (2 * (2 * (2 * x))))))) := by omega
  rw [e]
  show step (step (step (step (step (step (step (step _))))))) = x
  simp only [h2]

attribute [irreducible] steps

/-- All steps of a byte on a number. -/
theorem steps_byte (a x : Nat) : steps 8 (a ^^^ 256 * x) = steps 8 a ^^^ x := by rw [steps_xor, steps_up]

theorem split256 (c : Nat) : c = c % 256 ^^^ 256 * (c / 256) := by
  apply Nat.eq_of_testBit_eq
  intro i
  rw [Nat.testBit_xor, show (256 : Nat) = 2 ^ 8 from rfl, Nat.testBit_mod_two_pow, Nat.testBit_two_pow_mul]
  by_cases hi : i < 8
  · have : ¬ i ≥ 8 := by omega
    simp [hi, this]
  · have h8 : i ≥ 8 := by omega
    have e := Nat.testBit_div_two_pow (x := c) (i := i - 8) (n := 8)
    rw [show i - 8 + 8 = i by omega] at e
    rw [e]
    simp [hi, h8]

/-- One lookup in the array of the bytes' sums is eight steps. -/
theorem lookup (c x : Nat) : c / 256 ^^^ steps 8 (c % 256 ^^^ x) = steps 8 (c ^^^ x) := by
  have e : c ^^^ x = (c % 256 ^^^ x) ^^^ 256 * (c / 256) := by
    rw [Nat.xor_assoc, Nat.xor_comm x, ← Nat.xor_assoc, ← split256]
  rw [e, steps_byte, Nat.xor_comm]

/-- The bytes of a row, one by one. -/
def upd : Nat → List UInt8 → Nat
  | c, [] => c
  | c, x :: l => upd (steps 8 (c ^^^ x.toNat)) l

theorem upd_nil (c : Nat) : upd c [] = c := rfl
theorem upd_cons (c : Nat) (x : UInt8) (l : List UInt8) : upd c (x :: l) = upd (steps 8 (c ^^^ x.toNat)) l := rfl
theorem u8_lt (x : UInt8) : x.toNat < 256 := UInt8.toNat_lt x
theorem upd_append : ∀ (a b : List UInt8) (c : Nat), upd c (a ++ b) = upd (upd c a) b
  | [], _, _ => rfl
  | _ :: a, b, _ => upd_append a b _
theorem upd_snoc (c : Nat) (l : List UInt8) (x : UInt8) : upd c (l ++ [x]) = steps 8 (upd c l ^^^ x.toNat) := by rw [upd_append]; rfl
theorem upd_lt : ∀ (l : List UInt8) {c : Nat}, c < 4294967296 → upd c l < 4294967296
  | [], _, h => h
  | x :: l, _, h => upd_lt l (steps_lt 8 (Nat.xor_lt_two_pow (n := 32) h (by have := u8_lt x; omega)))

/-- All bits turned. -/
def inv (n : Nat) : Nat := n ^^^ 4294967295
theorem inv_inv (n : Nat) : inv (inv n) = n := by rw [inv, inv, Nat.xor_assoc, Nat.xor_self, Nat.xor_zero]
theorem inv_lt {n : Nat} (h : n < 4294967296) : inv n < 4294967296 := Nat.xor_lt_two_pow (n := 32) h (by omega)

/-- The check of a row, on one that was told. -/
def more (s : Nat) (l : List UInt8) : Nat := inv (upd (inv s) l)
def sum (l : List UInt8) : Nat := more 0 l

theorem more_lt {s : Nat} (l : List UInt8) (h : s < 4294967296) : more s l < 4294967296 := inv_lt (upd_lt l (inv_lt h))
theorem sum_lt (l : List UInt8) : sum l < 4294967296 := more_lt l (by omega)
theorem more_goes (s : Nat) (a b : List UInt8) : more (more s a) b = more s (a ++ b) := by
  rw [more, more, more, inv_inv, upd_append]
theorem more_nil (s : Nat) : more s [] = s := inv_inv s
theorem sum_nil : sum [] = 0 := more_nil 0

/-- Two rows, turned by one another. -/
def xors : List UInt8 → List UInt8 → List UInt8
  | x :: a, y :: b => (x ^^^ y) :: xors a b
  | _, _ => []

theorem u8_xor_toNat (x y : UInt8) : (x ^^^ y).toNat = x.toNat ^^^ y.toNat := UInt8.toNat_xor x y

theorem upd_xor : ∀ (a b : List UInt8) (c d : Nat), a.length = b.length → upd (c ^^^ d) (xors a b) = upd c a ^^^ upd d b
  | [], [], _, _, _ => rfl
  | x :: a, y :: b, c, d, h => by
    show upd (steps 8 ((c ^^^ d) ^^^ (x ^^^ y).toNat)) (xors a b) = _
    have e : (c ^^^ d) ^^^ (x ^^^ y).toNat = (c ^^^ x.toNat) ^^^ (d ^^^ y.toNat) := by
      rw [u8_xor_toNat, Nat.xor_assoc, Nat.xor_assoc, ← Nat.xor_assoc d, Nat.xor_comm d, Nat.xor_assoc x.toNat]
    rw [e, steps_xor]
    exact upd_xor a b _ _ (by simpa using h)
  | [], _ :: _, _, _, h => by simp at h
  | _ :: _, [], _, _, h => by simp at h

theorem xors_length : ∀ (a b : List UInt8), a.length = b.length → (xors a b).length = a.length
  | [], [], _ => rfl
  | x :: a, y :: b, h => by simp only [xors, List.length_cons]; rw [xors_length a b (by simpa using h)]
  | [], _ :: _, h => by simp at h
  | _ :: _, [], h => by simp at h

theorem xors_get : ∀ (a b : List UInt8) (i : Nat) (ha : i < a.length) (hb : i < b.length) (h : i < (xors a b).length), (xors a b)[i] = a[i] ^^^ b[i]
  | x :: a, y :: b, 0, _, _, _ => rfl
  | x :: a, y :: b, i + 1, ha, hb, h => by
    simp only [xors, List.getElem_cons_succ]
    exact xors_get a b i _ _ _

/-- Of three rows of a length, turned by one another, the check is the three checks, turned by one another. -/
theorem sum_three (a b c : List UInt8) (h1 : a.length = b.length) (h2 : a.length = c.length) : sum (xors (xors a b) c) = sum a ^^^ sum b ^^^ sum c := by
  have h3 : (xors a b).length = c.length := by rw [xors_length a b h1, h2]
  have e0 : inv 0 = (inv 0 ^^^ inv 0) ^^^ inv 0 := by rw [Nat.xor_self, Nat.zero_xor]
  have e : upd (inv 0) (xors (xors a b) c) = (upd (inv 0) a ^^^ upd (inv 0) b) ^^^ upd (inv 0) c := by
    rw [← upd_xor a b _ _ h1, ← upd_xor _ c _ _ h3, ← e0]
  simp only [sum, more, e]
  generalize upd (inv 0) a = x
  generalize upd (inv 0) b = y
  generalize upd (inv 0) c = z
  simp only [inv]
  generalize 4294967295 = m
  rw [Nat.xor_assoc x m, ← Nat.xor_assoc m y m, Nat.xor_comm m y, Nat.xor_assoc y m m, Nat.xor_self, Nat.xor_zero, Nat.xor_assoc (x ^^^ y) z m]

/-! ### What is turned -/

/-- The number that a row begins with, the lowest byte first. -/
def le : List UInt8 → Nat
  | [] => 0
  | x :: l => x.toNat ^^^ 256 * le l

theorem mul256_xor (a b : Nat) : 256 * (a ^^^ b) = 256 * a ^^^ 256 * b := by
  apply Nat.eq_of_testBit_eq
  intro i
  simp only [show (256 : Nat) = 2 ^ 8 from rfl, Nat.testBit_two_pow_mul, Nat.testBit_xor]
  by_cases h : i ≥ 8 <;> simp [h]

theorem upd_le : ∀ (l : List UInt8) (c : Nat), upd c l = steps (8 * l.length) (c ^^^ le l)
  | [], c => by rw [upd_nil, le, Nat.xor_zero, List.length_nil, Nat.mul_zero, steps]
  | x :: l, c => by
    rw [upd_cons, upd_le l, le, ← Nat.xor_assoc, ← steps_byte, steps_add, List.length_cons, show 8 * (l.length + 1) = 8 + 8 * l.length by omega]

theorem le_lt : ∀ (l : List UInt8), le l < 256 ^ l.length
  | [] => by simp [le]
  | x :: l => by
    have h := le_lt l
    have hx := u8_lt x
    have e : x.toNat ^^^ 256 * le l = x.toNat + 256 * le l := by
      have := split256 (x.toNat + 256 * le l)
      rw [show (x.toNat + 256 * le l) % 256 = x.toNat by omega, show (x.toNat + 256 * le l) / 256 = le l by omega] at this
      exact this.symm
    rw [le, e, List.length_cons, Nat.pow_succ]
    omega

theorem le_zero : ∀ (l : List UInt8), le l = 0 → ∀ x ∈ l, x = 0
  | [], _, _, hx => by simp at hx
  | y :: l, h, x, hx => by
    rw [le] at h
    have h2 := xor_zero h
    have hy := u8_lt y
    have hl : le l = 0 := by omega
    have hy0 : y = 0 := by
      have : y.toNat = 0 := by omega
      exact UInt8.toNat_inj.1 this
    rcases List.mem_cons.1 hx with rfl | hx
    · exact hy0
    · exact le_zero l hl x hx

/-- Up to four bytes, not all 0, turn the sum. -/
theorem upd_four (l : List UInt8) (h : l.length ≤ 4) (hn : ∃ x ∈ l, x ≠ 0) : upd 0 l ≠ 0 := by
  rw [upd_le, Nat.zero_xor]
  refine steps_ne _ ?_ ?_
  · exact Nat.lt_of_lt_of_le (le_lt l) (Nat.le_trans (Nat.pow_le_pow_right (by omega) h) (by decide))
  · intro e
    obtain ⟨x, hx, h0⟩ := hn
    exact h0 (le_zero l e x hx)

theorem upd_zeros : ∀ k, upd 0 (List.replicate k 0) = 0
  | 0 => rfl
  | k + 1 => by
    rw [List.replicate_succ, upd_cons, show (0 : Nat) ^^^ (0 : UInt8).toNat = 0 from rfl, steps_zero]
    exact upd_zeros k

theorem upd_ne : ∀ (l : List UInt8) (c d : Nat), c < 4294967296 → d < 4294967296 → c ≠ d → upd c l ≠ upd d l
  | [], _, _, _, _, h => h
  | x :: l, c, d, hc, hd, h => by
    have hx := u8_lt x
    refine upd_ne l _ _ (steps_lt 8 (Nat.xor_lt_two_pow (n := 32) hc (by omega))) (steps_lt 8 (Nat.xor_lt_two_pow (n := 32) hd (by omega))) ?_
    intro e
    have e2 : steps 8 ((c ^^^ x.toNat) ^^^ (d ^^^ x.toNat)) = 0 := by rw [steps_xor, e, Nat.xor_self]
    have e3 : (c ^^^ x.toNat) ^^^ (d ^^^ x.toNat) = c ^^^ d := by
      rw [Nat.xor_comm d, ← Nat.xor_assoc, Nat.xor_assoc c, Nat.xor_self, Nat.xor_zero]
    rw [e3] at e2
    exact steps_ne 8 (Nat.xor_lt_two_pow (n := 32) hc hd) (fun h0 => h (xor_zero h0)) e2

/-- Two rows that differ in up to four bytes in a row, and somewhere there: their checks differ. -/
theorem sum_ne (p m m' q : List UInt8) (hl : m.length = m'.length) (h4 : m.length ≤ 4) (hne : m ≠ m') : sum (p ++ m ++ q) ≠ sum (p ++ m' ++ q) := by
  have hp : upd (inv 0) p < 4294967296 := upd_lt p (inv_lt (by omega))
  have hx : ∃ x ∈ xors m m', x ≠ 0 := by
    apply Classical.byContradiction
    intro hno
    apply hne
    apply List.ext_getElem hl
    intro i h1 h2
    have hlen := xors_length m m' hl
    have hg := xors_get m m' i h1 h2 (by omega)
    have h0 : (xors m m')[i]'(by omega) = 0 := Classical.byContradiction fun h => hno ⟨_, List.getElem_mem _, h⟩
    rw [hg] at h0
    exact UInt8.xor_eq_zero_iff.1 h0
  have hm : upd (upd (inv 0) p) m ≠ upd (upd (inv 0) p) m' := by
    intro e
    have := upd_xor m m' (upd (inv 0) p) (upd (inv 0) p) hl
    rw [e, Nat.xor_self, Nat.xor_self] at this
    exact upd_four _ (by rw [xors_length m m' hl]; exact h4) hx this
  have hq := upd_ne q _ _ (upd_lt m hp) (upd_lt m' hp) hm
  intro e
  apply hq
  rw [sum, sum, more, more, upd_append, upd_append, upd_append, upd_append] at e
  have := congrArg inv e
  rwa [inv_inv, inv_inv] at this

/-! ### Four bytes -/

/-- A number in four bytes, the lowest first. -/
def four (n : Nat) : List UInt8 := [UInt8.ofNat n, UInt8.ofNat (n / 256), UInt8.ofNat (n / 65536), UInt8.ofNat (n / 16777216)]

theorem four_length (n : Nat) : (four n).length = 4 := rfl
theorem four_inj {a b : Nat} (ha : a < 4294967296) (hb : b < 4294967296) (h : four a = four b) : a = b := by
  simp only [four, List.cons.injEq, and_true, ← UInt8.toNat_inj, UInt8.toNat_ofNat'] at h
  omega

/-- What was sealed. -/
def seal4 (l : List UInt8) : List UInt8 := four (sum l) ++ l

/-- What is opened. -/
def opn (l : List UInt8) : List UInt8 × Bool :=
  if l.length < 4 then ([], false) else if four (sum (l.drop 4)) = l.take 4 then (l.drop 4, true) else ([], false)

theorem opn_short {l : List UInt8} (h : l.length < 4) : opn l = ([], false) := by rw [opn, if_pos h]
theorem opn_yes {l : List UInt8} (h : ¬ l.length < 4) (e : four (sum (l.drop 4)) = l.take 4) : opn l = (l.drop 4, true) := by rw [opn, if_neg h, if_pos e]
theorem opn_no {l : List UInt8} (h : ¬ l.length < 4) (e : ¬ four (sum (l.drop 4)) = l.take 4) : opn l = ([], false) := by rw [opn, if_neg h, if_neg e]

theorem opn_seal (l : List UInt8) : opn (seal4 l) = (l, true) := by
  have hd : (seal4 l).drop 4 = l := rfl
  have ht : (seal4 l).take 4 = four (sum l) := rfl
  rw [opn_yes (by simp [seal4, four_length]) (by rw [hd, ht]), hd]

theorem opn_turned (l l' : List UInt8) (h : sum l ≠ sum l') : opn (four (sum l) ++ l') = ([], false) := by
  refine opn_no (by simp [four_length]) ?_
  show ¬ four (sum l') = four (sum l)
  exact fun e => h (four_inj (sum_lt l') (sum_lt l) e).symm

end Go.Proofs.YtbefhnpmilcffaaDoor
