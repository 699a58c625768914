/- Plain facts on hashes: numbers of 64 bits that are mixed, and texts' numbers. Nothing of the program is used here. -/
import Derived.ProofKit
namespace Go.Proofs.YtbjginlhgedjdaaDoor
set_option linter.unusedVariables false

/-- A number, turned by its upper half. -/
def x33 (n : Nat) : Nat := n ^^^ (n / 8589934592)
def W64 : Nat := 18446744073709551616
theorem x33_lt {n : Nat} (h : n < W64) : x33 n < W64 := by
  unfold x33
  exact Nat.xor_lt_two_pow (n := 64) h (Nat.lt_of_le_of_lt (Nat.div_le_self _ _) h)
theorem x33_back {n : Nat} (h : n < W64) : x33 (x33 n) = n := by
  unfold W64 at h
  unfold x33
  have e : ∀ m : Nat, m / 8589934592 = m >>> 33 := fun m => by rw [Nat.shiftRight_eq_div_pow]
  rw [e, e, Nat.shiftRight_xor_distrib, ← Nat.shiftRight_add]
  have h0 : n >>> (33 + 33) = 0 := by
    rw [Nat.shiftRight_eq_div_pow]
    exact Nat.div_eq_of_lt (by omega)
  rw [h0, Nat.xor_zero, Nat.xor_assoc, Nat.xor_self, Nat.xor_zero]
theorem x33_inj {a b : Nat} (ha : a < W64) (hb : b < W64) (h : x33 a = x33 b) : a = b := by
  rw [← x33_back ha, ← x33_back hb, h]

/-- Times an odd number, modulo 2^64. -/
def m64 (c n : Nat) : Nat := n * c % W64
theorem m64_lt (c n : Nat) : m64 c n < W64 := Nat.mod_lt _ (by unfold W64; omega)
theorem m64_inj {c k a b : Nat} (hk : c * k % W64 = 1) (ha : a < W64) (hb : b < W64) (h : m64 c a = m64 c b) : a = b := by
  have back : ∀ x, x < W64 → m64 k (m64 c x) = x := fun x hx => by
    unfold m64
    rw [Nat.mod_mul_mod, Nat.mul_assoc, Nat.mul_mod, hk, Nat.mul_one, Nat.mod_mod, Nat.mod_eq_of_lt hx]
  rw [← back a ha, ← back b hb, h]

/-- A number, mixed. -/
def mixN (n : Nat) : Nat := x33 (m64 14181476777654086739 (x33 (m64 18397679294719823053 (x33 n))))
theorem mixN_lt (n : Nat) : mixN n < W64 := x33_lt (m64_lt _ _)
theorem mixN_inj {a b : Nat} (ha : a < W64) (hb : b < W64) (h : mixN a = mixN b) : a = b := by
  unfold mixN at h
  have h1 := x33_inj (m64_lt _ _) (m64_lt _ _) h
  have h2 := m64_inj (k := 11291846944257947611) (by decide) (x33_lt (m64_lt _ _)) (x33_lt (m64_lt _ _)) h1
  have h3 := x33_inj (m64_lt _ _) (m64_lt _ _) h2
  have h4 := m64_inj (k := 5725274745694666757) (by decide) (x33_lt ha) (x33_lt hb) h3
  exact x33_inj ha hb h4

/-- A text's number. -/
def stepN (n : Nat) (b : UInt8) : Nat := m64 1099511628211 (n ^^^ b.toNat)
theorem stepN_lt (n : Nat) (b : UInt8) : stepN n b < W64 := m64_lt _ _
def startN : Nat := 14695981039346656037
theorem startN_lt : startN < W64 := by unfold startN W64; omega
def sumN (l : List UInt8) : Nat := l.foldl stepN startN
theorem foldl_one {α β : Type} (f : α → β → α) (a : α) (l : List β) (b : β) : (l ++ [b]).foldl f a = f (l.foldl f a) b := by simp
theorem foldl_lt (l : List UInt8) (n : Nat) (h : n < W64) : l.foldl stepN n < W64 := by
  induction l generalizing n with
  | nil => exact h
  | cons b l ih => exact ih _ (stepN_lt _ _)
theorem sumN_lt (l : List UInt8) : sumN l < W64 := foldl_lt l _ startN_lt
theorem sumN_nil : sumN [] = startN := rfl
theorem sumN_snoc (l : List UInt8) (b : UInt8) : sumN (l ++ [b]) = stepN (sumN l) b := foldl_one _ _ _ _

/-- A place. -/
def place (l : List UInt8) (many : Int) : Int := if ∃ p, p ≤ 30 ∧ many = (2 : Int) ^ p then ((mixN (sumN l) % many.toNat : Nat) : Int) else 0
theorem place_pow (l : List UInt8) {p : Nat} (hp : p ≤ 30) : place l ((2 : Int) ^ p) = ((mixN (sumN l) % 2 ^ p : Nat) : Int) := by
  unfold place
  rw [if_pos ⟨p, hp, rfl⟩]
  congr 2
theorem mod_twice (x p : Nat) : 0 ≤ ((x % 2 ^ p : Nat) : Int) ∧ ((x % 2 ^ p : Nat) : Int) < (2 : Int) ^ p ∧ (((x % 2 ^ (p + 1) : Nat) : Int) = ((x % 2 ^ p : Nat) : Int) ∨ ((x % 2 ^ (p + 1) : Nat) : Int) = ((x % 2 ^ p : Nat) : Int) + (2 : Int) ^ p) := by
  have hpos : 0 < 2 ^ p := Nat.two_pow_pos p
  have hc : ((2 : Int) ^ p) = ((2 ^ p : Nat) : Int) := by push_cast; rfl
  rw [hc]
  refine ⟨by omega, by exact_mod_cast Nat.mod_lt x hpos, ?_⟩
  rw [Nat.pow_succ, Nat.mod_mul]
  rcases (show x / 2 ^ p % 2 = 0 ∨ x / 2 ^ p % 2 = 1 by omega) with h | h
  · left; rw [h]; simp
  · right; rw [h]; simp
theorem place_twice (l : List UInt8) {p : Nat} (hp : p ≤ 29) : 0 ≤ place l ((2 : Int) ^ p) ∧ place l ((2 : Int) ^ p) < (2 : Int) ^ p ∧ (place l ((2 : Int) ^ (p + 1)) = place l ((2 : Int) ^ p) ∨ place l ((2 : Int) ^ (p + 1)) = place l ((2 : Int) ^ p) + (2 : Int) ^ p) := by
  have h := mod_twice (mixN (sumN l)) p
  rw [← place_pow l (show p ≤ 30 by omega), ← place_pow l (show p + 1 ≤ 30 by omega)] at h
  exact h
end Go.Proofs.YtbjginlhgedjdaaDoor
