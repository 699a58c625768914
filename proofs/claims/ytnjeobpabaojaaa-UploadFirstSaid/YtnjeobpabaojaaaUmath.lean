/- Plain facts of uploads: when one is due, what becomes of it, in how many ticks it is published. Nothing of the program is used here. -/
import Derived.Test.YtnjeobpabaojaaaBopens
namespace Go.Proofs.Ytnjeobpabaojaaa.U
open Go.RowKit
set_option linter.unusedVariables false

/-- One on its way. -/
structure Upl where
  st : Int
  tr : Int
  nx : Int
deriving DecidableEq

instance : Inhabited Upl := ⟨⟨0, 0, 0⟩⟩
def i64 (n : Int) : Prop := -9223372036854775808 ≤ n ∧ n ≤ 9223372036854775807
def Upl.fit (u : Upl) : Prop := i64 u.st ∧ i64 u.tr ∧ i64 u.nx
def upV (u : Upl) : Value := .agg #[.int .i64 u.st, .int .i64 u.tr, .int .i64 u.nx]
def due (u : Upl) (now : Int) : Bool := decide ((u.st = 0 ∨ u.st = 1) ∧ u.nx ≤ now)
theorem due_iff {u : Upl} {now : Int} : due u now = true ↔ (u.st = 0 ∨ u.st = 1) ∧ u.nx ≤ now := by unfold due; simp
theorem due_no {u : Upl} {now : Int} (h : ¬ ((u.st = 0 ∨ u.st = 1) ∧ u.nx ≤ now)) : due u now = false := by unfold due; simp [h]
/-- How long one rests. -/
def rst (t : Int) : Int := if t < 1 then 1 else if t < 2 then 2 else if t < 3 then 4 else if t < 4 then 8 else if t < 5 then 16 else if t < 6 then 32 else 64
theorem rst_bound (t : Int) : 1 ≤ rst t ∧ rst t ≤ 64 := by unfold rst; repeat (split; · omega); omega
/-- What becomes of one. -/
def stp (u : Upl) (now : Int) (well : Bool) : Upl :=
  if due u now = true then (if well = true then ⟨u.st + 1, 0, now⟩ else ⟨u.st, wrap64 (u.tr + 1), wrap64 (now + rst (wrap64 (u.tr + 1)))⟩) else u
theorem stp_no {u : Upl} {now : Int} (h : due u now = false) (well : Bool) : stp u now well = u := by unfold stp; rw [h]; rfl
theorem stp_well {u : Upl} {now : Int} (h : due u now = true) : stp u now true = ⟨u.st + 1, 0, now⟩ := by unfold stp; rw [h]; rfl
theorem stp_ill {u : Upl} {now : Int} (h : due u now = true) : stp u now false = ⟨u.st, wrap64 (u.tr + 1), wrap64 (now + rst (wrap64 (u.tr + 1)))⟩ := by unfold stp; rw [h]; rfl
def evi (u : Upl) : Upl × Bool := if u.st = 2 then (⟨3, u.tr, u.nx⟩, true) else (u, false)

/-- The rests behind so many fails. -/
def rests (t : Int) : Nat → Int
  | 0 => 0
  | k + 1 => rst (t + 1) + rests (t + 1) k
theorem rests_bound : ∀ (k : Nat) (t : Int), 0 ≤ rests t k ∧ rests t k ≤ 64 * k
  | 0, t => by simp [rests]
  | k + 1, t => by
    have := rests_bound k (t + 1)
    have := rst_bound (t + 1)
    simp only [rests]
    omega
/-- In how many ticks one is published: at its Next, behind its rests, and one tick for each state. -/
def tks (u : Upl) (now fails : Int) : Int :=
  if u.st = 2 then 0 else (if u.nx ≤ now then 0 else u.nx - now) + rests u.tr fails.toNat + (2 - u.st)
def Mild (u : Upl) (now : Int) : Prop := (0 ≤ u.st ∧ u.st ≤ 2) ∧ (0 ≤ u.tr ∧ u.tr ≤ 5000) ∧ 0 ≤ u.nx ∧ u.nx ≤ 1100000 ∧ 0 ≤ now ∧ now ≤ 1100000
theorem tks_bound {u : Upl} {now fails : Int} (h : 0 ≤ u.st ∧ u.st ≤ 1) : (1 ≤ tks u now fails) ∧ tks u now fails ≤ (if u.nx ≤ now then 0 else u.nx - now) + 64 * fails.toNat + 2 := by
  unfold tks
  have := rests_bound fails.toNat u.tr
  rw [if_neg (by omega)]
  split <;> omega
theorem wrap_small {n : Int} (h : i64 n) : wrap64 n = n := by unfold i64 at h; unfold wrap64; omega
/-- A tick that goes by. -/
theorem tks_step {u : Upl} {now left : Int} (hm : Mild u now) (h : u.st ≠ 2) :
    tks (stp u now (decide (left ≤ 0))) (now + 1) (if due u now = true then left - 1 else left) = tks u now left - 1 := by
  obtain ⟨hs, ht, hn, hn2, hw, hw2⟩ := hm
  by_cases hd : due u now = true
  · have hdu := due_iff.1 hd
    rw [if_pos hd]
    by_cases hl : left ≤ 0
    · rw [decide_eq_true hl, stp_well hd]
      have e1 : left.toNat = 0 := by omega
      have e2 : (left - 1).toNat = 0 := by omega
      simp only [tks, e1, e2, rests]
      rw [if_neg h, if_pos hdu.2, if_pos (show now ≤ now + 1 by omega)]
      split <;> omega
    · rw [decide_eq_false hl, stp_ill hd]
      have e1 : left.toNat = (left - 1).toNat + 1 := by omega
      have r := rst_bound (u.tr + 1)
      rw [wrap_small (n := u.tr + 1) (by unfold i64; omega), wrap_small (n := now + rst (u.tr + 1)) (by unfold i64; omega)]
      simp only [tks]
      rw [if_neg h, if_neg h, e1, if_pos hdu.2]
      simp only [rests]
      split <;> omega
  · have hdf : due u now = false := by simpa using hd
    rw [if_neg hd, stp_no hdf]
    have hno : ¬ ((u.st = 0 ∨ u.st = 1) ∧ u.nx ≤ now) := fun h => hd (due_iff.2 h)
    simp only [tks]
    rw [if_neg h, if_neg h, if_neg (show ¬ u.nx ≤ now by omega)]
    split <;> omega
end Go.Proofs.Ytnjeobpabaojaaa.U
