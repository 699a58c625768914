/- What is asked of the program's uploads; the first, small test of every law of layer 14. -/
import Derived.Test.YtnjeobpabaojaaaUmath
import Derived.Deep.DeepCutAuto
import Derived.Deep.RegionHeld3
import Derived.Deep.QuietTactic
import Derived.BigQuiet
namespace Go.Proofs.Ytnjeobpabaojaaa.U
open Go.RowKit
set_option linter.unusedVariables false
set_option linter.unusedSimpArgs false

/-- A slice holds these. -/
def UpsIn (w : World) (a : Option Addr) (l : List Upl) : Prop := ∀ i (h : i < l.length), ∃ b off, a = some ⟨b, off, none⟩ ∧ b < w.heap.size ∧
  w.cell? ⟨b, off + i * 3, none⟩ = some (.int .i64 l[i].st) ∧ w.cell? ⟨b, off + i * 3 + 1, none⟩ = some (.int .i64 l[i].tr) ∧ w.cell? ⟨b, off + i * 3 + 2, none⟩ = some (.int .i64 l[i].nx)
/-- The first of those that are due whose Next is least: the place of the best one so far, what is left. -/
def fstFrom (now : Int) (l : List Upl) : Nat → Int
  | 0 => -1
  | k + 1 => if due (l.getD k default) now = true ∧ (fstFrom now l k < 0 ∨ (l.getD k default).nx < (l.getD (fstFrom now l k).toNat default).nx) then k else fstFrom now l k
def fst (now : Int) (l : List Upl) : Int := fstFrom now l l.length
/-- What is asked. -/
structure UpC : Prop where
  due : ∀ {u now w}, u.fit → i64 now → Calls Try.prog 10 #[upV u, .int .i64 now] w fun e w' => e = .returned (.bool (due u now)) ∧ Below w.heap.size w w'
  step : ∀ {u now well w}, u.fit → i64 now → Calls Try.prog 12 #[upV u, .int .i64 now, .bool well] w fun e w' => e = .returned (upV (stp u now well)) ∧ Below w.heap.size w w'
  evict : ∀ {u w}, u.fit → Calls Try.prog 13 #[upV u] w fun e w' => e = .returned (.tuple #[upV (evi u).1, .bool (evi u).2]) ∧ Below w.heap.size w w'
  ticks : ∀ {u : Upl} {now fails w}, (u.st = 0 ∨ u.st = 1) → (0 ≤ now ∧ now ≤ 1000000) → (0 ≤ u.nx ∧ u.nx ≤ 1000000) → (0 ≤ u.tr ∧ u.tr ≤ 1000) → (0 ≤ fails ∧ fails ≤ 20) →
    Calls Try.prog 11 #[upV u, .int .i64 now, .int .i64 fails] w fun e w' => e = .returned (.int .i64 (tks u now fails)) ∧ Below w.heap.size w w'
  first : ∀ {now a cap w} {l : List Upl}, UpsIn w a l → l.length ≤ 1000 → (∀ u ∈ l, u.fit) → i64 now →
    Calls Try.prog 8 #[.int .i64 now, .slice a l.length cap] w fun e w' => e = .returned (.int .i64 (fst now l)) ∧ Below w.heap.size w w'

def Old (w1 W : World) : Prop := Below w1.heap.size w1 W
theorem Old.refl (w1 : World) : Old w1 w1 := Below.refl _ _
theorem Old.alloc {w1 W : World} (h : Old w1 W) (o : Obj) : Old w1 (W.alloc o) := Below.alloc h h.size o
theorem Old.drew {w1 W : World} (h : Old w1 W) : Old w1 W.drew := Below.drew h
theorem Old.drewN {w1 W : World} (h : Old w1 W) (q : Nat) : Old w1 (W.drewN q) := ⟨h.os, h.tape, h.output, h.size, h.block⟩
theorem Old.below {w1 W W' : World} (h : Old w1 W) (k : Below W.heap.size W W') : Old w1 W' := Below.trans h (k.mono h.size)

/-- The three variables of the small test. -/
def T3 (w : World) (g1 g2 g3 : Nat) (W : World) : Prop := W.heap[g1]? = some (.cells #[.int .i64 1, .int .i64 0, .int .i64 5] 28 (0, 0)) ∧ W.heap[g2]? = some (.cells #[.int .i64 1, .int .i64 1, .int .i64 7] 28 (0, 0)) ∧
  W.heap[g3]? = some (.cells #[.int .i64 3, .int .i64 0, .int .i64 0] 28 (0, 0)) ∧ Old w W
theorem T3.call {w : World} {g1 g2 g3 : Nat} {W W' : World} (h : T3 w g1 g2 g3 W) (b : Below W.heap.size W W') : T3 w g1 g2 g3 W' := by
  obtain ⟨h1, h2, h3, h4⟩ := h
  have l1 : g1 < W.heap.size := (Array.getElem?_eq_some_iff.1 h1).1
  have l2 : g2 < W.heap.size := (Array.getElem?_eq_some_iff.1 h2).1
  have l3 : g3 < W.heap.size := (Array.getElem?_eq_some_iff.1 h3).1
  exact ⟨by rw [b.block _ l1]; exact h1, by rw [b.block _ l2]; exact h2, by rw [b.block _ l3]; exact h3, h4.below b⟩
theorem T3.cells {w : World} {g1 g2 g3 : Nat} {W : World} (h : T3 w g1 g2 g3 W) :
    (W.cell? ⟨g1, 0, none⟩ = some (.int .i64 1) ∧ W.cell? ⟨g1, 1, none⟩ = some (.int .i64 0) ∧ W.cell? ⟨g1, 2, none⟩ = some (.int .i64 5)) ∧
    (W.cell? ⟨g2, 0, none⟩ = some (.int .i64 1) ∧ W.cell? ⟨g2, 1, none⟩ = some (.int .i64 1) ∧ W.cell? ⟨g2, 2, none⟩ = some (.int .i64 7)) ∧
    (W.cell? ⟨g3, 0, none⟩ = some (.int .i64 3) ∧ W.cell? ⟨g3, 1, none⟩ = some (.int .i64 0) ∧ W.cell? ⟨g3, 2, none⟩ = some (.int .i64 0)) := by
  obtain ⟨h1, h2, h3, h4⟩ := h
  have p0 := fun t => cell_of_row W g1 t _ _ (0, 0) h1
  have p1 := fun t => cell_of_row W g2 t _ _ (0, 0) h2
  have p2 := fun t => cell_of_row W g3 t _ _ (0, 0) h3
  exact ⟨⟨by simpa using p0 0, by simpa using p0 1, by simpa using p0 2⟩, ⟨by simpa using p1 0, by simpa using p1 1, by simpa using p1 2⟩, by simpa using p2 0, by simpa using p2 1, by simpa using p2 2⟩

set_option maxRecDepth 100000 in
set_option maxHeartbeats 2000000 in
theorem awake_any (C : UpC) (w : World) : Calls Try.prog 6 #[] w fun e w' => e = .returned (.bool true) ∧ Below w.heap.size w w' := by
  have f0 : i64 0 := by unfold i64; omega
  have f5 : i64 5 := by unfold i64; omega
  have H1 := Lib.hid (fun W => C.step (u := ⟨0, 0, 0⟩) (now := 5) (well := true) (w := W) ⟨f0, f0, f0⟩ f5)
  have H2 := Lib.hid (fun W => C.step (u := ⟨1, 0, 5⟩) (now := 5) (well := false) (w := W) ⟨by unfold i64; simp, f0, f5⟩ f5)
  have H3 := Lib.hid (fun W => C.evict (u := ⟨2, 0, 0⟩) (w := W) ⟨by unfold i64; simp, f0, f0⟩)
  have H4 := Lib.hid (fun W => C.due (u := ⟨1, 1, 7⟩) (now := 6) (w := W) ⟨by unfold i64; simp, by unfold i64; simp, by unfold i64; simp⟩ (by unfold i64; omega))
  have H5 := Lib.hid (fun W => C.due (u := ⟨1, 1, 7⟩) (now := 7) (w := W) ⟨by unfold i64; simp, by unfold i64; simp, by unfold i64; simp⟩ (by unfold i64; omega))
  have H6 := Lib.hid (fun W => C.ticks (u := ⟨0, 0, 0⟩) (now := 0) (fails := 0) (w := W) (Or.inl rfl) (by omega) (by simp) (by simp) (by omega))
  have e1 : stp ⟨0, 0, 0⟩ 5 true = ⟨1, 0, 5⟩ := by decide +kernel
  have e2 : stp ⟨1, 0, 5⟩ 5 false = ⟨1, 1, 7⟩ := by decide +kernel
  have e3 : evi ⟨2, 0, 0⟩ = (⟨3, 0, 0⟩, true) := by decide +kernel
  have e4 : due ⟨1, 1, 7⟩ 6 = false := by decide +kernel
  have e5 : due ⟨1, 1, 7⟩ 7 = true := by decide +kernel
  have e6 : tks ⟨0, 0, 0⟩ 0 0 = 2 := by decide +kernel
  rw [e1] at H1; rw [e2] at H2; rw [e3] at H3; rw [e4] at H4; rw [e5] at H5; rw [e6] at H6
  unfold upV at H1 H2 H3 H4 H5 H6
  have HC := Lib.hid C
  clear e1 e2 e3 e4 e5 e6 f0 f5
  go_enter Try.func6, Try.ntmps6
  have B0 := Lib.hid (Old.refl w)
  go_wp2_with fail
  refine (H1.out _).mono ?_
  rintro e w1 ⟨rfl, b1⟩
  have B1 := Lib.hid (B0.out.below b1)
  clear b1 B0
  go_wp2_with fail
  refine (H2.out _).mono ?_
  rintro e w2 ⟨rfl, b2⟩
  have n1 := heap_alloc_new w1 (.cells #[.int .i64 1, .int .i64 0, .int .i64 5] 28)
  have l1 : w1.heap.size < (w1.alloc (.cells #[.int .i64 1, .int .i64 0, .int .i64 5] 28)).heap.size := (Array.getElem?_eq_some_iff.1 n1).1
  have m1 : w2.heap[w1.heap.size]? = some (.cells #[.int .i64 1, .int .i64 0, .int .i64 5] 28 (0, 0)) := by rw [b2.block _ l1]; exact n1
  have k1 : w1.heap.size < w2.heap.size := (Array.getElem?_eq_some_iff.1 m1).1
  have B2 := Lib.hid ((B1.out.alloc _).below b2)
  generalize w1.heap.size = g1 at *
  clear b2 n1 l1 B1
  go_wp2_with fail
  refine (H3.out _).mono ?_
  rintro e w3 ⟨rfl, b3⟩
  have n2 := heap_alloc_new w2 (.cells #[.int .i64 1, .int .i64 1, .int .i64 7] 28)
  have l2 : w2.heap.size < (w2.alloc (.cells #[.int .i64 1, .int .i64 1, .int .i64 7] 28)).heap.size := (Array.getElem?_eq_some_iff.1 n2).1
  have m2 : w3.heap[w2.heap.size]? = some (.cells #[.int .i64 1, .int .i64 1, .int .i64 7] 28 (0, 0)) := by rw [b3.block _ l2]; exact n2
  have k2 : w2.heap.size < w3.heap.size := (Array.getElem?_eq_some_iff.1 m2).1
  have m1' : w3.heap[g1]? = some (.cells #[.int .i64 1, .int .i64 0, .int .i64 5] 28 (0, 0)) := by
    rw [b3.block _ (by omega), Below.block ((Below.refl w2.heap.size w2).alloc (Nat.le_refl _) _) _ k1]; exact m1
  have B3 := Lib.hid ((B2.out.alloc (.cells #[.int .i64 1, .int .i64 1, .int .i64 7] 28)).below b3)
  generalize w2.heap.size = g2 at *
  have k1' : g1 < w3.heap.size := by omega
  clear b3 n2 l2 B2 m1 k1
  -- the three variables
  have a3 := (Below.refl w3.heap.size w3).alloc (Nat.le_refl _) (.cells #[.int .i64 3, .int .i64 0, .int .i64 0] 28)
  have n3 := heap_alloc_new w3 (.cells #[.int .i64 3, .int .i64 0, .int .i64 0] 28)
  have m1 := (a3.block g1 k1').trans m1'
  have m2' := (a3.block g2 k2).trans m2
  have B4 := Lib.hid (B3.out.alloc (.cells #[.int .i64 3, .int .i64 0, .int .i64 0] 28))
  have HT : Hid (T3 w g1 g2 w3.heap.size (w3.alloc (.cells #[.int .i64 3, .int .i64 0, .int .i64 0] 28))) := Lib.hid ⟨m1, m2', n3, B4.out⟩
  clear a3 m1' m2 m1 m2' n3 B3 B4
  obtain ⟨⟨p00, p01, p02⟩, ⟨p10, p11, p12⟩, p20, p21, p22⟩ := HT.out.cells
  go_wp2_with fail
  generalize w3.alloc _ = w4 at *
  refine (H4.out _).mono ?_
  rintro e w5 ⟨rfl, b5⟩
  have HT5 := Lib.hid (HT.out.call b5)
  clear p00 p01 p02 p10 p11 p12 p20 p21 p22 b5 HT
  obtain ⟨⟨p00, p01, p02⟩, ⟨p10, p11, p12⟩, p20, p21, p22⟩ := HT5.out.cells
  go_wp2_with fail
  refine (H5.out _).mono ?_
  rintro e w6 ⟨rfl, b6⟩
  have HT6 := Lib.hid (HT5.out.call b6)
  clear p00 p01 p02 p10 p11 p12 p20 p21 p22 b6 HT5
  obtain ⟨⟨p00, p01, p02⟩, ⟨p10, p11, p12⟩, p20, p21, p22⟩ := HT6.out.cells
  go_wp2_with fail
  refine (H6.out _).mono ?_
  rintro e w7 ⟨rfl, b7⟩
  have HT7 := Lib.hid (HT6.out.call b7)
  clear p00 p01 p02 p10 p11 p12 p20 p21 p22 b7 HT6
  obtain ⟨⟨p00, p01, p02⟩, ⟨p10, p11, p12⟩, p20, p21, p22⟩ := HT7.out.cells
  have n8 := heap_alloc_new w7 (.cells #[.int .i64 2, .int .i64 0, .int .i64 0, .int .i64 1, .int .i64 1, .int .i64 7] 28)
  have c8 := fun t => cell_of_row _ w7.heap.size t _ _ (0, 0) n8
  have l8 : w7.heap.size < (w7.alloc (.cells #[.int .i64 2, .int .i64 0, .int .i64 0, .int .i64 1, .int .i64 1, .int .i64 7] 28)).heap.size := (Array.getElem?_eq_some_iff.1 n8).1
  have hin : UpsIn (w7.alloc (.cells #[.int .i64 2, .int .i64 0, .int .i64 0, .int .i64 1, .int .i64 1, .int .i64 7] 28)) (some ⟨w7.heap.size, 0, none⟩) [⟨2, 0, 0⟩, ⟨1, 1, 7⟩] := fun i hi => by
    refine ⟨w7.heap.size, 0, rfl, l8, ?_⟩
    match i, hi with
    | 0, _ => exact ⟨by simp, by simp, by simp⟩
    | 1, _ => exact ⟨by simp, by simp, by simp⟩
  have H7 := Lib.hid (HC.out.first (now := 7) (cap := 2) hin (by simp) (fun u hu => by
    simp only [List.mem_cons, List.not_mem_nil, or_false] at hu
    rcases hu with rfl | rfl <;> exact ⟨by unfold i64; simp, by unfold i64; simp, by unfold i64; simp⟩) (by unfold i64; omega))
  rw [show fst 7 [⟨2, 0, 0⟩, ⟨1, 1, 7⟩] = 1 by decide +kernel] at H7
  have HB8 := Lib.hid (HT7.out.2.2.2.alloc (.cells #[.int .i64 2, .int .i64 0, .int .i64 0, .int .i64 1, .int .i64 1, .int .i64 7] 28))
  clear n8 c8 l8 hin HT7
  go_wp2_with fail
  refine H7.out.mono ?_
  rintro e w9 ⟨rfl, b9⟩
  have HB9 := HB8.out.below b9
  go_wp2_with fail
  go_ret
  exact ⟨rfl, HB9⟩
end Go.Proofs.Ytnjeobpabaojaaa.U
