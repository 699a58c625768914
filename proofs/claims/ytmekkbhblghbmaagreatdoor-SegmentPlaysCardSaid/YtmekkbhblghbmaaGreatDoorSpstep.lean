/- SegmentPlays: one call of a script, on both disks. -/
import Derived.Test.YtmekkbhblghbmaaGreatDoorSsegC
import Derived.Test.YtmekkbhblghbmaaGreatDoorSawake
import Derived.Test.YtmekkbhblghbmaaGreatDoorSops
import Derived.Test.YtmekkbhblghbmaaGreatDoorSints
import Derived.Test.YtmekkbhblghbmaaGreatDoorSto
import Derived.Test.YtmekkbhblghbmaaGreatDoorStab
import Derived.Deep.RegionHeld3
import Derived.Deep.QuietTactic
import Derived.BigQuiet
namespace Go.Proofs.YtmekkbhblghbmaaGreatDoor
open Go.RowKit
set_option linter.unusedVariables false

theorem sy_room8 (S : D.St) (n : List UInt8) : (D.syS S n).fs.length ≤ S.fs.length + 1 := by
  unfold D.syS
  split
  · omega
  · rename_i f _
    split
    · have h1 := D.len_puts (D.burnt S) { f with sure := f.bt.length }
      rw [D.fs_burnt] at h1
      exact h1
    · rw [D.fs_burnt]; omega
theorem fu_room8 (S : D.St) (n : Int) : (D.fuS S n).fs.length ≤ S.fs.length + 1 := by simp [D.fuS]
theorem cr_room8 (S : D.St) (kept : List Int) : (D.crS S kept).fs.length ≤ S.fs.length + 1 := by simp [D.crS, D.crash_len]
theorem wr_room8 (S : D.St) (n : Int) (l : List Rc) : (wrS S n l).fs.length ≤ S.fs.length + 1 := by
  unfold wrS
  split
  · exact (D.ap_room _ _ _).2
  · omega
theorem hi_room8 (S : D.St) (n : Int) (l : List Et) : (hiS S n l).fs.length ≤ S.fs.length + 3 := by
  have h1 : (hrS S n).fs.length ≤ S.fs.length + 1 := by
    unfold hrS
    split
    · omega
    · exact (D.rm_room _ _).2
  have h2 := (D.ap_room (hrS S n) (hN n) (hbs l).1).2
  have h3 := sy_room8 (D.apS (hrS S n) (hN n) (hbs l).1) (hN n)
  unfold hiS
  split
  · split
    · split
      · split <;> omega
      · omega
    · omega
  · omega
theorem se_room8 (S : D.St) (n : Int) : (seS S n).fs.length ≤ S.fs.length + 4 := by
  have h1 := ld_room S n
  have h2 := hi_room8 (ldS S n) n (ldL S n)
  unfold seS
  split <;> omega
theorem ix_room8 (S : D.St) (n : Int) : (ixS S n).fs.length ≤ S.fs.length + 1 := by
  have h1 := ld_room S n
  unfold ixS
  split
  · split <;> omega
  · omega
theorem hrd_small8 (b : List UInt8) : (hrd b).1.length ≤ 2000 := by
  rcases hrd_cases b with ⟨e, _, _, h⟩ | ⟨l, h, h2, _⟩
  · rw [h]; simp
  · rw [h]; exact h2
theorem tdL_count {S : D.St} (n : Int) : (tdL S n).length ≤ 1048576 := by
  unfold tdL
  split
  · split
    · simp
    · have := hrd_small8 (by assumption : D.Fl).bt
      omega
  · simp
theorem ixL_count {S : D.St} (h : D.Good S) (n : Int) : (ixL S n).length ≤ 1048576 := by
  have h1 := ldL_count h n
  have h2 := tdL_count (S := S) n
  unfold ixL
  split
  · split
    · exact h2
    · exact h1
  · simp

theorem vals_later8 {w w' : World} {a : Option Addr} {vs : List Value} (h : Vals w a vs) (hb : Below w.heap.size w w') : Vals w' a vs := fun i hi => by
  obtain ⟨b, off, h1, h2, h3⟩ := h i hi
  exact ⟨b, off, h1, Nat.lt_of_lt_of_le h2 hb.size, by rw [hb.cell (p := ⟨b, off + i, none⟩) h2]; exact h3⟩
theorem ints_of8 {w w' : World} {a : Option Addr} {ks : List Int} {F : Nat → Prop} (h : Vals w a (ks.map (Value.int .i64))) (hb : Below w.heap.size w w') (hr : ∀ y ∈ ks, -9223372036854775808 ≤ y ∧ y ≤ 9223372036854775807) (hF : ∀ k, F k → w.heap.size ≤ k) : D.IntsIn w' F a ks := fun i hi => by
  obtain ⟨b, off, h1, h2, h3⟩ := h i (by simpa using hi)
  have hr' := hr ks[i] (List.getElem_mem hi)
  refine ⟨b, off, h1, ?_, Nat.lt_of_lt_of_le h2 hb.size, fun hf => by have := hF b hf; omega, hr'⟩
  rw [hb.cell (p := ⟨b, off + i, none⟩) h2, h3]
  simp
theorem Bo8.drew {B pb qb : Nat} {X : Nat → Prop} {Sd Sr : D.St} {w : World} (h : D.Bo B w pb qb X Sd Sr) : D.Bo B w.drew pb qb X Sd Sr := h.below ⟨rfl, rfl, rfl, Nat.le_refl _, fun _ _ => rfl⟩
theorem EntsIn.keep {w w' : World} {a : Option Addr} {l : List Et} (h : EntsIn w a l) (hs : w.heap.size ≤ w'.heap.size) (hk : 0 < l.length → ∀ A, a = some A → w'.heap[A.block]? = w.heap[A.block]?) : EntsIn w' a l := by
  by_cases h0 : 0 < l.length
  · exact h.away hs (fun A hA _ => hk h0 A hA)
  · intro h1; exact absurd h1 h0

/-- The call's own block is as it was, and all that was there ahead. -/
def PWatch (W0 W1 : World) (ob : Nat) (W : World) : Prop := W.heap[ob]? = W1.heap[ob]? ∧ Below W0.heap.size W0 W
theorem PWatch.drew {W0 W1 W : World} {ob : Nat} (h : PWatch W0 W1 ob W) : PWatch W0 W1 ob W.drew := ⟨h.1, h.2.drew⟩
theorem PWatch.fr {W0 W1 W W' : World} {ob B : Nat} {X : Nat → Prop} (h : PWatch W0 W1 ob W) (k : D.Fr B X W W') (hX : X ob) (hB : W0.heap.size ≤ B) : PWatch W0 W1 ob W' := ⟨(k.2 ob hX).trans h.1, h.2.trans (k.1.mono hB)⟩
theorem PWatch.below {W0 W1 W W' : World} {ob : Nat} (h : PWatch W0 W1 ob W) (hb : Below W.heap.size W W') (hl : ob < W.heap.size) : PWatch W0 W1 ob W' := ⟨(hb.block _ hl).trans h.1, h.2.trans (hb.mono h.2.size)⟩

theorem PWatch.later {W0 W1 W W' : World} {ob : Nat} (h : PWatch W0 W1 ob W) (hb : Below W.heap.size W W') (hl : ob < W1.heap.size) : PWatch W0 W1 ob W' := h.below hb (by
  have h1 := h.1
  rw [Array.getElem?_eq_getElem hl] at h1
  exact (Array.getElem?_eq_some_iff.1 h1).1)

/-- The switch, out of the law's own text. -/
def blockOf (n : Nat) : Code → Option Code
  | .loop c => blockOf n c
  | .seq a b => match blockOf n a with
    | some c => some c
    | none => blockOf n b
  | .block m c => if m = n then some (.block m c) else blockOf n c
  | .scope c => blockOf n c
  | .cond _ a b => match blockOf n a with
    | some c => some c
    | none => blockOf n b
  | _ => none
noncomputable def theSwitch : Code := (Tryz.f3.body.bind (blockOf 2)).getD .skip

/-- What is known of a call of a script ahead of the switch. -/
structure PStep (W : World) (B pb qb ob : Nat) (W0 W1 : World) (o : Sop) (S : D.St) : Prop where
  bo : D.Bo B W1 pb qb (fun k => k = ob) S S
  blk : W1.heap[ob]? = some (.cells #[.int .i64 o.d, .int .i64 o.n, .int .i64 o.m, .slice o.la o.l.length o.lc, .string (bs o.b), .slice o.ka o.ks.length o.kc] 34 (0, 0))
  below : Below W0.heap.size W0 W1
  size : W0.heap.size ≤ B
  tab : Tb W0.heap.size W0
  len : S.fs.length < 100000000
  fit : o.fit
  recs : Recs W o.la o.l
  vals : Vals W o.ka (o.ks.map (Value.int .i64))
  old : Below W.heap.size W W0
  few : o.l.length ≤ 40
  short : o.b.length ≤ 200

/-- .. and behind it. -/
def PDone (B pb qb : Nat) (W0 : World) (S : D.St) (wc : World) : Prop :=
  ∃ S', D.Bo B wc pb qb (fun _ => False) S' S' ∧ S'.fs.length ≤ S.fs.length + 4 ∧ Below W0.heap.size W0 wc
theorem ob_cells {W : World} {ob : Nat} {o : Sop} (h : W.heap[ob]? = some (.cells #[.int .i64 o.d, .int .i64 o.n, .int .i64 o.m, .slice o.la o.l.length o.lc, .string (bs o.b), .slice o.ka o.ks.length o.kc] 34 (0, 0))) : W.cell? ⟨ob, 0, none⟩ = some (.int .i64 o.d) ∧ W.cell? ⟨ob, 1, none⟩ = some (.int .i64 o.n) ∧ W.cell? ⟨ob, 2, none⟩ = some (.int .i64 o.m) ∧ W.cell? ⟨ob, 3, none⟩ = some (.slice o.la o.l.length o.lc) ∧ W.cell? ⟨ob, 4, none⟩ = some (.string (bs o.b)) ∧ W.cell? ⟨ob, 5, none⟩ = some (.slice o.ka o.ks.length o.kc) :=
  ⟨by rw [cell_of_row W _ 0 _ _ (0, 0) h]; rfl, by rw [cell_of_row W _ 1 _ _ (0, 0) h]; rfl, by rw [cell_of_row W _ 2 _ _ (0, 0) h]; rfl, by rw [cell_of_row W _ 3 _ _ (0, 0) h]; rfl, by rw [cell_of_row W _ 4 _ _ (0, 0) h]; rfl, by rw [cell_of_row W _ 5 _ _ (0, 0) h]; rfl⟩
end Go.Proofs.YtmekkbhblghbmaaGreatDoor
