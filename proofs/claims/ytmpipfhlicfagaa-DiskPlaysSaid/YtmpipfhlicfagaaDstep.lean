/- DiskPlays: one call of a script, on both disks. -/
import Derived.Test.YtmpipfhlicfagaaDboth
import Derived.Deep.RegionHeld3
namespace Go.Proofs.Ytmpipfhlicfagaa
open Go.RowKit
set_option linter.unusedVariables false

theorem sy_room (S : St) (n : List UInt8) : (syS S n).fs.length ≤ S.fs.length + 1 := by
  unfold syS
  split
  · omega
  · rename_i f _
    split
    · have h1 := len_puts (burnt S) { f with sure := f.bt.length }
      rw [fs_burnt] at h1
      exact h1
    · rw [fs_burnt]; omega

theorem vals_later {w w' : World} {a : Option Addr} {vs : List Value} (h : Vals w a vs) (hb : Below w.heap.size w w') : Vals w' a vs := fun i hi => by
  obtain ⟨b, off, h1, h2, h3⟩ := h i hi
  exact ⟨b, off, h1, Nat.lt_of_lt_of_le h2 hb.size, by rw [hb.cell (p := ⟨b, off + i, none⟩) h2]; exact h3⟩

theorem ints_of {w w' : World} {a : Option Addr} {ks : List Int} {F : Nat → Prop} (h : Vals w a (ks.map (Value.int .i64))) (hb : Below w.heap.size w w') (hr : ∀ y ∈ ks, -9223372036854775808 ≤ y ∧ y ≤ 9223372036854775807) (hF : ∀ k, F k → w.heap.size ≤ k) : IntsIn w' F a ks := fun i hi => by
  obtain ⟨b, off, h1, h2, h3⟩ := h i (by simpa using hi)
  have hr' := hr ks[i] (List.getElem_mem hi)
  refine ⟨b, off, h1, ?_, Nat.lt_of_lt_of_le h2 hb.size, fun hf => by have := hF b hf; omega, hr'⟩
  rw [hb.cell (p := ⟨b, off + i, none⟩) h2, h3]
  simp

theorem Bo.drew {B pb qb : Nat} {X : Nat → Prop} {Sd Sr : St} {w : World} (h : Bo B w pb qb X Sd Sr) : Bo B w.drew pb qb X Sd Sr := h.below ⟨rfl, rfl, rfl, Nat.le_refl _, fun _ _ => rfl⟩

/-- The call's own block is as it was, and all that was there ahead. -/
def Watch (W0 W1 : World) (ob : Nat) (W : World) : Prop := W.heap[ob]? = W1.heap[ob]? ∧ Below W0.heap.size W0 W
theorem Watch.drew {W0 W1 W : World} {ob : Nat} (h : Watch W0 W1 ob W) : Watch W0 W1 ob W.drew := ⟨h.1, h.2.drew⟩
theorem Watch.fr {W0 W1 W W' : World} {ob B : Nat} (h : Watch W0 W1 ob W) (k : Fr B (fun k => k = ob) W W') (hB : W0.heap.size ≤ B) : Watch W0 W1 ob W' := ⟨(k.2 ob rfl).trans h.1, h.2.trans (k.1.mono hB)⟩

/-- The switch, out of the law's own text. -/
def blockOf (n : Nat) : Code → Option Code
  | .loop c => blockOf n c
  | .seq a b => match blockOf n a with
    | some c => some c
    | none => blockOf n b
  | .block m c => if m = n then some (.block m c) else blockOf n c
  | .scope c => blockOf n c
  | .cond _ a b => match blockOf n a with
    | some c => some c
    | none => blockOf n b
  | _ => none
noncomputable def theSwitch : Code := (Try.f3.body.bind (blockOf 2)).getD .skip

/-- What is known of a call of a script ahead of the switch. -/
structure Step (W : World) (B pb qb ob : Nat) (W0 W1 : World) (o : Opn) (S : St) : Prop where
  bo : Bo B W1 pb qb (fun k => k = ob) S S
  blk : W1.heap[ob]? = some (.cells #[.int .i64 o.d, .int .i64 o.n, .string (bs o.nm), .string (bs o.to), .string (bs o.b), .slice o.ka o.ks.length o.kc] 34 (0, 0))
  below : Below W0.heap.size W0 W1
  size : W0.heap.size ≤ B
  len : S.fs.length < 1000000000
  fit : o.fit
  vals : Vals W o.ka (o.ks.map (Value.int .i64))
  old : Below W.heap.size W W0

/-- .. and behind it. -/
def Done (B pb qb ob : Nat) (W0 : World) (o : Opn) (S : St) (wc : World) : Prop :=
  ∃ S', Bo B wc pb qb (fun k => k = ob) S' S' ∧ S'.fs.length ≤ S.fs.length + 1 ∧ wc.heap[ob]? = some (.cells #[.int .i64 o.d, .int .i64 o.n, .string (bs o.nm), .string (bs o.to), .string (bs o.b), .slice o.ka o.ks.length o.kc] 34 (0, 0)) ∧ Below W0.heap.size W0 wc
end Go.Proofs.Ytmpipfhlicfagaa
