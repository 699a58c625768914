/- Slices of strings, of bools, of integers that come in. -/
import Derived.Test.YtfcfleeiffmjdaaBmem
import Derived.Deep.Slices
import Derived.Lib.SmallJoins
import Derived.OpenShut
import Derived.ChangeOld
namespace Go.Proofs.Ytfcfleeiffmjdaa
open Go.RowKit Go.ChangeShapes Go.WideShapes Go.Joins Go.Deep
open Go.ChangeMaps (open_string)

set_option linter.unusedVariables false

/-- Values in a slice that came in. -/
def Vals (w : World) (a : Option Addr) (vs : List Value) : Prop := ∀ i (h : i < vs.length), ∃ b off, a = some ⟨b, off, none⟩ ∧ b < w.heap.size ∧ w.cell? ⟨b, off + i, none⟩ = some vs[i]
theorem Vals.at {w w' : World} {B : Nat} {a : Option Addr} {vs : List Value} (h : Vals w a vs) (hb : Below B w w') (hB : w.heap.size ≤ B) (i : Nat) (v : Value) (hv : vs[i]? = some v) : ∃ b off, a = some ⟨b, off, none⟩ ∧ w'.cell? ⟨b, off + i, none⟩ = some v := by
  obtain ⟨hi, e⟩ := List.getElem?_eq_some_iff.1 hv
  subst e
  obtain ⟨b, off, h1, h2, h3⟩ := h i hi
  exact ⟨b, off, h1, by rw [hb.cell (p := ⟨b, off + i, none⟩) (Nat.lt_of_lt_of_le h2 hB)]; exact h3⟩

theorem later_at {B : Nat} {w w' : World} {g o : Nat} {v : Value} (hb : Below B w w') (h : w.cell? ⟨g, o, none⟩ = some v) (hg : g < B) : w'.cell? ⟨g, o, none⟩ = some v := by
  rw [hb.cell (p := ⟨g, o, none⟩) hg]; exact h

theorem laidOut : laidOutB Try.prog = true := by kernel_rfl
theorem len_size (b : ByteArray) : b.data.toList.length = b.size := Array.length_toList

theorem wf_i64 {n : Int} (h : (Lit.int .i64 n).wf = true) : -9223372036854775808 ≤ n ∧ n ≤ 9223372036854775807 := by
  have h' : IntKind.i64.min ≤ n ∧ n ≤ IntKind.i64.max := by simpa [Lit.wf] using h
  have e1 : IntKind.i64.min = -9223372036854775808 := by decide
  have e2 : IntKind.i64.max = 9223372036854775807 := by decide
  omega

section
variable {H : Type} {enc : TypeId × Value → H} {W : World}

theorem vals_of {a : Addr} {n : Nat} {vs : List Value} (hn : vs.length = n) (h : ∀ i (hi : i < vs.length), W.cell? (a.add i) = some vs[i]) : Vals W (some a) vs := by
  intro i hi
  have hc := h i hi
  obtain ⟨b, off, spot⟩ := a
  have hs : spot = none := by simpa [Addr.add] using World.cell?_spot (h 0 (by omega))
  subst hs
  rw [Addr.add_lit] at hc
  exact ⟨b, off, rfl, World.block_lt_of_cell? _ _ hc, hc⟩

theorem open_strsin {t : TypeId} (ht : Try.prog.underlying t = some (.slice 9)) {a : Option Addr} {len cap : Nat} {d : DataW H} {p : List MemPlace}
    (h : DataW.Trod enc Try.prog W 0 (fun _ => true) true t (.slice a len cap) d p) : ∃ l : List (List UInt8), l.length = len ∧ len ≤ maxLen ∧ Vals W a (strs l) ∧ ∀ b ∈ l, b.length ≤ 9223372036854775807 := by
  obtain ⟨fuel, hf⟩ := h
  rcases open_slice1 ht (by kernel_rfl) hf with ⟨hcs, _⟩ | ⟨x, l, c, m, n, V, D, Pl, hcs, _, hl, hm, hmm, _, hi⟩
  · simp [Value.cells] at hcs
    obtain ⟨rfl, rfl, rfl⟩ := hcs
    exact ⟨[], rfl, by unfold maxLen; omega, fun i h => by simp [strs] at h, fun r hr => by simp at hr⟩
  · simp [Value.cells] at hcs
    obtain ⟨rfl, rfl, rfl⟩ := hcs
    simp only [if_true] at hmm
    subst hmm
    have hex : ∀ i, i < len → ∃ s : List UInt8, V i = .string (bs s) ∧ s.length ≤ 9223372036854775807 := fun i hil => by
      obtain ⟨s, h1, h2, h3⟩ := DataW.trod_string Try.underlying9 (hi i (by omega)).2
      refine ⟨s.data.toList, by rw [bs_of]; simpa using h1, ?_⟩
      have := len_size s
      unfold maxLen at h3
      omega
    obtain ⟨f, hf2⟩ := choose_lt hex
    refine ⟨(List.range len).map f, by simp, by omega, vals_of (n := len) (by simp [strs]) (fun i hi2 => ?_), fun r hr => ?_⟩
    · have hil : i < len := by simpa [strs] using hi2
      rw [(hi i (by omega)).1, (hf2 i hil).1]
      simp [strs]
    · obtain ⟨i, hi3, rfl⟩ := List.mem_map.1 hr
      exact (hf2 i (List.mem_range.1 hi3)).2

theorem open_boolsin {t : TypeId} (ht : Try.prog.underlying t = some (.slice 4)) {a : Option Addr} {len cap : Nat} {d : DataW H} {p : List MemPlace}
    (h : DataW.Trod enc Try.prog W 0 (fun _ => true) true t (.slice a len cap) d p) : ∃ l : List Bool, l.length = len ∧ len ≤ maxLen ∧ Vals W a (l.map Value.bool) ∧ True := by
  obtain ⟨fuel, hf⟩ := h
  rcases open_slice1 ht (by kernel_rfl) hf with ⟨hcs, _⟩ | ⟨x, l, c, m, n, V, D, Pl, hcs, _, hl, hm, hmm, _, hi⟩
  · simp [Value.cells] at hcs
    obtain ⟨rfl, rfl, rfl⟩ := hcs
    exact ⟨[], rfl, by unfold maxLen; omega, fun i h => by simp at h, trivial⟩
  · simp [Value.cells] at hcs
    obtain ⟨rfl, rfl, rfl⟩ := hcs
    simp only [if_true] at hmm
    subst hmm
    have hex : ∀ i, i < len → ∃ s : Bool, V i = .bool s := fun i hil => by
      obtain ⟨s, h1, h2⟩ := DataW.trod_bool Try.underlying4 (hi i (by omega)).2
      exact ⟨s, by simpa using h1⟩
    obtain ⟨f, hf2⟩ := choose_lt hex
    refine ⟨(List.range len).map f, by simp, by omega, vals_of (n := len) (by simp) (fun i hi2 => ?_), trivial⟩
    have hil : i < len := by simpa using hi2
    rw [(hi i (by omega)).1, hf2 i hil]
    simp

theorem open_intsin {t : TypeId} (ht : Try.prog.underlying t = some (.slice 3)) {a : Option Addr} {len cap : Nat} {fuel : Nat} {x : DataW H × List MemPlace}
    (hf : DataW.trod enc Try.prog W 0 (fun _ => true) true fuel t [.slice a len cap] = some x) : ∃ l : List Int, l.length = len ∧ len ≤ maxLen ∧ Vals W a (l.map (Value.int .i64)) ∧ ∀ y ∈ l, -9223372036854775808 ≤ y ∧ y ≤ 9223372036854775807 := by
  rcases open_slice1 ht (by kernel_rfl) hf with ⟨hcs, _⟩ | ⟨x, l, c, m, n, V, D, Pl, hcs, _, hl, hm, hmm, _, hi⟩
  · simp at hcs
    obtain ⟨rfl, rfl, rfl⟩ := hcs
    exact ⟨[], rfl, by unfold maxLen; omega, fun i h => by simp at h, fun y hy => by simp at hy⟩
  · simp at hcs
    obtain ⟨rfl, rfl, rfl⟩ := hcs
    simp only [if_true] at hmm
    subst hmm
    have hex : ∀ i, i < len → ∃ s : Int, V i = .int .i64 s ∧ -9223372036854775808 ≤ s ∧ s ≤ 9223372036854775807 := fun i hil => by
      obtain ⟨s, h1, h2, h3⟩ := DataW.trod_int Try.underlying3 (hi i (by omega)).2
      refine ⟨s, by simpa using h1, ?_⟩
      exact wf_i64 h3
    obtain ⟨f, hf2⟩ := choose_lt hex
    refine ⟨(List.range len).map f, by simp, by omega, vals_of (n := len) (by simp) (fun i hi2 => ?_), fun y hy => ?_⟩
    · have hil : i < len := by simpa using hi2
      rw [(hi i (by omega)).1, (hf2 i hil).1]
      simp
    · obtain ⟨i, hi3, rfl⟩ := List.mem_map.1 hy
      exact (hf2 i (List.mem_range.1 hi3)).2

theorem open_intsT {t : TypeId} (ht : Try.prog.underlying t = some (.slice 3)) {a : Option Addr} {len cap : Nat} {d : DataW H} {p : List MemPlace}
    (h : DataW.Trod enc Try.prog W 0 (fun _ => true) true t (.slice a len cap) d p) : ∃ l : List Int, l.length = len ∧ len ≤ maxLen ∧ Vals W a (l.map (Value.int .i64)) ∧ ∀ y ∈ l, -9223372036854775808 ≤ y ∧ y ≤ 9223372036854775807 := by
  obtain ⟨fuel, hf⟩ := h
  exact open_intsin ht (by simpa [Value.cells] using hf)
end
end Go.Proofs.Ytfcfleeiffmjdaa
