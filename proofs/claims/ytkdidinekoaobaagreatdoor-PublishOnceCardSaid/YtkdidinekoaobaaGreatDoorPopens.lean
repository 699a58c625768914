/- What comes in: rows of fates; the walks in the order of a law's arguments. -/
import Derived.Test.YtkdidinekoaobaaGreatDoorPback
import Derived.Test.YtkdidinekoaobaaGreatDoorBb
namespace Go.Proofs.YtkdidinekoaobaaGreatDoor.P
open Go.ChangeShapes Go.WideShapes Go.RowKit Go.Joins Go.Deep M J
set_option linter.unusedVariables false

section
variable {H : Type} {enc : TypeId × Value → H} {W : World}
theorem open_fates {t : TypeId} (ht : Tryz.prog.underlying t = some (.slice 28)) {a : Option Addr} {len cap : Nat} {d : DataW H} {p : List MemPlace}
    (h : DataW.Trod enc Tryz.prog W 0 (fun _ => true) true t (.slice a len cap) d p) : ∃ ll : List (List Int), ll.length = len ∧ len ≤ maxLen ∧ FatesIn W a ll ∧ ∀ l ∈ ll, ∀ y ∈ l, -9223372036854775808 ≤ y ∧ y ≤ 9223372036854775807 := by
  obtain ⟨fuel, hf⟩ := h
  rcases open_slice1 ht (by kernel_rfl) hf with ⟨hcs, _⟩ | ⟨x, l, c, m, n, V, D, Pl, hcs, _, hl, hm, hmm, _, hi⟩
  · simp [Value.cells] at hcs
    obtain ⟨rfl, rfl, rfl⟩ := hcs
    exact ⟨[], rfl, by unfold maxLen; omega, fun i h => by simp at h, fun r hr => by simp at hr⟩
  · simp [Value.cells] at hcs
    obtain ⟨rfl, rfl, rfl⟩ := hcs
    simp only [if_true] at hmm
    subst hmm
    have hex : ∀ i, i < len → ∃ l : List Int, (∃ ka kc, V i = .slice ka l.length kc ∧ Vals W ka (l.map (Value.int .i64))) ∧ ∀ y ∈ l, -9223372036854775808 ≤ y ∧ y ≤ 9223372036854775807 := fun i hil => by
      have hd := (hi i (by omega)).2
      have hv : ∃ a' n' c', V i = .slice a' n' c' := by
        rcases open_slice1 Tryz.underlying28 (by kernel_rfl) hd with ⟨e, _⟩ | ⟨y, l', c', m', n', V', D', Pl', e, _⟩
        · simp at e; exact ⟨_, _, _, e⟩
        · simp at e; exact ⟨_, _, _, e⟩
      obtain ⟨a', n', c', hV⟩ := hv
      rw [hV] at hd
      obtain ⟨l, rfl, hlm, hvals, hrange⟩ := open_intsin Tryz.underlying28 hd
      exact ⟨l, ⟨a', c', hV, hvals⟩, hrange⟩
    obtain ⟨f, hf2⟩ := choose_lt hex
    have hvs : Vals W (some x) ((List.range len).map V) := vals_of (n := len) (by simp) (fun i hi2 => by
      have hil : i < len := by simpa using hi2
      rw [(hi i (by omega)).1]
      simp)
    refine ⟨(List.range len).map f, by simp, by omega, fun i hi2 => ?_, fun r hr => ?_⟩
    · have hil : i < len := by simpa using hi2
      obtain ⟨b, off, e1, h2, h3⟩ := hvs i (by simpa using hil)
      obtain ⟨⟨ka, kc, hV, hv⟩, _⟩ := hf2 i hil
      refine ⟨b, off, ka, kc, e1, h2, ?_, ?_⟩
      · rw [h3]
        simp [hV]
      · simpa using hv
    · obtain ⟨i, hi3, rfl⟩ := List.mem_map.1 hr
      exact (hf2 i (List.mem_range.1 hi3)).2
end
theorem back_of (C : PubC) (n : Int) (ts : List (List UInt8)) (a1 : Option Addr) (c1 : Nat) (fs : List (List Int)) (a2 : Option Addr) (c2 : Nat) (w : World) (hV : Vt w) (hn : i64 n)
    (h1 : ts.length ≤ 9223372036854775807) (h2 : Vals w a1 (strs ts)) (h3 : ∀ t ∈ ts, t.length ≤ 9223372036854775807) (h4 : fs.length ≤ 9223372036854775807) (h5 : FatesIn w a2 fs) (h6 : ∀ l ∈ fs, ∀ y ∈ l, -9223372036854775808 ≤ y ∧ y ≤ 9223372036854775807) :
    Calls Tryz.prog 6 #[.int .i64 n, .slice a1 ts.length c1, .slice a2 fs.length c2] w fun e w' => e = .returned (.bool true) ∧ Below w.heap.size w w' :=
  back_walk C n ts fs a1 a2 c1 c2 w hV hn h2 h5 h6 h1 h4 h3
end Go.Proofs.YtkdidinekoaobaaGreatDoor.P
