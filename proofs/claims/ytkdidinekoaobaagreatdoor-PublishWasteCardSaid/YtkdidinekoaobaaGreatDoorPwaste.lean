/- The document's Waste. -/
import Derived.Test.YtkdidinekoaobaaGreatDoorPrefw
import Derived.Test.YtkdidinekoaobaaGreatDoorBb
import Derived.Test.YtkdidinekoaobaaGreatDoorMr
import Derived.RegionTactic
import Derived.BigRegion
import Derived.BigQuiet
import Derived.Deep.RegionLaw
import Derived.Deep.DeepCutAuto
import Derived.Deep.QuietTactic
namespace Go.Proofs.YtkdidinekoaobaaGreatDoor.P
open Go.RowKit M J
set_option linter.unusedVariables false
set_option linter.unusedSimpArgs false

theorem strs_len (l : List (List UInt8)) : (strs l).length = l.length := by simp [strs]
theorem strs_one (l : List (List UInt8)) : ∀ v ∈ strs l, v.oneCell' = true := fun v hv => by
  obtain ⟨n, _, rfl⟩ := List.mem_map.1 hv
  rfl
theorem row_cell {w : World} {B n : Nat} {g off cap : Nat} {l : List (List UInt8)} (h : w.ownsRow B 9 1 (.slice (some ⟨g, off, none⟩) n cap) n (strs l)) {j : Nat} {x : List UInt8} (hx : l[j]? = some x) : off = 0 ∧ g < w.heap.size ∧ B ≤ g ∧ n ≤ cap ∧ w.cell? ⟨g, j, none⟩ = some (.string (bs x)) := by
  obtain ⟨hl, h2⟩ := h
  rcases h2 with ⟨h0, _⟩ | ⟨g', cap', cur, hv, hB, hg, hn, hc, hs, ht⟩
  · cases h0
  · cases hv
    refine ⟨rfl, (Array.getElem?_eq_some_iff.1 hg).1, hB, hn, ?_⟩
    rw [cell_of_row w g j cur _ (0, 0) hg]
    have hj : (strs l)[j]? = some (.string (bs x)) := by simp [strs, hx]
    rw [← ht, List.getElem?_take] at hj
    split at hj
    · simpa using hj
    · cases hj
/-- The rest of a row as a source. -/
theorem src_rest {P : Program} {w W : World} {B n g cap k : Nat} {t : TypeId} {l : List (List UInt8)} (ht : P.underlying t = some (.slice 9)) (h : w.ownsRow B 9 1 (.slice (some ⟨g, 0, none⟩) n cap) n (strs l)) (hk : k ≤ n) (c : Nat) (hW : W.heap[g]? = w.heap[g]?) :
    Src P 1 t (.slice (some ⟨g, k, none⟩) (n - k) c) (n - k) (strs (l.drop k)) W := by
  have hn : l.length = n := by have := h.1; rw [strs_len] at this; omega
  refine Src.ofSlice W ht ⟨g, k, none⟩ (n - k) c (strs (l.drop k)) (by rw [strs_len, List.length_drop]; omega) (fun j u hu => ?_) (strs_one _)
  obtain ⟨x, hx, rfl⟩ : ∃ x, l[k + j]? = some x ∧ u = .string (bs x) := by
    simp only [strs, List.map_drop, List.getElem?_drop, List.getElem?_map, Option.map_eq_some_iff] at hu
    obtain ⟨x, h1, h2⟩ := hu
    exact ⟨x, h1, h2.symm⟩
  obtain ⟨_, _, _, _, hc⟩ := row_cell h hx
  rw [Addr.add_lit]
  show W.cell? ⟨g, k + j, none⟩ = _
  have : W.cell? ⟨g, k + j, none⟩ = w.cell? ⟨g, k + j, none⟩ := by simp [World.cell?, hW]
  rw [this]; exact hc
theorem strs_app (a b : List (List UInt8)) : strs (a ++ b) = strs a ++ strs b := by simp [strs]
theorem empty_row {w : World} {B b : Nat} (hB : B ≤ b) (hb : w.heap[b]? = some (.cells #[] 9 (0, 0))) : w.ownsRow B 9 1 (.slice (some ⟨b, 0, none⟩) 0 0) 0 [] :=
  ⟨rfl, Or.inr ⟨b, 0, #[], rfl, hB, hb, Nat.le_refl _, by unfold maxLen; omega, rfl, rfl⟩⟩
theorem mem_at {out : List (List UInt8)} (h : Up id out) (n : List UInt8) : n ∈ out ↔ out[pos id out n]? = some n := by
  constructor
  · intro hm
    have hlt : pos id out n < out.length := pos_lt (k := id) h hm
    have hx := List.getElem?_eq_getElem (l := out) hlt
    have hb : lt out[pos id out n] n = false := pos_behind (k := id) h (Nat.le_refl _) hx
    obtain ⟨j, hj⟩ := List.mem_iff_getElem?.1 hm
    rcases Nat.lt_or_ge j (pos id out n) with g | g
    · have := pos_before (k := id) g hj
      rw [show id n = n from rfl, lt_irrefl] at this
      cases this
    · have hxn : out[pos id out n] = n := by
        refine Decidable.byContradiction fun hne => ?_
        have h1 := lt_total (a := out[pos id out n]) (b := n) hb hne
        have hjl := (List.getElem?_eq_some_iff.1 hj).1
        rcases Nat.lt_or_ge (pos id out n) j with g2 | g2
        · have hp := List.pairwise_iff_getElem.1 h (pos id out n) j hlt hjl g2
          have e := (List.getElem?_eq_some_iff.1 hj).2
          have hp : lt out[pos id out n] out[j] = true := hp
          rw [e] at hp
          have : lt out[pos id out n] n = false := hb
          rw [this] at hp
          cases hp
        · have : pos id out n = j := by omega
          have e := (List.getElem?_eq_some_iff.1 hj).2
          exact hne (by simp only [this]; exact e)
      rw [hx, hxn]
  · intro h
    exact List.mem_of_getElem? h
end Go.Proofs.YtkdidinekoaobaaGreatDoor.P
