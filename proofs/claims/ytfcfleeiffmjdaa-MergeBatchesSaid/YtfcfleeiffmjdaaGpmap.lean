/- The program's map: of each key the newest record that has come so far. -/
import Derived.Test.YtfcfleeiffmjdaaGrow
import Derived.Maps.OwnSet
import Derived.Maps.RangeWalk
namespace Go.Proofs.Ytfcfleeiffmjdaa.G
open Go.RowKit Go.Maps
set_option linter.unusedVariables false

/-- An element of the map is told as it is. -/
def heldV (v : Value) : Option (DataW Value × List MemPlace) := some (.held v, [])
theorem heldV_inv {v : Value} {z : DataW Value} {ps : List MemPlace} (h : heldV v = some (z, ps)) : z = .held v := by
  simp [heldV] at h; exact h.1.symm
theorem heldV_ex {v u : Value} {ps : List MemPlace} (h : heldV v = some (.held u, ps)) : v = u := by
  have := heldV_inv h
  injection this with this
  exact this.symm
theorem strKeyed : Keyed Try.prog 9 := string_keyed Try.underlying9
theorem keyStr (n : List UInt8) (h : n.length ≤ maxLen) : keyOf Try.prog 9 (.string (bs n)) = some (.string n) := by
  rw [WideMaps.keyOf_string_mk Try.underlying9 (by rw [bs_size]; exact h)]; rfl
theorem key_str {kl : Lit} {key : Value} (h : keyOf Try.prog 9 key = some kl) : ∃ n : List UInt8, key = .string (bs n) ∧ kl = .string n ∧ n.length ≤ maxLen := by
  cases key <;> simp [keyOf, Try.underlying9, mapKey] at h
  rename_i s
  obtain ⟨hs, rfl⟩ := h
  exact ⟨s.data.toList, by rw [bs_of], rfl, by rw [Array.length_toList]; exact hs⟩
theorem zeroRec (w : World) : (zeroValue 35).run Try.prog w = .ok (rv Rc.z) w := by kernel_rfl
theorem litStr (n : List UInt8) : WideAt.IsKeyLit (.string n) := trivial
theorem lit_neq {n m : List UInt8} (h : n ≠ m) : (Lit.string n) ≠ .string m := fun e => h (by injection e)

/-- The map in block mb holds of each key the newest of l. -/
def Newm (w : World) (mb : Nat) (l : List Rc) (D : DataW Value) : Prop :=
  w.ownsMap Try.prog 9 heldV mb l.length D ∧ (∀ n, Maps.has D (.string n) = (best l n).isSome) ∧ ∀ n r, best l n = some r → ∀ z, D.atKey (.string n) z = .held (rv r)
theorem newm_new (w : World) : ∃ D, Newm (w.alloc (.map #[] 0)) w.heap.size [] D :=
  ⟨_, World.ownsMap_made w _ _ _, fun n => rfl, fun n r h => by rw [best_nil] at h; cases h⟩
section
variable {w w' : World} {mb : Nat} {l : List Rc} {D : DataW Value}
theorem Newm.kept (h : Newm w mb l D) (hk : w'.heap[mb]? = w.heap[mb]?) : Newm w' mb l D := by
  obtain ⟨⟨es, clock, hb, r⟩, r2⟩ := h
  exact ⟨⟨es, clock, by rw [hk]; exact hb, r⟩, r2⟩
theorem Newm.lt (h : Newm w mb l D) : mb < w.heap.size := h.1.lt
theorem Newm.find (h : Newm w mb l D) {n : List UInt8} (hn : n.length ≤ maxLen) :
    (Instr.lookup 37 (.map (some mb)) (.string (bs n)) true).run Try.prog w = .ok (.tuple #[rv ((best l n).getD Rc.z), .bool (best l n).isSome]) w := by
  obtain ⟨hD, hh, hat⟩ := h
  obtain ⟨v, ps, hr, hv⟩ := hD.look_ok strKeyed Try.underlying37 (zeroRec w) (zd := .held (rv Rc.z)) (zp := []) rfl (keyStr n hn)
  cases hb : best l n with
  | some r =>
    rw [hat n r hb] at hv
    rw [hr, heldV_ex hv, hh, hb]; rfl
  | none =>
    have g1 : Maps.has D (.string n) = false := by rw [hh, hb]; rfl
    rw [atKey_of_not_has g1] at hv
    rw [hr, heldV_ex hv, g1]; rfl
/-- One more record: what is newest of its key is laid in. -/
theorem Newm.store (h : Newm w mb l D) (r x : Rc) (hx : cmb (best l r.k) r = some x) (hk : r.k.length ≤ maxLen) (hn : l.length < maxLen) :
    ∃ w' D', (Instr.mapUpdate 37 (.map (some mb)) (.string (bs r.k)) (rv x)).run Try.prog w = .ok () w' ∧ Newm w' mb (l ++ [r]) D' ∧ w.grownBy w' (some mb) := by
  obtain ⟨hD, hh, hat⟩ := h
  obtain ⟨w', hr, hown, hg⟩ := hD.update strKeyed Try.underlying37 hn (keyStr r.k hk) (val := rv x) (d := .held (rv x)) (ps := []) rfl
  refine ⟨w', D.put (.string r.k) (.held (rv x)), hr, ⟨?_, fun n => ?_, fun n y hy z => ?_⟩, hg⟩
  · rw [List.length_append]; exact hown
  · rw [best_snoc]
    by_cases e : r.k = n
    · subst e
      rw [if_pos rfl, hx, has_put_same hD.isMap (litStr _)]; rfl
    · rw [if_neg e, has_put_other (lit_neq (fun h => e h.symm))]
      exact hh n
  · rw [best_snoc] at hy
    by_cases e : r.k = n
    · subst e
      rw [if_pos rfl, hx] at hy
      injection hy with hy
      subst hy
      exact atKey_put_same hD.isMap (litStr _) _ z
    · rw [if_neg e] at hy
      rw [atKey_put_other (lit_neq (fun h => e h.symm))]
      exact hat n y hy z
end
end Go.Proofs.Ytfcfleeiffmjdaa.G
