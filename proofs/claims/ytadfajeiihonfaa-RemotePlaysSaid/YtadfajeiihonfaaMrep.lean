/- How a remote lies in memory: its own block, the map of its objects, what is left of its script. -/
import Derived.Test.YtadfajeiihonfaaMmath
import Derived.Test.YtadfajeiihonfaaBmem
import Derived.Test.YtadfajeiihonfaaMlays
namespace Go.Proofs.Ytadfajeiihonfaa
open Go.RowKit Go.Maps

def Ob.ent (c : Ob) : Value := .agg #[.string (bs c.bt)]
def noOb : Value := .agg #[.string (bs [])]

/-- An element of the map is told as it is. -/
def heldR (v : Value) : Option (DataW Value × List MemPlace) := some (.held v, [])
theorem heldR_inv {v : Value} {z : DataW Value} {ps : List MemPlace} (h : heldR v = some (z, ps)) : z = .held v := by
  simp [heldR] at h; exact h.1.symm
theorem heldR_ex {v u : Value} {ps : List MemPlace} (h : heldR v = some (.held u, ps)) : v = u := by
  have := heldR_inv h
  injection this with this
  exact this.symm

theorem strKey : Keyed Try.prog 9 := string_keyed Try.underlying9
theorem keyLit (n : List UInt8) (h : n.length ≤ maxLen) : keyOf Try.prog 9 (.string (bs n)) = some (.string n) := by
  rw [WideMaps.keyOf_string_mk Try.underlying9 (by rw [bs_size]; exact h)]; rfl
theorem zeroOb (w : World) : (zeroValue 60).run Try.prog w = .ok noOb w := by kernel_rfl

/-- The map in block mb holds just these objects. -/
def MapHas (w : World) (mb : Nat) (cs : List Ob) : Prop :=
  ∃ D : DataW Value, w.ownsMap Try.prog 9 heldR mb cs.length D ∧ Maps.size D = cs.length ∧
    (∀ c ∈ cs, Maps.has D (.string c.nm) = true ∧ ∀ z, D.atKey (.string c.nm) z = .held c.ent) ∧ (∀ n, Maps.has D (.string n) = true → ∃ c ∈ cs, c.nm = n)

theorem MapHas.kept {w w' : World} {mb : Nat} {cs : List Ob} (h : MapHas w mb cs) (hk : w'.heap[mb]? = w.heap[mb]?) : MapHas w' mb cs := by
  obtain ⟨D, ⟨es, clock, hb, r⟩, r2⟩ := h
  exact ⟨D, ⟨es, clock, by rw [hk]; exact hb, r⟩, r2⟩

theorem MapHas.lt {w : World} {mb : Nat} {cs : List Ob} (h : MapHas w mb cs) : mb < w.heap.size := by
  obtain ⟨D, h, _⟩ := h
  exact h.lt

theorem MapHas.look_yes {w : World} {mb : Nat} {cs : List Ob} (h : MapHas w mb cs) {c : Ob} (hc : c ∈ cs) (hl : c.nm.length ≤ maxLen) :
    (Instr.lookup 46 (.map (some mb)) (.string (bs c.nm)) false).run Try.prog w = .ok c.ent w ∧
    (Instr.lookup 46 (.map (some mb)) (.string (bs c.nm)) true).run Try.prog w = .ok (.tuple #[c.ent, .bool true]) w := by
  obtain ⟨D, hD, _, hin, _⟩ := h
  obtain ⟨h1, h2⟩ := hin c hc
  constructor
  · obtain ⟨v, ps, hr, hv⟩ := hD.lookup strKey Try.underlying46 (zeroOb w) (zd := .held noOb) (zp := []) rfl (keyLit c.nm hl)
    rw [h2] at hv
    rw [hr, heldR_ex hv]
  · obtain ⟨v, ps, hr, hv⟩ := hD.look_ok strKey Try.underlying46 (zeroOb w) (zd := .held noOb) (zp := []) rfl (keyLit c.nm hl)
    rw [h2] at hv
    rw [hr, heldR_ex hv, h1]

theorem MapHas.look_no {w : World} {mb : Nat} {cs : List Ob} (h : MapHas w mb cs) {n : List UInt8} (hn : ∀ c ∈ cs, c.nm ≠ n) (hl : n.length ≤ maxLen) :
    (Instr.lookup 46 (.map (some mb)) (.string (bs n)) false).run Try.prog w = .ok noOb w ∧
    (Instr.lookup 46 (.map (some mb)) (.string (bs n)) true).run Try.prog w = .ok (.tuple #[noOb, .bool false]) w := by
  obtain ⟨D, hD, _, _, hno⟩ := h
  have h1 : Maps.has D (.string n) = false := by
    cases g : Maps.has D (.string n)
    · rfl
    · obtain ⟨c, hc, e⟩ := hno n g
      exact absurd e (hn c hc)
  have h2 : ∀ z, D.atKey (.string n) z = z := fun z => atKey_of_not_has h1 z
  constructor
  · obtain ⟨v, ps, hr, hv⟩ := hD.lookup strKey Try.underlying46 (zeroOb w) (zd := .held noOb) (zp := []) rfl (keyLit n hl)
    rw [h2] at hv
    rw [hr, heldR_ex hv]
  · obtain ⟨v, ps, hr, hv⟩ := hD.look_ok strKey Try.underlying46 (zeroOb w) (zd := .held noOb) (zp := []) rfl (keyLit n hl)
    rw [h2] at hv
    rw [hr, heldR_ex hv, h1]

/-- A map has as many entries as it tells. -/
theorem owns_exact {w : World} {mb n : Nat} {D : DataW Value} (h : w.ownsMap Try.prog 9 heldR mb n D) : w.ownsMap Try.prog 9 heldR mb (Maps.size D) D := by
  obtain ⟨es, clock, hb, F, _, hD⟩ := h
  refine ⟨es, clock, hb, F, ?_, hD⟩
  rw [hD]
  simp [Maps.size, length_sorted]

theorem lit_key (n : List UInt8) : WideAt.IsKeyLit (.string n) := trivial
theorem lit_ne {n m : List UInt8} (h : n ≠ m) : (Lit.string n) ≠ .string m := fun e => h (by injection e)

/-- An object is laid into the map. -/
theorem MapHas.store {w : World} {mb : Nat} {cs : List Ob} (h : MapHas w mb cs) (hu : Up Ob.nm cs) (x : Ob) (hl : x.nm.length ≤ maxLen) (hs : cs.length < maxLen) :
    ∃ w', (Instr.mapUpdate 46 (.map (some mb)) (.string (bs x.nm)) x.ent).run Try.prog w = .ok () w' ∧ MapHas w' mb (ins Ob.nm (wo Ob.nm cs x.nm) x) ∧ w.grownBy w' (some mb) := by
  obtain ⟨D, hD, hsz, hin, hno⟩ := h
  obtain ⟨w', hr, hown, hg⟩ := hD.update strKey Try.underlying46 hs (keyLit x.nm hl) (val := x.ent) (d := .held x.ent) (ps := []) rfl
  refine ⟨w', hr, ⟨D.put (.string x.nm) (.held x.ent), ?_, ?_, ?_, ?_⟩, hg⟩
  · have hlen : Maps.size (D.put (.string x.nm) (.held x.ent)) = (ins Ob.nm (wo Ob.nm cs x.nm) x).length := by
      rw [size_put (hD.tidy strKey), length_ins, hsz]
      by_cases hx : Maps.has D (.string x.nm) = true
      · obtain ⟨c, hc, e⟩ := hno _ hx
        rw [if_pos hx, ← e, wo_at hu hc, List.length_append, List.length_take, List.length_drop]
        have := pos_lt hu hc
        omega
      · rw [if_neg hx, wo_id]
        intro c hc e
        have := (hin c hc).1
        rw [e] at this
        exact hx this
    rw [← hlen]; exact owns_exact hown
  · rw [size_put (hD.tidy strKey), length_ins, hsz]
    by_cases hx : Maps.has D (.string x.nm) = true
    · obtain ⟨c, hc, e⟩ := hno _ hx
      rw [if_pos hx, ← e, wo_at hu hc, List.length_append, List.length_take, List.length_drop]
      have := pos_lt hu hc
      omega
    · rw [if_neg hx, wo_id]
      intro c hc e
      have := (hin c hc).1
      rw [e] at this
      exact hx this
  · intro c hc
    rcases mem_ins.1 hc with rfl | hc
    · exact ⟨has_put_same hD.isMap (lit_key _) _, fun z => atKey_put_same hD.isMap (lit_key _) _ z⟩
    · obtain ⟨hc, hne⟩ := mem_wo.1 hc
      obtain ⟨a, b⟩ := hin c hc
      exact ⟨by rw [has_put_other (lit_ne hne)]; exact a, fun z => by rw [atKey_put_other (lit_ne hne)]; exact b z⟩
  · intro n hn
    by_cases e : n = x.nm
    · exact ⟨x, mem_ins.2 (Or.inl rfl), e.symm⟩
    · rw [has_put_other (lit_ne e)] at hn
      obtain ⟨c, hc, e'⟩ := hno n hn
      exact ⟨c, mem_ins.2 (Or.inr (mem_wo.2 ⟨hc, by rw [e']; exact e⟩)), e'⟩

/-- An object is taken out of the map. -/
theorem MapHas.drop {w : World} {mb : Nat} {cs : List Ob} (h : MapHas w mb cs) (hu : Up Ob.nm cs) {c : Ob} (hc : c ∈ cs) (hl : c.nm.length ≤ maxLen) (ty : TypeId) :
    ∃ w', (Builtin.delete_ #[46, 9] ty #[.map (some mb), .string (bs c.nm)]).run Try.prog w = .ok (.tuple #[]) w' ∧ MapHas w' mb (wo Ob.nm cs c.nm) ∧ w.grownBy w' (some mb) := by
  obtain ⟨D, hD, hsz, hin, hno⟩ := h
  obtain ⟨w', hr, hown, ht⟩ := hD.drop strKey Try.underlying46 (keyLit c.nm hl) ty
  have hlen : Maps.size (D.del (.string c.nm)) = (wo Ob.nm cs c.nm).length := by
    have h1 := size_del (k := .string c.nm) (hD.tidy strKey)
    rw [if_pos (hin c hc).1, hsz] at h1
    rw [wo_at hu hc, List.length_append, List.length_take, List.length_drop]
    have := pos_lt hu hc
    omega
  refine ⟨w', hr, ⟨D.del (.string c.nm), by rw [← hlen]; exact owns_exact hown, hlen, fun d hd => ?_, fun n hn => ?_⟩, ht.grown⟩
  · obtain ⟨hd, hne⟩ := mem_wo.1 hd
    obtain ⟨a, b⟩ := hin d hd
    exact ⟨by rw [has_del_other (lit_ne hne)]; exact a, fun z => by rw [atKey_del_other (lit_ne hne)]; exact b z⟩
  · by_cases e : n = c.nm
    · subst e; rw [has_del_same] at hn; cases hn
    · rw [has_del_other (lit_ne e)] at hn
      obtain ⟨d, hd, e'⟩ := hno n hn
      exact ⟨d, mem_wo.2 ⟨hd, by rw [e']; exact e⟩, e'⟩
end Go.Proofs.Ytadfajeiihonfaa
