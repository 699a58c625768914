/- The map of a law: its keys and what is told of them. (As the map of a remote's objects is in remote's own texts.) -/
import Derived.Test.YtbjginlhgedjdaaDoorKawake
import Derived.Maps.OwnSet
namespace Go.Proofs.YtbjginlhgedjdaaDoor.K
open Go.RowKit Go.Maps
set_option linter.unusedVariables false

/-- An element of the map is told as it is. -/
def heldR (v : Value) : Option (DataW Value × List MemPlace) := some (.held v, [])
theorem heldR_inv {v : Value} {z : DataW Value} {ps : List MemPlace} (h : heldR v = some (z, ps)) : z = .held v := by
  simp [heldR] at h; exact h.1.symm
theorem heldR_ex {v u : Value} {ps : List MemPlace} (h : heldR v = some (.held u, ps)) : v = u := by
  have := heldR_inv h
  injection this with this
  exact this.symm

theorem strKey : Keyed Tryd.prog 9 := string_keyed Tryd.underlying9
theorem keyLit (n : List UInt8) (h : n.length ≤ maxLen) : keyOf Tryd.prog 9 (.string (bs n)) = some (.string n) := by
  rw [WideMaps.keyOf_string_mk Tryd.underlying9 (by rw [bs_size]; exact h)]; rfl
theorem zeroLoc (w : World) : (zeroValue 31).run Tryd.prog w = .ok (locV noLoc) w := by kernel_rfl

/-- The map in block mb holds just these objects. -/
def MapHas (w : World) (mb : Nat) (cs : List (Ent Lc)) : Prop :=
  ∃ D : DataW Value, w.ownsMap Tryd.prog 9 heldR mb cs.length D ∧ Maps.size D = cs.length ∧
    (∀ c ∈ cs, Maps.has D (.string c.1) = true ∧ ∀ z, D.atKey (.string c.1) z = .held (locV c.2)) ∧ (∀ n, Maps.has D (.string n) = true → ∃ c ∈ cs, c.1 = n)

theorem MapHas.kept {w w' : World} {mb : Nat} {cs : List (Ent Lc)} (h : MapHas w mb cs) (hk : w'.heap[mb]? = w.heap[mb]?) : MapHas w' mb cs := by
  obtain ⟨D, ⟨es, clock, hb, r⟩, r2⟩ := h
  exact ⟨D, ⟨es, clock, by rw [hk]; exact hb, r⟩, r2⟩

theorem MapHas.lt {w : World} {mb : Nat} {cs : List (Ent Lc)} (h : MapHas w mb cs) : mb < w.heap.size := by
  obtain ⟨D, h, _⟩ := h
  exact h.lt

theorem MapHas.look_yes {w : World} {mb : Nat} {cs : List (Ent Lc)} (h : MapHas w mb cs) {c : Ent Lc} (hc : c ∈ cs) (hl : c.1.length ≤ maxLen) :
    (Instr.lookup 51 (.map (some mb)) (.string (bs c.1)) false).run Tryd.prog w = .ok (locV c.2) w ∧
    (Instr.lookup 51 (.map (some mb)) (.string (bs c.1)) true).run Tryd.prog w = .ok (.tuple #[(locV c.2), .bool true]) w := by
  obtain ⟨D, hD, _, hin, _⟩ := h
  obtain ⟨h1, h2⟩ := hin c hc
  constructor
  · obtain ⟨v, ps, hr, hv⟩ := hD.lookup strKey Tryd.underlying51 (zeroLoc w) (zd := .held (locV noLoc)) (zp := []) rfl (keyLit c.1 hl)
    rw [h2] at hv
    rw [hr, heldR_ex hv]
  · obtain ⟨v, ps, hr, hv⟩ := hD.look_ok strKey Tryd.underlying51 (zeroLoc w) (zd := .held (locV noLoc)) (zp := []) rfl (keyLit c.1 hl)
    rw [h2] at hv
    rw [hr, heldR_ex hv, h1]

theorem MapHas.look_no {w : World} {mb : Nat} {cs : List (Ent Lc)} (h : MapHas w mb cs) {n : List UInt8} (hn : ∀ c ∈ cs, c.1 ≠ n) (hl : n.length ≤ maxLen) :
    (Instr.lookup 51 (.map (some mb)) (.string (bs n)) false).run Tryd.prog w = .ok (locV noLoc) w ∧
    (Instr.lookup 51 (.map (some mb)) (.string (bs n)) true).run Tryd.prog w = .ok (.tuple #[(locV noLoc), .bool false]) w := by
  obtain ⟨D, hD, _, _, hno⟩ := h
  have h1 : Maps.has D (.string n) = false := by
    cases g : Maps.has D (.string n)
    · rfl
    · obtain ⟨c, hc, e⟩ := hno n g
      exact absurd e (hn c hc)
  have h2 : ∀ z, D.atKey (.string n) z = z := fun z => atKey_of_not_has h1 z
  constructor
  · obtain ⟨v, ps, hr, hv⟩ := hD.lookup strKey Tryd.underlying51 (zeroLoc w) (zd := .held (locV noLoc)) (zp := []) rfl (keyLit n hl)
    rw [h2] at hv
    rw [hr, heldR_ex hv]
  · obtain ⟨v, ps, hr, hv⟩ := hD.look_ok strKey Tryd.underlying51 (zeroLoc w) (zd := .held (locV noLoc)) (zp := []) rfl (keyLit n hl)
    rw [h2] at hv
    rw [hr, heldR_ex hv, h1]

/-- A map has as many entries as it tells. -/
theorem owns_exact {w : World} {mb n : Nat} {D : DataW Value} (h : w.ownsMap Tryd.prog 9 heldR mb n D) : w.ownsMap Tryd.prog 9 heldR mb (Maps.size D) D := by
  obtain ⟨es, clock, hb, F, _, hD⟩ := h
  refine ⟨es, clock, hb, F, ?_, hD⟩
  rw [hD]
  simp [Maps.size, length_sorted]

theorem lit_key (n : List UInt8) : WideAt.IsKeyLit (.string n) := trivial
theorem lit_ne {n m : List UInt8} (h : n ≠ m) : (Lit.string n) ≠ .string m := fun e => h (by injection e)

/-- An object is laid into the map. -/
theorem MapHas.store {w : World} {mb : Nat} {cs : List (Ent Lc)} (h : MapHas w mb cs) (hu : Up Prod.fst cs) (x : Ent Lc) (hl : x.1.length ≤ maxLen) (hs : cs.length < maxLen) :
    ∃ w', (Instr.mapUpdate 51 (.map (some mb)) (.string (bs x.1)) (locV x.2)).run Tryd.prog w = .ok () w' ∧ MapHas w' mb (ins Prod.fst (wo Prod.fst cs x.1) x) ∧ w.grownBy w' (some mb) := by
  obtain ⟨D, hD, hsz, hin, hno⟩ := h
  obtain ⟨w', hr, hown, hg⟩ := hD.update strKey Tryd.underlying51 hs (keyLit x.1 hl) (val := (locV x.2)) (d := .held (locV x.2)) (ps := []) rfl
  refine ⟨w', hr, ⟨D.put (.string x.1) (.held (locV x.2)), ?_, ?_, ?_, ?_⟩, hg⟩
  · have hlen : Maps.size (D.put (.string x.1) (.held (locV x.2))) = (ins Prod.fst (wo Prod.fst cs x.1) x).length := by
      rw [size_put (hD.tidy strKey), length_ins, hsz]
      by_cases hx : Maps.has D (.string x.1) = true
      · obtain ⟨c, hc, e⟩ := hno _ hx
        rw [if_pos hx, ← e, wo_at hu hc, List.length_append, List.length_take, List.length_drop]
        have := pos_lt hu hc
        omega
      · rw [if_neg hx, wo_id]
        intro c hc e
        have := (hin c hc).1
        rw [e] at this
        exact hx this
    rw [← hlen]; exact owns_exact hown
  · rw [size_put (hD.tidy strKey), length_ins, hsz]
    by_cases hx : Maps.has D (.string x.1) = true
    · obtain ⟨c, hc, e⟩ := hno _ hx
      rw [if_pos hx, ← e, wo_at hu hc, List.length_append, List.length_take, List.length_drop]
      have := pos_lt hu hc
      omega
    · rw [if_neg hx, wo_id]
      intro c hc e
      have := (hin c hc).1
      rw [e] at this
      exact hx this
  · intro c hc
    rcases mem_ins.1 hc with rfl | hc
    · exact ⟨has_put_same hD.isMap (lit_key _) _, fun z => atKey_put_same hD.isMap (lit_key _) _ z⟩
    · obtain ⟨hc, hne⟩ := mem_wo.1 hc
      obtain ⟨a, b⟩ := hin c hc
      exact ⟨by rw [has_put_other (lit_ne hne)]; exact a, fun z => by rw [atKey_put_other (lit_ne hne)]; exact b z⟩
  · intro n hn
    by_cases e : n = x.1
    · exact ⟨x, mem_ins.2 (Or.inl rfl), e.symm⟩
    · rw [has_put_other (lit_ne e)] at hn
      obtain ⟨c, hc, e'⟩ := hno n hn
      exact ⟨c, mem_ins.2 (Or.inr (mem_wo.2 ⟨hc, by rw [e']; exact e⟩)), e'⟩

/-- An object is taken out of the map. -/
theorem MapHas.drop {w : World} {mb : Nat} {cs : List (Ent Lc)} (h : MapHas w mb cs) (hu : Up Prod.fst cs) {c : Ent Lc} (hc : c ∈ cs) (hl : c.1.length ≤ maxLen) (ty : TypeId) :
    ∃ w', (Builtin.delete_ #[51, 9] ty #[.map (some mb), .string (bs c.1)]).run Tryd.prog w = .ok (.tuple #[]) w' ∧ MapHas w' mb (wo Prod.fst cs c.1) ∧ w.grownBy w' (some mb) := by
  obtain ⟨D, hD, hsz, hin, hno⟩ := h
  obtain ⟨w', hr, hown, ht⟩ := hD.drop strKey Tryd.underlying51 (keyLit c.1 hl) ty
  have hlen : Maps.size (D.del (.string c.1)) = (wo Prod.fst cs c.1).length := by
    have h1 := size_del (k := .string c.1) (hD.tidy strKey)
    rw [if_pos (hin c hc).1, hsz] at h1
    rw [wo_at hu hc, List.length_append, List.length_take, List.length_drop]
    have := pos_lt hu hc
    omega
  refine ⟨w', hr, ⟨D.del (.string c.1), by rw [← hlen]; exact owns_exact hown, hlen, fun d hd => ?_, fun n hn => ?_⟩, ht.grown⟩
  · obtain ⟨hd, hne⟩ := mem_wo.1 hd
    obtain ⟨a, b⟩ := hin d hd
    exact ⟨by rw [has_del_other (lit_ne hne)]; exact a, fun z => by rw [atKey_del_other (lit_ne hne)]; exact b z⟩
  · by_cases e : n = c.1
    · subst e; rw [has_del_same] at hn; cases hn
    · rw [has_del_other (lit_ne e)] at hn
      obtain ⟨d, hd, e'⟩ := hno n hn
      exact ⟨d, mem_wo.2 ⟨hd, by rw [e']; exact e⟩, e'⟩
/-- An object is taken out of the map, if it is there. -/
theorem MapHas.dropAny {w : World} {mb : Nat} {cs : List (Ent Lc)} (h : MapHas w mb cs) (hu : Up Prod.fst cs) (n : List UInt8) (hl : n.length ≤ maxLen) (ty : TypeId) :
    ∃ w', (Builtin.delete_ #[51, 9] ty #[.map (some mb), .string (bs n)]).run Tryd.prog w = .ok (.tuple #[]) w' ∧ MapHas w' mb (wo Prod.fst cs n) ∧ w.grownBy w' (some mb) := by
  by_cases hc : ∃ c ∈ cs, c.1 = n
  · obtain ⟨c, hc, rfl⟩ := hc
    exact h.drop hu hc hl ty
  · have hno : ∀ c ∈ cs, c.1 ≠ n := fun c hcc e => hc ⟨c, hcc, e⟩
    obtain ⟨D, hD, hsz, hin, hno'⟩ := h
    obtain ⟨w', hr, hown, ht⟩ := hD.drop strKey Tryd.underlying51 (keyLit n hl) ty
    have h0 : Maps.has D (.string n) = false := by
      cases g : Maps.has D (.string n)
      · rfl
      · obtain ⟨c, hcc, e⟩ := hno' n g
        exact absurd e (hno c hcc)
    have hlen : Maps.size (D.del (.string n)) = (wo Prod.fst cs n).length := by
      have h1 := size_del (k := .string n) (hD.tidy strKey)
      rw [h0] at h1
      rw [wo_id hno, ← hsz]
      simpa using h1
    refine ⟨w', hr, ⟨D.del (.string n), by rw [← hlen]; exact owns_exact hown, hlen, fun d hd => ?_, fun m hm => ?_⟩, ht.grown⟩
    · obtain ⟨hd, hne⟩ := mem_wo.1 hd
      obtain ⟨a, b⟩ := hin d hd
      exact ⟨by rw [has_del_other (lit_ne hne)]; exact a, fun z => by rw [atKey_del_other (lit_ne hne)]; exact b z⟩
    · by_cases e : m = n
      · subst e; rw [has_del_same] at hm; cases hm
      · rw [has_del_other (lit_ne e)] at hm
        obtain ⟨d, hd, e'⟩ := hno' m hm
        exact ⟨d, mem_wo.2 ⟨hd, by rw [e']; exact e⟩, e'⟩

end Go.Proofs.YtbjginlhgedjdaaDoor.K
