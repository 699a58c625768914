/- How a disk lies in memory: its own block, the map of its files, the row of its names, a row of bytes for each file. -/
import Derived.Test.YtmpipfhlicfagaaDrows
import Derived.Maps.OwnSet
namespace Go.Proofs.Ytmpipfhlicfagaa
open Go.RowKit Go.Maps

/-- Of the blocks that were there none but those of F has turned. -/
structure Turn (F : Nat → Prop) (w w' : World) : Prop where
  os : w'.os = w.os
  tape : w'.tape = w.tape
  output : w'.output = w.output
  size : w.heap.size ≤ w'.heap.size
  block : ∀ k, k < w.heap.size → ¬ F k → w'.heap[k]? = w.heap[k]?

theorem Turn.refl (F : Nat → Prop) (w : World) : Turn F w w := ⟨rfl, rfl, rfl, Nat.le_refl _, fun _ _ _ => rfl⟩
theorem Turn.mono {F G : Nat → Prop} {w w' : World} (h : Turn F w w') (hG : ∀ k, k < w.heap.size → F k → G k) : Turn G w w' := ⟨h.os, h.tape, h.output, h.size, fun k hk hn => h.block k hk (fun hf => hn (hG k hk hf))⟩
theorem Turn.trans {F : Nat → Prop} {a b c : World} (h : Turn F a b) (k : Turn F b c) : Turn F a c :=
  ⟨k.os.trans h.os, k.tape.trans h.tape, k.output.trans h.output, Nat.le_trans h.size k.size, fun i hi hn => (k.block i (Nat.lt_of_lt_of_le hi h.size) hn).trans (h.block i hi hn)⟩
/-- .. behind one whose blocks are among the first one's, or new. -/
theorem Turn.then {F G : Nat → Prop} {a b c : World} (h : Turn F a b) (k : Turn G b c) (hG : ∀ i, G i → F i ∨ a.heap.size ≤ i) : Turn F a c :=
  ⟨k.os.trans h.os, k.tape.trans h.tape, k.output.trans h.output, Nat.le_trans h.size k.size, fun i hi hn => (k.block i (Nat.lt_of_lt_of_le hi h.size) (fun hg => (hG i hg).elim hn (fun h => by omega))).trans (h.block i hi hn)⟩
theorem Turn.drew {F : Nat → Prop} {a w : World} (h : Turn F a w) (n : Nat) : Turn F a (w.drewN n) := h.trans ⟨rfl, rfl, rfl, Nat.le_refl _, fun _ _ _ => rfl⟩
theorem Turn.alloc {F : Nat → Prop} {a w : World} (h : Turn F a w) (o : Obj) : Turn F a (w.alloc o) := h.trans ⟨rfl, rfl, rfl, by simp, fun k hk _ => Below.heap_alloc _ _ _ hk⟩
theorem Turn.setCell {F : Nat → Prop} {a w : World} (h : Turn F a w) {p : Addr} (hp : F p.block) (v : Value) : Turn F a (w.setCell p v) :=
  h.trans ⟨rfl, rfl, rfl, by simp [World.setCell], fun k _ hn => Below.heap_setCell _ _ _ _ (fun e => hn (e ▸ hp))⟩
theorem Turn.setNew {F : Nat → Prop} {a w : World} (h : Turn F a w) {p : Addr} (hp : a.heap.size ≤ p.block) (v : Value) : Turn F a (w.setCell p v) :=
  h.then (G := fun k => a.heap.size ≤ k) ⟨rfl, rfl, rfl, by simp [World.setCell], fun k _ hn => Below.heap_setCell _ _ _ _ (fun e => hn (by rw [e]; exact hp))⟩ (fun i hi => Or.inr hi)
theorem Turn.grown {F : Nat → Prop} {a w w' : World} {row : Option Nat} (h : Turn F a w) (hg : w.grownBy w' row) (hr : ∀ k, row = some k → F k ∨ a.heap.size ≤ k) : Turn F a w' :=
  ⟨hg.os.trans h.os, hg.tape.trans h.tape, hg.output.trans h.output, Nat.le_trans h.size hg.size, fun i hi hn =>
    (hg.block i (Nat.lt_of_lt_of_le hi h.size) (fun e => (hr i e.symm).elim hn (fun h => by omega))).trans (h.block i hi hn)⟩
theorem Turn.below {F : Nat → Prop} {w w' : World} {B : Nat} (h : Turn F w w') (hF : ∀ k, F k → B ≤ k) (hB : B ≤ w.heap.size) : Below B w w' := ⟨h.os, h.tape, h.output, h.size, fun k hk => h.block k (by omega) (fun hf => by have := hF k hf; omega)⟩
theorem Turn.of_below {w w' : World} {B : Nat} (F : Nat → Prop) (h : Below B w w') (hB : w.heap.size ≤ B) : Turn F w w' := ⟨h.os, h.tape, h.output, h.size, fun k hk _ => h.block k (by omega)⟩

theorem owns_kept {w w' : World} {B n size : Nat} {e : TypeId} {v : Value} {xs : List Value} (h : w.ownsRow B e size v n xs) (hk : ∀ g, v.ownBlock = some g → w'.heap[g]? = w.heap[g]?) : w'.ownsRow B e size v n xs := by
  refine ⟨h.1, ?_⟩
  rcases h.2 with hn | ⟨g, cap, cur, rfl, hb, hg, r⟩
  · exact Or.inl hn
  · exact Or.inr ⟨g, cap, cur, rfl, hb, by rw [hk g rfl]; exact hg, r⟩

/-- A file as it lies: its name, bytes, how many are sure; and the slice of its bytes. -/
structure Cf where
  f : Fl
  v : Value

def Cf.nm (c : Cf) : List UInt8 := c.f.nm
def Cf.ent (c : Cf) : Value := .agg #[c.v, .int .i64 c.f.sure]
def noEnt : Value := .agg #[.slice none 0 0, .int .i64 0]

/-- Bytes as they lie. -/
def bytesOf (l : List UInt8) : List Value := l.map fun c => .int .u8 c.toNat
theorem bytesOf_len (l : List UInt8) : (bytesOf l).length = l.length := by simp [bytesOf]

/-- An element of the map is told as it is. -/
def heldR (v : Value) : Option (DataW Value × List MemPlace) := some (.held v, [])
theorem heldR_inv {v : Value} {z : DataW Value} {ps : List MemPlace} (h : heldR v = some (z, ps)) : z = .held v := by
  simp [heldR] at h; exact h.1.symm
theorem heldR_ex {v u : Value} {ps : List MemPlace} (h : heldR v = some (.held u, ps)) : v = u := by
  have := heldR_inv h
  injection this with this
  exact this.symm

theorem strKey : Keyed Try.prog 9 := string_keyed Try.underlying9
theorem keyLit (n : List UInt8) (h : n.length ≤ maxLen) : keyOf Try.prog 9 (.string (bs n)) = some (.string n) := by
  rw [WideMaps.keyOf_string_mk Try.underlying9 (by rw [bs_size]; exact h)]; rfl
theorem zeroFile (w : World) : (zeroValue 64).run Try.prog w = .ok noEnt w := by kernel_rfl

/-- The map in block mb holds just these files. -/
def MapHas (w : World) (mb : Nat) (cs : List Cf) : Prop :=
  ∃ D : DataW Value, w.ownsMap Try.prog 9 heldR mb cs.length D ∧ Maps.size D = cs.length ∧
    (∀ c ∈ cs, Maps.has D (.string c.nm) = true ∧ ∀ z, D.atKey (.string c.nm) z = .held c.ent) ∧ (∀ n, Maps.has D (.string n) = true → ∃ c ∈ cs, c.nm = n)

theorem MapHas.kept {w w' : World} {mb : Nat} {cs : List Cf} (h : MapHas w mb cs) (hk : w'.heap[mb]? = w.heap[mb]?) : MapHas w' mb cs := by
  obtain ⟨D, ⟨es, clock, hb, r⟩, r2⟩ := h
  exact ⟨D, ⟨es, clock, by rw [hk]; exact hb, r⟩, r2⟩

theorem MapHas.lt {w : World} {mb : Nat} {cs : List Cf} (h : MapHas w mb cs) : mb < w.heap.size := by
  obtain ⟨D, h, _⟩ := h
  exact h.lt

theorem MapHas.look_yes {w : World} {mb : Nat} {cs : List Cf} (h : MapHas w mb cs) {c : Cf} (hc : c ∈ cs) (hl : c.nm.length ≤ maxLen) :
    (Instr.lookup 58 (.map (some mb)) (.string (bs c.nm)) false).run Try.prog w = .ok c.ent w ∧
    (Instr.lookup 58 (.map (some mb)) (.string (bs c.nm)) true).run Try.prog w = .ok (.tuple #[c.ent, .bool true]) w := by
  obtain ⟨D, hD, _, hin, _⟩ := h
  obtain ⟨h1, h2⟩ := hin c hc
  constructor
  · obtain ⟨v, ps, hr, hv⟩ := hD.lookup strKey Try.underlying58 (zeroFile w) (zd := .held noEnt) (zp := []) rfl (keyLit c.nm hl)
    rw [h2] at hv
    rw [hr, heldR_ex hv]
  · obtain ⟨v, ps, hr, hv⟩ := hD.look_ok strKey Try.underlying58 (zeroFile w) (zd := .held noEnt) (zp := []) rfl (keyLit c.nm hl)
    rw [h2] at hv
    rw [hr, heldR_ex hv, h1]

theorem MapHas.look_no {w : World} {mb : Nat} {cs : List Cf} (h : MapHas w mb cs) {n : List UInt8} (hn : ∀ c ∈ cs, c.nm ≠ n) (hl : n.length ≤ maxLen) :
    (Instr.lookup 58 (.map (some mb)) (.string (bs n)) false).run Try.prog w = .ok noEnt w ∧
    (Instr.lookup 58 (.map (some mb)) (.string (bs n)) true).run Try.prog w = .ok (.tuple #[noEnt, .bool false]) w := by
  obtain ⟨D, hD, _, _, hno⟩ := h
  have h1 : Maps.has D (.string n) = false := by
    cases g : Maps.has D (.string n)
    · rfl
    · obtain ⟨c, hc, e⟩ := hno n g
      exact absurd e (hn c hc)
  have h2 : ∀ z, D.atKey (.string n) z = z := fun z => atKey_of_not_has h1 z
  constructor
  · obtain ⟨v, ps, hr, hv⟩ := hD.lookup strKey Try.underlying58 (zeroFile w) (zd := .held noEnt) (zp := []) rfl (keyLit n hl)
    rw [h2] at hv
    rw [hr, heldR_ex hv]
  · obtain ⟨v, ps, hr, hv⟩ := hD.look_ok strKey Try.underlying58 (zeroFile w) (zd := .held noEnt) (zp := []) rfl (keyLit n hl)
    rw [h2] at hv
    rw [hr, heldR_ex hv, h1]

/-- A map has as many entries as it tells. -/
theorem owns_exact {w : World} {mb n : Nat} {D : DataW Value} (h : w.ownsMap Try.prog 9 heldR mb n D) : w.ownsMap Try.prog 9 heldR mb (Maps.size D) D := by
  obtain ⟨es, clock, hb, F, _, hD⟩ := h
  refine ⟨es, clock, hb, F, ?_, hD⟩
  rw [hD]
  simp [Maps.size, length_sorted]

theorem lit_key (n : List UInt8) : WideAt.IsKeyLit (.string n) := trivial
theorem lit_ne {n m : List UInt8} (h : n ≠ m) : (Lit.string n) ≠ .string m := fun e => h (by injection e)

/-- A file is laid into the map. -/
theorem MapHas.store {w : World} {mb : Nat} {cs : List Cf} (h : MapHas w mb cs) (hu : Up Cf.nm cs) (x : Cf) (hl : x.nm.length ≤ maxLen) (hs : cs.length < maxLen) :
    ∃ w', (Instr.mapUpdate 58 (.map (some mb)) (.string (bs x.nm)) x.ent).run Try.prog w = .ok () w' ∧ MapHas w' mb (ins Cf.nm (wo Cf.nm cs x.nm) x) ∧ w.grownBy w' (some mb) := by
  obtain ⟨D, hD, hsz, hin, hno⟩ := h
  obtain ⟨w', hr, hown, hg⟩ := hD.update strKey Try.underlying58 hs (keyLit x.nm hl) (val := x.ent) (d := .held x.ent) (ps := []) rfl
  refine ⟨w', hr, ⟨D.put (.string x.nm) (.held x.ent), ?_, ?_, ?_, ?_⟩, hg⟩
  · have hlen : Maps.size (D.put (.string x.nm) (.held x.ent)) = (ins Cf.nm (wo Cf.nm cs x.nm) x).length := by
      rw [size_put (hD.tidy strKey), length_ins, hsz]
      by_cases hx : Maps.has D (.string x.nm) = true
      · obtain ⟨c, hc, e⟩ := hno _ hx
        rw [if_pos hx, ← e, wo_at hu hc, List.length_append, List.length_take, List.length_drop]
        have := pos_lt hu hc
        omega
      · rw [if_neg hx, wo_id]
        intro c hc e
        have := (hin c hc).1
        rw [e] at this
        exact hx this
    rw [← hlen]; exact owns_exact hown
  · rw [size_put (hD.tidy strKey), length_ins, hsz]
    by_cases hx : Maps.has D (.string x.nm) = true
    · obtain ⟨c, hc, e⟩ := hno _ hx
      rw [if_pos hx, ← e, wo_at hu hc, List.length_append, List.length_take, List.length_drop]
      have := pos_lt hu hc
      omega
    · rw [if_neg hx, wo_id]
      intro c hc e
      have := (hin c hc).1
      rw [e] at this
      exact hx this
  · intro c hc
    rcases mem_ins.1 hc with rfl | hc
    · exact ⟨has_put_same hD.isMap (lit_key _) _, fun z => atKey_put_same hD.isMap (lit_key _) _ z⟩
    · obtain ⟨hc, hne⟩ := mem_wo.1 hc
      obtain ⟨a, b⟩ := hin c hc
      exact ⟨by rw [has_put_other (lit_ne hne)]; exact a, fun z => by rw [atKey_put_other (lit_ne hne)]; exact b z⟩
  · intro n hn
    by_cases e : n = x.nm
    · exact ⟨x, mem_ins.2 (Or.inl rfl), e.symm⟩
    · rw [has_put_other (lit_ne e)] at hn
      obtain ⟨c, hc, e'⟩ := hno n hn
      exact ⟨c, mem_ins.2 (Or.inr (mem_wo.2 ⟨hc, by rw [e']; exact e⟩)), e'⟩

/-- A file is taken out of the map. -/
theorem MapHas.drop {w : World} {mb : Nat} {cs : List Cf} (h : MapHas w mb cs) (hu : Up Cf.nm cs) {c : Cf} (hc : c ∈ cs) (hl : c.nm.length ≤ maxLen) (ty : TypeId) :
    ∃ w', (Builtin.delete_ #[58, 9] ty #[.map (some mb), .string (bs c.nm)]).run Try.prog w = .ok (.tuple #[]) w' ∧ MapHas w' mb (wo Cf.nm cs c.nm) ∧ w.grownBy w' (some mb) := by
  obtain ⟨D, hD, hsz, hin, hno⟩ := h
  obtain ⟨w', hr, hown, ht⟩ := hD.drop strKey Try.underlying58 (keyLit c.nm hl) ty
  have hlen : Maps.size (D.del (.string c.nm)) = (wo Cf.nm cs c.nm).length := by
    have h1 := size_del (k := .string c.nm) (hD.tidy strKey)
    rw [if_pos (hin c hc).1, hsz] at h1
    rw [wo_at hu hc, List.length_append, List.length_take, List.length_drop]
    have := pos_lt hu hc
    omega
  refine ⟨w', hr, ⟨D.del (.string c.nm), by rw [← hlen]; exact owns_exact hown, hlen, fun d hd => ?_, fun n hn => ?_⟩, ht.grown⟩
  · obtain ⟨hd, hne⟩ := mem_wo.1 hd
    obtain ⟨a, b⟩ := hin d hd
    exact ⟨by rw [has_del_other (lit_ne hne)]; exact a, fun z => by rw [atKey_del_other (lit_ne hne)]; exact b z⟩
  · by_cases e : n = c.nm
    · subst e; rw [has_del_same] at hn; cases hn
    · rw [has_del_other (lit_ne e)] at hn
      obtain ⟨d, hd, e'⟩ := hno n hn
      exact ⟨d, mem_wo.2 ⟨hd, by rw [e']; exact e⟩, e'⟩
end Go.Proofs.Ytmpipfhlicfagaa
