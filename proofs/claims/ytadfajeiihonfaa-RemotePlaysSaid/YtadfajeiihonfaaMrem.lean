/- A remote in memory, and how it stays. -/
import Derived.Test.YtadfajeiihonfaaMrep
import Derived.Deep.RegionHeld3
import Derived.Deep.Upon
namespace Go.Proofs.Ytadfajeiihonfaa
open Go.RowKit Go.Maps

/-- An object is taken out of the map, if it is there. -/
theorem MapHas.dropAny {w : World} {mb : Nat} {cs : List Ob} (h : MapHas w mb cs) (hu : Up Ob.nm cs) (n : List UInt8) (hl : n.length ≤ maxLen) (ty : TypeId) :
    ∃ w', (Builtin.delete_ #[46, 9] ty #[.map (some mb), .string (bs n)]).run Try.prog w = .ok (.tuple #[]) w' ∧ MapHas w' mb (wo Ob.nm cs n) ∧ w.grownBy w' (some mb) := by
  by_cases hc : ∃ c ∈ cs, c.nm = n
  · obtain ⟨c, hc, rfl⟩ := hc
    exact h.drop hu hc hl ty
  · have hno : ∀ c ∈ cs, c.nm ≠ n := fun c hcc e => hc ⟨c, hcc, e⟩
    obtain ⟨D, hD, hsz, hin, hno'⟩ := h
    obtain ⟨w', hr, hown, ht⟩ := hD.drop strKey Try.underlying46 (keyLit n hl) ty
    have h0 : Maps.has D (.string n) = false := by
      cases g : Maps.has D (.string n)
      · rfl
      · obtain ⟨c, hcc, e⟩ := hno' n g
        exact absurd e (hno c hcc)
    have hlen : Maps.size (D.del (.string n)) = (wo Ob.nm cs n).length := by
      have h1 := size_del (k := .string n) (hD.tidy strKey)
      rw [h0] at h1
      rw [wo_id hno, ← hsz]
      simpa using h1
    refine ⟨w', hr, ⟨D.del (.string n), by rw [← hlen]; exact owns_exact hown, hlen, fun d hd => ?_, fun m hm => ?_⟩, ht.grown⟩
    · obtain ⟨hd, hne⟩ := mem_wo.1 hd
      obtain ⟨a, b⟩ := hin d hd
      exact ⟨by rw [has_del_other (lit_ne hne)]; exact a, fun z => by rw [atKey_del_other (lit_ne hne)]; exact b z⟩
    · by_cases e : m = n
      · subst e; rw [has_del_same] at hm; cases hm
      · rw [has_del_other (lit_ne e)] at hm
        obtain ⟨d, hd, e'⟩ := hno' m hm
        exact ⟨d, mem_wo.2 ⟨hd, by rw [e']; exact e⟩, e'⟩

/-- What is left of the script, as it lies. -/
def Sc (B : Nat) (w : World) (pb mb : Nat) (sv : Value) (sc : List Int) : Prop :=
  ∃ a cap, sv = .slice a sc.length cap ∧ sc.length ≤ cap ∧ cap ≤ maxLen ∧ (a = none → sc = []) ∧ ∀ A, a = some A → ∃ g off, A = ⟨g, off, none⟩ ∧ B ≤ g ∧ g < w.heap.size ∧ g ≠ pb ∧ g ≠ mb ∧ ∀ i y, sc[i]? = some y → w.cell? ⟨g, off + i, none⟩ = some (.int .i64 y)

/-- The blocks of a remote: its own, its map's, its script's. -/
def foot (pb mb : Nat) (sv : Value) (k : Nat) : Prop := k = pb ∨ k = mb ∨ ∃ off n c, sv = .slice (some ⟨k, off, none⟩) n c

/-- The remote in block pb. -/
structure Rk (B : Nat) (w : World) (pb mb : Nat) (sv : Value) (S : Rs) : Prop where
  blk : w.heap[pb]? = some (.cells #[.map (some mb), sv, .int .i64 S.n] 48 (0, 0))
  map : MapHas w mb S.obs
  script : Sc B w pb mb sv S.sc
  base : B ≤ pb ∧ B ≤ mb ∧ mb ≠ pb ∧ B ≤ w.heap.size
  ok : Ok S

section
variable {B pb mb : Nat} {sv : Value} {S : Rs} {w w' : World}

theorem Rk.lt (h : Rk B w pb mb sv S) : pb < w.heap.size ∧ mb < w.heap.size := ⟨(Array.getElem?_eq_some_iff.1 h.blk).1, h.map.lt⟩

theorem Rk.footLt (h : Rk B w pb mb sv S) {k : Nat} (hk : foot pb mb sv k) : B ≤ k ∧ k < w.heap.size := by
  rcases hk with rfl | rfl | ⟨off, n, c, hk⟩
  · exact ⟨h.base.1, h.lt.1⟩
  · exact ⟨h.base.2.1, h.lt.2⟩
  · obtain ⟨a, cap, hv, _, _, _, ha⟩ := h.script
    rw [hk] at hv
    injection hv with e1 e2 e3
    obtain ⟨g, off', hA, hB, hg, _⟩ := ha _ e1.symm
    injection hA with e1 e2 e3
    subst e1
    exact ⟨hB, hg⟩

theorem Sc.kept {sc : List Int} (h : Sc B w pb mb sv sc) (hs : w.heap.size ≤ w'.heap.size) (hk : ∀ k off n c, k < w.heap.size → sv = .slice (some ⟨k, off, none⟩) n c → w'.heap[k]? = w.heap[k]?) : Sc B w' pb mb sv sc := by
  obtain ⟨a, cap, hv, h1, h2, h3, h4⟩ := h
  refine ⟨a, cap, hv, h1, h2, h3, fun A hA => ?_⟩
  obtain ⟨g, off, rfl, hB, hg, n1, n2, hc⟩ := h4 A hA
  refine ⟨g, off, rfl, hB, Nat.lt_of_lt_of_le hg hs, n1, n2, fun i y hy => ?_⟩
  have hb := hk g off _ _ hg (by rw [hv, hA])
  have := hc i y hy
  simp only [World.cell?, hb] at this ⊢
  exact this

theorem Rk.kept {G : Nat → Prop} (h : Rk B w pb mb sv S) (t : Turn G w w') (hG : ∀ k, k < w.heap.size → foot pb mb sv k → ¬ G k) : Rk B w' pb mb sv S := by
  obtain ⟨l1, l2⟩ := h.lt
  have hb : ∀ k, k < w.heap.size → foot pb mb sv k → w'.heap[k]? = w.heap[k]? := fun k hl hk => t.block k hl (hG k hl hk)
  exact ⟨by rw [hb pb l1 (Or.inl rfl)]; exact h.blk, h.map.kept (hb mb l2 (Or.inr (Or.inl rfl))), h.script.kept t.size (fun k off n c hk e => hb k hk (Or.inr (Or.inr ⟨off, n, c, e⟩))), ⟨h.base.1, h.base.2.1, h.base.2.2.1, Nat.le_trans h.base.2.2.2 t.size⟩, h.ok⟩

theorem Rk.below (h : Rk B w pb mb sv S) (hb : Below w.heap.size w w') : Rk B w' pb mb sv S := h.kept (Turn.of_below (fun _ => False) hb (Nat.le_refl _)) (fun _ _ _ f => f)

theorem Rk.cells (h : Rk B w pb mb sv S) : w.cell? ⟨pb, 0, none⟩ = some (.map (some mb)) ∧ w.cell? ⟨pb, 1, none⟩ = some sv ∧ w.cell? ⟨pb, 2, none⟩ = some (.int .i64 S.n) ∧ (∀ j, w.frozen? ⟨pb, j, none⟩ = false) := by
  have hc : ∀ j, w.cell? ⟨pb, j, none⟩ = (#[Value.map (some mb), sv, .int .i64 S.n])[j]? := fun j => cell_of_row w pb j _ _ (0, 0) h.blk
  exact ⟨by rw [hc]; rfl, by rw [hc]; rfl, by rw [hc]; rfl, fun j => by simp [World.frozen?, h.blk]⟩

theorem Rk.setAt (h : Rk B w pb mb sv S) (j : Nat) (v : Value) : (w.setCell ⟨pb, j, none⟩ v).heap[pb]? = some (.cells ((#[Value.map (some mb), sv, .int .i64 S.n]).setIfInBounds j v) 48 (0, 0)) :=
  heap_setCell_same w pb j _ _ v h.blk

/-- Its own block alone has turned: the script that is left, the count. -/
theorem Rk.head (h : Rk B w pb mb sv S) (t : Turn (fun k => k = pb) w w') {sv' : Value} {sc' : List Int} {n' : Int} (hp : w'.heap[pb]? = some (.cells #[.map (some mb), sv', .int .i64 n'] 48 (0, 0)))
    (hs : Sc B w' pb mb sv' sc') (ho : Ok { S with sc := sc', n := n' }) : Rk B w' pb mb sv' { S with sc := sc', n := n' } :=
  ⟨hp, h.map.kept (t.block mb h.lt.2 h.base.2.2.1), hs, ⟨h.base.1, h.base.2.1, h.base.2.2.1, Nat.le_trans h.base.2.2.2 t.size⟩, ho⟩

/-- The map alone has turned. -/
theorem Rk.mapped (h : Rk B w pb mb sv S) (t : Turn (fun k => k = mb) w w') {l : List Ob} (hm : MapHas w' mb l) (ho : Ok { S with obs := l }) : Rk B w' pb mb sv { S with obs := l } :=
  ⟨by rw [t.block pb h.lt.1 (fun e => h.base.2.2.1 e.symm)]; exact h.blk, hm, h.script.kept t.size (fun k off n c hk e => t.block k hk (fun ek => by
    obtain ⟨a, cap, hv, _, _, _, ha⟩ := h.script
    rw [e] at hv
    injection hv with e1 e2 e3
    obtain ⟨g, off', hA, _, _, _, hgm, _⟩ := ha _ e1.symm
    injection hA with e1 e2 e3
    exact hgm (e1 ▸ ek))), ⟨h.base.1, h.base.2.1, h.base.2.2.1, Nat.le_trans h.base.2.2.2 t.size⟩, ho⟩
end

theorem turn_head (w : World) (pb j : Nat) (v : Value) : Turn (fun k => k = pb) w (w.setCell ⟨pb, j, none⟩ v) := (Turn.refl (fun k => k = pb) w).setCell (p := ⟨pb, j, none⟩) rfl v

/-- What a step leaves: the remote, what has turned of it, where it lies now. -/
def RkStep (B pb mb : Nat) (sv : Value) (w : World) (S' : Rs) (w' : World) : Prop := ∃ sv', Rk B w' pb mb sv' S' ∧ (∀ k, foot pb mb sv' k → foot pb mb sv k ∨ w.heap.size ≤ k) ∧ Turn (foot pb mb sv) w w'

theorem RkStep.trans {B pb mb : Nat} {sv : Value} {w w' w'' : World} {S' S'' : Rs} (h : RkStep B pb mb sv w S' w') (k : ∀ sv', Rk B w' pb mb sv' S' → RkStep B pb mb sv' w' S'' w'') : RkStep B pb mb sv w S'' w'' := by
  obtain ⟨sv', h1, h2, h3⟩ := h
  obtain ⟨sv2, k1, k2, k3⟩ := k sv' h1
  refine ⟨sv2, k1, fun i hi => ?_, h3.then k3 h2⟩
  rcases k2 i hi with hi | hi
  · exact h2 i hi
  · exact Or.inr (Nat.le_trans h3.size hi)

theorem RkStep.same {B pb mb : Nat} {sv : Value} {w w' : World} {S : Rs} (h : Rk B w pb mb sv S) (t : Below w.heap.size w w') : RkStep B pb mb sv w S w' :=
  ⟨sv, h.below t, fun _ hk => Or.inl hk, Turn.of_below _ t (Nat.le_refl _)⟩
end Go.Proofs.Ytadfajeiihonfaa
