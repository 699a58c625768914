/- The library's variables that names are made and read with: the table of powers of ten, and the two errors of strconv. They lie ahead of all that a call makes. -/
import Derived.Test.YtbefhnpmilcffaaDoorNread
import Derived.Lib.LaidTab
import Derived.Lib.ItoaNum
import Derived.Lib.AtoiErrMem
namespace Go.Proofs.YtbefhnpmilcffaaDoor.J
open Go.RowKit
set_option linter.unusedVariables false

def tabRow : Array Value := (Lib.pow10Tab.map fun z => Value.int .u64 z).toArray
/-- An error is held. -/
def Er (w : World) (g : Nat) : Prop := ∃ te pe, w.cell? ⟨g, 0, none⟩ = some (.iface te pe)
structure Vt (w : World) : Prop where
  tab : ∃ t fz, w.heap[2]? = some (.cells tabRow t fz)
  syn : Er w 0
  rng : Er w 1
theorem Er.later {w w' : World} {g : Nat} (h : Er w g) (hb : Below w.heap.size w w') : Er w' g := by
  obtain ⟨te, pe, hc⟩ := h
  exact ⟨te, pe, (hb.cell (p := ⟨g, 0, none⟩) (Lib.lt_of_cell hc)).trans hc⟩
theorem Vt.later {w w' : World} (h : Vt w) (hb : Below w.heap.size w w') : Vt w' :=
  ⟨by obtain ⟨t, fz, hc⟩ := h.tab; exact ⟨t, fz, (hb.block _ (Array.getElem?_eq_some_iff.1 hc).1).trans hc⟩, h.syn.later hb, h.rng.later hb⟩
/-- .. so the contracts of the library find it. -/
theorem Vt.tabIs {w : World} {name : String} (h : Vt w) (hn : Tryd.prog.globalNamed name = some 2) : Lib.TabIs Tryd.prog w name .u64 Lib.pow10Tab := by
  obtain ⟨t, fz, h⟩ := h.tab
  unfold Lib.TabIs World.var?
  rw [hn]
  show (match w.heap[2]? with | some (.cells cs _ _) => some cs | _ => none) = _
  rw [h]
  rfl
end Go.Proofs.YtbefhnpmilcffaaDoor.J
