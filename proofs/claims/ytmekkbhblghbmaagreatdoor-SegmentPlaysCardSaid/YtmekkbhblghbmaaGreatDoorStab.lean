/- The library's table of powers of ten, which the names of segments are made with: it lies ahead of all that a call makes. -/
import Derived.Test.YtmekkbhblghbmaaGreatDoorDb
import Derived.Lib.ItoaNum
import Derived.Lib.LaidTab
namespace Go.Proofs.YtmekkbhblghbmaaGreatDoor
open Go.RowKit
set_option linter.unusedVariables false

def tabRow : Array Value := (Lib.pow10Tab.map fun z => Value.int .u64 z).toArray
/-- The table lies in its own block, ahead of B. -/
def Tb (B : Nat) (w : World) : Prop := 0 < B ∧ ∃ t fz, w.heap[0]? = some (.cells tabRow t fz)
section
variable {B B' : Nat} {w w' : World}
theorem Tb.lt (h : Tb B w) : 0 < w.heap.size := by
  obtain ⟨_, t, fz, h⟩ := h
  exact (Array.getElem?_eq_some_iff.1 h).1
theorem Tb.kept (h : Tb B w) (hk : w'.heap[0]? = w.heap[0]?) : Tb B w' := ⟨h.1, by rw [hk]; exact h.2⟩
theorem Tb.below (h : Tb B w) (hb : Below B w w') : Tb B w' := h.kept (hb.block _ h.1)
theorem Tb.new (h : Tb B w) (hb : Below w.heap.size w w') : Tb B w' := h.kept (hb.block _ h.lt)
theorem Tb.turn {F : Nat → Prop} (h : Tb B w) (t : Turn F w w') (hF : ∀ k, F k → B ≤ k) : Tb B w' := h.kept (t.block _ h.lt (fun hf => by have := hF _ hf; have := h.1; omega))
theorem Tb.mono (h : Tb B w) (hB : B ≤ B') : Tb B' w := ⟨Nat.lt_of_lt_of_le h.1 hB, h.2⟩
end
/-- .. so the contracts of the library find it. -/
theorem Tb.tab {B : Nat} {w : World} {name : String} (h : Tb B w) (hn : Tryz.prog.globalNamed name = some 0) : Lib.TabIs Tryz.prog w name .u64 Lib.pow10Tab := by
  obtain ⟨_, t, fz, h⟩ := h
  unfold Lib.TabIs World.var?
  rw [hn]
  show (match w.heap[0]? with | some (.cells cs _ _) => some cs | _ => none) = _
  rw [h]
  rfl
end Go.Proofs.YtmekkbhblghbmaaGreatDoor
