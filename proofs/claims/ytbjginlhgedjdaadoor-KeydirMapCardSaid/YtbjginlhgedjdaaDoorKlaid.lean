/- What the rows list of the package's multipliers: it is met by the heap that the door's own run leaves. -/
import Derived.Test.YtbjginlhgedjdaaDoorAplaces
import Derived.Test.YtbjginlhgedjdaaDoorRows
import Derived.LaidMore
import Derived.Lib.LaidTab
import Derived.Stop.Joined
import Derived.Stop.LaidErr
import Derived.LaidSub
import Derived.LaidOnce
namespace Go.Proofs.YtbjginlhgedjdaaDoor
open Go.RowKit

/-- What all rows of this seat list. -/
abbrev laid8 : List (String × DataW Unit) := Rows.keydirPlaysRow.laid

theorem door_met (os : Os) (args : Array Value) : laidMetH Tryd.prog laid8 ((World.doorLaid Tryd.prog 24 os).forCall (fun _ _ => 0) ⟨#[], args, []⟩).memory :=
  laidMetH_of_parts3 (fuel := 8) (laidMet_of_run' 8 (by kernel_rfl) (by kernel_rfl)) (by kernel_rfl) (by kernel_rfl)

theorem tab_is : (Rows.laid_thwart_hash_multipliers : DataW Unit) = Lib.tabData .u64 [18397679294719823053, 14181476777654086739] := by kernel_rfl

theorem tb_of_laid {w : World} (h : laidMetH Tryd.prog laid8 w) : Ml w.heap.size w := by
  rw [MakeChecks.laidMetH_plain _ _ _ (by kernel_rfl)] at h
  unfold laid8 Rows.keydirPlaysRow at h
  rw [tab_is] at h
  have h4 := Lib.tabIs_of_head (by kernel_rfl) (show (Tryd.prog.globals[0]?).map (·.type) = some 77 by kernel_rfl) Tryd.underlying77 Tryd.underlying29 (by kernel_rfl) (by kernel_rfl) h
  unfold Lib.TabIs World.var? at h4
  obtain ⟨g, hg, hx⟩ := Option.bind_eq_some_iff.1 h4
  have hg2 : some 0 = some g := by
    rw [← hg]
    kernel_rfl
  obtain rfl : 0 = g := Option.some.inj hg2
  split at hx
  · rename_i cs t fz hc
    have hl := (Array.getElem?_eq_some_iff.1 hc).1
    obtain rfl := Option.some.inj hx
    exact ⟨hl, _, _, hc⟩
  · cases hx
end Go.Proofs.YtbjginlhgedjdaaDoor
