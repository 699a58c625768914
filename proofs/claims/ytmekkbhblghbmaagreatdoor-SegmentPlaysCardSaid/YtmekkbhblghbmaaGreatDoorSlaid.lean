/- What the rows list of the library's tables: it is met by the heap that the door's own run leaves, and it gives the table of powers of ten. -/
import Derived.Test.YtmekkbhblghbmaaGreatDoorStab
import Derived.Test.YtmekkbhblghbmaaGreatDoorRows
import Derived.LaidMore
import Derived.Stop.Joined
import Derived.Stop.LaidErr
import Derived.LaidSub
import Derived.LaidOnce
namespace Go.Proofs.YtmekkbhblghbmaaGreatDoor
open Go.RowKit

/-- What all rows of this seat list. -/
abbrev laid8 : List (String × DataW Unit) := Rows.segmentPlaysRow.laid

theorem door_met (os : Os) (args : Array Value) : laidMetH Tryz.prog laid8 ((World.doorLaid Tryz.prog 24 os).forCall (fun _ _ => 0) ⟨#[], args, []⟩).memory :=
  laidMetH_of_parts3 (fuel := 8) (laidMet_of_run' 8 (by kernel_rfl) (by kernel_rfl)) (by kernel_rfl) (by kernel_rfl)

theorem tab_is : (Rows.laid_internal_strconv_uint64pow10 : DataW Unit) = Lib.tabData .u64 Lib.pow10Tab := by kernel_rfl

theorem tb_of_laid {W : World} (h : laidMetH Tryz.prog laid8 W) : Tb W.heap.size W := by
  rw [MakeChecks.laidMetH_plain _ _ _ (by kernel_rfl)] at h
  have h3 := (laidMet.tail (laidMet.tail h))
  rw [tab_is] at h3
  have h4 := Lib.tabIs_of_head (by kernel_rfl) (show (Tryz.prog.globals[0]?).map (·.type) = some 215 by kernel_rfl) Tryz.underlying215 Tryz.underlying45 (by kernel_rfl) (by kernel_rfl) h3
  unfold Lib.TabIs World.var? at h4
  obtain ⟨g, hg, hx⟩ := Option.bind_eq_some_iff.1 h4
  have hg2 : some 0 = some g := by
    rw [← hg]
    kernel_rfl
  obtain rfl : 0 = g := Option.some.inj hg2
  split at hx
  · rename_i cs t fz hc
    have hl := (Array.getElem?_eq_some_iff.1 hc).1
    obtain rfl := Option.some.inj hx
    exact ⟨hl, _, _, hc⟩
  · cases hx
end Go.Proofs.YtmekkbhblghbmaaGreatDoor
