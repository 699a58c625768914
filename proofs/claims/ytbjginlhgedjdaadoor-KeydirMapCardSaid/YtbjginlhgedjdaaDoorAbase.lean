/- Small things that all texts of this layer use. -/
import Derived.Test.YtbjginlhgedjdaaDoorDbits
import Derived.Test.YtbjginlhgedjdaaDoorAmath
import Derived.WalkKit
import Derived.WalkSpells
import Derived.WalkLawsBesides
import Derived.Deep.QuietTactic
import Derived.BigQuiet
import Derived.Lib.Hide
import Derived.Lib.Strings
import Derived.Laws.BitsAllLaws
import Derived.Laws.IdiomStrings
import Derived.Laws.Rows
import Derived.Laws.Tables
import Derived.Deep.WholeRow
import Derived.Deep.RegionWith
import Derived.IntWalk
namespace Go.Proofs.YtbjginlhgedjdaaDoor
open Go.RowKit

theorem alen_size (b : ByteArray) : b.data.toList.length = b.size := by rw [Lib.size_eq]
theorem atake_snoc (b : ByteArray) (k : Nat) (h : k < b.size) : b.data.toList.take (k + 1) = b.data.toList.take k ++ [b[k]] := by
  rw [List.take_succ_eq_append_getElem (by rw [alen_size]; exact h)]; rfl
end Go.Proofs.YtbjginlhgedjdaaDoor
