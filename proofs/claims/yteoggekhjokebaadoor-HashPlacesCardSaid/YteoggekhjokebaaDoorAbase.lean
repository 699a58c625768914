/- Small things that all texts of this layer use: bytes as Go strings. -/
import Derived.Test.YteoggekhjokebaaDoorRows
import Derived.Test.YteoggekhjokebaaDoorAmath
import Derived.WalkKit
import Derived.WalkSpells
import Derived.WalkLawsBesides
import Derived.Deep.QuietTactic
import Derived.BigQuiet
import Derived.Lib.Hide
import Derived.Lib.Strings
import Derived.Laws.BitsAllLaws
import Derived.Laws.IdiomStrings
import Derived.Laws.Rows
import Derived.Laws.Tables
import Derived.Deep.WholeRow
import Derived.Deep.RegionWith
import Derived.IntWalk
namespace Go.Proofs.YteoggekhjokebaaDoor
open Go.RowKit

/-- Bytes as a Go string. -/
def bs (l : List UInt8) : ByteArray := ⟨l.toArray⟩
theorem bs_list (l : List UInt8) : (bs l).data.toList = l := rfl
theorem bs_size (l : List UInt8) : (bs l).size = l.length := by simp [bs, ByteArray.size]
theorem bs_of (b : ByteArray) : bs b.data.toList = b := Lib.mk_data b
theorem len_size (b : ByteArray) : b.data.toList.length = b.size := by rw [Lib.size_eq]
theorem take_snoc (b : ByteArray) (k : Nat) (h : k < b.size) : b.data.toList.take (k + 1) = b.data.toList.take k ++ [b[k]] := by
  rw [List.take_succ_eq_append_getElem (by rw [len_size]; exact h)]; rfl
theorem ret_int {k : IntKind} {a b : Int} (h : a = b) : Ending.returned (.int k a) = .returned (.int k b) := by rw [h]
end Go.Proofs.YteoggekhjokebaaDoor
