/- The program's segments do as was asked. -/
import Derived.Test.YtmekkbhblghbmaaGreatDoorSnm
import Derived.Test.YtmekkbhblghbmaaGreatDoorScode2
import Derived.Test.YtmekkbhblghbmaaGreatDoorSget
import Derived.Test.YtmekkbhblghbmaaGreatDoorSwrite
import Derived.Test.YtmekkbhblghbmaaGreatDoorSall
namespace Go.Proofs.YtmekkbhblghbmaaGreatDoor
open Go.RowKit

theorem segC : SegC := {
  name := nmC.name
  write := fun h hT n l a cap h1 h2 h3 h4 h5 h6 => swrite_any nmC h hT n l a cap h1 h2 h3 h4 h5 h6
  get := fun h hT n e h1 h2 h3 h4 => get_any nmC h hT n e h1 h2 h3 h4
  load := fun h hT n h1 h2 h3 => load_any nmC h hT n h1 h2 h3
  sealed := fun h hT n h1 h2 h3 => sseal_any nmC h hT n h1 h2 h3
  index := fun h hT n h1 h2 h3 => index_any nmC h hT n h1 h2 h3
  hint := fun h hT n l a cap h1 h2 h3 h4 h5 h6 => hint_any nmC h hT n l a cap h1 h2 h3 h4 h5 h6
  told := fun h hT n h1 h2 h3 => told_any nmC h hT n h1 h2 h3
  number := snumber_any
  all := fun h h1 => sall_any h h1 }
end Go.Proofs.YtmekkbhblghbmaaGreatDoor
