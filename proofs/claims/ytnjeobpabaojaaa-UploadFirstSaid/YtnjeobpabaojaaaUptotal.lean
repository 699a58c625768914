/- All that is asked of the program's uploads holds of the landed code. -/
import Derived.Test.YtnjeobpabaojaaaUpfirst
namespace Go.Proofs.Ytnjeobpabaojaaa.U
open Go.RowKit

theorem upC : UpC where
  due := fun h hn => pdue_any _ _ _ h hn
  step := fun h hn => pstep_any _ _ _ _ h hn
  evict := fun h => pevict_any _ _ h
  ticks := fun h1 h2 h3 h4 h5 => pticks_any _ _ _ _ h1 h2 h3 h4 h5
  first := fun h1 h2 h3 h4 => pfirst_any h1 h2 h3 h4
end Go.Proofs.Ytnjeobpabaojaaa.U
