/- What is asked of the program's merge holds of the landed code. -/
import Derived.Test.YtfcfleeiffmjdaaGpnew
import Derived.Test.YtfcfleeiffmjdaaGpbat
namespace Go.Proofs.Ytfcfleeiffmjdaa.G
open Go.RowKit

theorem mrgC : MrgC where
  newest h hr hc := pnewest_any h hr hc
  live h hr hc := plive_any h hr hc
  merge h hr hc := pmerge_any h hr hc
  batches h hl hc _ _ := pbatches_any h hl hc
end Go.Proofs.Ytfcfleeiffmjdaa.G
