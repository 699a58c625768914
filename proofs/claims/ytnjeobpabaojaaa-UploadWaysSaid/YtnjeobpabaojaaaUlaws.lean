/- What the laws' texts of uploads ask: slices that come in. -/
import Derived.Test.YtnjeobpabaojaaaUopens
import Derived.Test.YtnjeobpabaojaaaUways
import Derived.Test.YtnjeobpabaojaaaUptotal
namespace Go.Proofs.Ytnjeobpabaojaaa.U
open Go.RowKit
set_option linter.unusedVariables false

theorem ways_law (u : Upl) (ns : List Int) (a1 : Option Addr) (cap1 : Nat) (bl : List Bool) (a2 : Option Addr) (cap2 : Nat) (w : World) (hu : u.fit)
    (hnl : ns.length ≤ 9223372036854775807) (hns : Vals w a1 (ns.map (Value.int .i64))) (hnf : ∀ n ∈ ns, -9223372036854775808 ≤ n ∧ n ≤ 9223372036854775807) (hbl : bl.length ≤ 9223372036854775807) (hbs : Vals w a2 (bl.map Value.bool)) (_ : True) :
    Calls Try.prog 5 #[upV u, .slice a1 ns.length cap1, .slice a2 bl.length cap2] w fun e w' => e = .returned (.bool true) ∧ Below w.heap.size w w' :=
  ways_walk upC u ns a1 cap1 bl a2 cap2 w hu hnl hns hnf hbl hbs
end Go.Proofs.Ytnjeobpabaojaaa.U
