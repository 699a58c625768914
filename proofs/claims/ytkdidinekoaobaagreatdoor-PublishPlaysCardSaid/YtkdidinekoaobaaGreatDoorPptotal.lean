/- The program's publish: all that is asked of it. -/
import Derived.Test.YtkdidinekoaobaaGreatDoorPb
import Derived.Test.YtkdidinekoaobaaGreatDoorPpnext
import Derived.Test.YtkdidinekoaobaaGreatDoorPplatest
import Derived.Test.YtkdidinekoaobaaGreatDoorPpwaste
namespace Go.Proofs.YtkdidinekoaobaaGreatDoor.P
open M J

theorem pubC : PubC := {
  latest := fun h hV hS => (latest_any h hV hS).mono fun _ _ h => h
  next := fun h hV hS _ hin _ hmf hlf _ hl => pnext_any h hV hS hin hmf hlf hl
  upload := fun h hV hS hn hb => pupload_any h hV hS hn hb
  fetch := fun h hV hS hf => pfetch_any h hV hS hf
  waste := fun hV hn hin hf hl hns hml => pwaste_any hV hn hin hf hl hns hml }
end Go.Proofs.YtkdidinekoaobaaGreatDoor.P
