/- The program's manifests: all that is asked of them. -/
import Derived.Test.YtbefhnpmilcffaaDoorNpwhole
import Derived.Test.YtbefhnpmilcffaaDoorNpname
import Derived.Test.YtbefhnpmilcffaaDoorNpbytes
namespace Go.Proofs.YtbefhnpmilcffaaDoor.J

theorem manC : ManC := {
  right := fun hin hl _ => pright_any _ _ _ _ hin hl
  bytes := fun hin hl hf => pbytes_any _ _ _ _ hin hl hf.wf
  read := fun hb => pread_any _ _ hb
  name := fun hV hv => pname_any _ _ hV hv
  ver := fun hV hs => pver_any _ _ hV hs
  object := fun hV hv => pobject_any _ _ hV hv
  of := fun hn hb => pof_any _ _ _ hn hb }
end Go.Proofs.YtbefhnpmilcffaaDoor.J
