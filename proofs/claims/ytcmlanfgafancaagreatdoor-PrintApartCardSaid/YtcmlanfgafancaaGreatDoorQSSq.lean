import Derived.Test.YtcmlanfgafancaaGreatDoorQSObm
import Derived.Test.YtcmlanfgafancaaGreatDoorQSShelf
import Derived.Test.YtcmlanfgafancaaGreatDoorQSHn
import Derived.Test.YtcmlanfgafancaaGreatDoorQSNb
import Derived.Deep.RegionHeld3
import Derived.Deep.RegionWith
import Derived.Deep.LoopGhost
import Derived.BigQuiet
import Derived.Lib.AppendZeros
import Derived.Lib.SlBytesConst
import Derived.LoopN
import Derived.ArgAppend
set_option maxHeartbeats 32000000
set_option linter.unusedVariables false
set_option linter.unusedSimpArgs false
namespace Go.Proofs.YtcmlanfgafancaaGreatDoor
open Go.RowKit Go.Shelf
namespace M
def rs (l : List UInt8) : It × Nat × Int := match scan l with
 | .error i => (⟨0, false, ⟨0, 0, 0, false⟩⟩, i, 2)
 | .ok x => (itm x, 0, 0)
theorem rs_ok {l : List UInt8} {x : Sc} (h : scan l = .ok x) : rs l = (itm x, 0, 0) := by simp [rs, h]
end M
end Go.Proofs.YtcmlanfgafancaaGreatDoor
