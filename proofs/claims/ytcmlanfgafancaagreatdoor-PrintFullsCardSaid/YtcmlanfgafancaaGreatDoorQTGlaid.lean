import Derived.Test.YtcmlanfgafancaaGreatDoorQTKlaid
import Derived.Test.YtcmlanfgafancaaGreatDoorQTGf
set_option maxHeartbeats 32000000
set_option linter.unusedVariables false
set_option linter.unusedSimpArgs false
namespace Go.Proofs.YtcmlanfgafancaaGreatDoor
open Go.RowKit
theorem of_laid13 {W : World} (h : laidMetH Tryz.prog LstK W) : Lq W := ⟨(of_laidK h).ten, (of_laidK h).low, (of_laidK h).form⟩
end Go.Proofs.YtcmlanfgafancaaGreatDoor
