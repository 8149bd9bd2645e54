import Derived.Test.YtcmlanfgafancaaGreatDoorQTHn
import Derived.Lib.IndexMore
import Derived.Lib.TrimByte
import Derived.Lib.AtoiAllCases
import Derived.Lib.Strings
import Derived.Laws.BitsLemmas
set_option maxHeartbeats 32000000
set_option linter.unusedVariables false
set_option linter.unusedSimpArgs false
namespace Go.Proofs.YtcmlanfgafancaaGreatDoor
open Go
namespace M
theorem itoa_ntx (z : Int) : Lib.itoa z = ntx z := by
 unfold Lib.itoa ntx sgt
 by_cases h : z < 0
 ·rw [if_pos h, if_pos (by simp [h])]; rfl
 ·rw [if_neg h, if_neg (by simp [h]), List.nil_append]
  congr 1
  omega
end M
end Go.Proofs.YtcmlanfgafancaaGreatDoor
