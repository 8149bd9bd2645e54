/-
  What came in, field by field: slices of words, bools, numbers; what may be written of it.
-/
import Derived.Lib.SmallJoins
import Derived.Test.YtgpachgnacndoaaGreatDoorRows
import Derived.Test.YtgpachgnacndoaaGreatDoorUNa
import Derived.WalkKit
import Derived.ProofKit
import Derived.OpenShut
import Derived.ChangeOld
import Derived.Below
namespace Go.Proofs.YtgpachgnacndoaaGreatDoor
open Go.ChangeShapes Go.WideShapes Go.ChangeAt Go.RowKit

end Go.Proofs.YtgpachgnacndoaaGreatDoor
