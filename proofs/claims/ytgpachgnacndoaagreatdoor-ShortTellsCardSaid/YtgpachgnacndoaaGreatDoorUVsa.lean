/-
  Digits and numbers: no program is named here.
-/
import Derived.Lib.ItoaNum
namespace Go.Proofs.YtgpachgnacndoaaGreatDoor
open Go

namespace M
end M
end Go.Proofs.YtgpachgnacndoaaGreatDoor
