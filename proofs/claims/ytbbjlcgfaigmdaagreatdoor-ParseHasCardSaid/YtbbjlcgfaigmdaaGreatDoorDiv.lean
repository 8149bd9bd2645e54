/-
  nat.Div: its contract; of a divisor of more than one word, from divideLong's.
-/
import Derived.Test.YtbbjlcgfaigmdaaGreatDoorDivW
import Derived.Test.YtbbjlcgfaigmdaaGreatDoorNa
namespace Go.Proofs.YtbbjlcgfaigmdaaGreatDoor
open Go.RowKit Go.Shelf

/-- What Div comes to. -/
def Div3 (s q r : Nat) (is : Bool) (w : World) (e : Ending) (w' : World) : Prop := ∃ v1 v2, e = .returned (.tuple #[v1, v2, .bool is]) ∧ Nt w' w.heap.size s v1 q ∧ Nt w' w.heap.size s v2 r ∧ Up w w'
/-- What divideLong comes to. -/
def Div2 (s q r : Nat) (w : World) (e : Ending) (w' : World) : Prop := ∃ v1 v2, e = .returned (.tuple #[v1, v2]) ∧ Nt w' w.heap.size s v1 q ∧ Nt w' w.heap.size s v2 r ∧ Up w w'
end Go.Proofs.YtbbjlcgfaigmdaaGreatDoor
