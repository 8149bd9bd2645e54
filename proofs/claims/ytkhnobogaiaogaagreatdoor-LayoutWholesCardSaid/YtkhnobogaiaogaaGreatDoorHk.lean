/-
  What the rows of layer 12 hand to the walks.
-/
import Derived.Test.YtkhnobogaiaogaaGreatDoorHi
namespace Go.Proofs.YtkhnobogaiaogaaGreatDoor
open Go.RowKit Go.Shelf

theorem lwholes_int (w : World) (TW : TabW w) (EW : ErrB w) (F : Lay) (x : Int) (hx : (Lit.int .u64 x).wf = true) (neg : Bool) :
    Calls Tryz.prog 8 #[.int .u64 x, .bool neg] w (True12 w) := by
  have h : (0 : Int) ≤ x ∧ x ≤ 18446744073709551615 := by simpa [Lit.wf, IntKind.min, IntKind.max, IntKind.signed, IntKind.bits] using hx
  obtain ⟨n, rfl⟩ : ∃ n : Nat, x = (n : Int) := ⟨x.toNat, by omega⟩
  exact lwholes_walk w TW EW F n (by omega) neg
end Go.Proofs.YtkhnobogaiaogaaGreatDoor
