/-
  Layer 9's laws: same, number: their contracts.
-/
import Derived.Test.YtbbjlcgfaigmdaaGreatDoorSc
import Derived.Test.YtbbjlcgfaigmdaaGreatDoorNa
namespace Go.Proofs.YtbbjlcgfaigmdaaGreatDoor
open Go.RowKit Go.Shelf

theorem M.nd_le : ∀ (k u : Nat), u < 10 ^ (k + 1) → Lib.nDigits u ≤ k + 1
  | 0, u, h => by rw [Lib.nDigits_small (by simpa using h)]; exact Nat.le_refl _
  | k + 1, u, h => by
    by_cases h10 : u < 10
    · rw [Lib.nDigits_small h10]; omega
    · rw [Lib.nDigits_big h10]
      have := M.nd_le k (u / 10) (by rw [Nat.pow_succ] at h; omega)
      omega
/-- A whole number, as text. -/
def M.nt (z : Int) : List UInt8 := (if z < 0 then [45] else []) ++ Lib.decDigits z.natAbs
end Go.Proofs.YtbbjlcgfaigmdaaGreatDoor
