/-
  The reference's Plus, Words: their contracts.
-/
import Derived.Test.YtkhnobogaiaogaaGreatDoorRfa
namespace Go.Proofs.YtkhnobogaiaogaaGreatDoor
open Go.RowKit Go.Shelf

/-- Trim of a row of words: a normal number. -/
theorem trim_ws (w : World) (lo s : Nat) (A : Option Addr) (n c : Nat) (xs : List Nat) (h : Wd w lo A n c xs) (a : Nat) (ha : Hid (M.val xs = a)) (hs : n ≤ s) :
    Calls Tryz.prog 41 #[.slice A n c] w (fun e w' => ∃ v, e = .returned v ∧ w = w' ∧ Nt w lo s v a) :=
  (rtrim_any w lo A n c xs h).mono fun _ _ ⟨m, he, hw, hm, hnm, hmn, hzz⟩ => ⟨_, he, hw, A, m, c, _, rfl, hm, by
    rw [← ha.out]
    rcases Nat.lt_or_ge m xs.length with h1 | h1
    · exact M.val_take_noughts (by omega) (fun j h2 _ => hzz j h2)
    · rw [List.take_of_length_le h1], by omega, hnm⟩

end Go.Proofs.YtkhnobogaiaogaaGreatDoor
