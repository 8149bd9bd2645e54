/-
  nat.takeTimes, nat.giveBack, nat.takeDigit: their contracts.
-/
import Derived.Test.YtkhnobogaiaogaaGreatDoorNb
import Derived.Test.YtkhnobogaiaogaaGreatDoorMath2
import Derived.Test.YtkhnobogaiaogaaGreatDoorNa
import Derived.Test.YtkhnobogaiaogaaGreatDoorNb
namespace Go.Proofs.YtkhnobogaiaogaaGreatDoor
open Go.RowKit Go.Shelf

/-- What guessDigit comes to. -/
def Guessed (t d : Nat) (w : World) (e : Ending) (w' : World) : Prop := ∃ q, e = .returned (u64 q) ∧ M.Gd t d q ∧ ∃ k, w' = w.drewN k

end Go.Proofs.YtkhnobogaiaogaaGreatDoor
namespace Go.Proofs.YtkhnobogaiaogaaGreatDoor
open Go.RowKit Go.Shelf

/-- What takeTimes comes to. -/
def TakeTimes (w0 : World) (base g N m : Nat) (zs ys : List Nat) (x i : Nat) (e : Ending) (w' : World) : Prop :=
  ∃ (t : Bool) (b : Nat) (zs' : List Nat), e = .returned (.bool t) ∧ (t = true ↔ b = 1) ∧ b ≤ 1 ∧ w0.grownBy w' (some g) ∧ Ow w' base (.slice (some ⟨g, 0, none⟩) N N) N zs' ∧ M.Wds zs' ∧ M.SubInv zs ys x i (m + 1) b zs'

/-- What giveBack comes to. -/
def GiveBack (w0 : World) (base g N m : Nat) (zs ys : List Nat) (i : Nat) (e : Ending) (w' : World) : Prop :=
  ∃ (b : Nat) (zs' : List Nat), e = .returned (.tuple #[]) ∧ b ≤ 1 ∧ w0.grownBy w' (some g) ∧ Ow w' base (.slice (some ⟨g, 0, none⟩) N N) N zs' ∧ M.Wds zs' ∧ M.AddInv zs ys 1 i (m + 1) b zs'

/-- What takeDigit comes to. -/
def TakeDigit (w0 : World) (base g N n : Nat) (zs ys : List Nat) (i : Nat) (e : Ending) (w' : World) : Prop :=
  ∃ (q : Nat) (zs' : List Nat), e = .returned (u64 q) ∧ q < 18446744073709551616 ∧ w0.grownBy w' (some g) ∧ Ow w' base (.slice (some ⟨g, 0, none⟩) N N) N zs' ∧ M.Wds zs' ∧ M.Dg zs ys i n q zs'

end Go.Proofs.YtkhnobogaiaogaaGreatDoor
