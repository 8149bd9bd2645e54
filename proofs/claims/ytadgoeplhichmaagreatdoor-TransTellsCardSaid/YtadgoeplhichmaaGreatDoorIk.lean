/-
  Layer 14: what is asked of package trans.
-/
import Derived.Test.YtadgoeplhichmaaGreatDoorIa
import Derived.Test.YtadgoeplhichmaaGreatDoorTz
import Derived.Test.YtadgoeplhichmaaGreatDoorFoa
namespace Go.Proofs.YtadgoeplhichmaaGreatDoor
open Go.RowKit Go.Shelf
set_option linter.unusedVariables false
set_option linter.unusedSimpArgs false

/-- What a call of a pattern and an error comes to. -/
def Pqx (q : Nat) (x : Int) (w : World) (e : Ending) (w' : World) : Prop := e = .returned (.tuple #[u64 q, .int .i64 x]) ∧ Up w w'
/-- .. of a truth and an error. -/
def Pbx (b : Bool) (x : Int) (w : World) (e : Ending) (w' : World) : Prop := e = .returned (.tuple #[.bool b, .int .i64 x]) ∧ Up w w'
/-- What is asked of package trans. -/
structure Trn : Prop where
  turn : ∀ (w : World) (ii jj mode : Int) (p q : Nat) (x : Int), Tz w → TabF w → p < 18446744073709551616 → M.Tc ii jj mode p q x → Calls Tryz.prog 5 #[.int .i64 ii, .int .i64 jj, .int .i64 mode, u64 p] w (Pqx q x w)
  just : ∀ (w : World) (ii jj : Int) (p : Nat) (b : Bool) (x : Int), Tz w → TabF w → p < 18446744073709551616 → M.Jus ii jj p b x → Calls Tryz.prog 7 #[.int .i64 ii, .int .i64 jj, u64 p] w (Pbx b x w)
/-- True, and nothing that was there has turned. -/
def True14 (w : World) (e : Ending) (w' : World) : Prop := e = .returned (.bool true) ∧ Up w w'
theorem M.nx14 {x : Int} (h : x ≠ 0) : (x != 0) = true := by simpa using h
theorem M.nx14' {x y : Int} (h : x ≠ y) : (x != y) = true := by simpa using h
theorem Nt.sl4 {w : World} {lo s : Nat} {v : Value} {a : Nat} (h : Nt w lo s v a) : ∃ A n c, v = .slice A n c ∧ Nt w lo s (.slice A n c) a := by
  obtain ⟨A, n, c, xs, rfl, h⟩ := h
  exact ⟨A, n, c, rfl, A, n, c, xs, rfl, h⟩
end Go.Proofs.YtadgoeplhichmaaGreatDoor
