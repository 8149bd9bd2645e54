/-
  Package exact: part, Floor, Log10.
-/
import Derived.Test.YtjmnobgllnaljaaGreatDoorLong
import Derived.Test.YtjmnobgllnaljaaGreatDoorExa
namespace Go.Proofs.YtjmnobgllnaljaaGreatDoor
open Go.RowKit Go.Shelf

theorem nDigits_le' : ∀ (k u : Nat), u < 10 ^ (k + 1) → Lib.nDigits u ≤ k + 1
  | 0, u, h => by rw [Lib.nDigits_small (by simpa using h)]; exact Nat.le_refl _
  | k + 1, u, h => by
    by_cases h10 : u < 10
    · rw [Lib.nDigits_small h10]; omega
    · rw [Lib.nDigits_big h10]
      have := nDigits_le' k (u / 10) (by rw [Nat.pow_succ] at h; omega)
      omega
/-- What Floor tells of what is left. -/
def M.part (l w : Nat) : Int := if l = 0 then 0 else 2 + M.cmp (l * 2) w
theorem M.part_rng (l w : Nat) : 0 ≤ M.part l w ∧ M.part l w ≤ 3 := by
  unfold M.part
  have := M.cmp_rng (l * 2) w
  split <;> omega
/-- What Floor comes to. -/
def Flo (S q : Nat) (z : Int) (w : World) (e : Ending) (w' : World) : Prop := ∃ v, e = .returned (.tuple #[v, .int .i64 z]) ∧ Nt w' w.heap.size S v q ∧ Up w w'
theorem M.digits_len {a s F T : Nat} (h : a < 18446744073709551616 ^ s) (hs : s ≤ 1000000) (hF : F ≤ 10000) (hT : T ≤ 131072) : (Lib.decDigits (a * 5 ^ F * 2 ^ T)).length ≤ 100000000 := by
  have h1 : a * 5 ^ F * 2 ^ T < 10 ^ (20 * s + F + T + 1) := by
    have e1 : (18446744073709551616 : Nat) ^ s ≤ 10 ^ (20 * s) := by rw [Nat.pow_mul]; exact Nat.pow_le_pow_left (by omega) s
    have e2 : (5 : Nat) ^ F ≤ 10 ^ F := Nat.pow_le_pow_left (by omega) F
    have e3 : (2 : Nat) ^ T ≤ 10 ^ T := Nat.pow_le_pow_left (by omega) T
    have e4 : a * 5 ^ F * 2 ^ T ≤ 10 ^ (20 * s) * 10 ^ F * 10 ^ T := Nat.mul_le_mul (Nat.mul_le_mul (by omega) e2) e3
    rw [← Nat.pow_add, ← Nat.pow_add] at e4
    exact Nat.lt_of_le_of_lt e4 (Nat.pow_lt_pow_right (by omega) (by omega))
  rw [Lib.decDigits_length]
  have := nDigits_le' (20 * s + F + T) _ h1
  omega
/-- The power that Log10 tells. -/
def M.log10 (a F T : Nat) (m : Int) : Int := if a = 0 then 0 else m + (Lib.decDigits (a * 5 ^ F * 2 ^ T)).length - 1
end Go.Proofs.YtjmnobgllnaljaaGreatDoor
