/-
  Shr: its contract.
-/
import Derived.Test.YtkhnobogaiaogaaGreatDoorNb
import Derived.Test.YtkhnobogaiaogaaGreatDoorNa
import Derived.Deep.RegionHeld3
import Derived.Deep.DrawnRows
namespace Go.Proofs.YtkhnobogaiaogaaGreatDoor
open Go.RowKit Go.Shelf

namespace M
/-- The words moved down by fewer than 64 bits. -/
def shr (s : Nat) : List Nat → List Nat
  | [] => []
  | x :: r => (x / 2 ^ s + r.getD 0 0 * 2 ^ (64 - s) % 18446744073709551616) :: shr s r
theorem shr_length (s : Nat) : ∀ xs, (shr s xs).length = xs.length
  | [] => rfl
  | x :: r => by rw [shr, List.length_cons, List.length_cons, shr_length s r]
theorem shr_getD (s : Nat) : ∀ (xs : List Nat) (j : Nat), j < xs.length → (shr s xs).getD j 0 = xs.getD j 0 / 2 ^ s + xs.getD (j + 1) 0 * 2 ^ (64 - s) % 18446744073709551616
  | [], j, h => by simp at h
  | x :: r, 0, _ => rfl
  | x :: r, j + 1, h => by
    rw [shr, List.getD_cons_succ, shr_getD s r j (by simpa using h), List.getD_cons_succ, List.getD_cons_succ]
theorem val_mod (s : Nat) (hs : s < 64) (r : List Nat) : val r % 2 ^ s = r.getD 0 0 % 2 ^ s := by
  cases r with
  | nil => rfl
  | cons x r =>
    have hB : (18446744073709551616 : Nat) = 2 ^ s * 2 ^ (64 - s) := by rw [← Nat.pow_add, show s + (64 - s) = 64 from by omega]
    rw [val, List.getD_cons_zero, hB, Nat.mul_assoc, Nat.add_mul_mod_self_left]
theorem val_shr (s : Nat) (hs : s < 64) : ∀ xs, val (shr s xs) = val xs / 2 ^ s
  | [] => by simp [shr, val]
  | x :: r => by
    have hB : (18446744073709551616 : Nat) = 2 ^ s * 2 ^ (64 - s) := by rw [← Nat.pow_add, show s + (64 - s) = 64 from by omega]
    have hp : 0 < 2 ^ s := Nat.pow_pos (by omega)
    have e1 : r.getD 0 0 * 2 ^ (64 - s) % 18446744073709551616 = (val r % 2 ^ s) * 2 ^ (64 - s) := by
      rw [hB, Nat.mul_mod_mul_right, val_mod s hs r]
    have e2 : (x + 18446744073709551616 * val r) / 2 ^ s = x / 2 ^ s + 2 ^ (64 - s) * val r := by
      rw [hB, Nat.mul_assoc, Nat.add_mul_div_left _ _ hp]
    have e3 : 2 ^ (64 - s) * val r = (val r % 2 ^ s) * 2 ^ (64 - s) + 18446744073709551616 * (val r / 2 ^ s) := by
      have h := Nat.mod_add_div (val r) (2 ^ s)
      calc 2 ^ (64 - s) * val r = 2 ^ (64 - s) * (val r % 2 ^ s + 2 ^ s * (val r / 2 ^ s)) := by rw [h]
        _ = _ := by rw [Nat.mul_add, hB, Nat.mul_comm (2 ^ (64 - s)) (val r % 2 ^ s), ← Nat.mul_assoc, Nat.mul_comm (2 ^ (64 - s)) (2 ^ s)]
    rw [shr, val, val, val_shr s hs r, e1, e2, e3]
    omega
theorem val_div {xs : List Nat} (h : Wds xs) (S : Nat) (hS : S ≤ xs.length) : val (xs.drop S) = val xs / 18446744073709551616 ^ S := by
  have h1 := val_split xs S hS
  have h2 := val_lt (h.take S)
  rw [List.length_take, Nat.min_eq_left hS] at h2
  rw [h1, Nat.add_mul_div_left _ _ (Nat.pow_pos (by omega)), Nat.div_eq_of_lt h2, Nat.zero_add]
theorem val_shr_drop {xs : List Nat} (h : Wds xs) {S s N : Nat} (hs : s < 64) (hN : N = 64 * S + s) (hS : S ≤ xs.length) : val (shr s (xs.drop S)) = val xs / 2 ^ N := by
  rw [val_shr s hs, val_div h S hS, Nat.div_div_eq_div_mul, hN, Nat.pow_add, Nat.pow_mul]
end M
end Go.Proofs.YtkhnobogaiaogaaGreatDoor
namespace Go.Proofs.YtkhnobogaiaogaaGreatDoor
open Go.RowKit Go.Shelf

theorem or_down (x y s : Nat) (hx : x < 18446744073709551616) (hs : s < 64) :
    bits .or .u64 ((x / 2 ^ s : Nat) : Int) (IntKind.u64.wrap ((y : Int) * 2 ^ (64 - s))) = ((x / 2 ^ s + y * 2 ^ (64 - s) % 18446744073709551616 : Nat) : Int) ∧ x / 2 ^ s + y * 2 ^ (64 - s) % 18446744073709551616 < 18446744073709551616 := by
  have hB : (18446744073709551616 : Nat) = 2 ^ s * 2 ^ (64 - s) := by rw [← Nat.pow_add, show s + (64 - s) = 64 from by omega]
  have hp : 0 < 2 ^ s := Nat.pow_pos (by omega)
  have hq : 0 < 2 ^ (64 - s) := Nat.pow_pos (by omega)
  have h1 : x / 2 ^ s < 2 ^ (64 - s) := Nat.div_lt_of_lt_mul (by rw [← hB]; exact hx)
  have e1 : (y : Int) * 2 ^ (64 - s) = ((y * 2 ^ (64 - s) : Nat) : Int) := by simp
  have e2 : IntKind.u64.wrap ((y * 2 ^ (64 - s) : Nat) : Int) = ((y * 2 ^ (64 - s) % 18446744073709551616 : Nat) : Int) := by
    rw [IntKind.wrap_u64]; omega
  have h2 : y * 2 ^ (64 - s) % 18446744073709551616 % 2 ^ (64 - s) = 0 := by
    rw [hB, Nat.mul_mod_mul_right]
    exact Nat.mul_mod_left _ _
  have h3 : y * 2 ^ (64 - s) % 18446744073709551616 + 2 ^ (64 - s) ≤ 18446744073709551616 := by
    rw [hB, Nat.mul_mod_mul_right]
    have h4 : y % 2 ^ s < 2 ^ s := Nat.mod_lt _ hp
    calc y % 2 ^ s * 2 ^ (64 - s) + 2 ^ (64 - s) = (y % 2 ^ s + 1) * 2 ^ (64 - s) := by rw [Nat.add_mul, Nat.one_mul]
      _ ≤ _ := Nat.mul_le_mul_right _ h4
  have h5 : (2 : Nat) ^ (64 - s) ≤ 2 ^ 64 := Nat.pow_le_pow_right (by omega) (by omega)
  refine ⟨?_, by omega⟩
  rw [e1, e2, bits_or_u64_nat _ _ (by omega) (by omega), Nat.or_comm, nat_join (64 - s) _ _ h2 h1, Nat.add_comm]

end Go.Proofs.YtkhnobogaiaogaaGreatDoor
