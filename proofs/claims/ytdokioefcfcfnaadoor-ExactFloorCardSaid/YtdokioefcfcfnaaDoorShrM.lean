/-
  Shr: its reckoning.
-/
import Derived.Test.YtdokioefcfcfnaaDoorShift
namespace Go.Proofs.YtdokioefcfcfnaaDoor
open Go.RowKit Go.Shelf

namespace M
/-- The words moved down by fewer than 64 bits. -/
def shr (s : Nat) : List Nat → List Nat
  | [] => []
  | x :: r => (x / 2 ^ s + r.getD 0 0 * 2 ^ (64 - s) % 18446744073709551616) :: shr s r
theorem shr_length (s : Nat) : ∀ xs, (shr s xs).length = xs.length
  | [] => rfl
  | x :: r => by rw [shr, List.length_cons, List.length_cons, shr_length s r]
theorem shr_getD (s : Nat) : ∀ (xs : List Nat) (j : Nat), j < xs.length → (shr s xs).getD j 0 = xs.getD j 0 / 2 ^ s + xs.getD (j + 1) 0 * 2 ^ (64 - s) % 18446744073709551616
  | [], j, h => by simp at h
  | x :: r, 0, _ => rfl
  | x :: r, j + 1, h => by
    rw [shr, List.getD_cons_succ, shr_getD s r j (by simpa using h), List.getD_cons_succ, List.getD_cons_succ]
theorem val_mod (s : Nat) (hs : s < 64) (r : List Nat) : val r % 2 ^ s = r.getD 0 0 % 2 ^ s := by
  cases r with
  | nil => rfl
  | cons x r =>
    have hB : (18446744073709551616 : Nat) = 2 ^ s * 2 ^ (64 - s) := by rw [← Nat.pow_add, show s + (64 - s) = 64 from by omega]
    rw [val, List.getD_cons_zero, hB, Nat.mul_assoc, Nat.add_mul_mod_self_left]
theorem val_shr (s : Nat) (hs : s < 64) : ∀ xs, val (shr s xs) = val xs / 2 ^ s
  | [] => by simp [shr, val]
  | x :: r => by
    have hB : (18446744073709551616 : Nat) = 2 ^ s * 2 ^ (64 - s) := by rw [← Nat.pow_add, show s + (64 - s) = 64 from by omega]
    have hp : 0 < 2 ^ s := Nat.pow_pos (by omega)
    have e1 : r.getD 0 0 * 2 ^ (64 - s) % 18446744073709551616 = (val r % 2 ^ s) * 2 ^ (64 - s) := by
      rw [hB, Nat.mul_mod_mul_right, val_mod s hs r]
    have e2 : (x + 18446744073709551616 * val r) / 2 ^ s = x / 2 ^ s + 2 ^ (64 - s) * val r := by
      rw [hB, Nat.mul_assoc, Nat.add_mul_div_left _ _ hp]
    have e3 : 2 ^ (64 - s) * val r = (val r % 2 ^ s) * 2 ^ (64 - s) + 18446744073709551616 * (val r / 2 ^ s) := by
      have h := Nat.mod_add_div (val r) (2 ^ s)
      calc 2 ^ (64 - s) * val r = 2 ^ (64 - s) * (val r % 2 ^ s + 2 ^ s * (val r / 2 ^ s)) := by rw [h]
        _ = _ := by rw [Nat.mul_add, hB, Nat.mul_comm (2 ^ (64 - s)) (val r % 2 ^ s), ← Nat.mul_assoc, Nat.mul_comm (2 ^ (64 - s)) (2 ^ s)]
    rw [shr, val, val, val_shr s hs r, e1, e2, e3]
    omega
theorem val_div {xs : List Nat} (h : Wds xs) (S : Nat) (hS : S ≤ xs.length) : val (xs.drop S) = val xs / 18446744073709551616 ^ S := by
  have h1 := val_split xs S hS
  have h2 := val_lt (h.take S)
  rw [List.length_take, Nat.min_eq_left hS] at h2
  rw [h1, Nat.add_mul_div_left _ _ (Nat.pow_pos (by omega)), Nat.div_eq_of_lt h2, Nat.zero_add]
theorem val_shr_drop {xs : List Nat} (h : Wds xs) {S s N : Nat} (hs : s < 64) (hN : N = 64 * S + s) (hS : S ≤ xs.length) : val (shr s (xs.drop S)) = val xs / 2 ^ N := by
  rw [val_shr s hs, val_div h S hS, Nat.div_div_eq_div_mul, hN, Nat.pow_add, Nat.pow_mul]
end M
end Go.Proofs.YtdokioefcfcfnaaDoor
