/-
  What is loaded, in numbers. No program is named here.
-/
import Derived.Test.YtijpffgocookaaaGreatDoorYc
namespace Go.Proofs.YtijpffgocookaaaGreatDoor
open Go
set_option linter.unusedVariables false
set_option linter.unusedSimpArgs false

namespace M
theorem cop52 (k x : Nat) : Nat.Coprime (5 ^ k) (2 ^ x) := Nat.Coprime.pow k x (by decide)
/-- All fives are in: a number of twos alone. -/
theorem sz_up (a k : Nat) (t : Int) : sz (a * 5 ^ k) t 0 = sz a t k := by
  unfold sz ov bse
  rw [show ((k : Int) - -5000).toNat = k + 5000 by omega, show ((0 : Int) - -5000).toNat = 5000 by omega, Nat.pow_add]
  generalize (5 : Nat) ^ 5000 = F
  generalize (5 : Nat) ^ k = G
  generalize (2 : Nat) ^ (t - -5000).toNat = Z
  simp only [Nat.mul_assoc, Nat.mul_left_comm, Nat.mul_comm]
theorem sz_down (n k : Nat) (hk : k ≤ 5000) (t : Int) : sz (n * 5 ^ k) t (-(k : Int)) = sz n t 0 := by
  unfold sz ov bse
  rw [show (-(k : Int) - -5000).toNat = 5000 - k by omega, show ((0 : Int) - -5000).toNat = 5000 by omega]
  have e : (5 : Nat) ^ 5000 = 5 ^ k * 5 ^ (5000 - k) := by rw [← Nat.pow_add, show k + (5000 - k) = 5000 by omega]
  rw [e]
  generalize (5 : Nat) ^ (5000 - k) = F
  generalize (5 : Nat) ^ k = G
  generalize (2 : Nat) ^ (t - -5000).toNat = Z
  simp only [Nat.mul_assoc, Nat.mul_left_comm, Nat.mul_comm]
/-- A five too few. -/
theorem ql_five {i a j k n : Nat} {t : Int} (hk : k ≤ 5000) (hj : j < k) (ha : a = n * 5 ^ j) (hn : n % 5 ≠ 0) (s : Bool) : Ql i s a t (-(k : Int)) none := by
  refine .inl ⟨rfl, fun A h => ?_⟩
  exfalso
  have h2 : sz A (qz i) 0 = sz (A * 5 ^ k) (qz i) (-(k : Int)) := (sz_down A k hk _).symm
  rw [h2] at h
  unfold sz ov bse at h
  have hF : 0 < (5 : Nat) ^ (-(k : Int) - -5000).toNat := Nat.pow_pos (by decide)
  rw [Nat.mul_right_comm, Nat.mul_right_comm (A * 5 ^ k)] at h
  have h3 := Nat.eq_of_mul_eq_mul_right hF h
  have d : 5 ^ k ∣ a * 2 ^ (t - -5000).toNat := by exact ⟨A * 2 ^ (qz i - -5000).toNat, by rw [h3, Nat.mul_comm A, Nat.mul_assoc]⟩
  have d2 := (cop52 k _).dvd_of_dvd_mul_right d
  have d3 : 5 ^ (j + 1) ∣ a := Nat.dvd_trans (Nat.pow_dvd_pow 5 (by omega)) d2
  rw [ha, Nat.pow_succ, Nat.mul_comm n] at d3
  have d4 := Nat.dvd_of_mul_dvd_mul_left (Nat.pow_pos (by decide)) d3
  omega
/-- What is left is a number of twos. -/
theorem ql_end {i a n : Nat} {t f : Int} (h : sz a t f = sz n t 0) {A : Nat} (hA : sz n t 0 = sz A (qz i) 0) (s : Bool) (o : Option Nat) (ho : (A < qn i ∧ o = some (if s = true then ng (2 ^ qS i) A else A)) ∨ (¬ A < qn i ∧ o = none)) : Ql i s a t f o := by
  rcases ho with ⟨h1, rfl⟩ | ⟨h1, rfl⟩
  · exact .inr ⟨A, h.trans hA, h1, rfl⟩
  · refine .inl ⟨rfl, fun B hB => ?_⟩
    obtain rfl := sz_inj ((h.trans hA).symm.trans hB)
    exact h1
theorem sz_twos {n k : Nat} {t Z : Int} (hZ : -5000 ≤ Z) (h : t = Z + k) : sz (n * 2 ^ k) Z 0 = sz n t 0 := by
  rw [sz_two_ _ _ _ hZ, h]
theorem sz_halves {n k : Nat} {t Z : Int} (hZ : -5000 ≤ t) (h : Z = t + k) : sz (n * 2 ^ k) t 0 = sz n Z 0 := by
  rw [sz_two_ _ _ _ hZ, h]
/-- A two too few. -/
theorem ql_two {i a n k : Nat} {t f : Int} (h : sz a t f = sz n t 0) (hz : qz i = t + k) (ht : -5000 ≤ t) {j : Nat} (hj : j < k) (hb : n.testBit j = true) (s : Bool) : Ql i s a t f none := by
  refine .inl ⟨rfl, fun A hA => ?_⟩
  exfalso
  have e : sz n t 0 = sz (A * 2 ^ k) t 0 := by rw [sz_halves ht hz, ← hA, h]
  have e2 := sz_inj e
  rw [e2] at hb
  have : (A * 2 ^ k).testBit j = false := by
    rw [Nat.mul_comm, Nat.testBit_two_pow_mul]
    simp; omega
  rw [this] at hb
  cases hb
/-- A truth above all. -/
theorem too_high {S A j : Nat} (hj : S ≤ j) (hb : A.testBit j = true) : ¬ A < 2 ^ S := fun h => by
  have := Nat.testBit_lt_two_pow (Nat.lt_of_lt_of_le h (Nat.pow_le_pow_right (by decide) hj))
  rw [this] at hb
  cases hb
theorem five_60 {a k : Nat} (ha : a < 18446744073709551616 ^ 20) (hk : k ≤ 60) : a * 5 ^ k < 18446744073709551616 ^ 24 := by
  have h1 : (5 : Nat) ^ k ≤ 5 ^ 60 := Nat.pow_le_pow_right (by decide) hk
  have h2 : (5 : Nat) ^ 60 < 18446744073709551616 ^ 4 := by decide +kernel
  have h3 : (18446744073709551616 : Nat) ^ 24 = 18446744073709551616 ^ 20 * 18446744073709551616 ^ 4 := by rw [← Nat.pow_add]
  rw [h3]
  exact Nat.mul_lt_mul'' ha (by omega)
end M
end Go.Proofs.YtijpffgocookaaaGreatDoor
