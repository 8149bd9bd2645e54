/-
  The calls of package nat, as the laws' walks use them.
-/
import Derived.Test.YtkhnobogaiaogaaGreatDoorFirst
import Derived.Test.YtkhnobogaiaogaaGreatDoorNa
import Derived.Test.YtkhnobogaiaogaaGreatDoorLong
import Derived.Test.YtkhnobogaiaogaaGreatDoorNb
namespace Go.Proofs.YtkhnobogaiaogaaGreatDoor
open Go.RowKit Go.Shelf



namespace M
theorem bit_on {a k : Nat} (h : a.testBit k = true) : a % 2 ^ (k + 1) = a % 2 ^ k + 1 * 2 ^ k := by
  rw [Nat.testBit_eq_decide_div_mod_eq, decide_eq_true_iff] at h
  rw [Nat.pow_succ, Nat.mod_mul, h, Nat.mul_one, Nat.one_mul]
theorem bit_off {a k : Nat} (h : a.testBit k = false) : a % 2 ^ (k + 1) = a % 2 ^ k := by
  rw [Nat.testBit_eq_decide_div_mod_eq, decide_eq_false_iff_not] at h
  rw [Nat.pow_succ, Nat.mod_mul, show a / 2 ^ k % 2 = 0 from by omega, Nat.mul_zero, Nat.add_zero]
theorem bit_below {a k : Nat} (h : a.testBit k = true) : k < bits a := by
  rcases Nat.lt_or_ge k (bits a) with h1 | h1
  · exact h1
  · exfalso
    have h2 : a < 2 ^ k := Nat.lt_of_lt_of_le (bits_lt a) (Nat.pow_le_pow_right (by omega) h1)
    rw [Nat.testBit_lt_two_pow h2] at h
    cases h
theorem bit_top1 {a y : Nat} (h : bits a = y + 1) : a.testBit y = true := by
  have h0 : a ≠ 0 := by intro e; rw [e, bits_zero] at h; omega
  have h1 := bits_le h0
  have h2 := bits_lt a
  rw [h] at h1 h2
  rw [Nat.testBit_eq_decide_div_mod_eq, decide_eq_true_iff]
  have h3 : a / 2 ^ y = 1 := by
    apply Nat.div_eq_of_lt_le
    · simpa using h1
    · rw [Nat.pow_succ] at h2; omega
  rw [h3]
theorem bits_all {a y : Nat} (h : bits a = y) : a % 2 ^ (y + 5) = a := by
  apply Nat.mod_eq_of_lt
  have h1 := bits_lt a
  rw [h] at h1
  exact Nat.lt_of_lt_of_le h1 (Nat.pow_le_pow_right (by omega) (by omega))
theorem bits_words {a : Nat} (k : Nat) (h : a < 18446744073709551616 ^ k) : bits a ≤ 64 * k := by
  apply bits_le_of_lt
  rw [Nat.pow_mul]
  exact h
end M
end Go.Proofs.YtkhnobogaiaogaaGreatDoor
