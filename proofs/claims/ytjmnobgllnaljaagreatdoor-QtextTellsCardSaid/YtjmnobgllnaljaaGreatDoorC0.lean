/-
  A size over a base, in numbers: what of it whole texts ask. No program is named here.
-/
import Derived.Test.YtjmnobgllnaljaaGreatDoorExa
namespace Go.Proofs.YtjmnobgllnaljaaGreatDoor
open Go
set_option linter.unusedVariables false

namespace M
/-- a times 2^t times 5^f, over the base -5000. -/
def ys (a : Nat) (t f : Int) : Nat := ov a t f (-5000)
theorem ys_zero {a : Nat} {t f : Int} : ys a t f = 0 ↔ a = 0 := ov_zero
theorem ys_times (a b : Nat) (k j : Int) : ys (a * b) k j = a * ys b k j := by
  unfold ys ov
  rw [Nat.mul_assoc, Nat.mul_assoc, Nat.mul_assoc]
theorem ys_one (a : Nat) (k j : Int) : ys a k j = a * ys 1 k j := by
  rw [← ys_times, Nat.mul_one]
theorem ys_pos (k j : Int) : 0 < ys 1 k j := Nat.pos_of_ne_zero (fun e => by have := ys_zero.1 e; omega)
theorem ys_pow (j : Nat) (k : Int) (hk : -5000 ≤ k) : ys 1 (k + j) (k + j) = 10 ^ j * ys 1 k k := by
  have e : ys (1 * 10 ^ j) k k = ys 1 (k + j) (k + j) := by
    unfold ys ov
    rw [show (k + j - -5000).toNat = (k - -5000).toNat + j by omega, Nat.pow_add, Nat.pow_add, show (10 : Nat) = 5 * 2 from rfl, Nat.mul_pow]
    ac_rfl
  rw [← e, Nat.one_mul, ← ys_one]
theorem ys_two (m n : Nat) (k : Int) (hk : -5000 ≤ k) : ys (m * 2 ^ n) k 0 = ys m (k + n) 0 := by
  unfold ys ov
  rw [show (k + n - -5000).toNat = (k - -5000).toNat + n by omega, Nat.pow_add]
  generalize (5 : Nat) ^ ((0 : Int) - -5000).toNat = c
  ac_rfl
theorem ys_five (m n : Nat) (hn : n ≤ 5000) : ys (m * 5 ^ n) (-(n : Int)) (-(n : Int)) = ys m (-(n : Int)) 0 := by
  unfold ys ov
  rw [show ((0 : Int) - -5000).toNat = n + (-(n : Int) - -5000).toNat by omega, Nat.pow_add]
  ac_rfl
theorem ys_uniq {D D' : Nat} {K K' : Int} (lo : -5000 ≤ K) (lo' : -5000 ≤ K') (h : D % 10 ≠ 0) (h' : D' % 10 ≠ 0) (e : ys D K K = ys D' K' K') : D = D' ∧ K = K' := by
  have key : ∀ {D D' : Nat} {K K' : Int}, -5000 ≤ K → K ≤ K' → D % 10 ≠ 0 → ys D K K = ys D' K' K' → D = D' ∧ K = K' := by
    intro D D' K K' lo hle h e
    obtain ⟨j, rfl⟩ : ∃ j : Nat, K' = K + j := ⟨(K' - K).toNat, by omega⟩
    rw [ys_one D, ys_one D', ys_pow j K lo, ← Nat.mul_assoc] at e
    have e2 := Nat.eq_of_mul_eq_mul_right (ys_pos K K) e
    rcases Nat.eq_zero_or_pos j with j0 | j0
    · subst j0
      exact ⟨by simpa using e2, by omega⟩
    · exfalso
      obtain ⟨i, rfl⟩ : ∃ i, j = i + 1 := ⟨j - 1, by omega⟩
      rw [Nat.pow_succ, ← Nat.mul_assoc] at e2
      omega
  rcases Int.le_total K K' with c | c
  · exact key lo c h e
  · obtain ⟨a, b⟩ := key lo' c h' e.symm
    exact ⟨a.symm, b.symm⟩
theorem ys_strip : ∀ (n y : Nat), y ≤ n → 0 < y → ∃ D j : Nat, D % 10 ≠ 0 ∧ D * 10 ^ j = y := by
  intro n
  induction n with
  | zero => intro y h h0; omega
  | succ n ih =>
    intro y h h0
    by_cases e : y % 10 = 0
    · obtain ⟨D, j, h1, h2⟩ := ih (y / 10) (by omega) (by omega)
      refine ⟨D, j + 1, h1, ?_⟩
      rw [Nat.pow_succ, ← Nat.mul_assoc, h2]
      omega
    · exact ⟨y, 0, e, by simp⟩
end M
end Go.Proofs.YtjmnobgllnaljaaGreatDoor
