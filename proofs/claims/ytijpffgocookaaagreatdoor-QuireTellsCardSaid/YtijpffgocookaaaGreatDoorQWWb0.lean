import Derived.Test.YtijpffgocookaaaGreatDoorQWWa
import Derived.Test.YtijpffgocookaaaGreatDoorQWFoa
import Derived.Test.YtijpffgocookaaaGreatDoorQWPm
set_option maxHeartbeats 32000000
set_option linter.unusedVariables false
set_option linter.unusedSimpArgs false
namespace Go.Proofs.YtijpffgocookaaaGreatDoor
open Go
namespace M
def ng (N b : Nat) : Nat := (N - b) % N
def ad (N b d : Nat) : Nat := (b + d) % N
theorem ng_lt {N b : Nat} (h : 0 < N) : ng N b < N := Nat.mod_lt _ h
theorem ng_zero {N : Nat} : ng N 0 = 0 := by unfold ng; rw [Nat.sub_zero, Nat.mod_self]
theorem ng_pos {N b : Nat} (h : 0 < b) (hb : b ≤ N) : ng N b = N - b := Nat.mod_eq_of_lt (by omega)
theorem ng_ng {N b : Nat} (h : b < N) : ng N (ng N b) = b := by
 rcases Nat.eq_zero_or_pos b with rfl | h0
 ·rw [ng_zero, ng_zero]
 ·rw [ng_pos h0 (by omega), ng_pos (by omega) (by omega)]; omega
theorem ad_zero {N b : Nat} (h : b < N) : ad N b 0 = b := Nat.mod_eq_of_lt h
def qS (i : Nat) : Nat := 16 * (tb i).W.toNat
def qn (i : Nat) : Nat := 2 ^ (qS i - 1)
def qz (i : Nat) : Int := 16 - 8 * (tb i).W
theorem q_facts {i : Nat} (i1 : 1 ≤ i) (i2 : i ≤ 4) : (tb i).k = 1 ∧ 8 ≤ (tb i).W ∧ (tb i).W ≤ 64 ∧ 128 ≤ qS i ∧ qS i ≤ 1024 ∧ (qS i : Int) = 16 * (tb i).W ∧ qS i % 64 = 0 := by
 rcases (show i = 1 ∨ i = 2 ∨ i = 3 ∨ i = 4 by omega) with rfl | rfl | rfl | rfl <;> decide
theorem qn_two {i : Nat} (i1 : 1 ≤ i) (i2 : i ≤ 4) : qn i + qn i = 2 ^ qS i := by
 have := (q_facts i1 i2).2.2.2.1
 unfold qn
 conv => rhs; rw [show qS i = (qS i - 1) + 1 by omega, Nat.pow_succ]
 omega
theorem qn_lt {i : Nat} (i1 : 1 ≤ i) (i2 : i ≤ 4) : qn i < 2 ^ qS i := by
 have := qn_two i1 i2
 have : 0 < qn i := Nat.two_pow_pos _
 omega
theorem qn_ng {i : Nat} (i1 : 1 ≤ i) (i2 : i ≤ 4) : ng (2 ^ qS i) (qn i) = qn i := by
 have h := qn_two i1 i2
 have : 0 < qn i := Nat.two_pow_pos _
 rw [ng_pos (by omega) (by omega)]; omega
def qm (i b : Nat) : Nat := if b < qn i then b else 2 ^ qS i - b
def Qv (i b : Nat) (s : Bool) (N : Nat) (t f : Int) : Prop :=
 (b = 0 ∧ s = false ∧ N = 0 ∧ t = 0 ∧ f = 0) ∨
 (b ≠ 0 ∧ s = decide (qn i ≤ b) ∧ N % 2 = 1 ∧ N % 5 ≠ 0 ∧ ∃ lo k : Nat, qm i b = N * 5 ^ k * 2 ^ lo ∧ t = lo + qz i ∧ f = k)
theorem five_ex : ∀ (n : Nat) (a : Nat), a ≤ n → 0 < a → ∃ N k, N % 5 ≠ 0 ∧ a = N * 5 ^ k
 | 0, a, h, h0 => by omega
 | n + 1, a, h, h0 => by
  by_cases h5 : a % 5 = 0
  ·obtain ⟨N, k, h1, h2⟩ := five_ex n (a / 5) (by omega) (by omega)
   exact ⟨N, k + 1, h1, by rw [Nat.pow_succ, ← Nat.mul_assoc, ← h2]; omega⟩
  ·exact ⟨a, 0, h5, by simp⟩
theorem qm_pos {i b : Nat} (hb : b < 2 ^ qS i) (h0 : b ≠ 0) : 0 < qm i b := by
 unfold qm
 split <;> omega
theorem qv_ex {i b : Nat} (hb : b < 2 ^ qS i) : ∃ s N t f, Qv i b s N t f := by
 by_cases h0 : b = 0
 ·exact ⟨_, _, _, _, .inl ⟨h0, rfl, rfl, rfl, rfl⟩⟩
 ·obtain ⟨m, t, h2, h1⟩ := odd_ex (qm i b) (qm_pos hb h0)
  obtain ⟨N, k, h3, h4⟩ := five_ex m m (Nat.le_refl _) (by omega)
  have hN : N % 2 = 1 := by
   have : m % 2 = (N * 5 ^ k) % 2 := by rw [h4]
   rw [Nat.mul_mod] at this
   rcases Nat.mod_two_eq_zero_or_one N with e | e
   ·rw [e, Nat.zero_mul] at this; omega
   ·exact e
  exact ⟨_, N, _, _, .inr ⟨h0, rfl, hN, h3, t, k, by rw [h2, h4], rfl, rfl⟩⟩
end M
end Go.Proofs.YtijpffgocookaaaGreatDoor
