/-
  Powers of ten, their logarithms and significands: the numbers.
-/
import Derived.Test.YteeepfhjbemgoaaDoorMath2
import Derived.WalkKit
import Derived.Lib.Hide
namespace Go.Proofs.YteeepfhjbemgoaaDoor
open Go.RowKit

namespace M
/-- The logarithms as the program reckons them. -/
def lg2 (k : Int) : Int := k * 14267572527 / 4294967296
def lg10 (e : Int) : Int := e * 1292913986 / 4294967296

def up2 (n : Nat) : Nat := n * 14267572527 / 4294967296
def up10 (n : Nat) : Nat := n * 1292913986 / 4294967296
def chk2 (n : Nat) : Bool := Nat.ble (2 ^ up2 n + 1) (10 ^ n) && Nat.ble (10 ^ n + 1) (2 ^ (up2 n + 1))
def chk10 (n : Nat) : Bool := Nat.ble (10 ^ up10 n + 1) (2 ^ n) && Nat.ble (2 ^ n + 1) (10 ^ (up10 n + 1))
def all2 : Nat → Bool
  | 0 => true
  | n + 1 => chk2 (n + 1) && all2 n
def all10 : Nat → Bool
  | 0 => true
  | n + 1 => chk10 (n + 1) && all10 n
theorem all2_at : ∀ (N : Nat), all2 N = true → ∀ n, 1 ≤ n → n ≤ N → chk2 n = true
  | 0, _, n, h1, h2 => by omega
  | N + 1, h, n, h1, h2 => by
    rw [all2, Bool.and_eq_true] at h
    rcases Nat.lt_or_ge N n with h3 | h3
    · rw [show n = N + 1 by omega]; exact h.1
    · exact all2_at N h.2 n h1 h3
theorem all10_at : ∀ (N : Nat), all10 N = true → ∀ n, 1 ≤ n → n ≤ N → chk10 n = true
  | 0, _, n, h1, h2 => by omega
  | N + 1, h, n, h1, h2 => by
    rw [all10, Bool.and_eq_true] at h
    rcases Nat.lt_or_ge N n with h3 | h3
    · rw [show n = N + 1 by omega]; exact h.1
    · exact all10_at N h.2 n h1 h3
theorem all2_ok : all2 1520 = true := by decide +kernel
theorem all10_ok : all10 1520 = true := by decide +kernel
/-- The power of two that is next below a power of ten. -/
theorem two_ten {n : Nat} (h1 : 1 ≤ n) (h2 : n ≤ 1520) : 2 ^ up2 n < 10 ^ n ∧ 10 ^ n < 2 ^ (up2 n + 1) := by
  have h := all2_at _ all2_ok n h1 h2
  rw [chk2, Bool.and_eq_true] at h
  exact ⟨Nat.le_of_ble_eq_true h.1, Nat.le_of_ble_eq_true h.2⟩
theorem ten_two {n : Nat} (h1 : 1 ≤ n) (h2 : n ≤ 1520) : 10 ^ up10 n < 2 ^ n ∧ 2 ^ n < 10 ^ (up10 n + 1) := by
  have h := all10_at _ all10_ok n h1 h2
  rw [chk10, Bool.and_eq_true] at h
  exact ⟨Nat.le_of_ble_eq_true h.1, Nat.le_of_ble_eq_true h.2⟩
theorem lg2_nat (n : Nat) : lg2 (n : Int) = (up2 n : Int) := by unfold lg2 up2; omega
theorem lg10_nat (n : Nat) : lg10 (n : Int) = (up10 n : Int) := by unfold lg10 up10; omega
theorem lg2_neg {n : Nat} (h1 : 1 ≤ n) (h2 : n ≤ 1520) : lg2 (-(n : Int)) = -((up2 n : Int) + 1) := by
  unfold lg2 up2
  omega
theorem lg10_neg {n : Nat} (h1 : 1 ≤ n) (h2 : n ≤ 1520) : lg10 (-(n : Int)) = -((up10 n : Int) + 1) := by
  unfold lg10 up10
  omega
/-- 2 to the power of e is at most 10 to the power of k: what is below 0 stands on the other side. -/
def le2 (e k : Int) : Prop := 2 ^ e.toNat * 10 ^ (-k).toNat ≤ 10 ^ k.toNat * 2 ^ (-e).toNat
def lt2 (e k : Int) : Prop := 2 ^ e.toNat * 10 ^ (-k).toNat < 10 ^ k.toNat * 2 ^ (-e).toNat
theorem int_cases (k : Int) : k = 0 ∨ (∃ n : Nat, 1 ≤ n ∧ k = (n : Int)) ∨ (∃ n : Nat, 1 ≤ n ∧ k = -(n : Int)) := by
  rcases (show k = 0 ∨ 0 < k ∨ k < 0 by omega) with h | h | h
  · exact .inl h
  · exact .inr (.inl ⟨k.toNat, by omega, by omega⟩)
  · exact .inr (.inr ⟨(-k).toNat, by omega, by omega⟩)
theorem lg2_le {k : Int} (h1 : -1520 ≤ k) (h2 : k ≤ 1520) : le2 (lg2 k) k := by
  unfold le2
  rcases int_cases k with h | ⟨n, hn, h⟩ | ⟨n, hn, h⟩
  · subst h; decide
  · subst h
    rw [lg2_nat, Int.toNat_natCast, Int.toNat_natCast, show (-(n : Int)).toNat = 0 by omega, show (-(up2 n : Int)).toNat = 0 by omega]
    simp only [Nat.pow_zero, Nat.mul_one]
    exact Nat.le_of_lt (two_ten hn (by omega)).1
  · subst h
    rw [lg2_neg hn (by omega), show (-((up2 n : Int) + 1)).toNat = 0 by omega, show (- -(n : Int)).toNat = n by omega, show (-(n : Int)).toNat = 0 by omega, show (- -((up2 n : Int) + 1)).toNat = up2 n + 1 by omega]
    simp only [Nat.pow_zero, Nat.one_mul]
    exact Nat.le_of_lt (two_ten hn (by omega)).2
theorem lg2_gt {k : Int} (h1 : -1520 ≤ k) (h2 : k ≤ 1520) : ¬ le2 (lg2 k + 1) k := by
  unfold le2
  rw [Nat.not_le]
  rcases int_cases k with h | ⟨n, hn, h⟩ | ⟨n, hn, h⟩
  · subst h; decide
  · subst h
    rw [lg2_nat, show ((up2 n : Int) + 1).toNat = up2 n + 1 by omega, Int.toNat_natCast, show (-(n : Int)).toNat = 0 by omega, show (-((up2 n : Int) + 1)).toNat = 0 by omega]
    simp only [Nat.pow_zero, Nat.mul_one]
    exact (two_ten hn (by omega)).2
  · subst h
    rw [lg2_neg hn (by omega), show (-((up2 n : Int) + 1) + 1).toNat = 0 by omega, show (- -(n : Int)).toNat = n by omega, show (-(n : Int)).toNat = 0 by omega, show (-(-((up2 n : Int) + 1) + 1)).toNat = up2 n by omega]
    simp only [Nat.pow_zero, Nat.one_mul]
    exact (two_ten hn (by omega)).1
theorem lg10_ge {e : Int} (h1 : -1520 ≤ e) (h2 : e ≤ 1520) : ¬ lt2 e (lg10 e) := by
  unfold lt2
  rw [Nat.not_lt]
  rcases int_cases e with h | ⟨n, hn, h⟩ | ⟨n, hn, h⟩
  · subst h; decide
  · subst h
    rw [lg10_nat, Int.toNat_natCast, Int.toNat_natCast, show (-(n : Int)).toNat = 0 by omega, show (-(up10 n : Int)).toNat = 0 by omega]
    simp only [Nat.pow_zero, Nat.mul_one]
    exact Nat.le_of_lt (ten_two hn (by omega)).1
  · subst h
    rw [lg10_neg hn (by omega), show (-((up10 n : Int) + 1)).toNat = 0 by omega, show (- -(n : Int)).toNat = n by omega, show (-(n : Int)).toNat = 0 by omega, show (- -((up10 n : Int) + 1)).toNat = up10 n + 1 by omega]
    simp only [Nat.pow_zero, Nat.one_mul]
    exact Nat.le_of_lt (ten_two hn (by omega)).2
theorem lg10_lt {e : Int} (h1 : -1520 ≤ e) (h2 : e ≤ 1520) : lt2 e (lg10 e + 1) := by
  unfold lt2
  rcases int_cases e with h | ⟨n, hn, h⟩ | ⟨n, hn, h⟩
  · subst h; decide
  · subst h
    rw [lg10_nat, show ((up10 n : Int) + 1).toNat = up10 n + 1 by omega, Int.toNat_natCast, show (-(n : Int)).toNat = 0 by omega, show (-((up10 n : Int) + 1)).toNat = 0 by omega]
    simp only [Nat.pow_zero, Nat.mul_one]
    exact (ten_two hn (by omega)).2
  · subst h
    rw [lg10_neg hn (by omega), show (-((up10 n : Int) + 1) + 1).toNat = 0 by omega, show (- -(n : Int)).toNat = n by omega, show (-(n : Int)).toNat = 0 by omega, show (-(-((up10 n : Int) + 1) + 1)).toNat = up10 n by omega]
    simp only [Nat.pow_zero, Nat.one_mul]
    exact (ten_two hn (by omega)).1

/-- A significand's numerator, denominator. -/
def sn (k : Int) : Nat := 10 ^ k.toNat * 2 ^ (127 - lg2 k).toNat
def sd (k : Int) : Nat := 10 ^ (-k).toNat * 2 ^ (lg2 k - 127).toNat
def sig (k : Int) : Nat := sn k / sd k
theorem sd_pos (k : Int) : 0 < sd k := Nat.mul_pos (Nat.pow_pos (by omega)) (Nat.pow_pos (by omega))
theorem sig_le (k : Int) : sig k * sd k ≤ sn k := Nat.div_mul_le_self _ _
theorem sig_lt (k : Int) : sn k < (sig k + 1) * sd k := by
  have := Nat.lt_mul_div_succ (sn k) (sd_pos k)
  rw [Nat.mul_comm]
  exact this
theorem sig_rng {k : Int} (h1 : -1520 ≤ k) (h2 : k ≤ 1520) : 2 ^ 127 ≤ sig k ∧ sig k < 2 ^ 128 := by
  have a := lg2_le h1 h2
  have b := lg2_gt h1 h2
  unfold le2 at a b
  rw [Nat.not_le] at b
  obtain ⟨E, hE⟩ : ∃ E, lg2 k = E := ⟨_, rfl⟩
  unfold sig
  rw [Nat.le_div_iff_mul_le (sd_pos k), Nat.div_lt_iff_lt_mul (sd_pos k)]
  unfold sn sd
  rw [hE] at a b ⊢
  clear hE
  obtain ⟨x, hx⟩ : ∃ x, 10 ^ k.toNat = x := ⟨_, rfl⟩
  obtain ⟨y, hy⟩ : ∃ y, 10 ^ (-k).toNat = y := ⟨_, rfl⟩
  rw [hx, hy] at a b ⊢
  have e1 : 127 + (E - 127).toNat + (-E).toNat = E.toNat + (127 - E).toNat := by omega
  have e2 : 128 + (E - 127).toNat + (-(E + 1)).toNat = (E + 1).toNat + (127 - E).toNat := by omega
  constructor
  · apply Nat.le_of_mul_le_mul_right (c := 2 ^ (-E).toNat) _ (Nat.pow_pos (by omega))
    have l : 2 ^ 127 * (y * 2 ^ (E - 127).toNat) * 2 ^ (-E).toNat = 2 ^ E.toNat * y * 2 ^ (127 - E).toNat := by
      have : (2 : Nat) ^ 127 * 2 ^ (E - 127).toNat * 2 ^ (-E).toNat = 2 ^ E.toNat * 2 ^ (127 - E).toNat := by rw [← Nat.pow_add, ← Nat.pow_add, e1, Nat.pow_add]
      rw [show 2 ^ 127 * (y * 2 ^ (E - 127).toNat) * 2 ^ (-E).toNat = (2 ^ 127 * 2 ^ (E - 127).toNat * 2 ^ (-E).toNat) * y by ac_rfl, this]
      ac_rfl
    rw [l, show x * 2 ^ (127 - E).toNat * 2 ^ (-E).toNat = x * 2 ^ (-E).toNat * 2 ^ (127 - E).toNat by ac_rfl]
    exact Nat.mul_le_mul_right _ a
  · apply Nat.lt_of_mul_lt_mul_right (a := 2 ^ (-(E + 1)).toNat)
    have l : 2 ^ 128 * (y * 2 ^ (E - 127).toNat) * 2 ^ (-(E + 1)).toNat = 2 ^ (E + 1).toNat * y * 2 ^ (127 - E).toNat := by
      have : (2 : Nat) ^ 128 * 2 ^ (E - 127).toNat * 2 ^ (-(E + 1)).toNat = 2 ^ (E + 1).toNat * 2 ^ (127 - E).toNat := by rw [← Nat.pow_add, ← Nat.pow_add, e2, Nat.pow_add]
      rw [show 2 ^ 128 * (y * 2 ^ (E - 127).toNat) * 2 ^ (-(E + 1)).toNat = (2 ^ 128 * 2 ^ (E - 127).toNat * 2 ^ (-(E + 1)).toNat) * y by ac_rfl, this]
      ac_rfl
    rw [l, show x * 2 ^ (127 - E).toNat * 2 ^ (-(E + 1)).toNat = x * 2 ^ (-(E + 1)).toNat * 2 ^ (127 - E).toNat by ac_rfl]
    exact Nat.mul_lt_mul_of_pos_right b (Nat.pow_pos (by omega))

theorem goes {e : Int} (h1 : -1500 < e) (h2 : e < 1500) : (lg10 (e + 1) = lg10 e ∨ lg10 (e + 1) = lg10 e + 1) ∧ (lg2 (e + 1) = lg2 e + 3 ∨ lg2 (e + 1) = lg2 e + 4) ∧ lg10 e ≤ max e (-1) ∧ lg2 (lg10 e) ≤ e ∧ lg10 (lg2 e) ≤ e ∧ e - 1 ≤ lg10 (lg2 e) := by
  unfold lg2 lg10
  refine ⟨by omega, by omega, by omega, by omega, by omega, by omega⟩
theorem lg_rng {e : Int} (h1 : -1600 ≤ e) (h2 : e ≤ 1600) : -5400 ≤ lg2 e ∧ lg2 e ≤ 5400 ∧ -490 ≤ lg10 e ∧ lg10 e ≤ 490 := by
  unfold lg2 lg10
  omega
theorem lg_rng400 {e : Int} (h1 : -400 ≤ e) (h2 : e ≤ 400) : -1329 ≤ lg2 e ∧ lg2 e ≤ 1329 := by
  unfold lg2
  omega

/-- A significand and its power over the base 2000. -/
theorem sig_base {k : Int} (h1 : -401 ≤ k) (h2 : k ≤ 401) : sig k * 10 ^ (-k).toNat * 2 ^ (lg2 k - 127 + 2000).toNat ≤ 10 ^ k.toNat * 2 ^ 2000 ∧ 10 ^ k.toNat * 2 ^ 2000 < (sig k + 1) * 10 ^ (-k).toNat * 2 ^ (lg2 k - 127 + 2000).toNat := by
  have r : -1340 ≤ lg2 k ∧ lg2 k ≤ 1340 := by unfold lg2; omega
  have a := sig_le k
  have b := sig_lt k
  unfold sn sd at a b
  obtain ⟨E, hE⟩ : ∃ E, lg2 k = E := ⟨_, rfl⟩
  rw [hE] at a b r ⊢
  obtain ⟨x, hx⟩ : ∃ x, 10 ^ k.toNat = x := ⟨_, rfl⟩
  obtain ⟨y, hy⟩ : ∃ y, 10 ^ (-k).toNat = y := ⟨_, rfl⟩
  obtain ⟨s, hs⟩ : ∃ s, sig k = s := ⟨_, rfl⟩
  rw [hx, hy, hs] at a b ⊢
  have e1 : (E - 127).toNat + (2000 - (127 - E).toNat) = (E - 127 + 2000).toNat := by omega
  have e2 : (127 - E).toNat + (2000 - (127 - E).toNat) = 2000 := by omega
  have p1 : (2 : Nat) ^ (E - 127).toNat * 2 ^ (2000 - (127 - E).toNat) = 2 ^ (E - 127 + 2000).toNat := by rw [← Nat.pow_add, e1]
  have p2 : (2 : Nat) ^ (127 - E).toNat * 2 ^ (2000 - (127 - E).toNat) = 2 ^ 2000 := by rw [← Nat.pow_add, e2]
  constructor
  · have := Nat.mul_le_mul_right (2 ^ (2000 - (127 - E).toNat)) a
    rw [← p1, ← p2]
    refine Nat.le_trans (Nat.le_of_eq ?_) (Nat.le_trans this (Nat.le_of_eq ?_)) <;> ac_rfl
  · have := Nat.mul_lt_mul_of_pos_right b (Nat.pow_pos (n := 2000 - (127 - E).toNat) (show 0 < 2 by omega))
    rw [← p1, ← p2]
    refine Nat.lt_of_le_of_lt (Nat.le_of_eq ?_) (Nat.lt_of_lt_of_le this (Nat.le_of_eq ?_)) <;> ac_rfl
theorem pow10_next {k : Int} : (0 ≤ k ∧ 10 ^ (-k).toNat = 1 ∧ 10 ^ (-(k + 1)).toNat = 1 ∧ 10 ^ (k + 1).toNat = 10 * 10 ^ k.toNat) ∨ (k < 0 ∧ 10 ^ k.toNat = 1 ∧ 10 ^ (k + 1).toNat = 1 ∧ 10 ^ (-k).toNat = 10 * 10 ^ (-(k + 1)).toNat) := by
  rcases (show 0 ≤ k ∨ k < 0 by omega) with h | h
  · refine .inl ⟨h, ?_, ?_, ?_⟩
    · rw [show (-k).toNat = 0 by omega]
    · rw [show (-(k + 1)).toNat = 0 by omega]
    · rw [show (k + 1).toNat = k.toNat + 1 by omega, Nat.pow_succ, Nat.mul_comm]
  · refine .inr ⟨h, ?_, ?_, ?_⟩
    · rw [show k.toNat = 0 by omega]
    · rw [show (k + 1).toNat = 0 by omega]
    · rw [show (-k).toNat = (-(k + 1)).toNat + 1 by omega, Nat.pow_succ, Nat.mul_comm]
theorem sig_next {k : Int} (h1 : -400 ≤ k) (h2 : k ≤ 399) :
    sig k * 10 * 2 ^ (lg2 k - 127 + 2000).toNat < (sig (k + 1) + 1) * 2 ^ (lg2 (k + 1) - 127 + 2000).toNat ∧ sig (k + 1) * 2 ^ (lg2 (k + 1) - 127 + 2000).toNat < (sig k + 1) * 10 * 2 ^ (lg2 k - 127 + 2000).toNat := by
  obtain ⟨a1, a2⟩ := sig_base (k := k) (by omega) (by omega)
  obtain ⟨b1, b2⟩ := sig_base (k := k + 1) (by omega) (by omega)
  have hp := pow10_next (k := k)
  have hy : 0 < 10 ^ (-(k + 1)).toNat := Nat.pow_pos (by omega)
  obtain ⟨x, hx⟩ : ∃ x, 10 ^ k.toNat = x := ⟨_, rfl⟩
  obtain ⟨y, hy'⟩ : ∃ y, 10 ^ (-k).toNat = y := ⟨_, rfl⟩
  obtain ⟨x1, hx1⟩ : ∃ x, 10 ^ (k + 1).toNat = x := ⟨_, rfl⟩
  obtain ⟨y1, hy1⟩ : ∃ y, 10 ^ (-(k + 1)).toNat = y := ⟨_, rfl⟩
  obtain ⟨s, hs⟩ : ∃ s, sig k = s := ⟨_, rfl⟩
  obtain ⟨t, ht⟩ : ∃ s, sig (k + 1) = s := ⟨_, rfl⟩
  obtain ⟨p, hp0⟩ : ∃ p, 2 ^ (lg2 k - 127 + 2000).toNat = p := ⟨_, rfl⟩
  obtain ⟨q, hq⟩ : ∃ p, 2 ^ (lg2 (k + 1) - 127 + 2000).toNat = p := ⟨_, rfl⟩
  obtain ⟨z, hz⟩ : ∃ z, 2 ^ 2000 = z := ⟨_, rfl⟩
  rw [hx, hy', hs, hp0, hz] at a1 a2
  rw [hx1, hy1, ht, hq, hz] at b1 b2
  rw [hx, hy', hx1, hy1] at hp
  rw [hy1] at hy
  rw [hs, ht, hp0, hq]
  clear hx hy' hx1 hy1 hs ht hp0 hq hz
  rcases hp with ⟨_, rfl, rfl, rfl⟩ | ⟨_, rfl, rfl, rfl⟩
  · rw [Nat.mul_one] at a1 a2 b1 b2
    constructor
    · refine Nat.lt_of_le_of_lt ?_ b2
      rw [show s * 10 * p = 10 * (s * p) by ac_rfl, show 10 * x * z = 10 * (x * z) by ac_rfl]
      exact Nat.mul_le_mul_left _ a1
    · refine Nat.lt_of_le_of_lt b1 ?_
      rw [show (s + 1) * 10 * p = 10 * ((s + 1) * p) by ac_rfl, show 10 * x * z = 10 * (x * z) by ac_rfl]
      exact Nat.mul_lt_mul_of_pos_left a2 (by omega)
  · rw [Nat.one_mul] at a1 a2 b1 b2
    constructor
    · apply Nat.lt_of_mul_lt_mul_right (a := y1)
      rw [show s * 10 * p * y1 = s * (10 * y1) * p by ac_rfl, show (t + 1) * q * y1 = (t + 1) * y1 * q by ac_rfl]
      exact Nat.lt_of_le_of_lt a1 b2
    · apply Nat.lt_of_mul_lt_mul_right (a := y1)
      rw [show (s + 1) * 10 * p * y1 = (s + 1) * (10 * y1) * p by ac_rfl, show t * q * y1 = t * y1 * q by ac_rfl]
      exact Nat.lt_of_le_of_lt b1 a2
theorem ten_split (k : Nat) : 10 ^ k = 5 ^ k * 2 ^ k := by rw [show (10 : Nat) = 5 * 2 from rfl, Nat.mul_pow]
theorem five_odd (k : Nat) : 5 ^ k % 2 = 1 := by
  induction k with
  | zero => rfl
  | succ k ih => rw [Nat.pow_succ]; omega
theorem ten_bit_low {k j : Nat} (h : j < k) : (10 ^ k).testBit j = false := by
  rw [ten_split, Nat.mul_comm, Nat.testBit_two_pow_mul, decide_eq_false (by omega), Bool.false_and]
theorem ten_bit_at (k : Nat) : (10 ^ k).testBit k = true := by
  rw [ten_split, Nat.mul_comm, Nat.testBit_two_pow_mul, decide_eq_true (Nat.le_refl _), Nat.sub_self, Bool.true_and, Nat.testBit_zero, five_odd]
  rfl
theorem bits_shift (a k : Nat) (h : a ≠ 0) : bits (a * 2 ^ k) = bits a + k := by
  have h1 := bits_le h
  have h2 := bits_lt a
  have h3 := bits_pos h
  rw [show bits a + k = (bits a - 1 + k) + 1 by omega]
  apply bits_of
  · rw [Nat.pow_add]; exact Nat.mul_le_mul_right _ h1
  · rw [show bits a - 1 + k + 1 = bits a + k by omega, Nat.pow_add]; exact Nat.mul_lt_mul_of_pos_right h2 (Nat.pow_pos (by omega))
theorem ten_bits {k : Nat} (h : k ≤ 1520) : (bits (10 ^ k) : Int) = lg2 k + 1 := by
  rw [lg2_nat]
  rcases Nat.eq_zero_or_pos k with h0 | h0
  · subst h0; decide
  · obtain ⟨a, b⟩ := two_ten h0 h
    rw [bits_of (Nat.le_of_lt a) b]
    rfl
theorem five_bits (k : Nat) : (bits (5 ^ k) : Int) = bits (10 ^ k) - k := by
  have := bits_shift (5 ^ k) k (Nat.ne_of_gt (Nat.pow_pos (by omega)))
  rw [← ten_split] at this
  rw [this]
  omega
end M
end Go.Proofs.YteeepfhjbemgoaaDoor
