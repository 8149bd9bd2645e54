import Derived.Test.YtijpffgocookaaaGreatDoorQWMath2
import Derived.WalkKit
import Derived.Lib.Hide
set_option maxHeartbeats 32000000
set_option linter.unusedVariables false
set_option linter.unusedSimpArgs false
namespace Go.Proofs.YtijpffgocookaaaGreatDoor
open Go.RowKit
namespace M
theorem p2 (n : Nat) : 0 < 2 ^ n := Nat.pow_pos (by decide)
theorem p2s (n : Nat) : 2 ^ (n + 1) = 2 * 2 ^ n := by rw [Nat.pow_succ, Nat.mul_comm]
theorem p2le {a b : Nat} (h : a ≤ b) : 2 ^ a ≤ 2 ^ b := Nat.pow_le_pow_right (by decide) h
theorem p2inj {a b : Nat} (h : (2 : Nat) ^ a < 2 ^ b) : a < b := by
 rcases Nat.lt_or_ge a b with h' | h'
 ·exact h'
 ·have := p2le h'; omega
def Ps (n k : Nat) (R : Int) (r q : Nat) : Prop :=
 q < 2 ^ r ∧ ((k = 2 ^ r + q ∧ r + 2 ≤ n ∧ R = (r : Int) + 1 - n) ∨ (k + 2 ^ (r + 1) = 2 ^ n + q ∧ r + 2 ≤ n ∧ R = (n : Int) - r - 2) ∨ (k + 1 = 2 ^ n ∧ r = 0 ∧ 2 ≤ n ∧ R = (n : Int) - 1))
theorem Ps.rng {n k r q : Nat} {R : Int} (h : Ps n k R r q) : 0 < k ∧ k < 2 ^ n ∧ 2 ≤ n ∧ r + 2 ≤ n ∧ 1 - (n : Int) ≤ R ∧ R ≤ n - 1 := by
 obtain ⟨hq, h | h | h⟩ := h
 ·obtain ⟨rfl, h1, rfl⟩ := h
  have a := p2s r
  have b := p2le (a := r + 1) (b := n) (by omega)
  have c := p2 r
  refine ⟨by omega, by omega, by omega, by omega, by omega, by omega⟩
 ·obtain ⟨h0, h1, rfl⟩ := h
  have a := p2s r
  have b := p2le (a := r + 2) (b := n) (by omega)
  have d : 2 ^ (r + 2) = 2 * 2 ^ (r + 1) := p2s (r + 1)
  have c := p2 r
  refine ⟨by omega, by omega, by omega, by omega, by omega, by omega⟩
 ·obtain ⟨h0, rfl, h1, rfl⟩ := h
  have b := p2le (a := 2) (b := n) (by omega)
  refine ⟨by omega, by omega, by omega, by omega, by omega, by omega⟩
theorem ps_ex {n k : Nat} (hn : 2 ≤ n) (h0 : 0 < k) (hk : k < 2 ^ n) : ∃ R r q, Ps n k R r q := by
 obtain ⟨m, rfl⟩ : ∃ m, n = m + 1 := ⟨n - 1, by omega⟩
 have hs := p2s m
 rcases Nat.lt_or_ge k (2 ^ m) with h | h
 ·have hb := bits_pos (a := k) (by omega)
  have h1 := bits_le (a := k) (by omega)
  have h2 := bits_lt k
  obtain ⟨r, hr⟩ : ∃ r, bits k = r + 1 := ⟨bits k - 1, by omega⟩
  rw [hr, Nat.add_sub_cancel] at h1
  rw [hr, p2s] at h2
  have h3 : r < m := p2inj (by omega)
  exact ⟨_, r, k - 2 ^ r, by omega, .inl ⟨by omega, by omega, rfl⟩⟩
 ·rcases Nat.eq_or_lt_of_le (show k + 1 ≤ 2 ^ (m + 1) by omega) with h' | h'
  ·exact ⟨_, 0, 0, by decide, .inr (.inr ⟨h', rfl, hn, rfl⟩)⟩
  ·obtain ⟨c, hc⟩ : ∃ c, c = 2 ^ (m + 1) - 1 - k := ⟨_, rfl⟩
   have hb := bits_pos (a := c) (by omega)
   have h1 := bits_le (a := c) (by omega)
   have h2 := bits_lt c
   obtain ⟨r, hr⟩ : ∃ r, bits c = r + 1 := ⟨bits c - 1, by omega⟩
   rw [hr, Nat.add_sub_cancel] at h1
   rw [hr, p2s] at h2
   have h3 : r < m := p2inj (by omega)
   have a := p2s r
   exact ⟨_, r, 2 ^ (r + 1) - 1 - c, by omega, .inr (.inl ⟨by omega, by omega, rfl⟩)⟩
theorem ps_cmp {n k k' r r' q q' : Nat} {R R' : Int} (h : Ps n k R r q) (h' : Ps n k' R' r' q') :
  (R < R' → k < k') ∧ (R = R' → r = r' ∧ (q < q' → k < k') ∧ (q = q' → k = k')) := by
 obtain ⟨hq, h | h | h⟩ := h <;> obtain ⟨hq', h' | h' | h'⟩ := h'
 ·obtain ⟨rfl, h1, rfl⟩ := h
  obtain ⟨rfl, h1', rfl⟩ := h'
  refine ⟨fun hr => ?_, fun hr => ?_⟩
  ·have a := p2s r
   have b := p2le (a := r + 1) (b := r') (by omega)
   omega
  ·obtain rfl : r = r' := by omega
   exact ⟨rfl, by omega, by omega⟩
 ·obtain ⟨rfl, h1, rfl⟩ := h
  obtain ⟨h0', h1', rfl⟩ := h'
  refine ⟨fun hr => ?_, fun hr => by omega⟩
  obtain ⟨m, rfl⟩ : ∃ m, n = m + 1 := ⟨n - 1, by omega⟩
  have a := p2s r
  have b := p2le (a := r + 1) (b := m) (by omega)
  have d := p2le (a := r' + 1) (b := m) (by omega)
  have e := p2s m
  omega
 ·obtain ⟨rfl, h1, rfl⟩ := h
  obtain ⟨h0', rfl, h1', rfl⟩ := h'
  refine ⟨fun hr => ?_, fun hr => by omega⟩
  have a := p2s r
  have b := p2le (a := r + 2) (b := n) (by omega)
  have d : 2 ^ (r + 2) = 2 * 2 ^ (r + 1) := p2s (r + 1)
  have := p2 r
  omega
 ·obtain ⟨h0, h1, rfl⟩ := h
  obtain ⟨rfl, h1', rfl⟩ := h'
  exact ⟨fun hr => by omega, fun hr => by omega⟩
 ·obtain ⟨h0, h1, rfl⟩ := h
  obtain ⟨h0', h1', rfl⟩ := h'
  refine ⟨fun hr => ?_, fun hr => ?_⟩
  ·have a := p2s r
   have b := p2le (a := r' + 1) (b := r) (by omega)
   omega
  ·obtain rfl : r = r' := by omega
   exact ⟨rfl, by omega, by omega⟩
 ·obtain ⟨h0, h1, rfl⟩ := h
  obtain ⟨h0', rfl, h1', rfl⟩ := h'
  refine ⟨fun hr => ?_, fun hr => by omega⟩
  have a := p2s r
  have := p2 r
  omega
 ·obtain ⟨h0, rfl, h1, rfl⟩ := h
  obtain ⟨rfl, h1', rfl⟩ := h'
  exact ⟨fun hr => by omega, fun hr => by omega⟩
 ·obtain ⟨h0, rfl, h1, rfl⟩ := h
  obtain ⟨h0', h1', rfl⟩ := h'
  exact ⟨fun hr => by omega, fun hr => by omega⟩
 ·obtain ⟨h0, rfl, h1, rfl⟩ := h
  obtain ⟨h0', rfl, h1', rfl⟩ := h'
  have : q = 0 := by simpa using hq
  have : q' = 0 := by simpa using hq'
  exact ⟨fun hr => by omega, fun hr => ⟨rfl, by omega, by omega⟩⟩
theorem ps_uniq {n k r r' q q' : Nat} {R R' : Int} (h : Ps n k R r q) (h' : Ps n k R' r' q') : R = R' ∧ r = r' ∧ q = q' := by
 have a := ps_cmp h h'
 have b := ps_cmp h' h
 rcases Int.lt_trichotomy R R' with e | e | e
 ·have := a.1 e; omega
 ·obtain ⟨e1, e2, e3⟩ := a.2 e
  obtain ⟨_, e4, _⟩ := b.2 e.symm
  refine ⟨e, e1, ?_⟩
  rcases Nat.lt_trichotomy q q' with e5 | e5 | e5
  ·have := e2 e5; omega
  ·exact e5
  ·have := e4 e5; omega
 ·have := b.1 e; omega
theorem ps_lt {n k k' r r' q q' : Nat} {R R' : Int} (h : Ps n k R r q) (h' : Ps n k' R' r' q') (hk : k < k') : R < R' ∨ (R = R' ∧ r = r' ∧ q < q') := by
 have a := ps_cmp h h'
 have b := ps_cmp h' h
 rcases Int.lt_trichotomy R R' with e | e | e
 ·exact .inl e
 ·obtain ⟨e1, e2, e3⟩ := a.2 e
  obtain ⟨_, e4, _⟩ := b.2 e.symm
  refine .inr ⟨e, e1, ?_⟩
  rcases Nat.lt_trichotomy q q' with e5 | e5 | e5
  ·exact e5
  ·have := e3 e5; omega
  ·have := e4 e5; omega
 ·have := b.1 e; omega
def ex (r q : Nat) : Nat := if 2 ≤ r then q / 2 ^ (r - 2) else q * 2 ^ (2 - r)
def fr (r q : Nat) : Nat := q % 2 ^ (r - 2)
theorem ex_le {r q : Nat} (h : q < 2 ^ r) : ex r q ≤ 3 := by
 unfold ex
 split
 ·rename_i h2
  obtain ⟨b, rfl⟩ : ∃ b, r = b + 2 := ⟨r - 2, by omega⟩
  rw [Nat.add_sub_cancel]
  have h3 : q < 4 * 2 ^ b := by rw [p2s, p2s] at h; omega
  have := Nat.div_lt_of_lt_mul (show q < 2 ^ b * 4 by omega)
  omega
 ·rcases (show r = 0 ∨ r = 1 by omega) with rfl | rfl
  ·have : q = 0 := by simpa using h
   subst this; decide
  ·have : q < 2 := by simpa using h
   show q * 2 ≤ 3
   omega
theorem fr_lt (r q : Nat) : fr r q < 2 ^ (r - 2) := Nat.mod_lt _ (p2 _)
theorem q_of {r q : Nat} (_h : q < 2 ^ r) : q = if 2 ≤ r then ex r q * 2 ^ (r - 2) + fr r q else ex r q / 2 ^ (2 - r) := by
 split
 ·rename_i h2
  unfold ex fr
  rw [if_pos h2, Nat.mul_comm]
  exact (Nat.div_add_mod _ _).symm
 ·rename_i h2
  unfold ex
  rw [if_neg h2, Nat.mul_div_cancel _ (p2 _)]
def um (r q : Nat) : Nat := 2 ^ ex r q * (2 ^ (r - 2) + fr r q) * 2 ^ (62 - (r - 2))
theorem um_mid {r q : Nat} (hr : r ≤ 64) : 2 ^ ex r q * 2 ^ 62 ≤ um r q ∧ um r q < 2 ^ (ex r q + 1) * 2 ^ 62 := by
 have hf := fr_lt r q
 have e : 2 ^ (r - 2) * 2 ^ (62 - (r - 2)) = 2 ^ 62 := by rw [← Nat.pow_add, show r - 2 + (62 - (r - 2)) = 62 by omega]
 have pp := p2 (62 - (r - 2))
 have pe := p2 (ex r q)
 unfold um
 rw [Nat.mul_assoc]
 refine ⟨Nat.mul_le_mul_left _ ?_, ?_⟩
 ·rw [← e]
  exact Nat.mul_le_mul_right _ (by omega)
 ·rw [p2s, Nat.mul_comm 2, Nat.mul_assoc]
  refine Nat.mul_lt_mul_of_pos_left ?_ pe
  rw [← e, ← Nat.mul_assoc]
  exact Nat.mul_lt_mul_of_pos_right (by omega) pp
theorem um_rng {r q : Nat} (hr : r ≤ 64) (hq : q < 2 ^ r) : 2 ^ 62 ≤ um r q ∧ um r q < 16 * 2 ^ 62 := by
 obtain ⟨a, b⟩ := um_mid (q := q) hr
 have h3 := ex_le hq
 have pe := p2 (ex r q)
 refine ⟨Nat.le_trans (Nat.le_mul_of_pos_left _ pe) a, Nat.lt_of_lt_of_le b (Nat.mul_le_mul_right _ ?_)⟩
 exact p2le (b := 4) (by omega)
theorem um_mono {r q q' : Nat} (hr : r ≤ 64) (hq' : q' < 2 ^ r) (h : q < q') : um r q < um r q' := by
 by_cases h2 : 2 ≤ r
 ·have e1 : ex r q ≤ ex r q' := by unfold ex; rw [if_pos h2, if_pos h2]; exact Nat.div_le_div_right (Nat.le_of_lt h)
  rcases Nat.eq_or_lt_of_le e1 with e | e
  ·have f1 := q_of (r := r) (q := q) (by omega)
   have f2 := q_of hq'
   rw [if_pos h2] at f1 f2
   rw [e] at f1
   have f3 : fr r q < fr r q' := by omega
   unfold um
   rw [e]
   exact Nat.mul_lt_mul_of_pos_right (Nat.mul_lt_mul_of_pos_left (by omega) (p2 _)) (p2 _)
  ·exact Nat.lt_of_lt_of_le (um_mid (q := q) hr).2 (Nat.le_trans (Nat.mul_le_mul_right _ (p2le e)) (um_mid (q := q') hr).1)
 ·rcases (show r = 0 ∨ r = 1 by omega) with rfl | rfl
  ·have : q' < 1 := by simpa using hq'
   omega
  ·have : q' < 2 := by simpa using hq'
   obtain rfl : q = 0 := by omega
   obtain rfl : q' = 1 := by omega
   decide
def vx (R : Int) (r q : Nat) : Nat := um r q * 2 ^ (4 * R + 938).toNat
theorem vx_lt {n k k' r r' q q' : Nat} {R R' : Int} (hn : n ≤ 64) (h : Ps n k R r q) (h' : Ps n k' R' r' q') (hk : k < k') : vx R r q < vx R' r' q' := by
 have a := h.rng
 have a' := h'.rng
 unfold vx
 rcases ps_lt h h' hk with e | ⟨rfl, rfl, e⟩
 ·have u1 := (um_rng (q := q) (by omega) h.1).2
  have u2 := (um_rng (q := q') (by omega) h'.1).1
  have hp : 16 * 2 ^ (4 * R + 938).toNat ≤ 2 ^ (4 * R' + 938).toNat := by
   have := p2le (a := (4 * R + 938).toNat + 4) (b := (4 * R' + 938).toNat) (by omega)
   rw [Nat.pow_add] at this
   omega
  calc um r q * 2 ^ (4 * R + 938).toNat < 16 * 2 ^ 62 * 2 ^ (4 * R + 938).toNat := Nat.mul_lt_mul_of_pos_right u1 (p2 _)
   _ = 2 ^ 62 * (16 * 2 ^ (4 * R + 938).toNat) := by rw [Nat.mul_comm 16, Nat.mul_assoc]
   _ ≤ 2 ^ 62 * 2 ^ (4 * R' + 938).toNat := Nat.mul_le_mul_left _ hp
   _ ≤ um r' q' * 2 ^ (4 * R' + 938).toNat := Nat.mul_le_mul_right _ u2
 ·exact Nat.mul_lt_mul_of_pos_right (um_mono (by omega) h'.1 e) (p2 _)
theorem vx_fields {n k r q : Nat} {R : Int} (hn : n ≤ 64) (h : Ps n k R r q) : vx R r q = (2 ^ (r - 2) + fr r q) * 2 ^ (4 * R + ex r q - (r - 2 : Nat) + 1000).toNat := by
 have a := h.rng
 have h3 := ex_le h.1
 unfold vx um
 have e : (4 * R + ex r q - (r - 2 : Nat) + 1000).toNat = ex r q + (62 - (r - 2)) + (4 * R + 938).toNat := by omega
 rw [e, Nat.pow_add, Nat.pow_add]
 ac_rfl
theorem um_longer {r q : Nat} (hr : r + 1 ≤ 64) (hq : q < 2 ^ r) : um (r + 1) (2 * q) = um r q := by
 rcases (show r = 0 ∨ r = 1 ∨ 2 ≤ r by omega) with rfl | rfl | h2
 ·obtain rfl : q = 0 := by simpa using hq
  decide
 ·have : q < 2 := by simpa using hq
  rcases (show q = 0 ∨ q = 1 by omega) with rfl | rfl <;> decide
 ·obtain ⟨b, rfl⟩ : ∃ b, r = b + 2 := ⟨r - 2, by omega⟩
  have e1 : ex (b + 2 + 1) (2 * q) = ex (b + 2) q := by
   unfold ex
   rw [if_pos (by omega), if_pos (by omega), show b + 2 + 1 - 2 = b + 1 by omega, Nat.add_sub_cancel, p2s, Nat.mul_div_mul_left _ _ (by decide)]
  have e2 : fr (b + 2 + 1) (2 * q) = 2 * fr (b + 2) q := by
   unfold fr
   rw [show b + 2 + 1 - 2 = b + 1 by omega, Nat.add_sub_cancel, p2s, Nat.mul_mod_mul_left]
  unfold um
  rw [e1, e2, show b + 2 + 1 - 2 = b + 1 by omega, Nat.add_sub_cancel, p2s, ← Nat.mul_add, show 62 - b = (62 - (b + 1)) + 1 by omega, p2s]
  ac_rfl
theorem Ps.longer {n k r q : Nat} {R : Int} (h : Ps n k R r q) (hn : n ≤ 63) : ∃ r' q', Ps (n + 1) (2 * k) R r' q' ∧ um r' q' = um r q := by
 have g := h.rng
 obtain ⟨hq, h | h | h⟩ := h
 ·obtain ⟨rfl, h1, rfl⟩ := h
  have a := p2s r
  exact ⟨r + 1, 2 * q, ⟨by omega, .inl ⟨by omega, by omega, by omega⟩⟩, um_longer (by omega) hq⟩
 ·obtain ⟨h0, h1, rfl⟩ := h
  have a := p2s r
  have b := p2s (r + 1)
  have c := p2s n
  exact ⟨r + 1, 2 * q, ⟨by omega, .inr (.inl ⟨by omega, by omega, by omega⟩)⟩, um_longer (by omega) hq⟩
 ·obtain ⟨h0, rfl, h1, rfl⟩ := h
  have c := p2s n
  obtain rfl : q = 0 := by simpa using hq
  exact ⟨0, 0, ⟨by decide, .inr (.inl ⟨by rw [c]; omega, by omega, by omega⟩)⟩, rfl⟩
theorem odd_ex : ∀ (x : Nat), 0 < x → ∃ m t, x = m * 2 ^ t ∧ m % 2 = 1 := by
 intro x
 induction x using Nat.strongRecOn with
 | ind x ih =>
  intro h0
  rcases Nat.mod_two_eq_zero_or_one x with h | h
  ·obtain ⟨m, t, h1, h2⟩ := ih (x / 2) (by omega) (by omega)
   exact ⟨m, t + 1, by rw [p2s, Nat.mul_left_comm, ← h1]; omega, h2⟩
  ·exact ⟨x, 0, by simp, h⟩
theorem odd_uniq {m m' t t' : Nat} (h : m % 2 = 1) (h' : m' % 2 = 1) (e : m * 2 ^ t = m' * 2 ^ t') : m = m' ∧ t = t' := by
 rcases Nat.lt_trichotomy t t' with ht | ht | ht
 ·obtain ⟨d, rfl⟩ : ∃ d, t' = t + (d + 1) := ⟨t' - t - 1, by omega⟩
  rw [Nat.pow_add, ← Nat.mul_assoc, Nat.mul_right_comm] at e
  have := Nat.eq_of_mul_eq_mul_right (p2 t) e
  rw [p2s, Nat.mul_left_comm] at this
  omega
 ·subst ht
  exact ⟨Nat.eq_of_mul_eq_mul_right (p2 t) e, rfl⟩
 ·obtain ⟨d, rfl⟩ : ∃ d, t = t' + (d + 1) := ⟨t - t' - 1, by omega⟩
  rw [Nat.pow_add, ← Nat.mul_assoc, Nat.mul_right_comm] at e
  have := Nat.eq_of_mul_eq_mul_right (p2 t') e
  rw [p2s, Nat.mul_left_comm] at this
  omega
end M
end Go.Proofs.YtijpffgocookaaaGreatDoor
