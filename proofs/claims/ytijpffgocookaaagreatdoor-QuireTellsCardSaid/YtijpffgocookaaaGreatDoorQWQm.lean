import Derived.Test.YtijpffgocookaaaGreatDoorQWYe
set_option maxHeartbeats 32000000
set_option linter.unusedVariables false
set_option linter.unusedSimpArgs false
namespace Go.Proofs.YtijpffgocookaaaGreatDoor
open Go
namespace M
theorem cop52 (k x : Nat) : Nat.Coprime (5 ^ k) (2 ^ x) := Nat.Coprime.pow k x (by decide)
theorem sz_up (a k : Nat) (t : Int) : sz (a * 5 ^ k) t 0 = sz a t k := by
 unfold sz ov bse
 rw [show ((k : Int) - -5000).toNat = k + 5000 by omega, show ((0 : Int) - -5000).toNat = 5000 by omega, Nat.pow_add]
 generalize (5 : Nat) ^ 5000 = F
 generalize (5 : Nat) ^ k = G
 generalize (2 : Nat) ^ (t - -5000).toNat = Z
 simp only [Nat.mul_assoc, Nat.mul_left_comm, Nat.mul_comm]
theorem sz_down (n k : Nat) (hk : k ≤ 5000) (t : Int) : sz (n * 5 ^ k) t (-(k : Int)) = sz n t 0 := by
 unfold sz ov bse
 rw [show (-(k : Int) - -5000).toNat = 5000 - k by omega, show ((0 : Int) - -5000).toNat = 5000 by omega]
 have e : (5 : Nat) ^ 5000 = 5 ^ k * 5 ^ (5000 - k) := by rw [← Nat.pow_add, show k + (5000 - k) = 5000 by omega]
 rw [e]
 generalize (5 : Nat) ^ (5000 - k) = F
 generalize (5 : Nat) ^ k = G
 generalize (2 : Nat) ^ (t - -5000).toNat = Z
 simp only [Nat.mul_assoc, Nat.mul_left_comm, Nat.mul_comm]
theorem ql_five {i a j k n : Nat} {t : Int} (hk : k ≤ 5000) (hj : j < k) (ha : a = n * 5 ^ j) (hn : n % 5 ≠ 0) (s : Bool) : Ql i s a t (-(k : Int)) none := by
 refine .inl ⟨rfl, fun A h => ?_⟩
 exfalso
 have h2 : sz A (qz i) 0 = sz (A * 5 ^ k) (qz i) (-(k : Int)) := (sz_down A k hk _).symm
 rw [h2] at h
 unfold sz ov bse at h
 have hF : 0 < (5 : Nat) ^ (-(k : Int) - -5000).toNat := Nat.pow_pos (by decide)
 rw [Nat.mul_right_comm, Nat.mul_right_comm (A * 5 ^ k)] at h
 have h3 := Nat.eq_of_mul_eq_mul_right hF h
 have d : 5 ^ k ∣ a * 2 ^ (t - -5000).toNat := by exact ⟨A * 2 ^ (qz i - -5000).toNat, by rw [h3, Nat.mul_comm A, Nat.mul_assoc]⟩
 have d2 := (cop52 k _).dvd_of_dvd_mul_right d
 have d3 : 5 ^ (j + 1) ∣ a := Nat.dvd_trans (Nat.pow_dvd_pow 5 (by omega)) d2
 rw [ha, Nat.pow_succ, Nat.mul_comm n] at d3
 have d4 := Nat.dvd_of_mul_dvd_mul_left (Nat.pow_pos (by decide)) d3
 omega
theorem ql_end {i a n : Nat} {t f : Int} (h : sz a t f = sz n t 0) {A : Nat} (hA : sz n t 0 = sz A (qz i) 0) (s : Bool) (o : Option Nat) (ho : (A < qn i ∧ o = some (if s = true then ng (2 ^ qS i) A else A)) ∨ (¬ A < qn i ∧ o = none)) : Ql i s a t f o := by
 rcases ho with ⟨h1, rfl⟩ | ⟨h1, rfl⟩
 ·exact .inr ⟨A, h.trans hA, h1, rfl⟩
 ·refine .inl ⟨rfl, fun B hB => ?_⟩
  obtain rfl := sz_inj ((h.trans hA).symm.trans hB)
  exact h1
theorem sz_twos {n k : Nat} {t Z : Int} (hZ : -5000 ≤ Z) (h : t = Z + k) : sz (n * 2 ^ k) Z 0 = sz n t 0 := by
 rw [sz_two_ _ _ _ hZ, h]
theorem sz_halves {n k : Nat} {t Z : Int} (hZ : -5000 ≤ t) (h : Z = t + k) : sz (n * 2 ^ k) t 0 = sz n Z 0 := by
 rw [sz_two_ _ _ _ hZ, h]
theorem ql_two {i a n k : Nat} {t f : Int} (h : sz a t f = sz n t 0) (hz : qz i = t + k) (ht : -5000 ≤ t) {j : Nat} (hj : j < k) (hb : n.testBit j = true) (s : Bool) : Ql i s a t f none := by
 refine .inl ⟨rfl, fun A hA => ?_⟩
 exfalso
 have e : sz n t 0 = sz (A * 2 ^ k) t 0 := by rw [sz_halves ht hz, ← hA, h]
 have e2 := sz_inj e
 rw [e2] at hb
 have : (A * 2 ^ k).testBit j = false := by
  rw [Nat.mul_comm, Nat.testBit_two_pow_mul]
  simp; omega
 rw [this] at hb
 cases hb
theorem too_high {S A j : Nat} (hj : S ≤ j) (hb : A.testBit j = true) : ¬ A < 2 ^ S := fun h => by
 have := Nat.testBit_lt_two_pow (Nat.lt_of_lt_of_le h (Nat.pow_le_pow_right (by decide) hj))
 rw [this] at hb
 cases hb
theorem five_60 {a k : Nat} (ha : a < 18446744073709551616 ^ 20) (hk : k ≤ 60) : a * 5 ^ k < 18446744073709551616 ^ 24 := by
 have h1 : (5 : Nat) ^ k ≤ 5 ^ 60 := Nat.pow_le_pow_right (by decide) hk
 have h2 : (5 : Nat) ^ 60 < 18446744073709551616 ^ 4 := by decide +kernel
 have h3 : (18446744073709551616 : Nat) ^ 24 = 18446744073709551616 ^ 20 * 18446744073709551616 ^ 4 := by rw [← Nat.pow_add]
 rw [h3]
 exact Nat.mul_lt_mul'' ha (by omega)
theorem fit_mod {a N : Nat} (h : a < 2 * N) : (if N ≤ a then a - N else a) = a % N := by
 by_cases c : N ≤ a
 ·rw [if_pos c, Nat.mod_eq_sub_mod c, Nat.mod_eq_of_lt (by omega)]
 ·rw [if_neg c, Nat.mod_eq_of_lt (by omega)]
theorem top_bitq {i b : Nat} (i1 : 1 ≤ i) (i2 : i ≤ 4) (hb : b < 2 ^ qS i) : (((bits b : Nat) : Int) == (qS i : Int)) = decide (qn i ≤ b) := by
 have hq := q_facts i1 i2
 by_cases h : qn i ≤ b
 ·rw [decide_eq_true h]
  have := bits_of (a := b) (b := qS i - 1) h (by rw [show qS i - 1 + 1 = qS i by omega]; exact hb)
  simp; omega
 ·rw [decide_eq_false h]
  have := bits_le_of_lt (a := b) (k := qS i - 1) (by unfold qn at h; omega)
  simp; omega
theorem too_many {i b : Nat} (hb : b < 2 ^ qS i) : decide (((bits b : Nat) : Int) > (qS i : Int)) = false := by
 have := bits_le_of_lt hb
 exact decide_eq_false (by omega)
theorem too_many_ {i b : Nat} (hb : ¬ b < 2 ^ qS i) : decide (((bits b : Nat) : Int) > (qS i : Int)) = true := by
 have h := bits_lt b
 refine decide_eq_true ?_
 have : ¬ bits b ≤ qS i := fun e => hb (Nat.lt_of_lt_of_le h (Nat.pow_le_pow_right (by decide) e))
 omega
theorem few_bits {i A : Nat} (i1 : 1 ≤ i) (i2 : i ≤ 4) : decide (((bits A : Nat) : Int) < (qS i : Int)) = decide (A < qn i) := by
 have hq := q_facts i1 i2
 by_cases h : A < qn i
 ·have := bits_le_of_lt (a := A) (k := qS i - 1) h
  rw [decide_eq_true h, decide_eq_true (by omega)]
 ·have : ¬ bits A ≤ qS i - 1 := fun e => h (Nat.lt_of_lt_of_le (bits_lt A) (Nat.pow_le_pow_right (by decide) e))
  rw [decide_eq_false h, decide_eq_false (by omega)]
theorem dv_part {i p : Nat} (i1 : 1 ≤ i) (i2 : i ≤ 4) {g : Bool} {m : Nat} {z : Int} (h : Dv (tb i) p 2 g m z) : ∃ n u : Nat, (tb i).W = n + 1 ∧ 7 ≤ n ∧ z = (u : Int) + 4 - 4 * n ∧ m * 2 ^ (u + 4) < 2 ^ (8 * n) := by
 have hk := q_facts i1 i2
 rcases h with ⟨_, e, _⟩ | ⟨_, e, _⟩ | ⟨_, e, _⟩ | ⟨_, _, _, k, _, hm⟩
 ·exact absurd e (by decide)
 ·exact absurd e (by decide)
 ·exact absurd e (by decide)
 ·rcases hm with ⟨_, n, _, hW, h⟩ | ⟨e, _⟩ | ⟨e, _⟩ | ⟨e, _⟩
  ·have a := isk_high h
   have b := isk_low h
   refine ⟨n, (z + 4 * (n : Int)).toNat - 4, by omega, by omega, by omega, ?_⟩
   rw [show (z + 4 * (n : Int)).toNat - 4 + 4 = (z + 4 * (n : Int)).toNat by omega]
   exact a
  ·omega
  ·omega
  ·omega
theorem prod_fit_ {i p q : Nat} (i1 : 1 ≤ i) (i2 : i ≤ 4) (hp : (p : Int) ≤ msk (tb i)) (hq : (q : Int) ≤ msk (tb i)) {g g' : Bool} {m m' : Nat} {z z' : Int} (h : Dv (tb i) p 2 g m z) (h' : Dv (tb i) q 2 g' m' z') : ∃ k : Nat, z + z' - qz i = k ∧ k ≤ 2000 ∧ m * m' * 2 ^ k < 2 ^ qS i := by
 have hk := q_facts i1 i2
 obtain ⟨n, u, e1, e2, e3, e4⟩ := dv_part i1 i2 h
 obtain ⟨n', u', e1', e2', e3', e4'⟩ := dv_part i1 i2 h'
 obtain rfl : n = n' := by omega
 obtain ⟨m0, mb, zl, zh⟩ := pt_rng (ok i i1 (four14 i2)) (ok2 i i1 (four14 i2)) (ok3 i i1 (four14 i2)) hp h
 obtain ⟨m0', mb', zl', zh'⟩ := pt_rng (ok i i1 (four14 i2)) (ok2 i i1 (four14 i2)) (ok3 i i1 (four14 i2)) hq h'
 have hu : u + 4 < 8 * n := by
  have : 2 ^ (u + 4) < 2 ^ (8 * n) := Nat.lt_of_le_of_lt (Nat.le_mul_of_pos_left _ (by omega)) e4
  exact (Nat.pow_lt_pow_iff_right (by decide)).1 this
 have hu' : u' + 4 < 8 * n := by
  have : 2 ^ (u' + 4) < 2 ^ (8 * n) := Nat.lt_of_le_of_lt (Nat.le_mul_of_pos_left _ (by omega)) e4'
  exact (Nat.pow_lt_pow_iff_right (by decide)).1 this
 refine ⟨u + u', by unfold qz; omega, by omega, ?_⟩
 have hm := Nat.mul_lt_mul'' e4 e4'
 rw [← Nat.pow_add] at hm
 have e : m * 2 ^ (u + 4) * (m' * 2 ^ (u' + 4)) = m * m' * 2 ^ (u + u') * 2 ^ 8 := by
  rw [show (u + 4) = u + 4 from rfl, Nat.pow_add 2 u 4, Nat.pow_add 2 u' 4, Nat.pow_add 2 u u', show (2 : Nat) ^ 8 = 2 ^ 4 * 2 ^ 4 by decide]
  generalize (2 : Nat) ^ u = a
  generalize (2 : Nat) ^ u' = b
  generalize (2 : Nat) ^ 4 = c
  ac_rfl
 rw [e] at hm
 refine Nat.lt_of_le_of_lt (Nat.le_mul_of_pos_right _ (by decide)) (Nat.lt_of_lt_of_le hm (Nat.pow_le_pow_right (by decide) ?_))
 omega
theorem qi_steps {i p q : Nat} (i1 : 1 ≤ i) (i2 : i ≤ 4) {c c' : Int} {g g' : Bool} {m m' : Nat} {z z' : Int} (hp : (p : Int) ≤ msk (tb i)) (hq : (q : Int) ≤ msk (tb i)) (h : Dc (i : Int) p c g m z 0) (h' : Dc (i : Int) q c' g' m' z' 0) {o : Option Nat} (ho : Qi i p q o) :
  (c = 4 ∧ o = none) ∨ (c ≠ 4 ∧ c' = 4 ∧ o = none) ∨ (c ≠ 4 ∧ c' ≠ 4 ∧ m < 18446744073709551616 ∧ m' < 18446744073709551616 ∧ -3000 ≤ z ∧ z ≤ 3000 ∧ -3000 ≤ z' ∧ z' ≤ 3000 ∧ ∃ k P : Nat, z + z' - qz i = k ∧ k ≤ 2000 ∧ m * m' * 2 ^ k = P ∧ P < 2 ^ qS i ∧
   o = some (if (g != g') = true then ng (2 ^ qS i) P else P) ∧ tk i true o = some (if ((g != g') != true) = true then ng (2 ^ qS i) P else P)) := by
 have h14 := four14 i2
 have hk := q_facts i1 i2
 obtain ⟨j, e, _, _, _, dv⟩ := dc_have h
 obtain rfl : i = j := by omega
 obtain ⟨j, e', _, _, _, dv'⟩ := dc_have h'
 obtain rfl : i = j := by omega
 obtain ⟨a1, a2, a3, a4, b1, b2, b3, b4, da, db, ho⟩ := ho
 obtain ⟨rfl, rfl, rfl, rfl, _⟩ := dc_all da h
 obtain ⟨rfl, rfl, rfl, rfl, _⟩ := dc_all db h'
 have c1 := dv_four_ i1 i2 dv
 have c2 := dv_four_ i1 i2 dv'
 have nought : ∀ {p c : Int} {g : Bool} {m : Nat} {z : Int}, Dv (tb i) p c g m z → c = 1 → m = 0 ∧ z = 0 := by
  intro p c g m z d e
  rcases d with ⟨_, h, _⟩ | ⟨_, h, _⟩ | ⟨_, _, _, h⟩ | ⟨_, h, _⟩
  ·omega
  ·omega
  ·exact h
  ·omega
 have rng : ∀ {p : Nat} {c : Int} {g : Bool} {m : Nat} {z : Int}, (p : Int) ≤ msk (tb i) → Dv (tb i) p c g m z → c = 1 ∨ c = 2 → m < 18446744073709551616 ∧ -3000 ≤ z ∧ z ≤ 3000 ∧ (8 - 4 * (tb i).W ≤ z) ∧ z ≤ 3000 := by
  intro p c g m z hp d e
  rcases e with rfl | rfl
  ·obtain ⟨rfl, rfl⟩ := nought d rfl
   exact ⟨by decide, by omega, by omega, by omega, by omega⟩
  ·obtain ⟨_, r1, r2, r3⟩ := pt_rng (ok i i1 h14) (ok2 i i1 h14) (ok3 i i1 h14) hp d
   exact ⟨r1, r2, r3, dv_low i1 i2 d, r3⟩
 have N0 := Nat.two_pow_pos (qS i)
 rcases ho with ⟨rfl, e⟩ | ⟨rfl, ne, e⟩ | ⟨ne, ne1, P, hP, rfl⟩
 ·by_cases e4 : a1 = 4
  ·exact .inl ⟨e4, rfl⟩
  ·exact .inr (.inl ⟨e4, by rcases e with e | e; exact absurd e e4; exact e, rfl⟩)
 ·obtain ⟨r1, r2, r3, r4, _⟩ := rng hp dv (by omega)
  obtain ⟨s1, s2, s3, s4, _⟩ := rng hq dv' (by omega)
  have z0 : a3 * b3 = 0 := by
   rcases e with e | e
   ·rw [(nought dv e).1, Nat.zero_mul]
   ·rw [(nought dv' e).1, Nat.mul_zero]
  refine .inr (.inr ⟨fun e => ne (.inl e), fun e => ne (.inr e), r1, s1, r2, r3, s2, s3, (a4 + b4 - qz i).toNat, 0, ?_, ?_, by rw [z0, Nat.zero_mul], N0, ?_, ?_⟩)
  ·unfold qz; omega
  ·rcases e with e | e
   ·have := (nought dv e).2
    have hh : b4 ≤ 512 := by
     rcases c2 with h | h | h
     ·have := (nought dv' h).2; omega
     ·subst h; obtain ⟨n, u, f1, f2, f3, f4⟩ := dv_part i1 i2 dv'
      have m0 := (pt_rng (ok i i1 h14) (ok2 i i1 h14) (ok3 i i1 h14) hq dv').1
      have : 2 ^ (u + 4) < 2 ^ (8 * n) := Nat.lt_of_le_of_lt (Nat.le_mul_of_pos_left _ (by omega)) f4
      have := (Nat.pow_lt_pow_iff_right (by decide)).1 this
      omega
     ·exact absurd (.inr h) ne
    unfold qz; omega
   ·have := (nought dv' e).2
    have hh : a4 ≤ 512 := by
     rcases c1 with h | h | h
     ·have := (nought dv h).2; omega
     ·subst h; obtain ⟨n, u, f1, f2, f3, f4⟩ := dv_part i1 i2 dv
      have m0 := (pt_rng (ok i i1 h14) (ok2 i i1 h14) (ok3 i i1 h14) hp dv).1
      have : 2 ^ (u + 4) < 2 ^ (8 * n) := Nat.lt_of_le_of_lt (Nat.le_mul_of_pos_left _ (by omega)) f4
      have := (Nat.pow_lt_pow_iff_right (by decide)).1 this
      omega
     ·exact absurd (.inl h) ne
    unfold qz; omega
  ·rw [ng_zero, ite_self]
  ·show some (ng _ 0) = _
   rw [ng_zero, ite_self]
 ·have e2 : a1 = 2 := by
   rcases c1 with e | e | e
   ·exact absurd (.inl e) ne1
   ·exact e
   ·exact absurd (.inl e) ne
  have e2' : b1 = 2 := by
   rcases c2 with e | e | e
   ·exact absurd (.inr e) ne1
   ·exact e
   ·exact absurd (.inr e) ne
  subst e2 e2'
  obtain ⟨r1, r2, r3, _⟩ := rng hp dv (.inr rfl)
  obtain ⟨s1, s2, s3, _⟩ := rng hq dv' (.inr rfl)
  obtain ⟨k, hk1, hk2, hk3⟩ := prod_fit_ i1 i2 hp hq dv dv'
  have hPe : P = a3 * b3 * 2 ^ k := by rw [hP, show (a4 + b4 - qz i).toNat = k by omega, Nat.mod_eq_of_lt hk3]
  refine .inr (.inr ⟨by decide, by decide, r1, s1, r2, r3, s2, s3, k, P, hk1, hk2, hPe.symm, by rw [hPe]; exact hk3, ?_, ?_⟩)
  ·cases a2 <;> cases b2 <;> rfl
  ·have hPl : P < 2 ^ qS i := by rw [hPe]; exact hk3
   show some (ng _ _) = _
   cases a2 <;> cases b2 <;> simp [ng_ng hPl]
theorem rv_special {i : Nat} (i1 : 1 ≤ i) (i2 : i ≤ 4) {g : Bool} {X : Nat} {q : Int} (h : Rv (tb i) 1 g X q) : Rv (tb i) 2 g X q := by
 have k1 := (q_facts i1 i2).1
 rcases h with h | ⟨h, t, k, o, h1, h2, ⟨_, n, _⟩ | ⟨_, e⟩⟩
 ·exact .inl h
 ·exact absurd (.inl rfl) n
 ·exact .inr ⟨h, t, k, o, h1, h2, .inr ⟨fun ⟨_, n⟩ => n (.inr (.inl k1)), e⟩⟩
theorem five_uniq : ∀ {l m x y : Nat}, x * 5 ^ l = y * 5 ^ m → x % 5 ≠ 0 → y % 5 ≠ 0 → l = m ∧ x = y
 | 0, 0, x, y, h, _, _ => ⟨rfl, by simpa using h⟩
 | 0, m + 1, x, y, h, hx, _ => by rw [Nat.pow_succ, ← Nat.mul_assoc, Nat.pow_zero, Nat.mul_one] at h; omega
 | l + 1, 0, x, y, h, _, hy => by rw [Nat.pow_succ, ← Nat.mul_assoc, Nat.pow_zero, Nat.mul_one] at h; omega
 | l + 1, m + 1, x, y, h, hx, hy => by
  rw [Nat.pow_succ, Nat.pow_succ, ← Nat.mul_assoc, ← Nat.mul_assoc] at h
  obtain ⟨e, e'⟩ := five_uniq (l := l) (m := m) (Nat.eq_of_mul_eq_mul_right (by decide) h) hx hy
  exact ⟨by omega, e'⟩
theorem qv_red {i b : Nat} (hb : b < 2 ^ qS i) {s : Bool} {N : Nat} {t f : Int} (h : Qv i b s N t f) {a' : Nat} {t' f' : Int} (h0 : qm i b = 0 → a' = 0 ∧ t' = 0 ∧ f' = 0) (h1 : 0 < qm i b → ∃ k2 k5 : Nat, a' * 5 ^ k5 * 2 ^ k2 = qm i b ∧ a' % 2 ≠ 0 ∧ a' % 5 ≠ 0 ∧ t' = qz i + k2 ∧ f' = 0 + k5) :
  s = decide (qn i ≤ b) ∧ N = a' ∧ t = t' ∧ f = f' := by
 rcases h with ⟨rfl, rfl, rfl, rfl, rfl⟩ | ⟨hne, rfl, hN, hN5, lo, k, e, rfl, rfl⟩
 ·have : qm i 0 = 0 := by unfold qm; rw [if_pos (qn_pos i)]
  obtain ⟨rfl, rfl, rfl⟩ := h0 this
  exact ⟨(decide_eq_false (by have := qn_pos i; omega)).symm, rfl, rfl, rfl⟩
 ·obtain ⟨k2, k5, e1, e2, e3, rfl, rfl⟩ := h1 (qm_pos hb hne)
  rw [e] at e1
  have odd5 : ∀ {x k : Nat}, x % 2 ≠ 0 → (x * 5 ^ k) % 2 = 1 := by
   intro x k hx
   rw [Nat.mul_mod, Nat.pow_mod, show (5 : Nat) % 2 = 1 from rfl, Nat.one_pow, show x % 2 = 1 by omega]
  obtain ⟨h2, h3⟩ := odd_uniq (odd5 (k := k5) e2) (odd5 (k := k) (x := N) (by omega)) e1
  obtain ⟨h4, h5⟩ := five_uniq h2 e3 hN5
  subst h3 h4 h5
  exact ⟨rfl, rfl, by omega, by omega⟩
theorem ql_yes {i a' : Nat} {t' f' : Int} {a : Nat} {t f : Int} (i1 : 1 ≤ i) (i2 : i ≤ 4) (h : sz a t f = sz a' t' f') {k j A : Nat} (hk : t' - qz i = k) (hj : f' = j) (hA : a' * 5 ^ j * 2 ^ k = A) (s : Bool) :
  (A < qn i → Ql i s a t f (some (if s = true then ng (2 ^ qS i) A else A))) ∧ (¬ A < qn i → Ql i s a t f none) := by
 have hz := qz_rng i1 i2
 have e : sz a t f = sz A (qz i) 0 := by
  rw [h, ← hA, sz_mix _ _ _ _ (by omega), hj, show (k : Int) + qz i = t' by omega]
 exact ⟨fun hl => .inr ⟨A, e, hl, rfl⟩, fun hl => .inl ⟨rfl, fun B hB => by obtain rfl := sz_inj (e.symm.trans hB); exact hl⟩⟩
theorem sz_red {a a' k2 k5 : Nat} {t f : Int} (e : a' * 5 ^ k5 * 2 ^ k2 = a) (ht : -5000 ≤ t) (hf : -5000 ≤ f) : sz a t f = sz a' (t + k2) (f + k5) := by
 unfold sz ov bse
 rw [← e, show (f + (k5 : Int) - -5000).toNat = k5 + (f - -5000).toNat by omega, show (t + (k2 : Int) - -5000).toNat = k2 + (t - -5000).toNat by omega, Nat.pow_add, Nat.pow_add]
 generalize (5 : Nat) ^ (f - -5000).toNat = F
 generalize (5 : Nat) ^ k5 = G
 generalize (2 : Nat) ^ k2 = L
 generalize (2 : Nat) ^ (t - -5000).toNat = Z
 ac_rfl
theorem ql_no {i a a' k2 k5 : Nat} {t f : Int} (i1 : 1 ≤ i) (i2 : i ≤ 4) (e : a' * 5 ^ k5 * 2 ^ k2 = a) (h2 : a' % 2 ≠ 0) (h5 : a' % 5 ≠ 0) (ht : -600 ≤ t) (hf : -600 ≤ f) (h : t + k2 < qz i ∨ f + k5 < 0) (s : Bool) : Ql i s a t f none := by
 have hz := qz_rng i1 i2
 by_cases c : f + k5 < 0
 ·obtain ⟨k, rfl⟩ : ∃ k : Nat, f = -(k : Int) := ⟨(-f).toNat, by omega⟩
  refine ql_five (j := k5) (n := a' * 2 ^ k2) (by omega) (by omega) (by rw [← e]; ac_rfl) (fun e0 => ?_) s
  have d : 5 ∣ a' * 2 ^ k2 := Nat.dvd_of_mod_eq_zero e0
  have cp : Nat.Coprime 5 (2 ^ k2) := Nat.Coprime.pow_right k2 (by decide)
  have := cp.dvd_of_dvd_mul_right d
  omega
 ·obtain ⟨j, hj⟩ : ∃ j : Nat, f + k5 = j := ⟨(f + k5).toNat, by omega⟩
  have e1 : sz a t f = sz (a' * 5 ^ j * 2 ^ k2) t 0 := by
   rw [sz_red e (by omega) (by omega), sz_mix _ _ _ _ (by omega), hj, show (k2 : Int) + t = t + k2 by omega]
  refine ql_two (k := (qz i - t).toNat) e1 (by omega) (by omega) (j := k2) (by omega) ?_ s
  rw [Nat.mul_comm, Nat.testBit_two_pow_mul, Nat.sub_self, Nat.testBit_zero, Nat.mul_mod, Nat.pow_mod, show (5 : Nat) % 2 = 1 from rfl, Nat.one_pow, show a' % 2 = 1 by omega]
  simp
theorem qld_no {i : Nat} {s : Bool} {N : Nat} {t f : Int} {b b' : Nat} {x : Int} (h : Ql i s N t f none) (hx : Qld i s N t f b b' x) : b' = b ∧ x = 8 := by
 rcases hx with ⟨_, h1, h2⟩ | ⟨h1, h2⟩
 ·exact ⟨h1, h2⟩
 ·cases ql_uniq h h1
theorem qld_yes {i : Nat} {s : Bool} {N : Nat} {t f : Int} {b b' d : Nat} {x : Int} (h : Ql i s N t f (some d)) (hx : Qld i s N t f b b' x) : b' = d ∧ x = 0 := by
 rcases hx with ⟨h0, h1, h2⟩ | ⟨h1, h2⟩
 ·cases ql_uniq h h0
 ·exact ⟨(Option.some.inj (ql_uniq h h1)).symm, h2⟩
end M
end Go.Proofs.YtijpffgocookaaaGreatDoor
namespace Go.Proofs.YtijpffgocookaaaGreatDoor
open Go.RowKit Go.Shelf
structure Qk (i : Nat) (f : M.Fm) (S Z : Nat) : Prop where
 i1 : 1 ≤ i
 i2 : i ≤ 4
 tb : M.tb i = f
 s : M.qS i = S
 z : M.qz i = -(Z : Int)
 sw : 16 * f.W = (S : Int)
 zw : 8 * f.W = (Z : Int) + 16
 s1 : 128 ≤ S
 s2 : S ≤ 1024
 z1 : 48 ≤ Z
 z2 : Z ≤ 496
 k : f.k = 1
theorem Qk.ex {i : Nat} (i1 : 1 ≤ i) (i2 : i ≤ 4) : ∃ f S Z, Qk i f S Z := by
 obtain ⟨h1, h2, h3, h4, h5, h6, _⟩ := M.q_facts i1 i2
 exact ⟨_, _, (8 * (M.tb i).W - 16).toNat, i1, i2, rfl, rfl, by unfold M.qz; omega, by omega, by omega, h4, h5, by omega, by omega, h1⟩
theorem Nt.keep_ {w w' : World} {lo s n c a : Nat} {A : Option Addr} (h : Nt w lo s (.slice A n c) a) (hk : ∀ k o, 0 < n → A = some ⟨k, o, none⟩ → w'.heap[k]? = w.heap[k]?) : Nt w' lo s (.slice A n c) a := by
 obtain ⟨A', n', c', xs, e, h1, h2, h3, h4⟩ := h
 cases e
 refine ⟨A, n, c, xs, rfl, ⟨h1.num, h1.len, h1.small, h1.wds, fun h0 => ?_⟩, h2, h3, h4⟩
 obtain ⟨b, o, e, hlo, hc⟩ := h1.at_ h0
 have hbk := hk b o h0 e
 exact ⟨b, o, e, hlo, fun j hj => ⟨(World.cell?_of_block (w := w) (a := ⟨b, o + j, none⟩) hbk).trans (hc j hj).1, (World.frozen?_of_block (w := w) (a := ⟨b, o + j, none⟩) hbk).trans (hc j hj).2⟩⟩
theorem Nt.old_ {w : World} {lo s n c a : Nat} {A : Option Addr} (h : Nt w lo s (.slice A n c) a) (h0 : 0 < n) {k o : Nat} (e : A = some ⟨k, o, none⟩) : lo ≤ k ∧ k < w.heap.size := by
 obtain ⟨A', n', c', xs, e', h1, _⟩ := h
 cases e'
 obtain ⟨b, o', e', hlo, hc⟩ := h1.at_ h0
 have hlt := World.block_lt_of_cell? w _ (hc 0 h0).1
 rw [e] at e'
 injection e' with e'
 injection e' with e1 e2
 subst e1
 exact ⟨hlo, hlt⟩
theorem Nt.slq {w : World} {lo s : Nat} {v : Value} {a : Nat} (h : Nt w lo s v a) : ∃ A n c, v = .slice A n c ∧ Nt w lo s (.slice A n c) a := by
 obtain ⟨A, n, c, xs, rfl, h⟩ := h
 exact ⟨A, n, c, rfl, A, n, c, xs, rfl, h⟩
abbrev Qo (w : World) (p i : Nat) (f : M.Fm) (v : Value) : Prop := Ob w p 78 #[.int .i64 f.k, .int .i64 f.W, .int .i64 f.m, .int .i64 f.b, .int .u64 f.t, .int .u64 f.n, .int .u64 f.x, .int .i64 (i : Int), v]
def Iq (p i b : Nat) : Thg := fun w F => (1 ≤ i ∧ i ≤ 4 ∧ b < 2 ^ M.qS i) ∧ ∃ A n c, Qo w p i (M.tb i) (.slice A n c) ∧ Nt w 0 20 (.slice A n c) b ∧ (0 < n → ∀ b' o, A = some ⟨b', o, none⟩ → b' ≠ p) ∧ ∀ k, F k ↔ (k = p ∨ 0 < n ∧ ∃ o, A = some ⟨k, o, none⟩)
theorem Iq.kpt (p i b : Nat) : Kpt (Iq p i b) := by
 refine ⟨fun w F ⟨hi, A, n, c, h1, h2, h3, h4⟩ k hk => ?_, fun w w' F ⟨hi, A, n, c, h1, h2, h3, h4⟩ _ hb => ?_⟩
 ·rcases (h4 k).1 hk with rfl | ⟨h0, o, e⟩
  ·exact Ob.lt h1
  ·exact (h2.old_ h0 e).2
 ·exact ⟨hi, A, n, c, (hb p ((h4 p).2 (.inl rfl))).trans h1, h2.keep_ (fun k o h0 e => hb k ((h4 k).2 (.inr ⟨h0, o, e⟩))), h3, h4⟩
theorem Iq.open_ {p i b : Nat} {w : World} {F : Nat → Prop} (h : Iq p i b w F) : ∃ f S Z A n c, Qk i f S Z ∧ b < 2 ^ S ∧ Qo w p i f (.slice A n c) ∧ Nt w 0 20 (.slice A n c) b := by
 obtain ⟨⟨i1, i2, hb⟩, A, n, c, h1, h2, _⟩ := h
 obtain ⟨f, S, Z, K⟩ := Qk.ex i1 i2
 refine ⟨f, S, Z, A, n, c, K, K.s ▸ hb, ?_, h2⟩
 rw [← K.tb]; exact h1
theorem Iq.stay {p i b : Nat} {w w2 : World} {F : Nat → Prop} (h : Iq p i b w F) (u : Up w w2) : Iq p i b w2 F ∧ Fr F w w2 ∧ ∀ k, F k → F k ∨ w.heap.size ≤ k :=
 ⟨(Iq.kpt p i b).keep _ _ _ h (Up.size u) (fun k hk => Below.block u k ((Iq.kpt p i b).old _ _ h k hk)), Fr.of_up u, fun _ h => .inl h⟩
theorem Iq.put {p i b b' lo : Nat} {w w2 : World} {F : Nat → Prop} {B : Option Addr} {m d : Nat} (h : Iq p i b w F) (u : Up w w2) (N : Nt w2 lo 20 (.slice B m d) b') (hlo : w.heap.size ≤ lo) (hb : b' < 2 ^ M.qS i) :
  ∃ F', Iq p i b' (w2.setCell ⟨p, 8, none⟩ (.slice B m d)) F' ∧ Fr F w (w2.setCell ⟨p, 8, none⟩ (.slice B m d)) ∧ ∀ k, F' k → F k ∨ w.heap.size ≤ k := by
 obtain ⟨hi, A, n, c, h1, h2, h3, h4⟩ := h
 have hlt := Ob.lt h1
 have hp : F p := (h4 p).2 (.inl rfl)
 have hs : ∀ k, k ≠ p → (w2.setCell ⟨p, 8, none⟩ (.slice B m d)).heap[k]? = w2.heap[k]? := fun k hk => Below.heap_setCell w2 ⟨p, 8, none⟩ _ k hk
 have hne : 0 < m → ∀ b' o, B = some ⟨b', o, none⟩ → b' ≠ p := fun h0 b' o e => by have := (N.old_ h0 e).1; omega
 refine ⟨fun k => k = p ∨ 0 < m ∧ ∃ o, B = some ⟨k, o, none⟩, ⟨⟨hi.1, hi.2.1, hb⟩, B, m, d, ?_, ?_, hne, fun k => Iff.rfl⟩, ⟨u.os, u.tape, u.output, ?_, fun k hk hf => ?_⟩, ?_⟩
 ·exact (h1.up u).put 8 _
 ·exact (N.lower (Nat.zero_le _)).keep_ (fun k o h0 e => hs k (hne h0 k o e))
 ·have := Up.size u
  simpa [World.setCell] using this
 ·exact (hs k (fun e => hf (e ▸ hp))).trans (Below.block u k hk)
 ·rintro k (rfl | ⟨h0, o, e⟩)
  ·exact .inl hp
  ·exact .inr (by have := (N.old_ h0 e).1; omega)
theorem M.w_fit {a S k : Nat} (h : a < 2 ^ S) (hS : S ≤ 64 * k) : a < 18446744073709551616 ^ k := by
 rw [show (18446744073709551616 : Nat) = 2 ^ 64 by decide, ← Nat.pow_mul]
 exact Nat.lt_of_lt_of_le h (Nat.pow_le_pow_right (by decide) hS)
theorem Nt.fit20 {w : World} {lo s S a : Nat} {v : Value} (h : Nt w lo s v a) (ha : a < 2 ^ S) (hS : S ≤ 1024) : Nt w lo 20 v a := (h.fit (k := 16) (M.w_fit ha (by omega))).more (by decide)
end Go.Proofs.YtijpffgocookaaaGreatDoor
