/-
  Package quire's own steps, in numbers: products, sums, what is loaded and told. No program is named here.
-/
import Derived.Test.YtijpffgocookaaaGreatDoorQf
namespace Go.Proofs.YtijpffgocookaaaGreatDoor
open Go
set_option linter.unusedVariables false
set_option linter.unusedSimpArgs false

namespace M
/-- What is left of a sum of two that fit. -/
theorem fit_mod {a N : Nat} (h : a < 2 * N) : (if N ≤ a then a - N else a) = a % N := by
  by_cases c : N ≤ a
  · rw [if_pos c, Nat.mod_eq_sub_mod c, Nat.mod_eq_of_lt (by omega)]
  · rw [if_neg c, Nat.mod_eq_of_lt (by omega)]
theorem ng_fit {b N : Nat} (h0 : 0 < N) (h : b ≤ N) : (if N ≤ N - b then N - b - N else N - b) = ng N b := fit_mod (by omega)
theorem top_bit {i b : Nat} (i1 : 1 ≤ i) (i2 : i ≤ 4) (hb : b < 2 ^ qS i) : (((bits b : Nat) : Int) == (qS i : Int)) = decide (qn i ≤ b) := by
  have hq := q_facts i1 i2
  by_cases h : qn i ≤ b
  · rw [decide_eq_true h]
    have := bits_of (a := b) (b := qS i - 1) h (by rw [show qS i - 1 + 1 = qS i by omega]; exact hb)
    simp; omega
  · rw [decide_eq_false h]
    have := bits_le_of_lt (a := b) (k := qS i - 1) (by unfold qn at h; omega)
    simp; omega
theorem too_many {i b : Nat} (hb : b < 2 ^ qS i) : decide (((bits b : Nat) : Int) > (qS i : Int)) = false := by
  have := bits_le_of_lt hb
  exact decide_eq_false (by omega)
theorem too_many_ {i b : Nat} (hb : ¬ b < 2 ^ qS i) : decide (((bits b : Nat) : Int) > (qS i : Int)) = true := by
  have h := bits_lt b
  refine decide_eq_true ?_
  have : ¬ bits b ≤ qS i := fun e => hb (Nat.lt_of_lt_of_le h (Nat.pow_le_pow_right (by decide) e))
  omega
theorem few_bits {i A : Nat} (i1 : 1 ≤ i) (i2 : i ≤ 4) : decide (((bits A : Nat) : Int) < (qS i : Int)) = decide (A < qn i) := by
  have hq := q_facts i1 i2
  by_cases h : A < qn i
  · have := bits_le_of_lt (a := A) (k := qS i - 1) h
    rw [decide_eq_true h, decide_eq_true (by omega)]
  · have : ¬ bits A ≤ qS i - 1 := fun e => h (Nat.lt_of_lt_of_le (bits_lt A) (Nat.pow_le_pow_right (by decide) e))
    rw [decide_eq_false h, decide_eq_false (by omega)]
/-- A product's steps. -/
theorem dv_part {i p : Nat} (i1 : 1 ≤ i) (i2 : i ≤ 4) {g : Bool} {m : Nat} {z : Int} (h : Dv (tb i) p 2 g m z) : ∃ n u : Nat, (tb i).W = n + 1 ∧ 7 ≤ n ∧ z = (u : Int) + 4 - 4 * n ∧ m * 2 ^ (u + 4) < 2 ^ (8 * n) := by
  have hk := q_facts i1 i2
  rcases h with ⟨_, e, _⟩ | ⟨_, e, _⟩ | ⟨_, e, _⟩ | ⟨_, _, _, k, _, hm⟩
  · exact absurd e (by decide)
  · exact absurd e (by decide)
  · exact absurd e (by decide)
  · rcases hm with ⟨_, n, _, hW, h⟩ | ⟨e, _⟩ | ⟨e, _⟩ | ⟨e, _⟩
    · have a := isk_high h
      have b := isk_low h
      refine ⟨n, (z + 4 * (n : Int)).toNat - 4, by omega, by omega, by omega, ?_⟩
      rw [show (z + 4 * (n : Int)).toNat - 4 + 4 = (z + 4 * (n : Int)).toNat by omega]
      exact a
    · omega
    · omega
    · omega
theorem prod_fit_ {i p q : Nat} (i1 : 1 ≤ i) (i2 : i ≤ 4) (hp : (p : Int) ≤ msk (tb i)) (hq : (q : Int) ≤ msk (tb i)) {g g' : Bool} {m m' : Nat} {z z' : Int} (h : Dv (tb i) p 2 g m z) (h' : Dv (tb i) q 2 g' m' z') : ∃ k : Nat, z + z' - qz i = k ∧ k ≤ 2000 ∧ m * m' * 2 ^ k < 2 ^ qS i := by
  have hk := q_facts i1 i2
  obtain ⟨n, u, e1, e2, e3, e4⟩ := dv_part i1 i2 h
  obtain ⟨n', u', e1', e2', e3', e4'⟩ := dv_part i1 i2 h'
  obtain rfl : n = n' := by omega
  obtain ⟨m0, mb, zl, zh⟩ := pt_rng (ok i i1 (four14 i2)) (ok2 i i1 (four14 i2)) (ok3 i i1 (four14 i2)) hp h
  obtain ⟨m0', mb', zl', zh'⟩ := pt_rng (ok i i1 (four14 i2)) (ok2 i i1 (four14 i2)) (ok3 i i1 (four14 i2)) hq h'
  have hu : u + 4 < 8 * n := by
    have : 2 ^ (u + 4) < 2 ^ (8 * n) := Nat.lt_of_le_of_lt (Nat.le_mul_of_pos_left _ (by omega)) e4
    exact (Nat.pow_lt_pow_iff_right (by decide)).1 this
  have hu' : u' + 4 < 8 * n := by
    have : 2 ^ (u' + 4) < 2 ^ (8 * n) := Nat.lt_of_le_of_lt (Nat.le_mul_of_pos_left _ (by omega)) e4'
    exact (Nat.pow_lt_pow_iff_right (by decide)).1 this
  refine ⟨u + u', by unfold qz; omega, by omega, ?_⟩
  have hm := Nat.mul_lt_mul'' e4 e4'
  rw [← Nat.pow_add] at hm
  have e : m * 2 ^ (u + 4) * (m' * 2 ^ (u' + 4)) = m * m' * 2 ^ (u + u') * 2 ^ 8 := by
    rw [show (u + 4) = u + 4 from rfl, Nat.pow_add 2 u 4, Nat.pow_add 2 u' 4, Nat.pow_add 2 u u', show (2 : Nat) ^ 8 = 2 ^ 4 * 2 ^ 4 by decide]
    generalize (2 : Nat) ^ u = a
    generalize (2 : Nat) ^ u' = b
    generalize (2 : Nat) ^ 4 = c
    ac_rfl
  rw [e] at hm
  refine Nat.lt_of_le_of_lt (Nat.le_mul_of_pos_right _ (by decide)) (Nat.lt_of_lt_of_le hm (Nat.pow_le_pow_right (by decide) ?_))
  omega
/-- What is added of two patterns that are numbers: the steps of the product, with its sign. -/
theorem qi_steps {i p q : Nat} (i1 : 1 ≤ i) (i2 : i ≤ 4) {c c' : Int} {g g' : Bool} {m m' : Nat} {z z' : Int} (hp : (p : Int) ≤ msk (tb i)) (hq : (q : Int) ≤ msk (tb i)) (h : Dc (i : Int) p c g m z 0) (h' : Dc (i : Int) q c' g' m' z' 0) {o : Option Nat} (ho : Qi i p q o) :
    (c = 4 ∧ o = none) ∨ (c ≠ 4 ∧ c' = 4 ∧ o = none) ∨ (c ≠ 4 ∧ c' ≠ 4 ∧ m < 18446744073709551616 ∧ m' < 18446744073709551616 ∧ -3000 ≤ z ∧ z ≤ 3000 ∧ -3000 ≤ z' ∧ z' ≤ 3000 ∧ ∃ k P : Nat, z + z' - qz i = k ∧ k ≤ 2000 ∧ m * m' * 2 ^ k = P ∧ P < 2 ^ qS i ∧
      o = some (if (g != g') = true then ng (2 ^ qS i) P else P) ∧ tk i true o = some (if ((g != g') != true) = true then ng (2 ^ qS i) P else P)) := by
  have h14 := four14 i2
  have hk := q_facts i1 i2
  obtain ⟨j, e, _, _, _, dv⟩ := dc_have h
  obtain rfl : i = j := by omega
  obtain ⟨j, e', _, _, _, dv'⟩ := dc_have h'
  obtain rfl : i = j := by omega
  obtain ⟨a1, a2, a3, a4, b1, b2, b3, b4, da, db, ho⟩ := ho
  obtain ⟨rfl, rfl, rfl, rfl, _⟩ := dc_all da h
  obtain ⟨rfl, rfl, rfl, rfl, _⟩ := dc_all db h'
  have c1 := dv_four_ i1 i2 dv
  have c2 := dv_four_ i1 i2 dv'
  have nought : ∀ {p c : Int} {g : Bool} {m : Nat} {z : Int}, Dv (tb i) p c g m z → c = 1 → m = 0 ∧ z = 0 := by
    intro p c g m z d e
    rcases d with ⟨_, h, _⟩ | ⟨_, h, _⟩ | ⟨_, _, _, h⟩ | ⟨_, h, _⟩
    · omega
    · omega
    · exact h
    · omega
  have rng : ∀ {p : Nat} {c : Int} {g : Bool} {m : Nat} {z : Int}, (p : Int) ≤ msk (tb i) → Dv (tb i) p c g m z → c = 1 ∨ c = 2 → m < 18446744073709551616 ∧ -3000 ≤ z ∧ z ≤ 3000 ∧ (8 - 4 * (tb i).W ≤ z) ∧ z ≤ 3000 := by
    intro p c g m z hp d e
    rcases e with rfl | rfl
    · obtain ⟨rfl, rfl⟩ := nought d rfl
      exact ⟨by decide, by omega, by omega, by omega, by omega⟩
    · obtain ⟨_, r1, r2, r3⟩ := pt_rng (ok i i1 h14) (ok2 i i1 h14) (ok3 i i1 h14) hp d
      exact ⟨r1, r2, r3, dv_low i1 i2 d, r3⟩
  have N0 := Nat.two_pow_pos (qS i)
  rcases ho with ⟨rfl, e⟩ | ⟨rfl, ne, e⟩ | ⟨ne, ne1, P, hP, rfl⟩
  · by_cases e4 : a1 = 4
    · exact .inl ⟨e4, rfl⟩
    · exact .inr (.inl ⟨e4, by rcases e with e | e; exact absurd e e4; exact e, rfl⟩)
  · obtain ⟨r1, r2, r3, r4, _⟩ := rng hp dv (by omega)
    obtain ⟨s1, s2, s3, s4, _⟩ := rng hq dv' (by omega)
    have z0 : a3 * b3 = 0 := by
      rcases e with e | e
      · rw [(nought dv e).1, Nat.zero_mul]
      · rw [(nought dv' e).1, Nat.mul_zero]
    refine .inr (.inr ⟨fun e => ne (.inl e), fun e => ne (.inr e), r1, s1, r2, r3, s2, s3, (a4 + b4 - qz i).toNat, 0, ?_, ?_, by rw [z0, Nat.zero_mul], N0, ?_, ?_⟩)
    · unfold qz; omega
    · rcases e with e | e
      · have := (nought dv e).2
        have hh : b4 ≤ 512 := by
          rcases c2 with h | h | h
          · have := (nought dv' h).2; omega
          · subst h; obtain ⟨n, u, f1, f2, f3, f4⟩ := dv_part i1 i2 dv'
            have m0 := (pt_rng (ok i i1 h14) (ok2 i i1 h14) (ok3 i i1 h14) hq dv').1
            have : 2 ^ (u + 4) < 2 ^ (8 * n) := Nat.lt_of_le_of_lt (Nat.le_mul_of_pos_left _ (by omega)) f4
            have := (Nat.pow_lt_pow_iff_right (by decide)).1 this
            omega
          · exact absurd (.inr h) ne
        unfold qz; omega
      · have := (nought dv' e).2
        have hh : a4 ≤ 512 := by
          rcases c1 with h | h | h
          · have := (nought dv h).2; omega
          · subst h; obtain ⟨n, u, f1, f2, f3, f4⟩ := dv_part i1 i2 dv
            have m0 := (pt_rng (ok i i1 h14) (ok2 i i1 h14) (ok3 i i1 h14) hp dv).1
            have : 2 ^ (u + 4) < 2 ^ (8 * n) := Nat.lt_of_le_of_lt (Nat.le_mul_of_pos_left _ (by omega)) f4
            have := (Nat.pow_lt_pow_iff_right (by decide)).1 this
            omega
          · exact absurd (.inl h) ne
        unfold qz; omega
    · rw [ng_zero, ite_self]
    · show some (ng _ 0) = _
      rw [ng_zero, ite_self]
  · have e2 : a1 = 2 := by
      rcases c1 with e | e | e
      · exact absurd (.inl e) ne1
      · exact e
      · exact absurd (.inl e) ne
    have e2' : b1 = 2 := by
      rcases c2 with e | e | e
      · exact absurd (.inr e) ne1
      · exact e
      · exact absurd (.inr e) ne
    subst e2 e2'
    obtain ⟨r1, r2, r3, _⟩ := rng hp dv (.inr rfl)
    obtain ⟨s1, s2, s3, _⟩ := rng hq dv' (.inr rfl)
    obtain ⟨k, hk1, hk2, hk3⟩ := prod_fit_ i1 i2 hp hq dv dv'
    have hPe : P = a3 * b3 * 2 ^ k := by rw [hP, show (a4 + b4 - qz i).toNat = k by omega, Nat.mod_eq_of_lt hk3]
    refine .inr (.inr ⟨by decide, by decide, r1, s1, r2, r3, s2, s3, k, P, hk1, hk2, hPe.symm, by rw [hPe]; exact hk3, ?_, ?_⟩)
    · cases a2 <;> cases b2 <;> rfl
    · have hPl : P < 2 ^ qS i := by rw [hPe]; exact hk3
      show some (ng _ _) = _
      cases a2 <;> cases b2 <;> simp [ng_ng hPl]
theorem rv_special {i : Nat} (i1 : 1 ≤ i) (i2 : i ≤ 4) {g : Bool} {X : Nat} {q : Int} (h : Rv (tb i) 1 g X q) : Rv (tb i) 2 g X q := by
  have k1 := (q_facts i1 i2).1
  rcases h with h | ⟨h, t, k, o, h1, h2, ⟨_, n, _⟩ | ⟨_, e⟩⟩
  · exact .inl h
  · exact absurd (.inl rfl) n
  · exact .inr ⟨h, t, k, o, h1, h2, .inr ⟨fun ⟨_, n⟩ => n (.inr (.inl k1)), e⟩⟩
theorem five_uniq : ∀ {l m x y : Nat}, x * 5 ^ l = y * 5 ^ m → x % 5 ≠ 0 → y % 5 ≠ 0 → l = m ∧ x = y
  | 0, 0, x, y, h, _, _ => ⟨rfl, by simpa using h⟩
  | 0, m + 1, x, y, h, hx, _ => by rw [Nat.pow_succ, ← Nat.mul_assoc, Nat.pow_zero, Nat.mul_one] at h; omega
  | l + 1, 0, x, y, h, _, hy => by rw [Nat.pow_succ, ← Nat.mul_assoc, Nat.pow_zero, Nat.mul_one] at h; omega
  | l + 1, m + 1, x, y, h, hx, hy => by
    rw [Nat.pow_succ, Nat.pow_succ, ← Nat.mul_assoc, ← Nat.mul_assoc] at h
    obtain ⟨e, e'⟩ := five_uniq (l := l) (m := m) (Nat.eq_of_mul_eq_mul_right (by decide) h) hx hy
    exact ⟨by omega, e'⟩
/-- What is told, reduced, is what is held. -/
theorem qv_red {i b : Nat} (hb : b < 2 ^ qS i) {s : Bool} {N : Nat} {t f : Int} (h : Qv i b s N t f) {a' : Nat} {t' f' : Int} (h0 : qm i b = 0 → a' = 0 ∧ t' = 0 ∧ f' = 0) (h1 : 0 < qm i b → ∃ k2 k5 : Nat, a' * 5 ^ k5 * 2 ^ k2 = qm i b ∧ a' % 2 ≠ 0 ∧ a' % 5 ≠ 0 ∧ t' = qz i + k2 ∧ f' = 0 + k5) :
    s = decide (qn i ≤ b) ∧ N = a' ∧ t = t' ∧ f = f' := by
  rcases h with ⟨rfl, rfl, rfl, rfl, rfl⟩ | ⟨hne, rfl, hN, hN5, lo, k, e, rfl, rfl⟩
  · have : qm i 0 = 0 := by unfold qm; rw [if_pos (qn_pos i)]
    obtain ⟨rfl, rfl, rfl⟩ := h0 this
    exact ⟨(decide_eq_false (by have := qn_pos i; omega)).symm, rfl, rfl, rfl⟩
  · obtain ⟨k2, k5, e1, e2, e3, rfl, rfl⟩ := h1 (qm_pos hb hne)
    rw [e] at e1
    have odd5 : ∀ {x k : Nat}, x % 2 ≠ 0 → (x * 5 ^ k) % 2 = 1 := by
      intro x k hx
      rw [Nat.mul_mod, Nat.pow_mod, show (5 : Nat) % 2 = 1 from rfl, Nat.one_pow, show x % 2 = 1 by omega]
    obtain ⟨h2, h3⟩ := odd_uniq (odd5 (k := k5) e2) (odd5 (k := k) (x := N) (by omega)) e1
    obtain ⟨h4, h5⟩ := five_uniq h2 e3 hN5
    subst h3 h4 h5
    exact ⟨rfl, rfl, by omega, by omega⟩
/-- What is loaded: a whole number of steps. -/
theorem ql_yes {i a' : Nat} {t' f' : Int} {a : Nat} {t f : Int} (i1 : 1 ≤ i) (i2 : i ≤ 4) (h : sz a t f = sz a' t' f') {k j A : Nat} (hk : t' - qz i = k) (hj : f' = j) (hA : a' * 5 ^ j * 2 ^ k = A) (s : Bool) :
    (A < qn i → Ql i s a t f (some (if s = true then ng (2 ^ qS i) A else A))) ∧ (¬ A < qn i → Ql i s a t f none) := by
  have hz := qz_rng i1 i2
  have e : sz a t f = sz A (qz i) 0 := by
    rw [h, ← hA, sz_mix _ _ _ _ (by omega), hj, show (k : Int) + qz i = t' by omega]
  exact ⟨fun hl => .inr ⟨A, e, hl, rfl⟩, fun hl => .inl ⟨rfl, fun B hB => by obtain rfl := sz_inj (e.symm.trans hB); exact hl⟩⟩
theorem sz_red {a a' k2 k5 : Nat} {t f : Int} (e : a' * 5 ^ k5 * 2 ^ k2 = a) (ht : -5000 ≤ t) (hf : -5000 ≤ f) : sz a t f = sz a' (t + k2) (f + k5) := by
  unfold sz ov bse
  rw [← e, show (f + (k5 : Int) - -5000).toNat = k5 + (f - -5000).toNat by omega, show (t + (k2 : Int) - -5000).toNat = k2 + (t - -5000).toNat by omega, Nat.pow_add, Nat.pow_add]
  generalize (5 : Nat) ^ (f - -5000).toNat = F
  generalize (5 : Nat) ^ k5 = G
  generalize (2 : Nat) ^ k2 = L
  generalize (2 : Nat) ^ (t - -5000).toNat = Z
  ac_rfl
/-- .. and one that is none. -/
theorem ql_no {i a a' k2 k5 : Nat} {t f : Int} (i1 : 1 ≤ i) (i2 : i ≤ 4) (e : a' * 5 ^ k5 * 2 ^ k2 = a) (h2 : a' % 2 ≠ 0) (h5 : a' % 5 ≠ 0) (ht : -600 ≤ t) (hf : -600 ≤ f) (h : t + k2 < qz i ∨ f + k5 < 0) (s : Bool) : Ql i s a t f none := by
  have hz := qz_rng i1 i2
  by_cases c : f + k5 < 0
  · obtain ⟨k, rfl⟩ : ∃ k : Nat, f = -(k : Int) := ⟨(-f).toNat, by omega⟩
    refine ql_five (j := k5) (n := a' * 2 ^ k2) (by omega) (by omega) (by rw [← e]; ac_rfl) (fun e0 => ?_) s
    have d : 5 ∣ a' * 2 ^ k2 := Nat.dvd_of_mod_eq_zero e0
    have cp : Nat.Coprime 5 (2 ^ k2) := Nat.Coprime.pow_right k2 (by decide)
    have := cp.dvd_of_dvd_mul_right d
    omega
  · obtain ⟨j, hj⟩ : ∃ j : Nat, f + k5 = j := ⟨(f + k5).toNat, by omega⟩
    have e1 : sz a t f = sz (a' * 5 ^ j * 2 ^ k2) t 0 := by
      rw [sz_red e (by omega) (by omega), sz_mix _ _ _ _ (by omega), hj, show (k2 : Int) + t = t + k2 by omega]
    refine ql_two (k := (qz i - t).toNat) e1 (by omega) (by omega) (j := k2) (by omega) ?_ s
    rw [Nat.mul_comm, Nat.testBit_two_pow_mul, Nat.sub_self, Nat.testBit_zero, Nat.mul_mod, Nat.pow_mod, show (5 : Nat) % 2 = 1 from rfl, Nat.one_pow, show a' % 2 = 1 by omega]
    simp
theorem qld_no {i : Nat} {s : Bool} {N : Nat} {t f : Int} {b b' : Nat} {x : Int} (h : Ql i s N t f none) (hx : Qld i s N t f b b' x) : b' = b ∧ x = 8 := by
  rcases hx with ⟨_, h1, h2⟩ | ⟨h1, h2⟩
  · exact ⟨h1, h2⟩
  · cases ql_uniq h h1
theorem qld_yes {i : Nat} {s : Bool} {N : Nat} {t f : Int} {b b' d : Nat} {x : Int} (h : Ql i s N t f (some d)) (hx : Qld i s N t f b b' x) : b' = d ∧ x = 0 := by
  rcases hx with ⟨h0, h1, h2⟩ | ⟨h1, h2⟩
  · cases ql_uniq h h0
  · exact ⟨(Option.some.inj (ql_uniq h h1)).symm, h2⟩
end M
end Go.Proofs.YtijpffgocookaaaGreatDoor
