import Derived.Test.YtcmlanfgafancaaGreatDoorQDKs
set_option maxHeartbeats 32000000
set_option linter.unusedVariables false
set_option linter.unusedSimpArgs false
namespace Go.Proofs.YtcmlanfgafancaaGreatDoor
open Go.RowKit
namespace M
def Er (ii : Int) (p : Nat) (x : Int) : Prop := ∃ c g m z x', Dc ii p c g m z x' ∧ ((x' ≠ 0 ∧ x = x') ∨ (x' = 0 ∧ c ≠ 2 ∧ x = 5))
structure Sq (f : Fm) (p : Nat) (g : Bool) (m : Nat) (z : Int) (m1 : Nat) (z1 : Int) (m2 : Nat) (z2 : Int) (ev : Bool) (t : Int) (n : Nat) (k : Int) (d : Nat) (r : Int) (y D : Nat) (K : Int) : Prop where
 pt : Pt f p g m z m1 z1 m2 z2 ev
 tp : Tp (sz m z 0) t
 sh : Sh (In m1 z1 m2 z2 ev) (sz m z 0) t n k d r y
 dg : Dgs (sz y k k) D K
 small : D < 10 ^ n
def Shc (ii : Int) (p : Nat) (g : Bool) (D : Nat) (K x : Int) : Prop :=
 (x ≠ 0 ∧ Er ii p x ∧ g = false ∧ D = 0 ∧ K = 0) ∨
 (x = 0 ∧ ∃ i : Nat, ii = i ∧ 1 ≤ i ∧ i ≤ 14 ∧ ∃ m z m1 z1 m2 z2 ev t n k d r y, Sq (tb i) p g m z m1 z1 m2 z2 ev t n k d r y D K)
def Uc (ii : Int) (p : Nat) (g : Bool) (D : Nat) (K x : Int) : Prop :=
 (x ≠ 0 ∧ Er ii p x ∧ g = false ∧ D = 0 ∧ K = 0) ∨
 (x = 0 ∧ ∃ i : Nat, ii = i ∧ 1 ≤ i ∧ i ≤ 14 ∧ (p : Int) ≤ msk (tb i) ∧ ∃ m z, Dv (tb i) p 2 g m z ∧ Dgs (sz m z 0) D K)
theorem dv_uniq {f : Fm} {p c c' : Int} {g g' : Bool} {m m' : Nat} {z z' : Int} (h : Dv f p c g m z) (h' : Dv f p c' g' m' z') : c = c' := by
 rcases h with ⟨a, b, _⟩ | ⟨a, b, _⟩ | ⟨a, b, _⟩ | ⟨a, b, _⟩ <;> rcases h' with ⟨a', b', _⟩ | ⟨a', b', _⟩ | ⟨a', b', _⟩ | ⟨a', b', _⟩ <;> omega
theorem er_in {i p : Nat} (i1 : 1 ≤ i) (i2 : i ≤ 14) {x : Int} (h : Er (i : Int) p x) (hp : (p : Int) ≤ msk (tb i)) {g : Bool} {m : Nat} {z : Int} (hd : Dv (tb i) p 2 g m z) : False := by
 obtain ⟨c, g', m', z', x', hd', h⟩ := h
 rcases hd' with ⟨e, _⟩ | ⟨j, e, j1, j2, ⟨e2, _⟩ | ⟨_, e2, rfl⟩⟩
 ·omega
 ·obtain rfl : i = j := by omega
  omega
 ·obtain rfl : i = j := by omega
  have := dv_uniq hd e2
  rcases h with ⟨h1, _⟩ | ⟨_, h1, _⟩
  ·exact h1 rfl
  ·exact h1 this.symm
theorem er_or (ii : Int) (p : Nat) : (∃ x, x ≠ 0 ∧ Er ii p x) ∨ ∃ i : Nat, ii = i ∧ 1 ≤ i ∧ i ≤ 14 ∧ (p : Int) ≤ msk (tb i) ∧ ∃ g m z, Dv (tb i) p 2 g m z := by
 obtain ⟨c, g, m, z, x, h⟩ := dc_ex ii p
 by_cases x0 : x = 0
 ·by_cases c2 : c = 2
  ·subst c2 x0
   rcases h with ⟨_, e, _⟩ | ⟨i, rfl, i1, i2, ⟨_, e, _⟩ | ⟨hp, hd, _⟩⟩
   ·exact absurd e (by decide)
   ·exact absurd e (by decide)
   ·exact .inr ⟨i, rfl, i1, i2, hp, g, m, z, hd⟩
  ·exact .inl ⟨5, by decide, c, g, m, z, x, h, .inr ⟨x0, c2, rfl⟩⟩
 ·exact .inl ⟨x, x0, c, g, m, z, x, h, .inl ⟨x0, rfl⟩⟩
theorem sz_mono10 {i j : Int} (lo : -5000 ≤ i) (h : i ≤ j) : sz 1 i i ≤ sz 1 j j := by
 obtain ⟨n, rfl⟩ : ∃ n : Nat, j = i + n := ⟨(j - i).toNat, by omega⟩
 rw [sz_pow n i lo]
 exact Nat.le_mul_of_pos_left _ (Nat.pow_pos (by decide))
theorem sz_two3 (n : Nat) : (2 : Nat) ^ (3 * n) ≤ 10 ^ n := by
 rw [Nat.pow_mul]
 exact Nat.pow_le_pow_left (by decide) n
theorem ten_ex : ∀ (n a : Nat), a < 10 ^ n → 0 < a → ∃ l, l < n ∧ 10 ^ l ≤ a ∧ a < 10 ^ (l + 1) := by
 intro n
 induction n with
 | zero => intro a h h0; simp at h; omega
 | succ n ih =>
  intro a h h0
  by_cases e : a < 10 ^ n
  ·obtain ⟨l, h1, h2⟩ := ih a e h0
   exact ⟨l, by omega, h2⟩
  ·exact ⟨n, by omega, by omega, h⟩
theorem c_big : (18446744073709551616 : Nat) ≤ 10 ^ 20 := by decide
theorem tp_ex {m : Nat} {z : Int} (m0 : m ≠ 0) (hm : m < 18446744073709551616) (hz : -3000 ≤ z ∧ z ≤ 3000) : ∃ t, Tp (sz m z 0) t := by
 have cb := c_big
 rcases Int.le_total 0 z with c | c
 ·obtain ⟨n, rfl⟩ : ∃ n : Nat, z = n := ⟨z.toNat, by omega⟩
  obtain ⟨b, hb⟩ : ∃ b, b = n / 3 + 1 := ⟨_, rfl⟩
  have e1 : m * 2 ^ n < 10 ^ (20 + b) := by
   have a1 : 2 ^ n ≤ 2 ^ (3 * b) := p2le (by omega)
   have a2 := sz_two3 b
   have a3 : m * 2 ^ n ≤ m * 10 ^ b := Nat.mul_le_mul_left m (by omega)
   have a4 : m * 10 ^ b < 10 ^ 20 * 10 ^ b := Nat.mul_lt_mul_of_pos_right (by omega) (Nat.pow_pos (by decide))
   rw [← Nat.pow_add] at a4
   omega
  obtain ⟨l, h1, h2, h3⟩ := ten_ex _ _ e1 (Nat.mul_pos (by omega) (p2 n))
  have es : sz m n 0 = (m * 2 ^ n) * sz 1 0 0 := by
   have := sz_two_ m n 0 (by decide)
   rw [show (0 : Int) + (n : Int) = n by omega] at this
   rw [← this, sz_one (m * 2 ^ n)]
  refine ⟨l, ?_, ?_, by omega, by omega⟩
  ·rw [es, show (l : Int) = 0 + l by omega, sz_pow l 0 (by decide)]
   exact Nat.mul_le_mul_right _ h2
  ·rw [es, show (l : Int) + 1 = 0 + ((l + 1 : Nat) : Int) by omega, sz_pow (l + 1) 0 (by decide)]
   exact Nat.mul_lt_mul_of_pos_right h3 (sz_pos 0 0)
 ·obtain ⟨n, rfl⟩ : ∃ n : Nat, z = -(n : Int) := ⟨(-z).toNat, by omega⟩
  have e1 : m * 5 ^ n < 10 ^ (20 + n) := by
   have a2 : (5 : Nat) ^ n ≤ 10 ^ n := Nat.pow_le_pow_left (by decide) n
   have a3 : m * 5 ^ n ≤ m * 10 ^ n := Nat.mul_le_mul_left m a2
   have a4 : m * 10 ^ n < 10 ^ 20 * 10 ^ n := Nat.mul_lt_mul_of_pos_right (by omega) (Nat.pow_pos (by decide))
   rw [← Nat.pow_add] at a4
   omega
  obtain ⟨l, h1, h2, h3⟩ := ten_ex _ _ e1 (Nat.mul_pos (by omega) (Nat.pow_pos (by decide)))
  have es : sz m (-(n : Int)) 0 = (m * 5 ^ n) * sz 1 (-(n : Int)) (-(n : Int)) := by rw [← sz_five_ m n (by omega), sz_one (m * 5 ^ n)]
  refine ⟨-(n : Int) + l, ?_, ?_, by omega, by omega⟩
  ·rw [es, sz_pow l _ (by omega)]
   exact Nat.mul_le_mul_right _ h2
  ·rw [es, show -(n : Int) + (l : Int) + 1 = -(n : Int) + ((l + 1 : Nat) : Int) by omega, sz_pow (l + 1) _ (by omega)]
   exact Nat.mul_lt_mul_of_pos_right h3 (sz_pos _ _)
theorem sq_ex {f : Fm} (ok : Ok f) (ok2 : Ok2 f) (ok3 : Ok3 f) {p : Nat} {g : Bool} {m : Nat} {z : Int} {m1 : Nat} {z1 : Int} {m2 : Nat} {z2 : Int} {ev : Bool} (h : Pt f p g m z m1 z1 m2 z2 ev) : ∃ t n k d r y D K, Sq f p g m z m1 z1 m2 z2 ev t n k d r y D K := by
 obtain ⟨m0, hm, hz⟩ := pt_rng ok ok2 ok3 h.fit h.dv
 obtain ⟨t, ht⟩ := tp_ex m0 hm hz
 have tlo := ht.lo
 have thi := ht.hi
 obtain ⟨n, k, d, r, y, hs⟩ := sh_ex (In m1 z1 m2 z2 ev) (sz m z 0) t (fun k d hk h1 h2 => by
  have d0 : d ≠ 0 := by
   intro e
   subst e
   have a := sz_mono10 (i := k) (j := t) (by omega) (by omega)
   have b := ht.le
   rw [Nat.zero_add] at h2
   omega
  refine (in_rv ok ok2 ok3 h (fun e => d0 (sz_zero.1 e))).2 (rv_near ok ok2 ok3 h.fit h.dv 2 (fun _ => near_21 (by omega) hk h1 h2 ht.le) (fun e => ?_))
  have : sz m z 0 = sz d k k := by omega
  rw [this, Nat.sub_self]
  exact Nat.zero_le _)
 have hk := hs.kn
 have n1 := hs.n1
 have n21 := hs.n21
 obtain ⟨l1, l2⟩ := fl_len (by omega) hs.kn hs.n1 hs.fl.le hs.fl.lt ht.le ht.lt
 obtain ⟨y0, y1, y2⟩ := y_rng hs.n21 l1 l2 (ch_has hs.ch).2
 obtain ⟨D, K, hd, hD⟩ := dgs_short (k := k) hs.n1 (by omega) y0 y1 y2
 exact ⟨t, n, k, d, r, y, D, K, h, ht, hs, hd, hD⟩
theorem shc_ex (ii : Int) (p : Nat) : ∃ g D K x, Shc ii p g D K x := by
 rcases er_or ii p with ⟨x, x0, h⟩ | ⟨i, rfl, i1, i2, hp, g, m, z, hd⟩
 ·exact ⟨false, 0, 0, x, .inl ⟨x0, h, rfl, rfl, rfl⟩⟩
 ·obtain ⟨m1, z1, m2, z2, ev, hpt⟩ := pt_ex (ok i i1 i2) (ok2 i i1 i2) (ok3 i i1 i2) hp hd
  obtain ⟨t, n, k, d, r, y, D, K, h⟩ := sq_ex (ok i i1 i2) (ok2 i i1 i2) (ok3 i i1 i2) hpt
  exact ⟨g, D, K, 0, .inr ⟨rfl, i, rfl, i1, i2, m, z, m1, z1, m2, z2, ev, t, n, k, d, r, y, h⟩⟩
theorem uc_ex (ii : Int) (p : Nat) : ∃ g D K x, Uc ii p g D K x := by
 rcases er_or ii p with ⟨x, x0, h⟩ | ⟨i, rfl, i1, i2, hp, g, m, z, hd⟩
 ·exact ⟨false, 0, 0, x, .inl ⟨x0, h, rfl, rfl, rfl⟩⟩
 ·obtain ⟨m0, hm, hz⟩ := pt_rng (ok i i1 i2) (ok2 i i1 i2) (ok3 i i1 i2) hp hd
  obtain ⟨D, K, h⟩ := dgs_full m0 hm hz
  exact ⟨g, D, K, 0, .inr ⟨rfl, i, rfl, i1, i2, hp, m, z, hd, h⟩⟩
end M
end Go.Proofs.YtcmlanfgafancaaGreatDoor
