/-
  Layer 11 in numbers: what Short and Full come to; the laws of layer 11, as laws of numbers. No program is named here.
-/
import Derived.Test.YtpbdiolfdpfmdaaGreatDoorKs
namespace Go.Proofs.YtpbdiolfdpfmdaaGreatDoor
open Go.RowKit
set_option linter.unusedSimpArgs false
set_option linter.unusedVariables false

namespace M
/-- What is wrong with a pattern that has no digits. -/
def Er (ii : Int) (p : Nat) (x : Int) : Prop := ∃ c g m z x', Dc ii p c g m z x' ∧ ((x' ≠ 0 ∧ x = x') ∨ (x' = 0 ∧ c ≠ 2 ∧ x = 5))
/-- What Short finds of a pattern that is a number, not nought. -/
structure Sq (f : Fm) (p : Nat) (g : Bool) (m : Nat) (z : Int) (m1 : Nat) (z1 : Int) (m2 : Nat) (z2 : Int) (ev : Bool) (t : Int) (n : Nat) (k : Int) (d : Nat) (r : Int) (y D : Nat) (K : Int) : Prop where
  pt : Pt f p g m z m1 z1 m2 z2 ev
  tp : Tp (sz m z 0) t
  sh : Sh (In m1 z1 m2 z2 ev) (sz m z 0) t n k d r y
  dg : Dgs (sz y k k) D K
  small : D < 10 ^ n
/-- What Short comes to. -/
def Shc (ii : Int) (p : Nat) (g : Bool) (D : Nat) (K x : Int) : Prop :=
  (x ≠ 0 ∧ Er ii p x ∧ g = false ∧ D = 0 ∧ K = 0) ∨
  (x = 0 ∧ ∃ i : Nat, ii = i ∧ 1 ≤ i ∧ i ≤ 14 ∧ ∃ m z m1 z1 m2 z2 ev t n k d r y, Sq (tb i) p g m z m1 z1 m2 z2 ev t n k d r y D K)
/-- What Full comes to. -/
def Uc (ii : Int) (p : Nat) (g : Bool) (D : Nat) (K x : Int) : Prop :=
  (x ≠ 0 ∧ Er ii p x ∧ g = false ∧ D = 0 ∧ K = 0) ∨
  (x = 0 ∧ ∃ i : Nat, ii = i ∧ 1 ≤ i ∧ i ≤ 14 ∧ (p : Int) ≤ msk (tb i) ∧ ∃ m z, Dv (tb i) p 2 g m z ∧ Dgs (sz m z 0) D K)
theorem er_nz {ii : Int} {p : Nat} {x : Int} (h : Er ii p x) : x ≠ 0 ∧ 1 ≤ x ∧ x ≤ 5 := by
  obtain ⟨c, g, m, z, x', hd, ⟨h1, h2⟩ | ⟨_, _, rfl⟩⟩ := h
  · rcases hd with ⟨_, _, _, _, _, rfl⟩ | ⟨_, _, _, _, ⟨_, _, _, _, _, rfl⟩ | ⟨_, _, rfl⟩⟩ <;> omega
  · omega
theorem dv_uniq {f : Fm} {p c c' : Int} {g g' : Bool} {m m' : Nat} {z z' : Int} (h : Dv f p c g m z) (h' : Dv f p c' g' m' z') : c = c' := by
  rcases h with ⟨a, b, _⟩ | ⟨a, b, _⟩ | ⟨a, b, _⟩ | ⟨a, b, _⟩ <;> rcases h' with ⟨a', b', _⟩ | ⟨a', b', _⟩ | ⟨a', b', _⟩ | ⟨a', b', _⟩ <;> omega
/-- What is a number has no error. -/
theorem er_in {i p : Nat} (i1 : 1 ≤ i) (i2 : i ≤ 14) {x : Int} (h : Er (i : Int) p x) (hp : (p : Int) ≤ msk (tb i)) {g : Bool} {m : Nat} {z : Int} (hd : Dv (tb i) p 2 g m z) : False := by
  obtain ⟨c, g', m', z', x', hd', h⟩ := h
  rcases hd' with ⟨e, _⟩ | ⟨j, e, j1, j2, ⟨e2, _⟩ | ⟨_, e2, rfl⟩⟩
  · omega
  · obtain rfl : i = j := by omega
    omega
  · obtain rfl : i = j := by omega
    have := dv_uniq hd e2
    rcases h with ⟨h1, _⟩ | ⟨_, h1, _⟩
    · exact h1 rfl
    · exact h1 this.symm
theorem er_or (ii : Int) (p : Nat) : (∃ x, x ≠ 0 ∧ Er ii p x) ∨ ∃ i : Nat, ii = i ∧ 1 ≤ i ∧ i ≤ 14 ∧ (p : Int) ≤ msk (tb i) ∧ ∃ g m z, Dv (tb i) p 2 g m z := by
  obtain ⟨c, g, m, z, x, h⟩ := dc_ex ii p
  by_cases x0 : x = 0
  · by_cases c2 : c = 2
    · subst c2 x0
      rcases h with ⟨_, e, _⟩ | ⟨i, rfl, i1, i2, ⟨_, e, _⟩ | ⟨hp, hd, _⟩⟩
      · exact absurd e (by decide)
      · exact absurd e (by decide)
      · exact .inr ⟨i, rfl, i1, i2, hp, g, m, z, hd⟩
    · exact .inl ⟨5, by decide, c, g, m, z, x, h, .inr ⟨x0, c2, rfl⟩⟩
  · exact .inl ⟨x, x0, c, g, m, z, x, h, .inl ⟨x0, rfl⟩⟩
theorem sz_mono10 {i j : Int} (lo : -5000 ≤ i) (h : i ≤ j) : sz 1 i i ≤ sz 1 j j := by
  obtain ⟨n, rfl⟩ : ∃ n : Nat, j = i + n := ⟨(j - i).toNat, by omega⟩
  rw [sz_pow n i lo]
  exact Nat.le_mul_of_pos_left _ (Nat.pow_pos (by decide))
/-- The power of ten of a size. -/
theorem sz_two3 (n : Nat) : (2 : Nat) ^ (3 * n) ≤ 10 ^ n := by
  rw [Nat.pow_mul]
  exact Nat.pow_le_pow_left (by decide) n
theorem ten_ex : ∀ (n a : Nat), a < 10 ^ n → 0 < a → ∃ l, l < n ∧ 10 ^ l ≤ a ∧ a < 10 ^ (l + 1) := by
  intro n
  induction n with
  | zero => intro a h h0; simp at h; omega
  | succ n ih =>
    intro a h h0
    by_cases e : a < 10 ^ n
    · obtain ⟨l, h1, h2⟩ := ih a e h0
      exact ⟨l, by omega, h2⟩
    · exact ⟨n, by omega, by omega, h⟩
theorem c_big : (18446744073709551616 : Nat) ≤ 10 ^ 20 := by decide
theorem tp_ex {m : Nat} {z : Int} (m0 : m ≠ 0) (hm : m < 18446744073709551616) (hz : -3000 ≤ z ∧ z ≤ 3000) : ∃ t, Tp (sz m z 0) t := by
  have cb := c_big
  rcases Int.le_total 0 z with c | c
  · obtain ⟨n, rfl⟩ : ∃ n : Nat, z = n := ⟨z.toNat, by omega⟩
    obtain ⟨b, hb⟩ : ∃ b, b = n / 3 + 1 := ⟨_, rfl⟩
    have e1 : m * 2 ^ n < 10 ^ (20 + b) := by
      have a1 : 2 ^ n ≤ 2 ^ (3 * b) := p2le (by omega)
      have a2 := sz_two3 b
      have a3 : m * 2 ^ n ≤ m * 10 ^ b := Nat.mul_le_mul_left m (by omega)
      have a4 : m * 10 ^ b < 10 ^ 20 * 10 ^ b := Nat.mul_lt_mul_of_pos_right (by omega) (Nat.pow_pos (by decide))
      rw [← Nat.pow_add] at a4
      omega
    obtain ⟨l, h1, h2, h3⟩ := ten_ex _ _ e1 (Nat.mul_pos (by omega) (p2 n))
    have es : sz m n 0 = (m * 2 ^ n) * sz 1 0 0 := by
      have := sz_two_ m n 0 (by decide)
      rw [show (0 : Int) + (n : Int) = n by omega] at this
      rw [← this, sz_one (m * 2 ^ n)]
    refine ⟨l, ?_, ?_, by omega, by omega⟩
    · rw [es, show (l : Int) = 0 + l by omega, sz_pow l 0 (by decide)]
      exact Nat.mul_le_mul_right _ h2
    · rw [es, show (l : Int) + 1 = 0 + ((l + 1 : Nat) : Int) by omega, sz_pow (l + 1) 0 (by decide)]
      exact Nat.mul_lt_mul_of_pos_right h3 (sz_pos 0 0)
  · obtain ⟨n, rfl⟩ : ∃ n : Nat, z = -(n : Int) := ⟨(-z).toNat, by omega⟩
    have e1 : m * 5 ^ n < 10 ^ (20 + n) := by
      have a2 : (5 : Nat) ^ n ≤ 10 ^ n := Nat.pow_le_pow_left (by decide) n
      have a3 : m * 5 ^ n ≤ m * 10 ^ n := Nat.mul_le_mul_left m a2
      have a4 : m * 10 ^ n < 10 ^ 20 * 10 ^ n := Nat.mul_lt_mul_of_pos_right (by omega) (Nat.pow_pos (by decide))
      rw [← Nat.pow_add] at a4
      omega
    obtain ⟨l, h1, h2, h3⟩ := ten_ex _ _ e1 (Nat.mul_pos (by omega) (Nat.pow_pos (by decide)))
    have es : sz m (-(n : Int)) 0 = (m * 5 ^ n) * sz 1 (-(n : Int)) (-(n : Int)) := by rw [← sz_five_ m n (by omega), sz_one (m * 5 ^ n)]
    refine ⟨-(n : Int) + l, ?_, ?_, by omega, by omega⟩
    · rw [es, sz_pow l _ (by omega)]
      exact Nat.mul_le_mul_right _ h2
    · rw [es, show -(n : Int) + (l : Int) + 1 = -(n : Int) + ((l + 1 : Nat) : Int) by omega, sz_pow (l + 1) _ (by omega)]
      exact Nat.mul_lt_mul_of_pos_right h3 (sz_pos _ _)
theorem tp_uniq {X : Nat} {t t' : Int} (h : Tp X t) (h' : Tp X t') : t = t' := by
  have a1 := h.le
  have a2 := h.lt
  have a3 := h.lo
  have b1 := h'.le
  have b2 := h'.lt
  have b3 := h'.lo
  rcases (show t < t' ∨ t = t' ∨ t' < t by omega) with c | c | c
  · have := sz_mono10 (i := t + 1) (j := t') (by omega) (by omega)
    omega
  · exact c
  · have := sz_mono10 (i := t' + 1) (j := t) (by omega) (by omega)
    omega
/-- Of each number there are shortest digits. -/
theorem sq_ex {f : Fm} (ok : Ok f) (ok2 : Ok2 f) (ok3 : Ok3 f) {p : Nat} {g : Bool} {m : Nat} {z : Int} {m1 : Nat} {z1 : Int} {m2 : Nat} {z2 : Int} {ev : Bool} (h : Pt f p g m z m1 z1 m2 z2 ev) : ∃ t n k d r y D K, Sq f p g m z m1 z1 m2 z2 ev t n k d r y D K := by
  obtain ⟨m0, hm, hz⟩ := pt_rng ok ok2 ok3 h.fit h.dv
  obtain ⟨t, ht⟩ := tp_ex m0 hm hz
  have tlo := ht.lo
  have thi := ht.hi
  obtain ⟨n, k, d, r, y, hs⟩ := sh_ex (In m1 z1 m2 z2 ev) (sz m z 0) t (fun k d hk h1 h2 => by
    have d0 : d ≠ 0 := by
      intro e
      subst e
      have a := sz_mono10 (i := k) (j := t) (by omega) (by omega)
      have b := ht.le
      rw [Nat.zero_add] at h2
      omega
    refine (in_rv ok ok2 ok3 h (fun e => d0 (sz_zero.1 e))).2 (rv_near ok ok2 ok3 h.fit h.dv 2 (fun _ => near_21 (by omega) hk h1 h2 ht.le) (fun e => ?_))
    have : sz m z 0 = sz d k k := by omega
    rw [this, Nat.sub_self]
    exact Nat.zero_le _)
  have hk := hs.kn
  have n1 := hs.n1
  have n21 := hs.n21
  obtain ⟨l1, l2⟩ := fl_len (by omega) hs.kn hs.n1 hs.fl.le hs.fl.lt ht.le ht.lt
  obtain ⟨y0, y1, y2⟩ := y_rng hs.n21 l1 l2 (ch_has hs.ch).2
  obtain ⟨D, K, hd, hD⟩ := dgs_short (k := k) hs.n1 (by omega) y0 y1 y2
  exact ⟨t, n, k, d, r, y, D, K, h, ht, hs, hd, hD⟩
theorem shc_ex (ii : Int) (p : Nat) : ∃ g D K x, Shc ii p g D K x := by
  rcases er_or ii p with ⟨x, x0, h⟩ | ⟨i, rfl, i1, i2, hp, g, m, z, hd⟩
  · exact ⟨false, 0, 0, x, .inl ⟨x0, h, rfl, rfl, rfl⟩⟩
  · obtain ⟨m1, z1, m2, z2, ev, hpt⟩ := pt_ex (ok i i1 i2) (ok2 i i1 i2) (ok3 i i1 i2) hp hd
    obtain ⟨t, n, k, d, r, y, D, K, h⟩ := sq_ex (ok i i1 i2) (ok2 i i1 i2) (ok3 i i1 i2) hpt
    exact ⟨g, D, K, 0, .inr ⟨rfl, i, rfl, i1, i2, m, z, m1, z1, m2, z2, ev, t, n, k, d, r, y, h⟩⟩
theorem uc_ex (ii : Int) (p : Nat) : ∃ g D K x, Uc ii p g D K x := by
  rcases er_or ii p with ⟨x, x0, h⟩ | ⟨i, rfl, i1, i2, hp, g, m, z, hd⟩
  · exact ⟨false, 0, 0, x, .inl ⟨x0, h, rfl, rfl, rfl⟩⟩
  · obtain ⟨m0, hm, hz⟩ := pt_rng (ok i i1 i2) (ok2 i i1 i2) (ok3 i i1 i2) hp hd
    obtain ⟨D, K, h⟩ := dgs_full m0 hm hz
    exact ⟨g, D, K, 0, .inr ⟨rfl, i, rfl, i1, i2, hp, m, z, hd, h⟩⟩
/-- What Short and Full tell that is wrong is the same. -/
theorem dc_uniq {ii : Int} {p : Nat} {c c' : Int} {g g' : Bool} {m m' : Nat} {z z' x x' : Int} (h : Dc ii p c g m z x) (h' : Dc ii p c' g' m' z' x') : x = x' ∧ c = c' := by
  rcases h with ⟨a, b, _, _, _, e⟩ | ⟨i, a, i1, i2, ⟨b, c0, _, _, _, e⟩ | ⟨b, d, e⟩⟩ <;> rcases h' with ⟨a', b', _, _, _, e'⟩ | ⟨i', a', i1', i2', ⟨b', c0', _, _, _, e'⟩ | ⟨b', d', e'⟩⟩ <;> first | (exact ⟨by omega, by omega⟩) | (exfalso; omega) | (obtain rfl : i = i' := (by omega); first | exact ⟨by omega, by omega⟩ | (exfalso; omega) | exact ⟨by omega, dv_uniq d d'⟩)
theorem er_uniq {ii : Int} {p : Nat} {x x' : Int} (h : Er ii p x) (h' : Er ii p x') : x = x' := by
  obtain ⟨c, g, m, z, y, hd, e⟩ := h
  obtain ⟨c', g', m', z', y', hd', e'⟩ := h'
  obtain ⟨rfl, rfl⟩ := dc_uniq hd hd'
  omega
theorem shc_uc {ii : Int} {p : Nat} {g g' : Bool} {D D' : Nat} {K K' x x' : Int} (h : Shc ii p g D K x) (h' : Uc ii p g' D' K' x') : x = x' ∧ g = g' := by
  rcases h with ⟨x0, he, hg, _⟩ | ⟨x0, i, rfl, i1, i2, m, z, m1, z1, m2, z2, ev, t, n, k, d, r, y, h⟩
  · rcases h' with ⟨x0', he', hg', _⟩ | ⟨x0', i, rfl, i1, i2, hp, m, z, hd, _⟩
    · exact ⟨er_uniq he he', hg.trans hg'.symm⟩
    · exact (er_in i1 i2 he hp hd).elim
  · rcases h' with ⟨x0', he', _⟩ | ⟨x0', i', e, i1', i2', hp, m', z', hd, _⟩
    · exact (er_in i1 i2 he' h.pt.fit h.pt.dv).elim
    · obtain rfl : i = i' := by omega
      refine ⟨by omega, ?_⟩
      have a := (pt_key (ok i i1 i2) (ok2 i i1 i2) h.pt.fit h.pt.dv).2.1
      have b := (pt_key (ok i i1 i2) (ok2 i i1 i2) hp hd).2.1
      exact a.trans b.symm
/-! The laws. -/
/-- A number of at most n digits stands not between the two beside a size. -/
theorem beside {X O d n : Nat} {K k t : Int} (hk : -5000 ≤ k) (hK : -5000 ≤ K) (hO : O ≤ 10 ^ n) (hn : k + n = t + 1) (hn1 : 1 ≤ n) (h1 : sz d k k ≤ X) (h2 : X < sz (d + 1) k k) (h3 : sz 1 t t ≤ X) :
    (sz O K K ≤ X → sz O K K ≤ sz d k k) ∧ (X < sz O K K → sz (d + 1) k k ≤ sz O K K) := by
  rcases Nat.eq_or_lt_of_le hO with e | e
  · have e2 : sz O K K = sz 1 (K + n) (K + n) := by rw [sz_pow n K hK, sz_one O, e]
    rw [e2]
    exact next_two hk (by omega) (Nat.one_lt_pow (by omega) (by decide)) hn hn1 h1 h2 h3
  · exact next_two hk hK e hn hn1 h1 h2 h3
theorem near_up {I : Nat → Prop} (conv : ∀ {X Y Z : Nat}, I X → I Z → X ≤ Y → Y ≤ Z → I Y) {X : Nat} {t k K : Int} {n d y D : Nat} {r : Int} (hI : I X) (ht : Tp X t) (h : Sh I X t n k d r y) (hd : Dgs (sz y k k) D K) (hD : D < 10 ^ n)
    (ho : I (sz (D + 1) K K)) : 2 * X ≤ sz D K K + sz (D + 1) K K := by
  have k0 : -5000 ≤ k := by have := ht.lo; have := h.kn; have := h.n21; omega
  have hK := hd.lo
  obtain ⟨b1, b2⟩ := beside (O := D + 1) (K := K) k0 (by omega) (by omega) h.kn h.n1 h.fl.le h.fl.lt ht.le
  have e := hd.eq
  have s1 := sz_succ D K
  have s2 := sz_succ d k
  have u1 := sz_pos K K
  have u2 := sz_pos k k
  have l1 := h.fl.le
  have l2 := h.fl.lt
  have f1 := h.fl.z0
  have f2 := h.fl.z1
  have f3 := h.fl.z2
  have f4 := h.fl.rng
  have yd : sz d k k ≤ sz y k k := by
    rcases (ch_has h.ch).2 with e | e
    · rw [e]; exact Nat.le_refl _
    · rw [e]; omega
  have hV : X < sz (D + 1) K K := by
    rcases Nat.lt_or_ge X (sz (D + 1) K K) with c | c
    · exact c
    · have := b1 c
      omega
  have hH := b2 hV
  have IH : I (sz (d + 1) k k) := conv hI ho (Nat.le_of_lt l2) hH
  rcases h.ch with ⟨s, ⟨a, rfl⟩ | ⟨b, a, rfl⟩⟩ | ⟨s, ⟨a, rfl⟩ | ⟨b, a, rfl⟩⟩
  · omega
  · exact absurd IH b
  · rcases f4 with f | f | f | f
    · have := f1 f; omega
    · have := f2 f; omega
    · have := f3 f; omega
    · omega
  · omega
theorem near_down {I : Nat → Prop} (conv : ∀ {X Y Z : Nat}, I X → I Z → X ≤ Y → Y ≤ Z → I Y) {X : Nat} {t k K : Int} {n d y D O : Nat} {r : Int} (hI : I X) (ht : Tp X t) (h : Sh I X t n k d r y) (hd : Dgs (sz y k k) D K) (hD : D < 10 ^ n) (hO : D = O + 1)
    (ho : I (sz O K K)) : sz D K K + sz O K K ≤ 2 * X := by
  have k0 : -5000 ≤ k := by have := ht.lo; have := h.kn; have := h.n21; omega
  have hK := hd.lo
  obtain ⟨b1, b2⟩ := beside (O := O) (K := K) k0 (by omega) (by omega) h.kn h.n1 h.fl.le h.fl.lt ht.le
  have e := hd.eq
  have s1 := sz_succ O K
  rw [← hO] at s1
  have s2 := sz_succ d k
  have u1 := sz_pos K K
  have u2 := sz_pos k k
  have l1 := h.fl.le
  have l2 := h.fl.lt
  have f3 := h.fl.z2
  have f4 := h.fl.z3
  have f5 := h.fl.rng
  have yd : sz y k k ≤ sz (d + 1) k k := by
    rcases (ch_has h.ch).2 with e | e
    · rw [e]; omega
    · rw [e]; exact Nat.le_refl _
  have hV : sz O K K ≤ X := by
    rcases Nat.lt_or_ge X (sz O K K) with c | c
    · have := b2 c
      omega
    · exact c
  have hH := b1 hV
  have IL : I (sz d k k) := conv ho hI hH l1
  rcases h.ch with ⟨s, ⟨a, rfl⟩ | ⟨b, a, rfl⟩⟩ | ⟨s, ⟨a, rfl⟩ | ⟨b, a, rfl⟩⟩
  · rcases f5 with f | f | f | f
    · omega
    · omega
    · have := f3 f; omega
    · have := f4 f; omega
  · omega
  · omega
  · exact absurd IL b
/-- Where a power of ten has the pattern, one digit does. -/
theorem one_digit {I : Nat → Prop} (conv : ∀ {X Y Z : Nat}, I X → I Z → X ≤ Y → Y ≤ Z → I Y) {X : Nat} {t k K : Int} {n d y D : Nat} {r j : Int} (hI : I X) (ht : Tp X t) (h : Sh I X t n k d r y) (hD : D < 10 ^ n) (hj : -4000 ≤ j)
    (ho : I (sz 1 j j)) : n = 1 ∧ D < 10 := by
  have tlo := ht.lo
  have key : n = 1 := by
    rcases Nat.eq_or_lt_of_le h.n1 with c | c
    · exact c.symm
    · exfalso
      obtain ⟨e, z, hl⟩ := bes_ex X t
      obtain ⟨n1, n2⟩ := h.few 1 t e (Nat.le_refl _) c (by omega) hl.le hl.lt
      obtain ⟨l1, l2⟩ := fl_len (n := 1) (k := t) (t := t) (by omega) (by omega) (Nat.le_refl _) hl.le hl.lt ht.le ht.lt
      have e1 : sz 1 t t ≤ sz e t t := by
        rw [sz_one e]
        exact Nat.le_mul_of_pos_left _ (by simp at l1; omega)
      have e2 : sz (e + 1) t t ≤ sz 1 (t + 1) (t + 1) := by
        rw [show t + 1 = t + ((1 : Nat) : Int) by omega, sz_pow 1 t (by omega), sz_one (e + 1)]
        exact Nat.mul_le_mul_right _ (by omega)
      rcases Int.le_total j t with c1 | c1
      · have := sz_mono10 (i := j) (j := t) (by omega) c1
        exact n1 (conv ho hI (by omega) hl.le)
      · rcases (show j = t ∨ t + 1 ≤ j by omega) with c2 | c2
        · subst c2
          exact n1 (conv ho hI e1 hl.le)
        · have := sz_mono10 (i := t + 1) (j := j) (by omega) c2
          exact n2 (conv hI ho (Nat.le_of_lt hl.lt) (by omega))
  subst key
  exact ⟨rfl, by simpa using hD⟩
/-- Fewer digits do not do. -/
theorem fewer {f : Fm} (ok : Ok f) (ok2 : Ok2 f) (ok3 : Ok3 f) {p : Nat} {g : Bool} {m : Nat} {z : Int} {m1 : Nat} {z1 : Int} {m2 : Nat} {z2 : Int} {ev : Bool} {t : Int} {n : Nat} {k : Int} {d : Nat} {r : Int} {y D : Nat} {K : Int} (h : Sq f p g m z m1 z1 m2 z2 ev t n k d r y D K)
    {c : Nat} (c2 : 2 ≤ c) (hc : 10 ^ (c - 1) ≤ D) {i : Int} (hi : i = t + 2 - c) {e : Nat} (h1 : sz e i i ≤ sz m z 0) (h2 : sz m z 0 < sz (e + 1) i i) :
    ¬ Rv f 2 g (sz e i i) p ∧ ¬ Rv f 2 g (sz (e + 1) i i) p ∧ 0 < e ∧ e < 10 ^ 21 ∧ c ≤ 21 ∧ -4000 ≤ i ∧ i ≤ 4000 := by
  have cn : c ≤ n := by
    have a : 10 ^ (c - 1) < 10 ^ n := Nat.lt_of_le_of_lt hc h.small
    have := (Nat.pow_lt_pow_iff_right (by omega : 1 < 10)).1 a
    omega
  have n21 := h.sh.n21
  have tlo := h.tp.lo
  have thi := h.tp.hi
  obtain ⟨a, b⟩ := h.sh.few (c - 1) i e (by omega) (by omega) (by omega) h1 h2
  obtain ⟨l1, l2⟩ := fl_len (n := c - 1) (k := i) (t := t) (by omega) (by omega) (by omega) h1 h2 h.tp.le h.tp.lt
  have l0 : 0 < 10 ^ (c - 1 - 1) := Nat.pow_pos (by decide)
  have l3 : 10 ^ (c - 1) ≤ 10 ^ 21 := Nat.pow_le_pow_right (by decide) (by omega)
  refine ⟨fun q => a ((in_rv ok ok2 ok3 h.pt (fun e0 => ?_)).2 q), fun q => b ((in_rv ok ok2 ok3 h.pt (fun e0 => ?_)).2 q), by omega, by omega, by omega, by omega, by omega⟩
  · have := sz_zero.1 e0; omega
  · have := sz_zero.1 e0; omega
/-- The other sign: the same limits, the same digits. -/
theorem pt_turn {f : Fm} (ok : Ok f) (ok2 : Ok2 f) (ok3 : Ok3 f) (h3 : f.k ≠ 3) {p q : Nat} {g : Bool} {m : Nat} {z : Int} {m1 : Nat} {z1 : Int} {m2 : Nat} {z2 : Int} {ev : Bool} (h : Pt f p g m z m1 z1 m2 z2 ev) {k : Nat} (hk : kyf f p = k) (hq : pat f (!g) k = q) (h4 : f.k ≠ 4) :
    Pt f q (!g) m z m1 z1 m2 z2 ev := by
  obtain ⟨c2, hg, k', hk', hmg, _, km, hpat, kt, k0, m0⟩ := pt_key ok ok2 h.fit h.dv
  obtain rfl : k = k' := by omega
  have mm : mst f (!g) = mst f g := by unfold mst; rw [if_neg (by omega), if_neg (by omega)]
  have n4 : ¬ (f.k = 4 ∧ (!g) = true) := fun e => h4 e.1
  obtain ⟨q0, q1, a1, _⟩ := pat_key ok ok2 ok3 (neg := !g) (k := k) n4 (by omega)
  obtain ⟨b1, b2, b3⟩ := a1 k0
  rw [hq] at q0 q1 b1 b2 b3
  obtain ⟨k2, e2, hl, he⟩ := h.key
  obtain rfl : k = k2 := by omega
  rcases hmg with ⟨e, e4, _⟩ | ⟨_, hmg⟩
  · omega
  · exact ⟨q1, .inr (.inr (.inr ⟨b1, rfl, b3.symm, k, b2, hmg⟩)), k, b2, by unfold Lm at hl ⊢; rw [mm]; exact hl, he⟩
/-- What is a whole number has no power below 0. -/
theorem whole_pow {D n : Nat} {K : Int} (hK : -5000 ≤ K) (h : D % 10 ≠ 0) (e : sz D K K = sz n 0 0) : 0 ≤ K := by
  rcases Int.le_total 0 K with c | c
  · exact c
  · obtain ⟨j, rfl⟩ : ∃ j : Nat, K = -(j : Int) := ⟨(-K).toNat, by omega⟩
    rcases Nat.eq_zero_or_pos j with j0 | j0
    · omega
    · exfalso
      have e2 := sz_pow j (-(j : Int)) hK
      rw [show -(j : Int) + (j : Int) = 0 by omega] at e2
      rw [sz_one D, sz_one n, e2, ← Nat.mul_assoc] at e
      have e3 := Nat.eq_of_mul_eq_mul_right (sz_pos _ _) e
      obtain ⟨i, rfl⟩ : ∃ i, j = i + 1 := ⟨j - 1, by omega⟩
      rw [Nat.pow_succ, ← Nat.mul_assoc] at e3
      omega
end M
end Go.Proofs.YtpbdiolfdpfmdaaGreatDoor
