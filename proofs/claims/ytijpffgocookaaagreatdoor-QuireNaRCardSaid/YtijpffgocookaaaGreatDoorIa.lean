/-
  From form to form, in numbers: what Turn and Just come to; what is the same, comes back, rises. No program is named here.
-/
import Derived.Test.YtijpffgocookaaaGreatDoorKs
namespace Go.Proofs.YtijpffgocookaaaGreatDoor
open Go
set_option linter.unusedVariables false
set_option linter.unusedSimpArgs false

namespace M
/-- What Turn tells of a value, in a form. -/
def Tv (f : Fm) (mode c : Int) (g : Bool) (m : Nat) (z q : Int) : Prop :=
  (c = 4 ∧ q = f.x) ∨ (c = 3 ∧ (f.k = 1 ∨ (f.k = 4 ∧ g = true)) ∧ q = f.x) ∨ (c = 3 ∧ ¬ (f.k = 1 ∨ (f.k = 4 ∧ g = true)) ∧ Rv f mode g (sz 1 4000 0) q) ∨
  ((c = 1 ∨ c = 2) ∧ Rv f mode g (sz m z 0) q)
/-- Turn. -/
def Tc (ii jj mode : Int) (p q : Nat) (x : Int) : Prop :=
  ∃ c g m z e, Dc ii p c g m z e ∧ ((e ≠ 0 ∧ q = 0 ∧ x = e) ∨ (e = 0 ∧ (jj < 1 ∨ 15 ≤ jj) ∧ q = 0 ∧ x = 3) ∨
    (e = 0 ∧ ∃ j : Nat, jj = j ∧ 1 ≤ j ∧ j ≤ 14 ∧ ((¬ (mode = 1 ∨ mode = 2) ∧ q = 0 ∧ x = 1) ∨ ((mode = 1 ∨ mode = 2) ∧ Tv (tb j) mode c g m z q ∧ x = 0))))
/-- Two values are the same number. -/
def eqv (c : Int) (g : Bool) (m : Nat) (z c' : Int) (g' : Bool) (m' : Nat) (z' : Int) : Prop := (c = 1 ∨ c = 2) ∧ c = c' ∧ g = g' ∧ m = m' ∧ z = z'
/-- Just. -/
def Jus (ii jj : Int) (p : Nat) (b : Bool) (x : Int) : Prop :=
  ∃ q, Tc ii jj 2 p q x ∧ ((x ≠ 0 ∧ b = false) ∨ (x = 0 ∧ ∃ c g m z c' g' m' z', Dc ii p c g m z 0 ∧ Dc jj q c' g' m' z' 0 ∧ (b = true ↔ eqv c g m z c' g' m' z')))
theorem ism_uniq {p k m m' : Nat} {b z z' : Int} (h : IsM p b k m z) (h' : IsM p b k m' z') : m = m' ∧ z = z' := by
  rcases h with ⟨h0, rfl, rfl⟩ | ⟨ho, t, h1, h2⟩ <;> rcases h' with ⟨h0', rfl, rfl⟩ | ⟨ho', t', h1', h2'⟩
  · exact ⟨rfl, rfl⟩
  · have := Nat.mul_pos (show 0 < m' by omega) (Nat.two_pow_pos t')
    omega
  · have := Nat.mul_pos (show 0 < m by omega) (Nat.two_pow_pos t)
    omega
  · obtain ⟨rfl, rfl⟩ := odd_uniq ho ho' (h1.symm.trans h1')
    exact ⟨rfl, by omega⟩
theorem mg_uniq {f : Fm} {k m m' : Nat} {z z' : Int} (h : Mg f k m z) (h' : Mg f k m' z') : m = m' ∧ z = z' := by
  rcases h with ⟨e, n, _, hn, h⟩ | ⟨e, n, hn, _, h⟩ | ⟨e, _, _, ho, t, ht, hz⟩ | ⟨e, _, _, hm, hz⟩ <;> rcases h' with ⟨e', n', _, hn', h'⟩ | ⟨e', n', hn', _, h'⟩ | ⟨e', _, _, ho', t', ht', hz'⟩ | ⟨e', _, _, hm', hz'⟩
  all_goals try (exfalso; omega)
  · obtain rfl : n = n' := by omega
    exact isk_uniq h h'
  · obtain rfl : n = n' := by omega
    exact ism_uniq h h'
  · obtain ⟨rfl, rfl⟩ := odd_uniq ho ho' (ht.symm.trans ht')
    exact ⟨rfl, by omega⟩
  · exact ⟨by omega, by omega⟩
theorem dv_all {f : Fm} {p c c' : Int} {g g' : Bool} {m m' : Nat} {z z' : Int} (h : Dv f p c g m z) (h' : Dv f p c' g' m' z') : c = c' ∧ g = g' ∧ m = m' ∧ z = z' := by
  rcases h with ⟨a, rfl, rfl, rfl, rfl⟩ | ⟨a, rfl, rfl, rfl, rfl⟩ | ⟨a, rfl, rfl, rfl, rfl⟩ | ⟨a, rfl, rfl, k, hk, hm⟩ <;>
    rcases h' with ⟨a', rfl, rfl, rfl, rfl⟩ | ⟨a', rfl, rfl, rfl, rfl⟩ | ⟨a', rfl, rfl, rfl, rfl⟩ | ⟨a', rfl, rfl, k', hk', hm'⟩
  all_goals try (exfalso; omega)
  · exact ⟨rfl, rfl, rfl, rfl⟩
  · exact ⟨rfl, rfl, rfl, rfl⟩
  · exact ⟨rfl, rfl, rfl, rfl⟩
  · obtain rfl : k = k' := by omega
    obtain ⟨rfl, rfl⟩ := mg_uniq hm hm'
    exact ⟨rfl, rfl, rfl, rfl⟩
theorem dc_all {ii : Int} {p : Nat} {c c' : Int} {g g' : Bool} {m m' : Nat} {z z' x x' : Int} (h : Dc ii p c g m z x) (h' : Dc ii p c' g' m' z' x') : c = c' ∧ g = g' ∧ m = m' ∧ z = z' ∧ x = x' := by
  rcases h with ⟨a, rfl, rfl, rfl, rfl, rfl⟩ | ⟨i, e, i1, i2, ⟨a, rfl, rfl, rfl, rfl, rfl⟩ | ⟨a, h, rfl⟩⟩ <;> rcases h' with ⟨a', rfl, rfl, rfl, rfl, rfl⟩ | ⟨j, e', j1, j2, ⟨a', rfl, rfl, rfl, rfl, rfl⟩ | ⟨a', h', rfl⟩⟩
  all_goals first
    | exact ⟨rfl, rfl, rfl, rfl, rfl⟩
    | (exfalso; omega)
    | (obtain rfl : i = j := by omega
       first
         | (exfalso; omega)
         | (obtain ⟨h1, h2, h3, h4⟩ := dv_all h h'; exact ⟨h1, h2, h3, h4, rfl⟩))
/-- A form and a pattern that are there. -/
theorem dc_have {ii : Int} {p : Nat} {c : Int} {g : Bool} {m : Nat} {z : Int} (h : Dc ii p c g m z 0) : ∃ i : Nat, ii = i ∧ 1 ≤ i ∧ i ≤ 14 ∧ (p : Int) ≤ msk (tb i) ∧ Dv (tb i) p c g m z := by
  rcases h with ⟨_, _, _, _, _, e⟩ | ⟨i, a, b, d, ⟨_, _, _, _, _, e⟩ | ⟨e, f, _⟩⟩
  · exact absurd e (by decide)
  · exact absurd e (by decide)
  · exact ⟨i, a, b, d, e, f⟩
theorem dc_mk {i p : Nat} {c : Int} {g : Bool} {m : Nat} {z : Int} (i1 : 1 ≤ i) (i2 : i ≤ 14) (hp : (p : Int) ≤ msk (tb i)) (h : Dv (tb i) p c g m z) : Dc (i : Int) p c g m z 0 := .inr ⟨i, rfl, i1, i2, .inr ⟨hp, h, rfl⟩⟩
theorem dv_four {f : Fm} {p c : Int} {g : Bool} {m : Nat} {z : Int} (h : Dv f p c g m z) : (c = 1 ∨ c = 2 ∨ c = 3 ∨ c = 4) ∧ cls f p = c := by
  rcases h with ⟨a, rfl, _⟩ | ⟨a, rfl, _⟩ | ⟨a, rfl, _⟩ | ⟨a, rfl, _⟩ <;> exact ⟨by omega, a⟩
theorem rv_one {f : Fm} (ok : Ok f) (ok2 : Ok2 f) (ok3 : Ok3 f) {mode : Int} {g : Bool} {X : Nat} {p q : Int} (h : Rv f mode g X p) (h' : Rv f mode g X q) : p = q := by
  rcases h with ⟨a, b, e⟩ | ⟨n, s, k, o, ha, hn, hp⟩ <;> rcases h' with ⟨a', b', e'⟩ | ⟨n', t, k', o', hb, hn', hq⟩
  · rw [e, e']
  · exact absurd ⟨a, b⟩ n'
  · exact absurd ⟨a', b'⟩ n
  · obtain rfl : s = t := by omega
    obtain ⟨r, hr, _, _, qt⟩ := mst_rng ok ok2 ok3 g
    obtain ⟨rfl, rfl⟩ := nr_uniq ok ok2 ok3 (by omega) hn hn'
    rcases hp with ⟨h1, h2, rfl⟩ | ⟨h1, rfl⟩ <;> rcases hq with ⟨h3, h4, rfl⟩ | ⟨h3, rfl⟩
    · rfl
    · exact absurd ⟨h1, h2⟩ h3
    · exact absurd ⟨h3, h4⟩ h1
    · rfl
theorem tv_ex {f : Fm} (ok : Ok f) (ok2 : Ok2 f) (ok3 : Ok3 f) (mode : Int) {p c : Int} {g : Bool} {m : Nat} {z : Int} (hc : c = 1 ∨ c = 2 ∨ c = 3 ∨ c = 4) : ∃ q, Tv f mode c g m z q := by
  rcases hc with h | h | h | h
  · obtain ⟨q, hq⟩ := rv_ex ok ok2 ok3 mode g (sz m z 0)
    exact ⟨q, .inr (.inr (.inr ⟨.inl h, hq⟩))⟩
  · obtain ⟨q, hq⟩ := rv_ex ok ok2 ok3 mode g (sz m z 0)
    exact ⟨q, .inr (.inr (.inr ⟨.inr h, hq⟩))⟩
  · by_cases d : f.k = 1 ∨ (f.k = 4 ∧ g = true)
    · exact ⟨_, .inr (.inl ⟨h, d, rfl⟩)⟩
    · obtain ⟨q, hq⟩ := rv_ex ok ok2 ok3 mode g (sz 1 4000 0)
      exact ⟨q, .inr (.inr (.inl ⟨h, d, hq⟩))⟩
  · exact ⟨_, .inl ⟨h, rfl⟩⟩
theorem tv_rng {f : Fm} (ok : Ok f) (ok2 : Ok2 f) (ok3 : Ok3 f) {mode c : Int} {g : Bool} {m : Nat} {z q : Int} (h : Tv f mode c g m z q) : 0 ≤ q ∧ q ≤ msk f := by
  have hx := ok.x
  rcases h with ⟨_, rfl⟩ | ⟨_, _, rfl⟩ | ⟨_, _, h⟩ | ⟨_, h⟩
  · exact hx
  · exact hx
  · have := rv_class ok ok2 ok3 h; exact ⟨this.1, this.2.1⟩
  · have := rv_class ok ok2 ok3 h; exact ⟨this.1, this.2.1⟩
theorem tv_one {f : Fm} (ok : Ok f) (ok2 : Ok2 f) (ok3 : Ok3 f) {mode c : Int} {g : Bool} {m : Nat} {z q q' : Int} (h : Tv f mode c g m z q) (h' : Tv f mode c g m z q') : q = q' := by
  rcases h with ⟨a, rfl⟩ | ⟨a, b, rfl⟩ | ⟨a, b, h⟩ | ⟨a, h⟩ <;> rcases h' with ⟨a', rfl⟩ | ⟨a', b', rfl⟩ | ⟨a', b', h'⟩ | ⟨a', h'⟩
  all_goals first
    | rfl
    | (exfalso; omega)
    | exact absurd b b'
    | exact absurd b' b
    | exact rv_one ok ok2 ok3 h h'
theorem tc_ex (ii jj mode : Int) (p : Nat) : ∃ q x, Tc ii jj mode p q x ∧ q < 18446744073709551616 := by
  obtain ⟨c, g, m, z, e, hd⟩ := dc_ex ii p
  by_cases e0 : e = 0
  · subst e0
    obtain ⟨i, rfl, i1, i2, hp, hv⟩ := dc_have hd
    rcases in_or_out jj with h | ⟨j, rfl, j1, j2⟩
    · exact ⟨0, 3, ⟨c, g, m, z, 0, hd, .inr (.inl ⟨rfl, h, rfl, rfl⟩)⟩, by decide⟩
    · by_cases hm : mode = 1 ∨ mode = 2
      · have ok := ok j j1 j2
        obtain ⟨q, hq⟩ := tv_ex (p := p) ok (ok2 j j1 j2) (ok3 j j1 j2) mode (g := g) (m := m) (z := z) (dv_four hv).1
        obtain ⟨q1, q2⟩ := tv_rng ok (ok2 j j1 j2) (ok3 j j1 j2) hq
        obtain ⟨q, rfl⟩ := Int.eq_ofNat_of_zero_le q1
        obtain ⟨n, hn, _, hh, hmk⟩ := ok_pow ok
        obtain ⟨a, b⟩ := pow_le64 hn
        exact ⟨q, 0, ⟨c, g, m, z, 0, hd, .inr (.inr ⟨rfl, j, rfl, j1, j2, .inr ⟨hm, hq, rfl⟩⟩)⟩, by omega⟩
      · exact ⟨0, 1, ⟨c, g, m, z, 0, hd, .inr (.inr ⟨rfl, j, rfl, j1, j2, .inl ⟨hm, rfl, rfl⟩⟩)⟩, by decide⟩
  · exact ⟨0, e, ⟨c, g, m, z, e, hd, .inl ⟨e0, rfl, rfl⟩⟩, by decide⟩
/-- What Turn tells, if there is no error. -/
theorem tc_have {ii jj mode : Int} {p q : Nat} (h : Tc ii jj mode p q 0) : ∃ i j : Nat, ∃ c g m z, ii = i ∧ jj = j ∧ (1 ≤ i ∧ i ≤ 14) ∧ (1 ≤ j ∧ j ≤ 14) ∧ (mode = 1 ∨ mode = 2) ∧ (p : Int) ≤ msk (tb i) ∧ Dv (tb i) p c g m z ∧ Tv (tb j) mode c g m z q := by
  obtain ⟨c, g, m, z, e, hd, ⟨h1, h2, h3⟩ | ⟨rfl, h1, h2, h3⟩ | ⟨rfl, j, h1, h2, h3, ⟨_, _, h4⟩ | ⟨h4, h5, _⟩⟩⟩ := h
  · omega
  · omega
  · omega
  · obtain ⟨i, e, i1, i2, hp, hv⟩ := dc_have hd
    exact ⟨i, j, c, g, m, z, e, h1, ⟨i1, i2⟩, ⟨h2, h3⟩, h4, hp, hv, h5⟩
theorem tc_mk {i j p q : Nat} {mode c : Int} {g : Bool} {m : Nat} {z : Int} (i1 : 1 ≤ i) (i2 : i ≤ 14) (j1 : 1 ≤ j) (j2 : j ≤ 14) (hm : mode = 1 ∨ mode = 2) (hp : (p : Int) ≤ msk (tb i)) (hv : Dv (tb i) p c g m z) (h : Tv (tb j) mode c g m z q) : Tc (i : Int) (j : Int) mode p q 0 :=
  ⟨c, g, m, z, 0, dc_mk i1 i2 hp hv, .inr (.inr ⟨rfl, j, rfl, j1, j2, .inr ⟨hm, h, rfl⟩⟩)⟩
theorem tc_one {ii jj mode : Int} {p q q' : Nat} {x x' : Int} (h : Tc ii jj mode p q x) (h' : Tc ii jj mode p q' x') : q = q' ∧ x = x' := by
  obtain ⟨c, g, m, z, e, hd, hr⟩ := h
  obtain ⟨c', g', m', z', e', hd', hr'⟩ := h'
  obtain ⟨rfl, rfl, rfl, rfl, rfl⟩ := dc_all hd hd'
  rcases hr with ⟨h1, h2, h3⟩ | ⟨h0, h1, h2, h3⟩ | ⟨h0, j, h1, h2, h3, ⟨h5, h6, h4⟩ | ⟨h4, h5, h6⟩⟩ <;> rcases hr' with ⟨k1, k2, k3⟩ | ⟨k0, k1, k2, k3⟩ | ⟨k0, l, k1, k2, k3, ⟨k5, k6, k4⟩ | ⟨k4, k5, k6⟩⟩
  all_goals first
    | exact ⟨by omega, by omega⟩
    | (exfalso; omega)
    | exact absurd h4 k5
    | exact absurd k4 h5
    | (obtain rfl : j = l := by omega
       have := tv_one (ok j h2 h3) (ok2 j h2 h3) (ok3 j h2 h3) h5 k5
       exact ⟨by omega, by omega⟩)
theorem jus_ex (ii jj : Int) (p : Nat) : ∃ b x, Jus ii jj p b x := by
  classical
  obtain ⟨q, x, h, qb⟩ := tc_ex ii jj 2 p
  by_cases x0 : x = 0
  · subst x0
    obtain ⟨i, j, c, g, m, z, rfl, rfl, ⟨i1, i2⟩, ⟨j1, j2⟩, hm, hp, hv, ht⟩ := tc_have h
    have hq := (tv_rng (ok j j1 j2) (ok2 j j1 j2) (ok3 j j1 j2) ht).2
    obtain ⟨c', g', m', z', x', hd⟩ := dc_ex (j : Int) q
    have hx : x' = 0 := by
      rcases hd with ⟨a, _⟩ | ⟨j', e, _, _, ⟨a, _⟩ | ⟨_, _, a⟩⟩
      · omega
      · obtain rfl : j = j' := by omega
        omega
      · exact a
    subst hx
    exact ⟨decide (eqv c g m z c' g' m' z'), 0, q, h, .inr ⟨rfl, c, g, m, z, c', g', m', z', dc_mk i1 i2 hp hv, hd, by simp⟩⟩
  · exact ⟨false, x, q, h, .inl ⟨x0, rfl⟩⟩
/-- What is just: both forms' patterns are the same number. -/
theorem jus_true {ii jj : Int} {p : Nat} {x : Int} (h : Jus ii jj p true x) : x = 0 ∧ ∃ i j q : Nat, ∃ c g m z, ii = i ∧ jj = j ∧ (1 ≤ i ∧ i ≤ 14) ∧ (1 ≤ j ∧ j ≤ 14) ∧ (p : Int) ≤ msk (tb i) ∧ Dv (tb i) p c g m z ∧ (q : Int) ≤ msk (tb j) ∧ Dv (tb j) q c g m z ∧ (c = 1 ∨ c = 2) ∧ Tc ii jj 2 p q 0 := by
  obtain ⟨q, ht, ⟨_, h⟩ | ⟨rfl, c, g, m, z, c', g', m', z', hd, hd', he⟩⟩ := h
  · exact absurd h (by decide)
  · obtain ⟨hc, rfl, rfl, rfl, rfl⟩ := he.1 rfl
    obtain ⟨i, e, i1, i2, hp, hv⟩ := dc_have hd
    obtain ⟨j, e', j1, j2, hq, hv'⟩ := dc_have hd'
    exact ⟨rfl, i, j, q, c, g, m, z, e, e', ⟨i1, i2⟩, ⟨j1, j2⟩, hp, hv, hq, hv', hc, ht⟩
theorem jus_one {ii jj : Int} {p : Nat} {b b' : Bool} {x x' : Int} (h : Jus ii jj p b x) (h' : Jus ii jj p b' x') : b = b' ∧ x = x' := by
  obtain ⟨q, ht, h⟩ := h
  obtain ⟨q', ht', h'⟩ := h'
  obtain ⟨rfl, rfl⟩ := tc_one ht ht'
  rcases h with ⟨a, rfl⟩ | ⟨a, c, g, m, z, c', g', m', z', hd, hd', he⟩ <;> rcases h' with ⟨a', rfl⟩ | ⟨a', d, k, n, y, d', k', n', y', jd, jd', je⟩
  · exact ⟨rfl, rfl⟩
  · exact absurd a' a
  · exact absurd a a'
  · obtain ⟨rfl, rfl, rfl, rfl, _⟩ := dc_all hd jd
    obtain ⟨rfl, rfl, rfl, rfl, _⟩ := dc_all hd' jd'
    exact ⟨Bool.eq_iff_iff.2 (he.trans je.symm), rfl⟩
/-- What is a number of both forms is just. -/
theorem just {i j p q : Nat} {c : Int} {g : Bool} {m : Nat} {z : Int} (i1 : 1 ≤ i) (i2 : i ≤ 14) (j1 : 1 ≤ j) (j2 : j ≤ 14) (hp : (p : Int) ≤ msk (tb i)) (hv : Dv (tb i) p c g m z) (hq : (q : Int) ≤ msk (tb j)) (hv' : Dv (tb j) q c g m z) (hc : c = 1 ∨ c = 2) :
    Jus (i : Int) (j : Int) p true 0 ∧ ∀ mode : Int, mode = 1 ∨ mode = 2 → Tc (i : Int) (j : Int) mode p q 0 := by
  have ht : ∀ mode : Int, mode = 1 ∨ mode = 2 → Tc (i : Int) (j : Int) mode p q 0 := fun mode hm =>
    tc_mk i1 i2 j1 j2 hm hp hv (.inr (.inr (.inr ⟨hc, (has_rv (ok j j1 j2) (ok2 j j1 j2) (ok3 j j1 j2) hq hv' hc mode).1⟩)))
  exact ⟨⟨q, ht 2 (.inr rfl), .inr ⟨rfl, c, g, m, z, c, g, m, z, dc_mk i1 i2 hp hv, dc_mk j1 j2 hq hv', by simp [eqv, hc]⟩⟩, ht⟩
/-- What is turned justly comes back. -/
theorem back {ii jj : Int} {p : Nat} (h : Jus ii jj p true 0) {a b : Int} (ha : a = 1 ∨ a = 2) (hb : b = 1 ∨ b = 2) {q r : Nat} {x y : Int} (h1 : Tc ii jj a p q x) (h2 : Tc jj ii b q r y) : x = 0 ∧ y = 0 ∧ r = p := by
  obtain ⟨_, i, j, s, c, g, m, z, rfl, rfl, ⟨i1, i2⟩, ⟨j1, j2⟩, hp, hv, hq, hv', hc, _⟩ := jus_true h
  obtain ⟨rfl, rfl⟩ := tc_one h1 ((just i1 i2 j1 j2 hp hv hq hv' hc).2 a ha)
  obtain ⟨rfl, rfl⟩ := tc_one h2 ((just j1 j2 i1 i2 hq hv' hp hv hc).2 b hb)
  exact ⟨rfl, rfl, rfl⟩
/-- By the way of a form that holds it. -/
theorem once {ii jj kk mode : Int} {p : Nat} (h : Jus ii jj p true 0) {q r s : Nat} {x y u : Int} (h1 : Tc ii jj 2 p q x) (h2 : Tc jj kk mode q r y) (h3 : Tc ii kk mode p s u) : x = 0 ∧ r = s ∧ y = u := by
  obtain ⟨_, i, j, t, c, g, m, z, rfl, rfl, ⟨i1, i2⟩, ⟨j1, j2⟩, hp, hv, hq, hv', hc, ht⟩ := jus_true h
  obtain ⟨rfl, rfl⟩ := tc_one h1 ht
  have hd := dc_mk i1 i2 hp hv
  have hd' := dc_mk j1 j2 hq hv'
  obtain ⟨c3, g3, m3, z3, e3, hd3, hr3⟩ := h3
  obtain ⟨rfl, rfl, rfl, rfl, rfl⟩ := dc_all hd hd3
  exact ⟨rfl, tc_one h2 ⟨_, _, _, _, _, hd', hr3⟩⟩
end M
end Go.Proofs.YtijpffgocookaaaGreatDoor
