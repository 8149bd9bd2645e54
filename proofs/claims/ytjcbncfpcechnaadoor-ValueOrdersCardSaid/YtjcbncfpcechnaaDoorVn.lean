/-
  Layer 7 in numbers: what a pattern is, what its key is, what stands between two keys.
-/
import Derived.Test.YtjcbncfpcechnaaDoorVm
namespace Go.Proofs.YtjcbncfpcechnaaDoor
open Go.RowKit

namespace M
/-- What the fields of a form are, further. -/
structure Ok2 (f : Fm) : Prop where
  one : f.k = 1 → f.t + 1 = half f ∧ f.x = half f ∧ 8 ≤ f.W ∧ f.W ≤ 64
  two : f.k = 2 → 0 ≤ f.m ∧ f.m ≤ 59 ∧ -2000 ≤ f.b ∧ f.b ≤ 2000 ∧ f.t.toNat / 2 ^ f.m.toNat ≤ 4095
  tri : f.k = 3 → f.m = 6 ∧ f.t = 127 ∧ half f = 128 ∧ f.x = 0 ∧ f.n = 0
  four : f.k = 4 → f.b = 127 ∧ f.t = 254 ∧ f.x = 255 ∧ msk f = 255 ∧ f.n = 0
  inf : f.k = 1 → f.n = 0
theorem ok2 (i : Nat) (a : 1 ≤ i) (b : i ≤ 14) : Ok2 (tb i) := by
  refine all14 (p := fun i => Ok2 (tb i)) ?_ ?_ ?_ ?_ ?_ ?_ ?_ ?_ ?_ ?_ ?_ ?_ ?_ ?_ i a b <;> exact ⟨by decide, by decide +kernel, by decide, by decide, by decide⟩
/-- The greatest key that a number may have, of either sign. -/
def tp (f : Fm) : Int := if f.k = 3 then f.t + 1 else f.t
/-- The greatest key of a sign. -/
def mst (f : Fm) (neg : Bool) : Int := if f.k = 3 ∧ neg = true then f.t + 1 else f.t
/-- What a pattern is: 1 nought, 2 a number, 3 infinite, 4 no number. -/
def cls (f : Fm) (p : Int) : Int :=
  if f.k = 2 ∧ f.t < kyf f p then (if kyf f p = f.n then 3 else 4)
  else if f.k ≠ 2 ∧ f.x ≠ 0 ∧ p = f.x then 4
  else if kyf f p = 0 ∧ f.k ≠ 4 then 1 else 2
/-- A number's key is not too great. -/
theorem cls_key {f : Fm} (h : Ok f) (h2 : Ok2 f) {p : Int} (p1 : 0 ≤ p) (p2 : p ≤ msk f) (hc : cls f p = 1 ∨ cls f p = 2) :
    0 ≤ kyf f p ∧ kyf f p ≤ tp f ∧ (ngs f p = false → kyf f p ≤ f.t) ∧ (cls f p = 2 → kyf f p ≠ 0 ∨ f.k = 4) := by
  obtain ⟨r1, r2, r3, r4⟩ := kyf_rng h p1 p2
  have hk := h.k
  have hm := h.hm
  have o1 := h2.one
  have o3 := h2.tri
  have o4 := h2.four
  unfold cls at hc ⊢
  by_cases a : f.k = 2 ∧ f.t < kyf f p
  · rw [if_pos a] at hc
    split at hc <;> omega
  · rw [if_neg a] at hc ⊢
    by_cases b : f.k ≠ 2 ∧ f.x ≠ 0 ∧ p = f.x
    · rw [if_pos b] at hc; omega
    · rw [if_neg b]
      have g : ngs f p = false → kyf f p = p := fun e => by unfold kyf; rw [e]; rfl
      have gs := sgn_ok h
      have g2 : ngs f p = false → sgn f = 0 ∨ p < sgn f := fun e => by
        unfold ngs at e
        by_cases s0 : sgn f = 0
        · exact .inl s0
        · rw [decide_eq_false s0] at e
          simp at e
          exact .inr e
      have g3 : ngs f p = true → sgn f ≠ 0 ∧ sgn f ≤ p := fun e => by
        unfold ngs at e
        simp at e
        exact e
      have g4 : ngs f p = true → f.k ≠ 2 → kyf f p = msk f - p + 1 := fun e n => by unfold kyf; rw [e, if_pos rfl, if_neg n]
      refine ⟨r1, ?_, ?_, ?_⟩
      · unfold tp
        cases hn : ngs f p with
        | false =>
          have e := g hn
          have e2 := g2 hn
          split <;> omega
        | true =>
          have e := g3 hn
          split
          · rename_i k3
            have := g4 hn (by omega)
            omega
          · rename_i k3
            rcases hk with k1 | k2 | k4 | k4
            · have := g4 hn (by omega)
              have := o1 k1
              omega
            · omega
            · omega
            · exact absurd (gs.1 k4) e.1
      · intro hn
        have e := g hn
        have e2 := g2 hn
        rcases hk with k1 | k2 | k4 | k4
        · have := o1 k1
          omega
        · omega
        · have := o3 k4
          omega
        · omega
      · intro e
        by_cases c : kyf f p = 0 ∧ f.k ≠ 4
        · rw [if_pos c] at e; omega
        · omega
/-- The boundary behind the magnitude k. -/
def Bd (f : Fm) (k m : Nat) (z : Int) : Prop :=
  (f.k = 1 ∧ ∃ n : Nat, 2 ≤ n ∧ n ≤ 63 ∧ f.W = (n : Int) + 1 ∧ IsK (n + 1) (2 * k + 1) m z) ∨
  (f.k = 2 ∧ ∃ p : Nat, p ≤ 59 ∧ f.m = (p : Int) ∧ mok (p + 1) f.b (2 * k + 1) ∧ IsM (p + 1) f.b (2 * k + 1) m z) ∨
  (f.k = 3 ∧ (0 ≤ f.m ∧ f.m ≤ 64) ∧ k < 1000000 ∧ m = 2 * k + 1 ∧ -f.m - 1 = z) ∨
  (f.k = 4 ∧ (-100000 ≤ f.b ∧ f.b ≤ 100000) ∧ k < 1000000 ∧ m = 3 ∧ (k : Int) - f.b - 1 = z)
/-- The magnitude k, nought too. -/
def Mg0 (f : Fm) (k m : Nat) (z : Int) : Prop := (k = 0 ∧ f.k ≠ 4 ∧ m = 0 ∧ z = 0) ∨ ((k ≠ 0 ∨ f.k = 4) ∧ Mg f k m z)
theorem half_nat {f : Fm} {n : Nat} (h : f.W = (n : Int) + 1) : half f = ((2 ^ n : Nat) : Int) := by
  unfold half
  rw [h, show ((n : Int) + 1).toNat - 1 = n by omega]
  push_cast; rfl
theorem mok_of {f : Fm} (h2 : Ok2 f) (hk : f.k = 2) {k : Nat} (ht : (k : Int) ≤ f.t) : ∃ p : Nat, p ≤ 59 ∧ f.m = (p : Int) ∧ mok p f.b k := by
  obtain ⟨a, b, c, d, e⟩ := h2.two hk
  refine ⟨f.m.toNat, by omega, by omega, by omega, c, d, Nat.le_trans (Nat.div_le_div_right (by omega)) e⟩
theorem mok_more {p k : Nat} {b : Int} (hp : p ≤ 59) (h : mok p b k) : mok (p + 1) b (2 * k + 1) := by
  obtain ⟨_, c, d, e⟩ := h
  refine ⟨by omega, c, d, ?_⟩
  rw [p2s, ← Nat.div_div_eq_div_mul, show (2 * k + 1) / 2 = k by omega]
  exact e
theorem mg_ex {f : Fm} (_h : Ok f) (h2 : Ok2 f) {k : Nat} (ht : (k : Int) ≤ tp f) (h0 : k ≠ 0 ∨ f.k = 4) : ∃ m z, Mg f k m z := by
  unfold tp at ht
  rcases _h.k with e | e | e | e
  · rw [if_neg (by omega)] at ht
    obtain ⟨a, b, c, d⟩ := h2.one e
    obtain ⟨n, hn⟩ : ∃ n : Nat, f.W = (n : Int) + 1 := ⟨(f.W - 1).toNat, by omega⟩
    have hh := half_nat hn
    obtain ⟨m, z, hm⟩ := isk_ex (n := n) (k := k) (by omega) (by omega) (by omega)
    exact ⟨m, z, .inl ⟨e, n, by omega, hn, hm⟩⟩
  · rw [if_neg (by omega)] at ht
    obtain ⟨p, hp, hm, ho⟩ := mok_of h2 e ht
    obtain ⟨m, z, hz⟩ := ism_ex p f.b k
    exact ⟨m, z, .inr (.inl ⟨e, p, hm, ho, hz⟩)⟩
  · rw [if_pos e] at ht
    obtain ⟨a, b, c, d⟩ := h2.tri e
    obtain ⟨m, t, h1, h2⟩ := odd_ex k (by omega)
    exact ⟨m, -f.m + t, .inr (.inr (.inl ⟨e, by omega, by omega, h2, t, h1, rfl⟩))⟩
  · rw [if_neg (by omega)] at ht
    obtain ⟨a, b, c, d⟩ := h2.four e
    exact ⟨1, k - f.b, .inr (.inr (.inr ⟨e, by omega, by omega, rfl, rfl⟩))⟩
theorem mg0_ex {f : Fm} (h : Ok f) (h2 : Ok2 f) {k : Nat} (ht : (k : Int) ≤ tp f) : ∃ m z, Mg0 f k m z := by
  by_cases c : k = 0 ∧ f.k ≠ 4
  · exact ⟨0, 0, .inl ⟨c.1, c.2, rfl, rfl⟩⟩
  · obtain ⟨m, z, hm⟩ := mg_ex h h2 ht (by omega)
    exact ⟨m, z, .inr ⟨by omega, hm⟩⟩
theorem bd_ex {f : Fm} (_h : Ok f) (h2 : Ok2 f) {k : Nat} (ht : (k : Int) ≤ tp f) : ∃ m z, Bd f k m z := by
  unfold tp at ht
  rcases _h.k with e | e | e | e
  · rw [if_neg (by omega)] at ht
    obtain ⟨a, b, c, d⟩ := h2.one e
    obtain ⟨n, hn⟩ : ∃ n : Nat, f.W = (n : Int) + 1 := ⟨(f.W - 1).toNat, by omega⟩
    have hh := half_nat hn
    obtain ⟨m, z, hm⟩ := isk_ex (n := n + 1) (k := 2 * k + 1) (by omega) (by omega) (by rw [p2s]; omega)
    exact ⟨m, z, .inl ⟨e, n, by omega, by omega, hn, hm⟩⟩
  · rw [if_neg (by omega)] at ht
    obtain ⟨p, hp, hm, ho⟩ := mok_of h2 e ht
    obtain ⟨m, z, hz⟩ := ism_ex (p + 1) f.b (2 * k + 1)
    exact ⟨m, z, .inr (.inl ⟨e, p, hp, hm, mok_more hp ho, hz⟩)⟩
  · rw [if_pos e] at ht
    obtain ⟨a, b, c, d⟩ := h2.tri e
    exact ⟨2 * k + 1, -f.m - 1, .inr (.inr (.inl ⟨e, by omega, by omega, rfl, rfl⟩))⟩
  · rw [if_neg (by omega)] at ht
    obtain ⟨a, b, c, d⟩ := h2.four e
    exact ⟨3, k - f.b - 1, .inr (.inr (.inr ⟨e, by omega, by omega, rfl, rfl⟩))⟩

/-- What Decode tells of a form that is there, and a pattern that fits. -/
def Dv (f : Fm) (p c : Int) (g : Bool) (m : Nat) (z : Int) : Prop :=
  (cls f p = 4 ∧ c = 4 ∧ g = false ∧ m = 0 ∧ z = 0) ∨ (cls f p = 3 ∧ c = 3 ∧ g = ngs f p ∧ m = 0 ∧ z = 0) ∨
  (cls f p = 1 ∧ c = 1 ∧ g = (ngs f p && decide (f.k = 2)) ∧ m = 0 ∧ z = 0) ∨ (cls f p = 2 ∧ c = 2 ∧ g = ngs f p ∧ ∃ k : Nat, kyf f p = k ∧ Mg f k m z)
/-- Decode. -/
def Dc (ii : Int) (p : Nat) (c : Int) (g : Bool) (m : Nat) (z x : Int) : Prop :=
  ((ii < 1 ∨ 15 ≤ ii) ∧ c = 0 ∧ g = false ∧ m = 0 ∧ z = 0 ∧ x = 3) ∨
  ∃ i : Nat, ii = i ∧ 1 ≤ i ∧ i ≤ 14 ∧ ((msk (tb i) < p ∧ c = 0 ∧ g = false ∧ m = 0 ∧ z = 0 ∧ x = 1) ∨ ((p : Int) ≤ msk (tb i) ∧ Dv (tb i) p c g m z ∧ x = 0))
/-- Key, of a form and a pattern that fits. -/
def Kv (f : Fm) (p : Int) (g : Bool) (k : Nat) (x : Int) : Prop :=
  ((cls f p = 3 ∨ cls f p = 4) ∧ g = false ∧ k = 0 ∧ x = 5) ∨ (cls f p = 1 ∧ g = (ngs f p && decide (f.k = 2)) ∧ kyf f p = k ∧ x = 0) ∨ (cls f p = 2 ∧ g = ngs f p ∧ kyf f p = k ∧ x = 0)
def Kc (ii : Int) (p : Nat) (g : Bool) (k : Nat) (x : Int) : Prop :=
  ((ii < 1 ∨ 15 ≤ ii) ∧ g = false ∧ k = 0 ∧ x = 3) ∨
  ∃ i : Nat, ii = i ∧ 1 ≤ i ∧ i ≤ 14 ∧ ((msk (tb i) < p ∧ g = false ∧ k = 0 ∧ x = 1) ∨ ((p : Int) ≤ msk (tb i) ∧ Kv (tb i) p g k x))
/-- Most. -/
def Mc (ii : Int) (neg : Bool) (q x : Int) : Prop :=
  ((ii < 1 ∨ 15 ≤ ii) ∧ q = 0 ∧ x = 3) ∨
  ∃ i : Nat, ii = i ∧ 1 ≤ i ∧ i ≤ 14 ∧ (((tb i).k = 4 ∧ neg = true ∧ q = 0 ∧ x = 5) ∨ (¬ ((tb i).k = 4 ∧ neg = true) ∧ q = mst (tb i) neg ∧ x = 0))
/-- Pattern. -/
def pat (f : Fm) (neg : Bool) (k : Nat) : Int := if neg = false then k else if f.k = 2 then k + half f else if k = 0 then 0 else msk f - k + 1
def Pc (ii : Int) (neg : Bool) (k : Nat) (q x : Int) : Prop :=
  ((ii < 1 ∨ 15 ≤ ii) ∧ q = 0 ∧ x = 3) ∨
  ∃ i : Nat, ii = i ∧ 1 ≤ i ∧ i ≤ 14 ∧ (((tb i).k = 4 ∧ neg = true ∧ q = 0 ∧ x = 5) ∨ (¬ ((tb i).k = 4 ∧ neg = true) ∧ ((mst (tb i) neg < k ∧ q = 0 ∧ x = 4) ∨ ((k : Int) ≤ mst (tb i) neg ∧ q = pat (tb i) neg k ∧ x = 0))))
/-- At, Between. -/
def Ac (ii : Int) (k m : Nat) (z x : Int) : Prop :=
  ((ii < 1 ∨ 15 ≤ ii) ∧ m = 0 ∧ z = 0 ∧ x = 3) ∨
  ∃ i : Nat, ii = i ∧ 1 ≤ i ∧ i ≤ 14 ∧ ((tp (tb i) < k ∧ m = 0 ∧ z = 0 ∧ x = 4) ∨ ((k : Int) ≤ tp (tb i) ∧ Mg0 (tb i) k m z ∧ x = 0))
def Bc (ii : Int) (k m : Nat) (z x : Int) : Prop :=
  ((ii < 1 ∨ 15 ≤ ii) ∧ m = 0 ∧ z = 0 ∧ x = 3) ∨
  ∃ i : Nat, ii = i ∧ 1 ≤ i ∧ i ≤ 14 ∧ ((tp (tb i) < k ∧ m = 0 ∧ z = 0 ∧ x = 4) ∨ ((k : Int) ≤ tp (tb i) ∧ Bd (tb i) k m z ∧ x = 0))

theorem in_or_out (ii : Int) : (ii < 1 ∨ 15 ≤ ii) ∨ ∃ i : Nat, ii = i ∧ 1 ≤ i ∧ i ≤ 14 := by
  rcases (show (ii < 1 ∨ 15 ≤ ii) ∨ (1 ≤ ii ∧ ii ≤ 14) by omega) with h | h
  · exact .inl h
  · exact .inr ⟨ii.toNat, by omega, by omega, by omega⟩
theorem cls_four (f : Fm) (p : Int) : cls f p = 1 ∨ cls f p = 2 ∨ cls f p = 3 ∨ cls f p = 4 := by
  unfold cls
  split
  · split <;> simp
  · split
    · simp
    · split <;> simp
theorem dv_ex {f : Fm} (h : Ok f) (h2 : Ok2 f) {p : Int} (p1 : 0 ≤ p) (p2 : p ≤ msk f) : ∃ c g m z, Dv f p c g m z := by
  rcases cls_four f p with e | e | e | e
  · exact ⟨1, _, 0, 0, .inr (.inr (.inl ⟨e, rfl, rfl, rfl, rfl⟩))⟩
  · obtain ⟨a, b, _, d⟩ := cls_key h h2 p1 p2 (.inr e)
    obtain ⟨k, hk⟩ : ∃ k : Nat, kyf f p = k := ⟨(kyf f p).toNat, by omega⟩
    obtain ⟨m, z, hm⟩ := mg_ex h h2 (k := k) (by omega) (by have := d e; omega)
    exact ⟨2, _, m, z, .inr (.inr (.inr ⟨e, rfl, rfl, k, hk, hm⟩))⟩
  · exact ⟨3, _, 0, 0, .inr (.inl ⟨e, rfl, rfl, rfl, rfl⟩)⟩
  · exact ⟨4, _, 0, 0, .inl ⟨e, rfl, rfl, rfl, rfl⟩⟩
theorem dc_ex (ii : Int) (p : Nat) : ∃ c g m z x, Dc ii p c g m z x := by
  rcases in_or_out ii with h | ⟨i, h, a, b⟩
  · exact ⟨_, _, _, _, _, .inl ⟨h, rfl, rfl, rfl, rfl, rfl⟩⟩
  · by_cases c : msk (tb i) < p
    · exact ⟨_, _, _, _, _, .inr ⟨i, h, a, b, .inl ⟨c, rfl, rfl, rfl, rfl, rfl⟩⟩⟩
    · obtain ⟨_, _, _, _, hd⟩ := dv_ex (ok i a b) (ok2 i a b) (p := p) (by omega) (by omega)
      exact ⟨_, _, _, _, _, .inr ⟨i, h, a, b, .inr ⟨by omega, hd, rfl⟩⟩⟩
theorem kc_ex (ii : Int) (p : Nat) : ∃ g k x, Kc ii p g k x := by
  rcases in_or_out ii with h | ⟨i, h, a, b⟩
  · exact ⟨_, _, _, .inl ⟨h, rfl, rfl, rfl⟩⟩
  · by_cases c : msk (tb i) < p
    · exact ⟨_, _, _, .inr ⟨i, h, a, b, .inl ⟨c, rfl, rfl, rfl⟩⟩⟩
    · have hr := kyf_rng (ok i a b) (p := p) (by omega) (by omega)
      obtain ⟨k, hk⟩ : ∃ k : Nat, kyf (tb i) p = k := ⟨(kyf (tb i) p).toNat, by omega⟩
      rcases cls_four (tb i) p with e | e | e | e
      · exact ⟨_, k, _, .inr ⟨i, h, a, b, .inr ⟨by omega, .inr (.inl ⟨e, rfl, hk, rfl⟩)⟩⟩⟩
      · exact ⟨_, k, _, .inr ⟨i, h, a, b, .inr ⟨by omega, .inr (.inr ⟨e, rfl, hk, rfl⟩)⟩⟩⟩
      · exact ⟨_, _, _, .inr ⟨i, h, a, b, .inr ⟨by omega, .inl ⟨.inl e, rfl, rfl, rfl⟩⟩⟩⟩
      · exact ⟨_, _, _, .inr ⟨i, h, a, b, .inr ⟨by omega, .inl ⟨.inr e, rfl, rfl, rfl⟩⟩⟩⟩
theorem mc_ex (ii : Int) (neg : Bool) : ∃ q x, Mc ii neg q x := by
  rcases in_or_out ii with h | ⟨i, h, a, b⟩
  · exact ⟨_, _, .inl ⟨h, rfl, rfl⟩⟩
  · by_cases c : (tb i).k = 4 ∧ neg = true
    · exact ⟨_, _, .inr ⟨i, h, a, b, .inl ⟨c.1, c.2, rfl, rfl⟩⟩⟩
    · exact ⟨_, _, .inr ⟨i, h, a, b, .inr ⟨c, rfl, rfl⟩⟩⟩
theorem pc_ex (ii : Int) (neg : Bool) (k : Nat) : ∃ q x, Pc ii neg k q x := by
  rcases in_or_out ii with h | ⟨i, h, a, b⟩
  · exact ⟨_, _, .inl ⟨h, rfl, rfl⟩⟩
  · by_cases c : (tb i).k = 4 ∧ neg = true
    · exact ⟨_, _, .inr ⟨i, h, a, b, .inl ⟨c.1, c.2, rfl, rfl⟩⟩⟩
    · by_cases d : mst (tb i) neg < k
      · exact ⟨_, _, .inr ⟨i, h, a, b, .inr ⟨c, .inl ⟨d, rfl, rfl⟩⟩⟩⟩
      · exact ⟨_, _, .inr ⟨i, h, a, b, .inr ⟨c, .inr ⟨by omega, rfl, rfl⟩⟩⟩⟩
theorem ac_ex (ii : Int) (k : Nat) : ∃ m z x, Ac ii k m z x := by
  rcases in_or_out ii with h | ⟨i, h, a, b⟩
  · exact ⟨_, _, _, .inl ⟨h, rfl, rfl, rfl⟩⟩
  · by_cases d : tp (tb i) < k
    · exact ⟨_, _, _, .inr ⟨i, h, a, b, .inl ⟨d, rfl, rfl, rfl⟩⟩⟩
    · obtain ⟨m, z, hm⟩ := mg0_ex (ok i a b) (ok2 i a b) (k := k) (by omega)
      exact ⟨m, z, _, .inr ⟨i, h, a, b, .inr ⟨by omega, hm, rfl⟩⟩⟩
theorem bc_ex (ii : Int) (k : Nat) : ∃ m z x, Bc ii k m z x := by
  rcases in_or_out ii with h | ⟨i, h, a, b⟩
  · exact ⟨_, _, _, .inl ⟨h, rfl, rfl, rfl⟩⟩
  · by_cases d : tp (tb i) < k
    · exact ⟨_, _, _, .inr ⟨i, h, a, b, .inl ⟨d, rfl, rfl, rfl⟩⟩⟩
    · obtain ⟨m, z, hm⟩ := bd_ex (ok i a b) (ok2 i a b) (k := k) (by omega)
      exact ⟨m, z, _, .inr ⟨i, h, a, b, .inr ⟨by omega, hm, rfl⟩⟩⟩
end M
end Go.Proofs.YtjcbncfpcechnaaDoor
