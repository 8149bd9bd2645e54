import Derived.Test.YtijpffgocookaaaGreatDoorQWVga
import Derived.Test.YtijpffgocookaaaGreatDoorQWExa
set_option maxHeartbeats 32000000
set_option linter.unusedVariables false
set_option linter.unusedSimpArgs false
namespace Go.Proofs.YtijpffgocookaaaGreatDoor
open Go.RowKit
namespace M
def bse : Int := -5000
theorem bse_eq : bse = -5000 := rfl
def sz (a : Nat) (t f : Int) : Nat := ov a t f bse
theorem sz_zero {a : Nat} {t f : Int} : sz a t f = 0 ↔ a = 0 := ov_zero
theorem gt_sz {a b : Nat} {d e : Int} (hd : -5000 ≤ d) (he : -5000 ≤ e) (h : Gt a d b e) : sz b e 0 < sz a d 0 := by
 obtain ⟨D, h1, h2, h3⟩ := h
 unfold sz ov
 rw [bse_eq]
 obtain ⟨c, hc⟩ : ∃ c : Nat, 5 ^ ((0 : Int) - -5000).toNat = c := ⟨_, rfl⟩
 have hcp : 0 < c := by rw [← hc]; exact Nat.pow_pos (by omega)
 rw [hc]
 clear hc
 have key : b * 2 ^ (e - -5000).toNat < a * 2 ^ (d - -5000).toNat := by
  rcases Int.le_total 5000 D with hD | hD
  ·obtain ⟨s, hs⟩ : ∃ s : Nat, D = 5000 + s := ⟨(D - 5000).toNat, by omega⟩
   rw [show (e + D).toNat = (e - -5000).toNat + s by omega, show (d + D).toNat = (d - -5000).toNat + s by omega, Nat.pow_add, Nat.pow_add, ← Nat.mul_assoc, ← Nat.mul_assoc] at h3
   exact Nat.lt_of_mul_lt_mul_right h3
  ·obtain ⟨s, hs⟩ : ∃ s : Nat, D + s = 5000 := ⟨(5000 - D).toNat, by omega⟩
   rw [show (e - -5000).toNat = (e + D).toNat + s by omega, show (d - -5000).toNat = (d + D).toNat + s by omega, Nat.pow_add, Nat.pow_add, ← Nat.mul_assoc, ← Nat.mul_assoc]
   exact Nat.mul_lt_mul_of_pos_right h3 (p2 s)
 have e1 : ∀ x y : Nat, x * c * y = c * (x * y) := fun x y => by ac_rfl
 rw [e1, e1]
 exact Nat.mul_lt_mul_of_pos_left key hcp
structure Ok3 (f : Fm) : Prop where
 two : f.k = 2 → 0 ≤ f.b ∧ f.b ≤ 1023 ∧ f.t.toNat / 2 ^ f.m.toNat ≤ 2047
 most : f.n ≠ 0 → f.k = 2 ∧ f.t < f.n ∧ f.n < half f
 big : 3 ≤ f.t
 nan : f.k = 2 → f.x ≠ 0 → f.t < f.x
theorem ok3 (i : Nat) (a : 1 ≤ i) (b : i ≤ 14) : Ok3 (tb i) := by
 refine all14 (p := fun i => Ok3 (tb i)) ?_ ?_ ?_ ?_ ?_ ?_ ?_ ?_ ?_ ?_ ?_ ?_ ?_ ?_ i a b <;> exact ⟨by decide +kernel, by decide, by decide, by decide⟩
theorem ism_z {p k m : Nat} {b z : Int} (h : IsM p b k m z) (hp : p ≤ 60) (hb : 0 ≤ b ∧ b ≤ 1023) (hk : k / 2 ^ p ≤ 2047) : -2000 ≤ z ∧ z ≤ 3000 := by
  have hl := mX_lt p k
  have h60 : 2 ^ p ≤ 2 ^ 60 := p2le hp
  have c60 : (2 : Nat) ^ 60 = 1152921504606846976 := by decide
  have hs := mS_eq p b k
  rcases h with ⟨_, rfl, rfl⟩ | ⟨g1, t, g2, g3⟩
  · exact ⟨by decide, by decide⟩
  · have p1 : m ≤ m * 2 ^ t := Nat.le_mul_of_pos_right _ (p2 t)
    have p3 : 2 ^ t ≤ m * 2 ^ t := Nat.le_mul_of_pos_left _ (by omega)
    have t62 : t < 62 := p2inj (by have : (2 : Nat) ^ 62 = 4611686018427387904 := by decide
                                   omega)
    exact ⟨by omega, by omega⟩
theorem bd_z {f : Fm} (ok : Ok f) (ok2 : Ok2 f) (ok3 : Ok3 f) {k m : Nat} {z : Int} (hk : (k : Int) ≤ tp f) (h : Bd f k m z) : 0 < m ∧ m < 18446744073709551616 ∧ -3000 ≤ z ∧ z ≤ 3000 := by
 have hm := (bd_rng h).1
 have h0 := bd_nz h
 refine ⟨by omega, hm, ?_⟩
 unfold tp at hk
 rcases h with ⟨e, a, _, ha, haW, h⟩ | ⟨e, p, hp, hpm, ho, h⟩ | ⟨e, hm, k0, rfl, rfl⟩ | ⟨e, hb, hk', rfl, rfl⟩
 ·have := h.rng (by omega); omega
 ·obtain ⟨b1, b2, b3⟩ := ok3.two e
  rw [if_neg (by omega)] at hk
  have q : (2 * k + 1) / 2 ^ (p + 1) = k / 2 ^ p := by
   rw [p2s, ← Nat.div_div_eq_div_mul, show (2 * k + 1) / 2 = k by omega]
  have q2 : k / 2 ^ p ≤ 2047 := by
   refine Nat.le_trans (Nat.div_le_div_right (c := 2 ^ p) (show k ≤ f.t.toNat by omega)) ?_
   rw [show p = f.m.toNat by omega]
   exact b3
  have := ism_z h (by omega) ⟨b1, b2⟩ (by rw [q]; exact q2)
  omega
 ·have := ok2.tri e
  omega
 ·have := ok2.four e
  rw [if_neg (by omega)] at hk
  omega
theorem mg_z {f : Fm} (ok : Ok f) (ok2 : Ok2 f) (ok3 : Ok3 f) {k m : Nat} {z : Int} (hk : (k : Int) ≤ tp f) (h : Mg0 f k m z) : m < 18446744073709551616 ∧ -3000 ≤ z ∧ z ≤ 3000 := by
  have kb : k < 18446744073709551616 := by
    have hm := ok.hm
    have ht := ok.t
    have o1 := ok2.one
    have o3 := ok2.tri
    have o4 := ok2.four
    have o2 := ok.two
    unfold tp at hk
    rcases ok.k with e | e | e | e
    · rw [if_neg (by omega)] at hk; omega
    · rw [if_neg (by omega)] at hk; omega
    · rw [if_pos e] at hk; omega
    · rw [if_neg (by omega)] at hk; omega
  have hm := (mg_rng kb h).1
  refine ⟨hm, ?_⟩
  unfold tp at hk
  rcases h with ⟨_, _, _, rfl⟩ | ⟨h0, h⟩
  · exact ⟨by decide, by decide⟩
  · rcases h with ⟨e, a, ha, haW, h⟩ | ⟨e, p, hp, ho, h⟩ | ⟨e, hm', k0, ho, t, hk', hz⟩ | ⟨e, hb, hk', rfl, rfl⟩
    · have := h.rng ha; omega
    · obtain ⟨b1, b2, b3⟩ := ok3.two e
      rw [if_neg (by omega)] at hk
      have q2 : k / 2 ^ p ≤ 2047 := by
        refine Nat.le_trans (Nat.div_le_div_right (c := 2 ^ p) (show k ≤ f.t.toNat by omega)) ?_
        rw [show p = f.m.toNat by omega]
        exact b3
      have := ism_z h ho.1 ⟨b1, b2⟩ q2
      omega
    · have p3 : 2 ^ t ≤ m * 2 ^ t := Nat.le_mul_of_pos_left _ (by omega)
      have t64 : t < 64 := p2inj (by have : (2 : Nat) ^ 64 = 18446744073709551616 := by decide
                                     omega)
      have := ok2.tri e
      omega
    · have := ok2.four e
      rw [if_neg (by omega)] at hk
      omega
def Bo (f : Fm) (k X : Nat) : Prop := ∃ m z, Bd f k m z ∧ sz m z 0 = X
theorem bo_ex {f : Fm} (ok : Ok f) (ok2 : Ok2 f) {k : Nat} (hk : (k : Int) ≤ tp f) : ∃ X, Bo f k X := by
 obtain ⟨m, z, h⟩ := bd_ex ok ok2 hk
 exact ⟨_, m, z, h, rfl⟩
theorem bo_step {f : Fm} (ok : Ok f) (ok2 : Ok2 f) (ok3 : Ok3 f) {k X Y : Nat} (hk : ((k + 1 : Nat) : Int) ≤ tp f) (h : Bo f k X) (h' : Bo f (k + 1) Y) : X < Y := by
 obtain ⟨m, z, h, rfl⟩ := h
 obtain ⟨m', z', h', rfl⟩ := h'
 obtain ⟨n, y, hn⟩ := mg0_ex ok ok2 hk
 have b1 := bd_z ok ok2 ok3 (k := k) (by omega) h
 have b2 := bd_z ok ok2 ok3 hk h'
 have b3 := mg_z ok ok2 ok3 hk hn
 obtain ⟨n0, g1⟩ := gt_next h hn
 rcases gt_mid hn h' with e | ⟨_, g2⟩
 ·exact absurd e n0
 ·exact Nat.lt_trans (gt_sz (by omega) (by omega) g1) (gt_sz (by omega) (by omega) g2)
theorem bo_uniq {f : Fm} {k X Y : Nat} (h : Bo f k X) (h' : Bo f k Y) : X = Y := by
 obtain ⟨m, z, h, rfl⟩ := h
 obtain ⟨m', z', h', rfl⟩ := h'
 have key : m = m' ∧ z = z' := by
  rcases h with ⟨e, a, _, ha, haW, h⟩ | ⟨e, p, hp, hpm, ho, h⟩ | ⟨e, hm, k0, rfl, rfl⟩ | ⟨e, hb, hk', rfl, rfl⟩
  ·rcases h' with ⟨_, a', _, ha', haW', h'⟩ | ⟨e', _⟩ | ⟨e', _⟩ | ⟨e', _⟩
   ·obtain rfl : a = a' := by omega
    exact isk_uniq h h'
   ·omega
   ·omega
   ·omega
  ·rcases h' with ⟨e', _⟩ | ⟨_, p', hp', hpm', ho', h'⟩ | ⟨e', _⟩ | ⟨e', _⟩
   ·omega
   ·obtain rfl : p = p' := by omega
    rcases h with ⟨g, rfl, rfl⟩ | ⟨g1, t, g2, rfl⟩
    ·rcases h' with ⟨_, rfl, rfl⟩ | ⟨g1', t', g2', _⟩
     ·exact ⟨rfl, rfl⟩
     ·have := p2 t'
      rw [g] at g2'
      rcases Nat.mul_eq_zero.1 g2'.symm with e1 | e1 <;> omega
    ·rcases h' with ⟨g, rfl, rfl⟩ | ⟨g1', t', g2', rfl⟩
     ·have := p2 t
      rw [g] at g2
      rcases Nat.mul_eq_zero.1 g2.symm with e1 | e1 <;> omega
     ·obtain ⟨e1, e2⟩ := odd_uniq g1 g1' (g2.symm.trans g2')
      exact ⟨e1, by rw [e2]⟩
   ·omega
   ·omega
  ·rcases h' with ⟨e', _⟩ | ⟨e', _⟩ | ⟨_, _, _, rfl, rfl⟩ | ⟨e', _⟩
   ·omega
   ·omega
   ·exact ⟨rfl, rfl⟩
   ·omega
  ·rcases h' with ⟨e', _⟩ | ⟨e', _⟩ | ⟨e', _⟩ | ⟨_, _, _, rfl, rfl⟩
   ·omega
   ·omega
   ·omega
   ·exact ⟨rfl, rfl⟩
 rw [key.1, key.2]
theorem bo_lt {f : Fm} (ok : Ok f) (ok2 : Ok2 f) (ok3 : Ok3 f) : ∀ (d k X Y : Nat), ((k + d + 1 : Nat) : Int) ≤ tp f → Bo f k X → Bo f (k + d + 1) Y → X < Y := by
 intro d
 induction d with
 | zero => intro k X Y hk h h'; exact bo_step ok ok2 ok3 hk h h'
 | succ d ih =>
  intro k X Y hk h h'
  obtain ⟨Z, hz⟩ := bo_ex ok ok2 (k := k + d + 1) (by omega)
  exact Nat.lt_trans (ih k X Z (by omega) h hz) (bo_step ok ok2 ok3 (k := k + d + 1) hk hz h')
def Byd (f : Fm) (X k : Nat) : Prop := ∃ Y, Bo f k Y ∧ (Y < X ∨ (Y = X ∧ k % 2 = 1))
theorem byd_iff {f : Fm} {X k Y : Nat} (h : Bo f k Y) : Byd f X k ↔ (Y < X ∨ (Y = X ∧ k % 2 = 1)) := by
 constructor
 ·rintro ⟨Z, h', hz⟩
  rw [bo_uniq h h']; exact hz
 ·exact fun e => ⟨Y, h, e⟩
theorem byd_down {f : Fm} (ok : Ok f) (ok2 : Ok2 f) (ok3 : Ok3 f) {X k k' : Nat} (hk : (k' : Int) ≤ tp f) (h : k ≤ k') (hb : Byd f X k') : Byd f X k := by
 rcases Nat.eq_or_lt_of_le h with rfl | h
 ·exact hb
 ·obtain ⟨Y, h1, h2⟩ := hb
  obtain ⟨Z, hz⟩ := bo_ex ok ok2 (k := k) (by omega)
  obtain ⟨d, rfl⟩ : ∃ d, k' = k + d + 1 := ⟨k' - k - 1, by omega⟩
  have := bo_lt ok ok2 ok3 d k Z Y hk hz h1
  exact ⟨Z, hz, .inl (by omega)⟩
theorem byd_zero {f : Fm} {k : Nat} : ¬ Byd f 0 k := by
 rintro ⟨Y, ⟨m, z, h, rfl⟩, h2⟩
 have h0 := bd_nz h
 have : sz m z 0 ≠ 0 := fun e => h0 (sz_zero.1 e)
 omega
def Nr (f : Fm) (q X k : Nat) (over : Bool) : Prop :=
 (over = true ∧ k = q ∧ Byd f X q) ∨
 (over = false ∧ k ≤ q ∧ ¬ Byd f X k ∧ (f.k = 1 → X ≠ 0 → k ≠ 0) ∧ ∀ j, j < k → Byd f X j ∨ (f.k = 1 ∧ X ≠ 0 ∧ j = 0))
theorem nr_uniq {f : Fm} (ok : Ok f) (ok2 : Ok2 f) (ok3 : Ok3 f) {q X k k' : Nat} {o o' : Bool} (hq : (q : Int) ≤ tp f) (h : Nr f q X k o) (h' : Nr f q X k' o') : k = k' ∧ o = o' := by
 have key : ∀ {k k' : Nat}, k < k' → (¬ Byd f X k ∧ (f.k = 1 → X ≠ 0 → k ≠ 0)) → (∀ j, j < k' → Byd f X j ∨ (f.k = 1 ∧ X ≠ 0 ∧ j = 0)) → False := by
  intro k k' hl h1 h2
  rcases h2 k hl with e | ⟨e1, e2, e3⟩
  ·exact h1.1 e
  ·exact h1.2 e1 e2 e3
 rcases h with ⟨rfl, rfl, h⟩ | ⟨rfl, h1, h2, h3, h4⟩
 ·rcases h' with ⟨rfl, rfl, h'⟩ | ⟨rfl, g1, g2, g3, g4⟩
  ·exact ⟨rfl, rfl⟩
  ·exact absurd (byd_down ok ok2 ok3 hq g1 h) g2
 ·rcases h' with ⟨rfl, rfl, h'⟩ | ⟨rfl, g1, g2, g3, g4⟩
  ·exact absurd (byd_down ok ok2 ok3 hq h1 h') h2
  ·refine ⟨?_, rfl⟩
   rcases Nat.lt_trichotomy k k' with e | e | e
   ·exact (key e ⟨h2, h3⟩ g4).elim
   ·exact e
   ·exact (key e ⟨g2, g3⟩ h4).elim
theorem nr_zero {f : Fm} {q : Nat} : Nr f q 0 0 false :=
 .inr ⟨rfl, Nat.zero_le _, byd_zero, fun _ h => absurd rfl h, fun j h => absurd h (Nat.not_lt_zero j)⟩
theorem nr_ex {f : Fm} (ok : Ok f) (ok2 : Ok2 f) (ok3 : Ok3 f) {q X : Nat} (hq : (q : Int) ≤ tp f) (h0 : f.k = 1 → q ≠ 0) : ∃ k o, Nr f q X k o := by
 classical
 by_cases hb : Byd f X q
 ·exact ⟨q, true, .inl ⟨rfl, rfl, hb⟩⟩
 ·have : ∀ n k : Nat, k + n = q → (∀ j, j < k → Byd f X j ∨ (f.k = 1 ∧ X ≠ 0 ∧ j = 0)) → ∃ k o, Nr f q X k o := by
   intro n
   induction n with
   | zero =>
    intro k hk hj
    obtain rfl : k = q := by omega
    exact ⟨k, false, .inr ⟨rfl, Nat.le_refl _, hb, fun a _ => h0 a, hj⟩⟩
   | succ n ih =>
    intro k hk hj
    by_cases hs : Byd f X k ∨ (f.k = 1 ∧ X ≠ 0 ∧ k = 0)
    ·refine ih (k + 1) (by omega) (fun j h => ?_)
     rcases Nat.eq_or_lt_of_le (Nat.le_of_lt_succ h) with rfl | h
     ·exact hs
     ·exact hj j h
    ·refine ⟨k, false, .inr ⟨rfl, by omega, fun a => hs (.inl a), fun a b c => hs (.inr ⟨a, b, c⟩), hj⟩⟩
  exact this q 0 (by omega) (fun j h => absurd h (Nat.not_lt_zero j))
theorem nr_has {f : Fm} (ok : Ok f) (ok2 : Ok2 f) (ok3 : Ok3 f) {q k m : Nat} {z : Int} (hq : (q : Int) ≤ tp f) (hk : k ≤ q) (h : Mg0 f k m z) : Nr f q (sz m z 0) k false := by
 have b3 := mg_z ok ok2 ok3 (k := k) (by omega) h
 have up : ∀ j, k ≤ j → j ≤ q → ¬ Byd f (sz m z 0) j := by
  intro j h1 h2 hb
  obtain ⟨Y, ⟨n, y, hn, rfl⟩, h3⟩ := byd_down ok ok2 ok3 (by omega) h1 hb
  have b1 := bd_z ok ok2 ok3 (k := k) (by omega) hn
  rcases gt_mid h hn with e | ⟨_, g⟩
  ·subst e
   rw [sz_zero.2 rfl] at h3
   have : sz n y 0 ≠ 0 := fun e => by have := sz_zero.1 e; omega
   omega
  ·have := gt_sz (by omega) (by omega) g
   omega
 refine .inr ⟨rfl, hk, up k (Nat.le_refl _) hk, ?_, ?_⟩
 ·intro e h0 e0
  subst e0
  rcases h with ⟨_, _, rfl, _⟩ | ⟨h1, _⟩
  ·exact h0 (sz_zero.2 rfl)
  ·omega
 ·intro j hj
  refine .inl ?_
  obtain ⟨k', rfl⟩ : ∃ k', k = k' + 1 := ⟨k - 1, by omega⟩
  refine byd_down ok ok2 ok3 (k' := k') (by omega) (by omega) ?_
  obtain ⟨n, y, hn⟩ := bd_ex ok ok2 (k := k') (by omega)
  have b1 := bd_z ok ok2 ok3 (k := k') (by omega) hn
  exact ⟨_, ⟨n, y, hn, rfl⟩, .inl (gt_sz (by omega) (by omega) (gt_next hn h).2)⟩
end M
end Go.Proofs.YtijpffgocookaaaGreatDoor
