import Derived.Test.YtijpffgocookaaaGreatDoorQWRva
import Derived.Test.YtijpffgocookaaaGreatDoorQWWb0
set_option maxHeartbeats 32000000
set_option linter.unusedVariables false
set_option linter.unusedSimpArgs false
namespace Go.Proofs.YtijpffgocookaaaGreatDoor
open Go.RowKit
def Fz (w : World) (A : Option Addr) (n : Nat) : Prop := ∀ ad, A = some ad → ∀ j, j < n → w.frozen? (ad.add j) = false
theorem Src.wd0 {w : World} {A : Option Addr} {n c : Nat} {xs : List Nat} (h : Src w A n c xs) (hz : Fz w A n) (hn : n ≤ 1099511627776) : Wd w 0 A n c xs := by
 refine ⟨h.num, h.len, hn, h.wds, fun h0 => ?_⟩
 rcases A with _ | ⟨b, o, sp⟩
 ·have := h.none_ rfl
  have := h.len
  omega
 ·have c0 := h.at_ _ rfl 0 h0
  have e : sp = none := by
   rcases sp with _ | sp
   ·rfl
   ·exfalso
    simp only [Addr.add, if_pos rfl, World.cell?] at c0
    split at c0 <;> simp at c0
  subst e
  refine ⟨b, o, rfl, Nat.zero_le _, fun j hj => ?_⟩
  have e : (Addr.mk b o none).add j = ⟨b, o + j, none⟩ := by
   unfold Addr.add
   split
   ·rename_i e; subst e; rfl
   ·rfl
  rw [← e]
  exact ⟨h.at_ _ rfl j hj, hz _ rfl j hj⟩
theorem M.trimmed (xs : List Nat) (k : Nat) : ∃ m, m ≤ k ∧ (0 < m → xs.getD (m - 1) 0 ≠ 0) ∧ ∀ j, m ≤ j → j < k → xs.getD j 0 = 0 := by
 induction k with
 | zero => exact ⟨0, Nat.le_refl _, fun h => by omega, fun j _ h => by omega⟩
 | succ k ih =>
  by_cases h : xs.getD k 0 = 0
  ·obtain ⟨m, h1, h2, h3⟩ := ih
   refine ⟨m, by omega, h2, fun j a b => ?_⟩
   rcases Nat.eq_or_lt_of_le (Nat.le_of_lt_succ b) with rfl | e
   ·exact h
   ·exact h3 j a e
  ·exact ⟨k + 1, Nat.le_refl _, fun _ => h, fun j a b => by omega⟩
def Xe (v : Value) (w : World) (e : Ending) (w' : World) : Prop := e = .returned v ∧ Up w w'
namespace M
end M
theorem Nt.lt128 {w : World} {lo s : Nat} {v : Value} {a : Nat} (h : Nt w lo s v a) (hs : s ≤ 128) : a < 18446744073709551616 ^ 128 := by
 obtain ⟨A, n, c, xs, _, h1, h2, h3, _⟩ := h
 have h4 := M.val_lt h1.wds
 rw [h2] at h4
 refine Nat.lt_of_lt_of_le h4 (Nat.pow_le_pow_right (by decide) ?_)
 rw [h1.num]
 omega
namespace M
theorem pat_key {f : Fm} (ok : Ok f) (ok2 : Ok2 f) (ok3 : Ok3 f) {neg : Bool} {k : Nat} (h4 : ¬ (f.k = 4 ∧ neg = true)) (hk : (k : Int) ≤ mst f neg) :
  0 ≤ pat f neg k ∧ pat f neg k ≤ msk f ∧ ((k ≠ 0 ∨ f.k = 4) → cls f (pat f neg k) = 2 ∧ kyf f (pat f neg k) = k ∧ ngs f (pat f neg k) = neg) ∧ ((k = 0 ∧ f.k ≠ 4) → cls f (pat f neg k) = 1) := by
 have hm := ok.hm
 have ht := ok.t
 have o1 := ok2.one
 have o3 := ok2.tri
 have o4 := ok2.four
 have o2 := ok.two
 unfold mst at hk
 by_cases e4 : f.k = 4
 ·have hn : neg = false := by
   cases neg
   ·rfl
   ·exact absurd ⟨e4, rfl⟩ h4
  subst hn
  rw [if_neg (by omega)] at hk
  have hp : pat f false k = k := by unfold pat; rw [if_pos rfl]
  rw [hp]
  have g := ngs_four ok e4 (k : Int)
  have hy := kyf_pos g
  have hc : cls f (k : Int) = 2 := by
   unfold cls
   rw [if_neg (by omega), if_neg (by omega), if_neg (by omega)]
  exact ⟨by omega, by omega, fun _ => ⟨hc, hy, g⟩, fun e => absurd e4 e.2⟩
 ·have hg := ngs_is ok e4
  by_cases e2 : f.k = 2
  ·have o2' := o2 e2
   rw [if_neg (by omega)] at hk
   cases neg with
   | false =>
    have hp : pat f false k = k := by unfold pat; rw [if_pos rfl]
    rw [hp]
    have g : ngs f (k : Int) = false := by rw [hg]; exact decide_eq_false (by omega)
    have hy := kyf_pos g
    have hc := cls_two_ e2 (p := (k : Int))
    rw [hy, if_neg (by omega)] at hc
    refine ⟨by omega, by omega, fun e => ⟨?_, hy, g⟩, fun e => ?_⟩
    ·rw [hc, if_neg (by omega)]
    ·rw [hc, if_pos (by omega)]
   | true =>
    have hp : pat f true k = k + half f := by unfold pat; rw [if_neg (by simp), if_pos e2]
    rw [hp]
    have g : ngs f ((k : Int) + half f) = true := by rw [hg]; exact decide_eq_true (by omega)
    have hy := kyf_two ok e2 g
    have hc := cls_two_ e2 (p := (k : Int) + half f)
    rw [show (k : Int) + half f - half f = k by omega] at hy
    rw [hy, if_neg (by omega)] at hc
    refine ⟨by omega, by omega, fun e => ⟨?_, hy, g⟩, fun e => ?_⟩
    ·rw [hc, if_neg (by omega)]
    ·rw [hc, if_pos (by omega)]
  ·have e13 : f.k = 1 ∨ f.k = 3 := by rcases ok.k with e | e | e | e <;> omega
   have hx : f.k = 1 → f.x = half f ∧ f.t + 1 = half f := fun e => ⟨(o1 e).2.1, (o1 e).1⟩
   have hx3 : f.k = 3 → f.x = 0 ∧ f.t = 127 ∧ half f = 128 := fun e => ⟨(o3 e).2.2.2.1, (o3 e).2.1, (o3 e).2.2.1⟩
   cases neg with
   | false =>
    rw [if_neg (by simp)] at hk
    have hp : pat f false k = k := by unfold pat; rw [if_pos rfl]
    rw [hp]
    have g : ngs f (k : Int) = false := by rw [hg]; exact decide_eq_false (by rcases e13 with e | e <;> omega)
    have hy := kyf_pos g
    have hc := cls_trn_ e13 (p := (k : Int))
    rw [hy, if_neg (by rcases e13 with e | e <;> omega)] at hc
    refine ⟨by omega, by rcases e13 with e | e <;> omega, fun e => ⟨?_, hy, g⟩, fun e => ?_⟩
    ·rw [hc, if_neg (by omega)]
    ·rw [hc, if_pos (by omega)]
   | true =>
    have hk2 : (k : Int) ≤ half f ∧ (f.k = 1 → (k : Int) < half f) := by
     rcases e13 with e | e
     ·have := hx e
      rw [if_neg (by omega)] at hk
      omega
     ·have := hx3 e
      rw [if_pos ⟨e, rfl⟩] at hk
      omega
    by_cases k0 : k = 0
    ·subst k0
     have hp : pat f true 0 = 0 := by unfold pat; rw [if_neg (by simp), if_neg e2, if_pos rfl]
     rw [hp]
     have g : ngs f (0 : Int) = false := by rw [hg]; exact decide_eq_false (by omega)
     have hy := kyf_pos g
     have hc := cls_trn_ e13 (p := (0 : Int))
     rw [hy, if_neg (by omega), if_pos rfl] at hc
     exact ⟨by omega, by omega, fun e => by omega, fun _ => hc⟩
    ·have hp : pat f true k = msk f - k + 1 := by unfold pat; rw [if_neg (by simp), if_neg e2, if_neg k0]
     rw [hp]
     have g : ngs f (msk f - k + 1) = true := by rw [hg]; exact decide_eq_true (by omega)
     have hy := kyf_trn e2 g
     rw [show msk f - (msk f - (k : Int) + 1) + 1 = k by omega] at hy
     have hc := cls_trn_ e13 (p := msk f - k + 1)
     rw [hy, if_neg (by rcases e13 with e | e <;> omega), if_neg (by omega)] at hc
     exact ⟨by omega, by omega, fun e => ⟨hc, hy, g⟩, fun e => by omega⟩
theorem tl_class {f : Fm} (ok : Ok f) (ok2 : Ok2 f) (ok3 : Ok3 f) {mode : Int} (neg : Bool) (h : ¬ st f mode) : 0 ≤ tl f neg ∧ tl f neg ≤ msk f ∧ (cls f (tl f neg) = 3 ∨ cls f (tl f neg) = 4) := by
 have hm := ok.hm
 have hx := ok.x
 have hn := ok.n
 have o3 := ok2.tri
 have o2 := ok.two
 have k1 : f.k ≠ 1 := fun e => h (.inr (.inl e))
 have nx : ¬ (f.n = 0 ∧ f.x = 0) := fun e => h (.inr (.inr e))
 unfold tl
 by_cases n0 : f.n = 0
 ·rw [if_pos n0]
  refine ⟨hx.1, hx.2, .inr ?_⟩
  by_cases e2 : f.k = 2
  ·have o2' := o2 e2
   have g : ngs f f.x = false := by rw [ngs_is ok (by omega)]; exact decide_eq_false (by omega)
   rw [cls_two_ e2, kyf_pos g, if_pos (by omega), if_neg (by omega)]
  ·unfold cls
   rw [if_neg (fun e => e2 e.1), if_pos ⟨e2, by omega, rfl⟩]
 ·rw [if_neg n0]
  obtain ⟨e2, h1, h2⟩ := ok3.most n0
  cases neg with
  | false =>
   rw [if_neg (by simp)]
   have g : ngs f f.n = false := by rw [ngs_is ok (by omega)]; exact decide_eq_false (by omega)
   refine ⟨hn.1, hn.2, .inl ?_⟩
   rw [cls_two_ e2, kyf_pos g, if_pos h1, if_pos rfl]
  | true =>
   rw [if_pos rfl]
   have g : ngs f (f.n + half f) = true := by rw [ngs_is ok (by omega)]; exact decide_eq_true (by omega)
   refine ⟨by omega, by omega, .inl ?_⟩
   rw [cls_two_ e2, kyf_two ok e2 g, show f.n + half f - half f = f.n by omega, if_pos h1, if_pos rfl]
theorem rv_class {f : Fm} (ok : Ok f) (ok2 : Ok2 f) (ok3 : Ok3 f) {mode : Int} {neg : Bool} {X : Nat} {p : Int} (h : Rv f mode neg X p) :
    0 ≤ p ∧ p ≤ msk f ∧
    (((cls f p = 3 ∨ cls f p = 4) ∧ ((f.k = 4 ∧ (neg = true ∨ X = 0) ∧ p = f.x) ∨ (¬ (f.k = 4 ∧ (neg = true ∨ X = 0)) ∧ ¬ st f mode))) ∨
     (¬ (f.k = 4 ∧ (neg = true ∨ X = 0)) ∧ ∃ q k o, mst f neg = (q : Nat) ∧ Nr f q X k o ∧ ¬ (o = true ∧ ¬ st f mode) ∧ p = pat f neg k ∧ k ≤ q ∧ (q : Int) ≤ tp f)) := by
  rcases h with ⟨h1, h2, rfl⟩ | ⟨h1, q, k, o, hq, hn, h⟩
  · have := ok2.four h1
    have hx := ok.x
    refine ⟨hx.1, hx.2, .inl ⟨.inr ?_, .inl ⟨h1, h2, rfl⟩⟩⟩
    unfold cls
    rw [if_neg (by omega), if_pos ⟨by omega, by omega, rfl⟩]
  · rcases h with ⟨_, h2, rfl⟩ | ⟨h2, rfl⟩
    · obtain ⟨a, b, c⟩ := tl_class ok ok2 ok3 neg h2
      exact ⟨a, b, .inl ⟨c, .inr ⟨h1, h2⟩⟩⟩
    · obtain ⟨q', hq', _, _, qt⟩ := mst_rng ok ok2 ok3 neg
      obtain rfl : q = q' := by omega
      have kq : k ≤ q := by
        rcases hn with ⟨_, rfl, _⟩ | ⟨_, h, _⟩
        · exact Nat.le_refl _
        · exact h
      obtain ⟨a, b, _⟩ := pat_key ok ok2 ok3 (neg := neg) (k := k) (fun e => h1 ⟨e.1, .inl e.2⟩) (by omega)
      exact ⟨a, b, .inr ⟨h1, q, k, o, hq, hn, h2, rfl, kq, qt⟩⟩
theorem has_rv {f : Fm} (ok : Ok f) (ok2 : Ok2 f) (ok3 : Ok3 f) {p : Nat} (hp : (p : Int) ≤ msk f) {c : Int} {g : Bool} {m : Nat} {z : Int} (h : Dv f p c g m z) (hc : c = 1 ∨ c = 2) (mode : Int) : Rv f mode g (sz m z 0) p ∧ m < 18446744073709551616 ∧ -3000 ≤ z ∧ z ≤ 3000 := by
 have key : ∃ k, Kv f p g k 0 ∧ Mg0 f k m z := by
  rcases h with ⟨_, rfl, _⟩ | ⟨_, rfl, _⟩ | ⟨h1, rfl, rfl, rfl, rfl⟩ | ⟨h1, rfl, rfl, k, hk, hm⟩
  ·omega
  ·omega
  ·obtain ⟨r1, _, _, _⟩ := cls_key ok ok2 (p := p) (by omega) hp (.inl h1)
   have h2 := h1
   unfold cls at h2
   split at h2
   ·split at h2 <;> omega
   ·split at h2
    ·omega
    ·split at h2
     ·rename_i e
      exact ⟨0, .inr (.inl ⟨h1, rfl, by omega, rfl⟩), .inl ⟨rfl, e.2, rfl, rfl⟩⟩
     ·omega
  ·obtain ⟨_, _, _, r4⟩ := cls_key ok ok2 (p := p) (by omega) hp (.inr h1)
   exact ⟨k, .inr (.inr ⟨h1, rfl, hk, rfl⟩), .inr ⟨by have := r4 h1; omega, hm⟩⟩
 obtain ⟨k, hk, hm⟩ := key
 obtain ⟨h4, km, hpat, kt, _⟩ := kv_back ok ok2 hp hk
 obtain ⟨q, hq, _, _, qt⟩ := mst_rng ok ok2 ok3 g
 have mz := mg_z ok ok2 ok3 kt hm
 refine ⟨.inr ⟨fun e => ?_, q, k, false, hq, nr_has ok ok2 ok3 qt (by omega) hm, .inr ⟨fun e => (by cases e.1), hpat.symm⟩⟩, mz⟩
 rcases e.2 with e2 | e2
 ·exact h4 ⟨e.1, e2⟩
 ·have m0 := sz_zero.1 e2
  rcases hm with ⟨_, e3, _⟩ | ⟨e3, hm⟩
  ·exact e3 e.1
  ·exact mg_nz hm e3 m0
theorem sz_times (a b : Nat) (k j : Int) : sz (a * b) k j = a * sz b k j := by
 unfold sz ov
 rw [Nat.mul_assoc, Nat.mul_assoc, Nat.mul_assoc]
theorem sz_one (a : Nat) (k j : Int) : sz a k j = a * sz 1 k j := by
 rw [← sz_times, Nat.mul_one]
theorem sz_pos (k j : Int) : 0 < sz 1 k j := Nat.pos_of_ne_zero (fun e => by have := sz_zero.1 e; omega)
structure Pt (f : Fm) (p : Nat) (g : Bool) (m : Nat) (z : Int) (m1 : Nat) (z1 : Int) (m2 : Nat) (z2 : Int) (ev : Bool) : Prop where
 fit : (p : Int) ≤ msk f
 dv : Dv f p 2 g m z
 key : ∃ k : Nat, kyf f p = k ∧ Lm f g k m1 z1 m2 z2 ∧ ev = decide (k % 2 = 0)
theorem pt_key {f : Fm} (ok : Ok f) (ok2 : Ok2 f) {p : Nat} {g : Bool} {m : Nat} {z : Int} (hp : (p : Int) ≤ msk f) (h : Dv f p 2 g m z) :
  cls f p = 2 ∧ g = ngs f p ∧ ∃ k : Nat, kyf f p = k ∧ Mg0 f k m z ∧ ¬ (f.k = 4 ∧ g = true) ∧ (k : Int) ≤ mst f g ∧ pat f g k = p ∧ (k : Int) ≤ tp f ∧ (k ≠ 0 ∨ f.k = 4) ∧ m ≠ 0 := by
 rcases h with ⟨_, e, _⟩ | ⟨_, e, _⟩ | ⟨_, e, _⟩ | ⟨c2, _, rfl, k, hk, hm⟩
 ·exact absurd e (by decide)
 ·exact absurd e (by decide)
 ·exact absurd e (by decide)
 ·obtain ⟨_, _, _, r4⟩ := cls_key ok ok2 (p := p) (by omega) hp (.inr c2)
  have k0 : k ≠ 0 ∨ f.k = 4 := by have := r4 c2; omega
  obtain ⟨h4, km, hpat, kt, _⟩ := kv_back ok ok2 hp (g := ngs f p) (k := k) (.inr (.inr ⟨c2, rfl, hk, rfl⟩))
  exact ⟨c2, rfl, k, hk, .inr ⟨k0, hm⟩, h4, km, hpat, kt, k0, mg_nz hm k0⟩
theorem pt_rng {f : Fm} (ok : Ok f) (ok2 : Ok2 f) (ok3 : Ok3 f) {p : Nat} {g : Bool} {m : Nat} {z : Int} (hp : (p : Int) ≤ msk f) (h : Dv f p 2 g m z) : m ≠ 0 ∧ m < 18446744073709551616 ∧ -3000 ≤ z ∧ z ≤ 3000 := by
 obtain ⟨_, _, k, _, hmg, _, _, _, kt, _, m0⟩ := pt_key ok ok2 hp h
 exact ⟨m0, mg_z ok ok2 ok3 kt hmg⟩
structure Bes (X : Nat) (k : Int) (d : Nat) (z : Int) : Prop where
 le : sz d k k ≤ X
 lt : X < sz (d + 1) k k
 rng : z = 0 ∨ z = 1 ∨ z = 2 ∨ z = 3
 z0 : z = 0 → X = sz d k k
 z1 : z = 1 → 2 * X < sz d k k + sz (d + 1) k k
 z2 : z = 2 → 2 * X = sz d k k + sz (d + 1) k k
 z3 : z = 3 → sz d k k + sz (d + 1) k k < 2 * X
 up : z ≠ 0 → sz d k k < X
structure Tp (X : Nat) (t : Int) : Prop where
 le : sz 1 t t ≤ X
 lt : X < sz 1 (t + 1) (t + 1)
 lo : -3000 ≤ t
 hi : t ≤ 4000
structure Dgs (Y D : Nat) (K : Int) : Prop where
 ten : D % 10 ≠ 0
 eq : sz D K K = Y
 lo : -4000 ≤ K
 hi : K ≤ 4500
 fit : D < 18446744073709551616 ^ 128
theorem sz_two_ (m n : Nat) (k : Int) (hk : -5000 ≤ k) : sz (m * 2 ^ n) k 0 = sz m (k + n) 0 := by
 unfold sz ov
 rw [bse_eq, show (k + n - -5000).toNat = (k - -5000).toNat + n by omega, Nat.pow_add]
 generalize (5 : Nat) ^ ((0 : Int) - -5000).toNat = c
 ac_rfl
end M
end Go.Proofs.YtijpffgocookaaaGreatDoor
namespace Go.Proofs.YtijpffgocookaaaGreatDoor
open Go
namespace M
def Qi (i p q : Nat) (o : Option Nat) : Prop :=
  ∃ c g m z c' g' m' z', Dc (i : Int) p c g m z 0 ∧ Dc (i : Int) q c' g' m' z' 0 ∧
    ((o = none ∧ (c = 4 ∨ c' = 4)) ∨ (o = some 0 ∧ ¬ (c = 4 ∨ c' = 4) ∧ (c = 1 ∨ c' = 1)) ∨
      (¬ (c = 4 ∨ c' = 4) ∧ ¬ (c = 1 ∨ c' = 1) ∧ ∃ P : Nat, P = m * m' * 2 ^ (z + z' - qz i).toNat % 2 ^ qS i ∧ o = some (if g = g' then P else ng (2 ^ qS i) P)))
def tk (i : Nat) : Bool → Option Nat → Option Nat
 | true, some d => some (ng (2 ^ qS i) d)
 | _, o => o
def qst (i b : Nat) (o : Option Nat) : Nat := if b = qn i then b else match o with
 | none => qn i
 | some d => ad (2 ^ qS i) b d
def Ql (i : Nat) (s : Bool) (N : Nat) (t f : Int) (o : Option Nat) : Prop :=
 (o = none ∧ ∀ A, sz N t f = sz A (qz i) 0 → ¬ A < qn i) ∨ ∃ A, sz N t f = sz A (qz i) 0 ∧ A < qn i ∧ o = some (if s = true then ng (2 ^ qS i) A else A)
def Qp (i b : Nat) (p : Int) : Prop := (b = qn i ∧ p = (tb i).x) ∨ (b ≠ qn i ∧ Rv (tb i) 1 (decide (qn i ≤ b)) (sz (qm i b) (qz i) 0) p)
theorem sz_mix (a k lo : Nat) (z : Int) (hz : -5000 ≤ z) : sz (a * 5 ^ k * 2 ^ lo) z 0 = sz a (lo + z) k := by
 unfold sz ov bse
 rw [show ((k : Int) - -5000).toNat = k + 5000 by omega, show ((0 : Int) - -5000).toNat = 5000 by omega, show ((lo : Int) + z - -5000).toNat = lo + (z - -5000).toNat by omega, Nat.pow_add, Nat.pow_add]
 generalize (5 : Nat) ^ 5000 = F
 generalize (5 : Nat) ^ k = G
 generalize (2 : Nat) ^ lo = L
 generalize (2 : Nat) ^ (z - -5000).toNat = Z
 simp only [Nat.mul_assoc, Nat.mul_left_comm, Nat.mul_comm]
theorem qz_rng {i : Nat} (i1 : 1 ≤ i) (i2 : i ≤ 4) : -500 ≤ qz i ∧ qz i ≤ 0 := by
 have := q_facts i1 i2
 unfold qz
 omega
theorem qv_sz {i b : Nat} (i1 : 1 ≤ i) (i2 : i ≤ 4) {s : Bool} {N : Nat} {t f : Int} (h : Qv i b s N t f) (hn : b ≠ qn i) : sz N t f = sz (qm i b) (qz i) 0 := by
 have hz := qz_rng i1 i2
 rcases h with ⟨rfl, _, rfl, rfl, rfl⟩ | ⟨_, _, _, _, lo, k, h1, rfl, rfl⟩
 ·have : qm i 0 = 0 := by unfold qm; rw [if_pos (show 0 < qn i from Nat.two_pow_pos _)]
  rw [this, sz_zero.2 rfl, sz_zero.2 rfl]
 ·rw [h1, sz_mix _ _ _ _ (by omega)]
theorem sz_inj {a b : Nat} {t f : Int} (h : sz a t f = sz b t f) : a = b := by
 rw [sz_one a, sz_one b] at h
 exact Nat.eq_of_mul_eq_mul_right (sz_pos t f) h
theorem ql_uniq {i : Nat} {s : Bool} {N : Nat} {t f : Int} {o o' : Option Nat} (h : Ql i s N t f o) (h' : Ql i s N t f o') : o = o' := by
 rcases h with ⟨rfl, h1⟩ | ⟨A, h1, h2, rfl⟩ <;> rcases h' with ⟨rfl, h3⟩ | ⟨B, h3, h4, rfl⟩
 ·rfl
 ·exact absurd h4 (h1 _ h3)
 ·exact absurd h2 (h3 _ h1)
 ·obtain rfl := sz_inj (h1.symm.trans h3)
  rfl
theorem ql_ex (i : Nat) (s : Bool) (N : Nat) (t f : Int) : ∃ o, Ql i s N t f o := by
 classical
 by_cases h : ∃ A, sz N t f = sz A (qz i) 0 ∧ A < qn i
 ·obtain ⟨A, h1, h2⟩ := h
  exact ⟨_, .inr ⟨A, h1, h2, rfl⟩⟩
 ·exact ⟨none, .inl ⟨rfl, fun A h1 h2 => h ⟨A, h1, h2⟩⟩⟩
theorem isk_low {n k m : Nat} {z : Int} (h : IsK n k m z) : 4 - 4 * (n : Int) ≤ z := by
 obtain ⟨mo, R, r, q, t, h1, h2, h3⟩ := h
 have rg := h1.rng
 obtain ⟨hq, ⟨_, e1, e2⟩ | ⟨_, e1, e2⟩ | ⟨_, e1, e2, e3⟩⟩ := h1 <;> omega
theorem dv_low {i p : Nat} (i1 : 1 ≤ i) (i2 : i ≤ 4) {g : Bool} {m : Nat} {z : Int} (h : Dv (tb i) p 2 g m z) : 8 - 4 * (tb i).W ≤ z := by
 have hk := (q_facts i1 i2).1
 rcases h with ⟨_, e, _⟩ | ⟨_, e, _⟩ | ⟨_, e, _⟩ | ⟨_, _, _, k, _, hm⟩
 ·exact absurd e (by decide)
 ·exact absurd e (by decide)
 ·exact absurd e (by decide)
 ·rcases hm with ⟨_, n, _, hW, h⟩ | ⟨e, _⟩ | ⟨e, _⟩ | ⟨e, _⟩
  ·have := isk_low h; omega
  ·omega
  ·omega
  ·omega
theorem ism_uniq {p k m m' : Nat} {b z z' : Int} (h : IsM p b k m z) (h' : IsM p b k m' z') : m = m' ∧ z = z' := by
 rcases h with ⟨h0, rfl, rfl⟩ | ⟨ho, t, h1, h2⟩ <;> rcases h' with ⟨h0', rfl, rfl⟩ | ⟨ho', t', h1', h2'⟩
 ·exact ⟨rfl, rfl⟩
 ·have := Nat.mul_pos (show 0 < m' by omega) (Nat.two_pow_pos t')
  omega
 ·have := Nat.mul_pos (show 0 < m by omega) (Nat.two_pow_pos t)
  omega
 ·obtain ⟨rfl, rfl⟩ := odd_uniq ho ho' (h1.symm.trans h1')
  exact ⟨rfl, by omega⟩
theorem mg_uniq {f : Fm} {k m m' : Nat} {z z' : Int} (h : Mg f k m z) (h' : Mg f k m' z') : m = m' ∧ z = z' := by
 rcases h with ⟨e, n, _, hn, h⟩ | ⟨e, n, hn, _, h⟩ | ⟨e, _, _, ho, t, ht, hz⟩ | ⟨e, _, _, hm, hz⟩ <;> rcases h' with ⟨e', n', _, hn', h'⟩ | ⟨e', n', hn', _, h'⟩ | ⟨e', _, _, ho', t', ht', hz'⟩ | ⟨e', _, _, hm', hz'⟩
 all_goals try (exfalso; omega)
 ·obtain rfl : n = n' := by omega
  exact isk_uniq h h'
 ·obtain rfl : n = n' := by omega
  exact ism_uniq h h'
 ·obtain ⟨rfl, rfl⟩ := odd_uniq ho ho' (ht.symm.trans ht')
  exact ⟨rfl, by omega⟩
 ·exact ⟨by omega, by omega⟩
theorem dv_all {f : Fm} {p c c' : Int} {g g' : Bool} {m m' : Nat} {z z' : Int} (h : Dv f p c g m z) (h' : Dv f p c' g' m' z') : c = c' ∧ g = g' ∧ m = m' ∧ z = z' := by
 rcases h with ⟨a, rfl, rfl, rfl, rfl⟩ | ⟨a, rfl, rfl, rfl, rfl⟩ | ⟨a, rfl, rfl, rfl, rfl⟩ | ⟨a, rfl, rfl, k, hk, hm⟩ <;>
  rcases h' with ⟨a', rfl, rfl, rfl, rfl⟩ | ⟨a', rfl, rfl, rfl, rfl⟩ | ⟨a', rfl, rfl, rfl, rfl⟩ | ⟨a', rfl, rfl, k', hk', hm'⟩
 all_goals try (exfalso; omega)
 ·exact ⟨rfl, rfl, rfl, rfl⟩
 ·exact ⟨rfl, rfl, rfl, rfl⟩
 ·exact ⟨rfl, rfl, rfl, rfl⟩
 ·obtain rfl : k = k' := by omega
  obtain ⟨rfl, rfl⟩ := mg_uniq hm hm'
  exact ⟨rfl, rfl, rfl, rfl⟩
theorem dc_all {ii : Int} {p : Nat} {c c' : Int} {g g' : Bool} {m m' : Nat} {z z' x x' : Int} (h : Dc ii p c g m z x) (h' : Dc ii p c' g' m' z' x') : c = c' ∧ g = g' ∧ m = m' ∧ z = z' ∧ x = x' := by
  rcases h with ⟨a, rfl, rfl, rfl, rfl, rfl⟩ | ⟨i, e, i1, i2, ⟨a, rfl, rfl, rfl, rfl, rfl⟩ | ⟨a, h, rfl⟩⟩ <;> rcases h' with ⟨a', rfl, rfl, rfl, rfl, rfl⟩ | ⟨j, e', j1, j2, ⟨a', rfl, rfl, rfl, rfl, rfl⟩ | ⟨a', h', rfl⟩⟩
  all_goals first
    | exact ⟨rfl, rfl, rfl, rfl, rfl⟩
    | (exfalso; omega)
    | (obtain rfl : i = j := by omega
       first
         | (exfalso; omega)
         | (obtain ⟨h1, h2, h3, h4⟩ := dv_all h h'; exact ⟨h1, h2, h3, h4, rfl⟩))
theorem dc_have {ii : Int} {p : Nat} {c : Int} {g : Bool} {m : Nat} {z : Int} (h : Dc ii p c g m z 0) : ∃ i : Nat, ii = i ∧ 1 ≤ i ∧ i ≤ 14 ∧ (p : Int) ≤ msk (tb i) ∧ Dv (tb i) p c g m z := by
 rcases h with ⟨_, _, _, _, _, e⟩ | ⟨i, a, b, d, ⟨_, _, _, _, _, e⟩ | ⟨e, f, _⟩⟩
 ·exact absurd e (by decide)
 ·exact absurd e (by decide)
 ·exact ⟨i, a, b, d, e, f⟩
theorem dc_mk {i p : Nat} {c : Int} {g : Bool} {m : Nat} {z : Int} (i1 : 1 ≤ i) (i2 : i ≤ 14) (hp : (p : Int) ≤ msk (tb i)) (h : Dv (tb i) p c g m z) : Dc (i : Int) p c g m z 0 := .inr ⟨i, rfl, i1, i2, .inr ⟨hp, h, rfl⟩⟩
theorem dv_four {f : Fm} {p c : Int} {g : Bool} {m : Nat} {z : Int} (h : Dv f p c g m z) : (c = 1 ∨ c = 2 ∨ c = 3 ∨ c = 4) ∧ cls f p = c := by
 rcases h with ⟨a, rfl, _⟩ | ⟨a, rfl, _⟩ | ⟨a, rfl, _⟩ | ⟨a, rfl, _⟩ <;> exact ⟨by omega, a⟩
def Qa (i a c : Nat) (o : Option Nat) (x : Int) : Prop :=
 (x = 1 ∧ o = some 0 ∧ ¬ ((a : Int) ≤ msk (tb i) ∧ (c : Int) ≤ msk (tb i))) ∨ (x = 0 ∧ ((a : Int) ≤ msk (tb i) ∧ (c : Int) ≤ msk (tb i)) ∧ Qi i a c o)
def Qs (i v b b' : Nat) (x : Int) : Prop := (v < 2 ^ qS i ∧ b' = v ∧ x = 0) ∨ (¬ v < 2 ^ qS i ∧ b' = b ∧ x = 4)
def Qld (i : Nat) (s : Bool) (N : Nat) (t f : Int) (b b' : Nat) (x : Int) : Prop := (Ql i s N t f none ∧ b' = b ∧ x = 8) ∨ (Ql i s N t f (some b') ∧ x = 0)
theorem qs_ex (i v b : Nat) : ∃ b' x, Qs i v b b' x := by
 by_cases h : v < 2 ^ qS i
 ·exact ⟨_, _, .inl ⟨h, rfl, rfl⟩⟩
 ·exact ⟨_, _, .inr ⟨h, rfl, rfl⟩⟩
theorem qld_ex (i : Nat) (s : Bool) (N : Nat) (t f : Int) (b : Nat) : ∃ b' x, Qld i s N t f b b' x := by
 obtain ⟨o, h⟩ := ql_ex i s N t f
 cases o
 ·exact ⟨_, _, .inl ⟨h, rfl, rfl⟩⟩
 ·exact ⟨_, _, .inr ⟨h, rfl⟩⟩
theorem four14 {i : Nat} (i2 : i ≤ 4) : i ≤ 14 := by omega
theorem dc_fit {i p : Nat} (i1 : 1 ≤ i) (i2 : i ≤ 4) (hp : (p : Int) ≤ msk (tb i)) : ∃ c g m z, Dc (i : Int) p c g m z 0 := by
 obtain ⟨c, g, m, z, e, h⟩ := dc_ex (i : Int) p
 rcases h with ⟨a, _⟩ | ⟨j, a, _, _, ⟨b, _⟩ | ⟨_, b, rfl⟩⟩
 ·omega
 ·obtain rfl : i = j := by omega
  omega
 ·obtain rfl : i = j := by omega
  exact ⟨c, g, m, z, dc_mk i1 (four14 i2) hp b⟩
theorem qi_ex {i a c : Nat} (i1 : 1 ≤ i) (i2 : i ≤ 4) (ha : (a : Int) ≤ msk (tb i)) (hc : (c : Int) ≤ msk (tb i)) : ∃ o, Qi i a c o := by
 obtain ⟨c1, g1, m1, z1, h1⟩ := dc_fit i1 i2 ha
 obtain ⟨c2, g2, m2, z2, h2⟩ := dc_fit i1 i2 hc
 by_cases e4 : c1 = 4 ∨ c2 = 4
 ·exact ⟨none, _, _, _, _, _, _, _, _, h1, h2, .inl ⟨rfl, e4⟩⟩
 ·by_cases e1 : c1 = 1 ∨ c2 = 1
  ·exact ⟨_, _, _, _, _, _, _, _, _, h1, h2, .inr (.inl ⟨rfl, e4, e1⟩)⟩
  ·exact ⟨_, _, _, _, _, _, _, _, _, h1, h2, .inr (.inr ⟨e4, e1, _, rfl, rfl⟩)⟩
theorem qa_ex {i : Nat} (i1 : 1 ≤ i) (i2 : i ≤ 4) (a c : Nat) : ∃ o x, Qa i a c o x := by
 by_cases h : (a : Int) ≤ msk (tb i) ∧ (c : Int) ≤ msk (tb i)
 ·obtain ⟨o, ho⟩ := qi_ex i1 i2 h.1 h.2
  exact ⟨o, 0, .inr ⟨rfl, h, ho⟩⟩
 ·exact ⟨_, _, .inl ⟨rfl, rfl, h⟩⟩
theorem qst_nar (i : Nat) (o : Option Nat) : qst i (qn i) o = qn i := if_pos rfl
theorem qst_none (i b : Nat) : qst i b none = qn i := by unfold qst; split <;> simp_all
theorem qst_some {i b : Nat} (h : b ≠ qn i) (d : Nat) : qst i b (some d) = ad (2 ^ qS i) b d := if_neg h
theorem qn_pos (i : Nat) : 0 < qn i := Nat.two_pow_pos _
theorem dv_four_ {i : Nat} (i1 : 1 ≤ i) (i2 : i ≤ 4) {p c : Int} {g : Bool} {m : Nat} {z : Int} (h : Dv (tb i) p c g m z) : c = 1 ∨ c = 2 ∨ c = 4 := by
 have hk := (q_facts i1 i2).1
 rcases (dv_four h).1 with e | e | e | e
 ·exact .inl e
 ·exact .inr (.inl e)
 ·exfalso
  have := (dv_four h).2
  unfold cls at this
  rw [if_neg (by omega)] at this
  split at this
  ·omega
  ·split at this <;> omega
 ·exact .inr (.inr e)
theorem qp_ex {i b : Nat} (i1 : 1 ≤ i) (i2 : i ≤ 4) : ∃ q : Nat, Qp i b q ∧ q < 18446744073709551616 := by
 have h14 := four14 i2
 have hx := (ok i i1 h14).x
 have hm : msk (tb i) < 18446744073709551616 := by
  rcases (show i = 1 ∨ i = 2 ∨ i = 3 ∨ i = 4 by omega) with rfl | rfl | rfl | rfl <;> decide
 by_cases h : b = qn i
 ·exact ⟨(tb i).x.toNat, .inl ⟨h, by omega⟩, by omega⟩
 ·obtain ⟨q, hq⟩ := rv_ex (ok i i1 h14) (ok2 i i1 h14) (ok3 i i1 h14) 1 (decide (qn i ≤ b)) (sz (qm i b) (qz i) 0)
  have := rv_class (ok i i1 h14) (ok2 i i1 h14) (ok3 i i1 h14) hq
  exact ⟨q.toNat, .inr ⟨h, by rw [show ((q.toNat : Nat) : Int) = q by omega]; exact hq⟩, by omega⟩
end M
end Go.Proofs.YtijpffgocookaaaGreatDoor
