import Derived.Test.YtcmlanfgafancaaGreatDoorQDRva
import Derived.Test.YtcmlanfgafancaaGreatDoorQDSva
import Derived.Test.YtcmlanfgafancaaGreatDoorQDKs
set_option maxHeartbeats 32000000
set_option linter.unusedVariables false
set_option linter.unusedSimpArgs false
namespace Go.Proofs.YtcmlanfgafancaaGreatDoor
open Go.RowKit
namespace M
def szn (n : Nm) : Nat := if n.big = 0 then sz n.d n.k n.k else sz 1 (1000 * n.big) (1000 * n.big)
def Wq (f : Fm) (K : Nat) (neg : Bool) (p : Int) (n : Nat) (e : Int) : Prop :=
 (K = 2 ∧ f.n ≠ 0 ∧ p = (if neg = true then f.n + half f else f.n) ∧ n = 0 ∧ e = 0) ∨
 (K = 3 ∧ f.x ≠ 0 ∧ f.k ≠ 1 ∧ p = f.x ∧ n = 0 ∧ e = 0) ∨
 (K = 4 ∧ f.k = 1 ∧ neg = false ∧ p = f.x ∧ n = 0 ∧ e = 0) ∨
 (¬ (K = 2 ∧ f.n ≠ 0) ∧ ¬ (K = 3 ∧ f.x ≠ 0 ∧ f.k ≠ 1) ∧ ¬ (K = 4 ∧ f.k = 1 ∧ neg = false) ∧ p = 0 ∧ n = (if neg = true then 1 else 0) ∧ e = 5)
def Iq (f : Fm) (mode : Int) (r : It) (p : Int) (n : Nat) (e : Int) : Prop :=
 (r.kind ≠ 1 ∧ Wq f r.kind r.neg p n e) ∨ (r.kind = 1 ∧ Rv f mode r.neg (szn r.n) p ∧ n = 0 ∧ e = 0)
def Jc (ii mode : Int) (l : List UInt8) (p : Int) (n : Nat) (e : Int) : Prop :=
  ((ii < 1 ∨ 15 ≤ ii) ∧ p = 0 ∧ n = 0 ∧ e = 3) ∨
  ∃ i : Nat, ii = i ∧ 1 ≤ i ∧ i ≤ 14 ∧
    ((¬ (mode = 1 ∨ mode = 2) ∧ p = 0 ∧ n = 0 ∧ e = 1) ∨
     ((mode = 1 ∨ mode = 2) ∧ ∃ r j er, rs l = (r, j, er) ∧ ((er ≠ 0 ∧ p = 0 ∧ n = j ∧ e = er) ∨ (er = 0 ∧ Iq (tb i) mode r p n e))))
theorem rs_cases {l : List UInt8} {r : It} {j : Nat} {er : Int} (h : rs l = (r, j, er)) :
  (er = 2 ∧ scan l = .error j ∧ r = ⟨0, false, ⟨0, 0, 0, false⟩⟩) ∨ (er = 0 ∧ j = 0 ∧ ∃ x, scan l = .ok x ∧ r = itm x) := by
 unfold rs at h
 split at h
 ·rename_i i hs
  cases h
  exact .inl ⟨rfl, hs, rfl⟩
 ·rename_i x hs
  cases h
  exact .inr ⟨rfl, rfl, x, hs, rfl⟩
theorem nm_big (d : List UInt8) (t : Int) : (nm d t).big = 0 ∨ (nm d t).big = 1 ∨ (nm d t).big = -1 := by
 unfold nm
 split
 ·exact .inl rfl
 ·split
  ·exact .inr (.inl rfl)
  ·split
   ·exact .inr (.inr rfl)
   ·split
    ·exact .inl rfl
    ·exact .inl rfl
theorem ten_128 : (10 : Nat) ^ 1991 ≤ 18446744073709551616 ^ 128 := by decide +kernel
theorem itm_num {l : List UInt8} {r : It} {j : Nat} (h : rs l = (r, j, 0)) (hk : r.kind = 1) :
  r.n.d < 18446744073709551616 ^ 128 ∧ (-3000 ≤ r.n.k ∧ r.n.k ≤ 1000) ∧ (r.n.big = 0 ∨ r.n.big = 1 ∨ r.n.big = -1) := by
 rcases rs_cases h with ⟨e, _⟩ | ⟨_, _, x, hx, rfl⟩
 ·omega
 ·have hds := scf_ds l _ _ _ hx rfl
  unfold itm at hk ⊢
  by_cases h10 : 10 ≤ x.st
  ·rw [if_pos h10] at hk
   have : x.st / 10 + 1 = 1 := hk
   omega
  ·rw [if_neg h10]
   refine ⟨?_, ?_, nm_big _ _⟩
   ·show (num x.ds (pwr x - x.bh)).d < _
    rcases num_bounds x.ds (pwr x - x.bh) hds with ⟨a, _⟩ | ⟨_, _, s, _, s2, s3, _, s5, _⟩
    ·rw [a]; exact Nat.pow_pos (by decide)
    ·rw [← s2]
     exact Nat.lt_of_lt_of_le (vsa_lt s s3) (Nat.le_trans (Nat.pow_le_pow_right (by decide) s5) ten_128)
   ·show -3000 ≤ (num x.ds (pwr x - x.bh)).k ∧ (num x.ds (pwr x - x.bh)).k ≤ 1000
    rcases num_bounds x.ds (pwr x - x.bh) hds with ⟨_, a, _⟩ | ⟨_, _, s, s1, s2, s3, _, s5, _, _, s8, s9⟩
    ·rw [a]; exact ⟨by decide, by decide⟩
    ·constructor <;> omega
theorem cn_bey {i : Nat} {p : Int} (h : (tb i).k = 2 → bey (tb i) (p % half (tb i)) = false) : cn i p = p := by
 unfold cn
 by_cases c : (tb i).k = 2 ∧ bey (tb i) (p % half (tb i)) = true
 ·rw [h c.1] at c
  exact absurd c.2 (by decide)
 ·rw [if_neg c]
theorem cn_x (i : Nat) : cn i (tb i).x = (tb i).x := by
 unfold cn
 split <;> rfl
theorem cn_key {i : Nat} (a : 1 ≤ i) (b : i ≤ 14) {neg : Bool} {k : Int} (k0 : 0 ≤ k) (h : (tb i).k = 2 → k ≤ (tb i).t ∨ (k = (tb i).n ∧ k < half (tb i))) :
  cn i (if neg = true then k + half (tb i) else k) = (if neg = true then k + half (tb i) else k) := by
 refine cn_bey (fun e => ?_)
 have o2 := (ok i a b).two e
 have hm := (ok i a b).hm
 have e1 : (if neg = true then k + half (tb i) else k) % half (tb i) = k := by
  have hk : k < half (tb i) := by rcases h e with h1 | h1 <;> omega
  split
  ·rw [Int.add_emod_right, Int.emod_eq_of_lt k0 hk]
  ·rw [Int.emod_eq_of_lt k0 hk]
 rw [e1]
 unfold bey
 rcases h e with h1 | ⟨h1, _⟩
 ·rw [decide_eq_false (show ¬ (tb i).t < k by omega), Bool.false_and]
 ·rw [show decide (k ≠ (tb i).n) = false from decide_eq_false (fun e => e h1), Bool.and_false]
theorem rv_cn {i : Nat} (a : 1 ≤ i) (b : i ≤ 14) {mode : Int} {neg : Bool} {X : Nat} {p : Int} (h : Rv (tb i) mode neg X p) : 0 ≤ p ∧ p ≤ msk (tb i) ∧ cn i p = p := by
 obtain ⟨r1, r2, _⟩ := rv_class (ok i a b) (ok2 i a b) (ok3 i a b) h
 refine ⟨r1, r2, ?_⟩
 have o3 := ok3 i a b
 have on := (ok i a b).n
 rcases h with ⟨h1, h2, rfl⟩ | ⟨h1, q, k, o, hq, hn, ⟨_, h2, rfl⟩ | ⟨h2, rfl⟩⟩
 ·exact cn_x i
 ·unfold tl
  by_cases n0 : (tb i).n = 0
  ·rw [if_pos n0]; exact cn_x i
  ·rw [if_neg n0]
   obtain ⟨_, n1, n2⟩ := o3.most n0
   exact cn_key a b on.1 (fun _ => .inr ⟨rfl, n2⟩)
 ·obtain ⟨q', hq', _, _, qt⟩ := mst_rng (ok i a b) (ok2 i a b) o3 neg
  obtain rfl : q = q' := by omega
  have kq : k ≤ q := by
   rcases hn with ⟨_, rfl, _⟩ | ⟨_, h, _⟩
   ·exact Nat.le_refl _
   ·exact h
  by_cases e : (tb i).k = 2
  ·have e2 : pat (tb i) neg k = if neg = true then (k : Int) + half (tb i) else k := by
    unfold pat
    cases neg
    ·rw [if_pos rfl, if_neg (by decide)]
    ·rw [if_neg (by decide), if_pos e, if_pos rfl]
   rw [e2]
   unfold tp at qt
   rw [if_neg (by omega)] at qt
   exact cn_key a b (by omega) (fun _ => .inl (by omega))
  ·exact cn_bey (fun e2 => absurd e2 e)
theorem wq_cn {i : Nat} (a : 1 ≤ i) (b : i ≤ 14) {K : Nat} {neg : Bool} {p : Int} {n : Nat} (h : Wq (tb i) K neg p n 0) : n = 0 ∧ 0 ≤ p ∧ p ≤ msk (tb i) ∧ cn i p = p := by
 have on := (ok i a b).n
 have ox := (ok i a b).x
 have hm := (ok i a b).hm
 rcases h with ⟨_, h, rfl, rfl, _⟩ | ⟨_, _, _, rfl, rfl, _⟩ | ⟨_, _, _, rfl, rfl, _⟩ | ⟨_, _, _, _, _, h⟩
 ·obtain ⟨_, n1, n2⟩ := (ok3 i a b).most h
  refine ⟨rfl, ?_, ?_, cn_key a b on.1 (fun _ => .inr ⟨rfl, n2⟩)⟩ <;> split <;> omega
 ·exact ⟨rfl, ox.1, ox.2, cn_x i⟩
 ·exact ⟨rfl, ox.1, ox.2, cn_x i⟩
 ·exact absurd h (by decide)
theorem jc_fits {ii mode : Int} {l : List UInt8} {p : Int} {n : Nat} {e : Int} (h : Jc ii mode l p n e) :
  (e ≠ 0 ∧ p = 0 ∧ n ≤ l.length ∧ (n = 0 ∨ e = 2 ∨ (e = 5 ∧ n = 1))) ∨ (e = 0 ∧ n = 0 ∧ ∃ i : Nat, ii = i ∧ 1 ≤ i ∧ i ≤ 14 ∧ 0 ≤ p ∧ p ≤ msk (tb i) ∧ cn i p = p) := by
 rcases h with ⟨a, rfl, rfl, rfl⟩ | ⟨i, a, b, c, ⟨d, rfl, rfl, rfl⟩ | ⟨d, r, j, er, hr, ⟨g, rfl, rfl, rfl⟩ | ⟨rfl, g⟩⟩⟩
 ·exact .inl ⟨by decide, rfl, Nat.zero_le _, .inl rfl⟩
 ·exact .inl ⟨by decide, rfl, Nat.zero_le _, .inl rfl⟩
 ·rcases rs_cases hr with ⟨rfl, hs, _⟩ | ⟨e0, _⟩
  ·exact .inl ⟨by decide, rfl, scan_le _ _ hs, .inr (.inl rfl)⟩
  ·exact absurd e0 g
 ·rcases rs_cases hr with ⟨e0, _⟩ | ⟨_, _, x, hx, rfl⟩
  ·exact absurd e0 (by decide)
  ·rcases g with ⟨g1, g2⟩ | ⟨g1, g2, rfl, rfl⟩
   ·by_cases e0 : e = 0
    ·subst e0
     obtain ⟨h1, h2⟩ := wq_cn b c g2
     exact .inr ⟨rfl, h1, i, a, b, c, h2⟩
    ·left
     rcases g2 with ⟨_, _, _, _, h⟩ | ⟨_, _, _, _, _, h⟩ | ⟨_, _, _, _, _, h⟩ | ⟨_, _, _, rfl, rfl, rfl⟩
     ·exact absurd h e0
     ·exact absurd h e0
     ·exact absurd h e0
     ·have hng := (itm_bounds l x hx).1
      refine ⟨by decide, rfl, ?_, ?_⟩
      ·split
       ·rename_i hn
        rw [hng, decide_eq_true_eq] at hn
        exact List.length_pos_iff.2 hn.1
       ·exact Nat.zero_le _
      ·split
       ·exact .inr (.inr ⟨rfl, rfl⟩)
       ·exact .inl rfl
   ·exact .inr ⟨rfl, rfl, i, a, b, c, rv_cn b c g2⟩
theorem lift_p2 (a : Nat) : 0 < 5 ^ a := Nat.pow_pos (by decide)
theorem sz_two (m n : Nat) : sz (m * 2 ^ n) 0 0 = sz m n 0 := by
 unfold sz ov
 rw [bse_eq, show ((n : Int) - -5000).toNat = n + ((0 : Int) - -5000).toNat by omega, Nat.pow_add]
 generalize 5 ^ ((0 : Int) - -5000).toNat = A
 generalize 2 ^ ((0 : Int) - -5000).toNat = B
 ac_rfl
theorem sz_five (m n : Nat) (hn : n ≤ 5000) : sz (m * 5 ^ n) (-(n : Int)) (-(n : Int)) = sz m (-(n : Int)) 0 := by
 unfold sz ov
 rw [bse_eq, show ((0 : Int) - -5000).toNat = n + (-(n : Int) - -5000).toNat by omega, Nat.pow_add]
 generalize 5 ^ (-(n : Int) - -5000).toNat = A
 generalize 2 ^ (-(n : Int) - -5000).toNat = B
 ac_rfl
theorem mg_z2 {f : Fm} (ok : Ok f) (ok2 : Ok2 f) (ok3 : Ok3 f) {k m : Nat} {z : Int} (hk : (k : Int) ≤ tp f) (h : Mg0 f k m z) : m < 18446744073709551616 ∧ -2000 ≤ z ∧ z ≤ 3000 := by
 obtain ⟨h1, _, h3⟩ := mg_z ok ok2 ok3 hk h
 refine ⟨h1, ?_, h3⟩
 have hm := ok.hm
 unfold tp at hk
 rcases h with ⟨_, _, _, rfl⟩ | ⟨h0, h⟩
 ·decide
 ·rcases h with ⟨e, a, ha, haW, h⟩ | ⟨e, p, hp, ho, h⟩ | ⟨e, hm', k0, ho, t, hk', hz⟩ | ⟨e, hb, hk', rfl, rfl⟩
  ·have := h.rng ha; omega
  ·obtain ⟨b1, b2, b3⟩ := ok3.two e
   rw [if_neg (by omega)] at hk
   have q2 : k / 2 ^ p ≤ 2047 := by
    refine Nat.le_trans (Nat.div_le_div_right (c := 2 ^ p) (show k ≤ f.t.toNat by omega)) ?_
    rw [show p = f.m.toNat by omega]
    exact b3
   exact (ism_z h ho.1 ⟨b1, b2⟩ q2).1
  ·have := ok2.tri e
   omega
  ·have := ok2.four e
   rw [if_neg (by omega)] at hk
   omega
theorem lt_two {m n K : Nat} (hm : m < 18446744073709551616) (hn : n ≤ K) : m * 2 ^ n < 18446744073709551616 * 2 ^ K :=
 Nat.lt_of_lt_of_le (Nat.mul_lt_mul_of_pos_right hm (p2 n)) (Nat.mul_le_mul_left _ (p2le hn))
theorem lt_five {m n K : Nat} (hm : m < 18446744073709551616) (hn : n ≤ K) : m * 5 ^ n < 18446744073709551616 * 5 ^ K :=
 Nat.lt_of_lt_of_le (Nat.mul_lt_mul_of_pos_right hm (lift_p2 n)) (Nat.mul_le_mul_left _ (Nat.pow_le_pow_right (by decide) hn))
theorem c_5a : (18446744073709551616 : Nat) * 5 ^ 2000 ≤ 10 ^ (1499 + 1) := by decide +kernel
theorem c_5c : (18446744073709551616 : Nat) * 5 ^ 500 ≤ 10 ^ (399 + 1) := by decide +kernel
end M
end Go.Proofs.YtcmlanfgafancaaGreatDoor
