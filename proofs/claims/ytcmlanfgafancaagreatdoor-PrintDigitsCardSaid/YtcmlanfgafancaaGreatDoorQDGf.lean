import Derived.Test.YtcmlanfgafancaaGreatDoorQDKt
import Derived.Test.YtcmlanfgafancaaGreatDoorQDJn
import Derived.Test.YtcmlanfgafancaaGreatDoorQDEx3
import Derived.Test.YtcmlanfgafancaaGreatDoorQDMqa
import Derived.Test.YtcmlanfgafancaaGreatDoorQDFoa
set_option maxHeartbeats 32000000
set_option linter.unusedVariables false
set_option linter.unusedSimpArgs false
namespace Go.Proofs.YtcmlanfgafancaaGreatDoor
open Go
namespace M
def wrd (i : Nat) (c : Int) (g : Bool) : List UInt8 :=
 if c = 1 then sgt g ++ [48] else if c = 3 then sgt g ++ [105, 110, 102] else if i ≤ 4 then [78, 97, 82] else [110, 97, 110]
def Pr (ii : Int) (p : Nat) (fu : Bool) (l : List UInt8) (x : Int) : Prop :=
 ∃ c g m z, Dc ii p c g m z x ∧ ((x ≠ 0 ∧ l = []) ∨ (x = 0 ∧ c ≠ 2 ∧ ∃ i : Nat, ii = i ∧ l = wrd i c g) ∨ (x = 0 ∧ c = 2 ∧ ∃ D K, (if fu = true then Uc ii p g D K 0 else Shc ii p g D K 0) ∧ l = ly g D K))
theorem dv_sign {f : Fm} {p c : Int} {g g' : Bool} {m m' : Nat} {z z' : Int} (h : Dv f p c g m z) (h' : Dv f p c g' m' z') : g = g' := by
 rcases h with ⟨a, b, h, _⟩ | ⟨a, b, h, _⟩ | ⟨a, b, h, _⟩ | ⟨a, b, h, _⟩ <;> rcases h' with ⟨a', b', h', _⟩ | ⟨a', b', h', _⟩ | ⟨a', b', h', _⟩ | ⟨a', b', h', _⟩ <;> first | (exfalso; omega) | (rw [h, h'])
theorem dc_in {ii : Int} {p : Nat} {c : Int} {g : Bool} {m : Nat} {z : Int} (h : Dc ii p c g m z 0) : ∃ i : Nat, ii = i ∧ 1 ≤ i ∧ i ≤ 14 ∧ (p : Int) ≤ msk (tb i) ∧ Dv (tb i) p c g m z := by
 rcases h with ⟨_, _, _, _, _, e⟩ | ⟨i, a, b, d, ⟨_, _, _, _, _, e⟩ | ⟨e, f, _⟩⟩
 ·exact absurd e (by decide)
 ·exact absurd e (by decide)
 ·exact ⟨i, a, b, d, e, f⟩
theorem pr_ex (ii : Int) (p : Nat) (fu : Bool) : ∃ l x, Pr ii p fu l x := by
 obtain ⟨c, g, m, z, x, hd⟩ := dc_ex ii p
 by_cases x0 : x = 0
 ·subst x0
  obtain ⟨i, rfl, i1, i2, hp, hv⟩ := dc_in hd
  by_cases c2 : c = 2
  ·subst c2
   by_cases hf : fu = true
   ·obtain ⟨g', D, K, x, hu⟩ := uc_ex (i : Int) p
    have hx : x = 0 := by
     rcases hu with ⟨e0, he, _⟩ | ⟨e0, _⟩
     ·exact (er_in i1 i2 he hp hv).elim
     ·exact e0
    subst hx
    have hg : g' = g := by
     rcases hu with ⟨e0, _⟩ | ⟨_, j, ej, _, _, _, m', z', hv', _⟩
     ·exact absurd rfl e0
     ·obtain rfl : i = j := by omega
      exact dv_sign hv' hv
    subst hg
    exact ⟨_, 0, 2, g', m, z, hd, .inr (.inr ⟨rfl, rfl, D, K, by rw [if_pos hf]; exact hu, rfl⟩)⟩
   ·obtain ⟨g', D, K, x, hu⟩ := shc_ex (i : Int) p
    have hx : x = 0 := by
     rcases hu with ⟨e0, he, _⟩ | ⟨e0, _⟩
     ·exact (er_in i1 i2 he hp hv).elim
     ·exact e0
    subst hx
    have hg : g' = g := by
     rcases hu with ⟨e0, _⟩ | ⟨_, j, ej, _, _, m', z', m1, z1, m2, z2, ev, t, n, k, d, r, y, hq⟩
     ·exact absurd rfl e0
     ·obtain rfl : i = j := by omega
      exact dv_sign hq.pt.dv hv
    subst hg
    exact ⟨_, 0, 2, g', m, z, hd, .inr (.inr ⟨rfl, rfl, D, K, by rw [if_neg hf]; exact hu, rfl⟩)⟩
  ·exact ⟨_, 0, c, g, m, z, hd, .inr (.inl ⟨rfl, c2, i, rfl, rfl⟩)⟩
 ·exact ⟨[], x, c, g, m, z, hd, .inl ⟨x0, rfl⟩⟩
theorem dc_err {ii : Int} {p : Nat} {c c' : Int} {g g' : Bool} {m m' : Nat} {z z' x x' : Int} (h : Dc ii p c g m z x) (h' : Dc ii p c' g' m' z' x') : x = x' := by
  rcases h with ⟨a, _, _, _, _, rfl⟩ | ⟨i, e, i1, i2, ⟨a, _, _, _, _, rfl⟩ | ⟨a, _, rfl⟩⟩ <;> rcases h' with ⟨a', _, _, _, _, rfl⟩ | ⟨j, e', j1, j2, ⟨a', _, _, _, _, rfl⟩ | ⟨a', _, rfl⟩⟩
  all_goals first
    | rfl
    | (exfalso; omega)
    | (exfalso; obtain rfl : i = j := by omega
       omega)
theorem pr_zero {ii : Int} {p : Nat} {fu : Bool} {l : List UInt8} {x : Int} (h : Pr ii p fu l x) {c : Int} {g : Bool} {m : Nat} {z : Int} (d : Dc ii p c g m z 0) : x = 0 := by
 obtain ⟨c', g', m', z', hd, _⟩ := h
 exact dc_err hd d
theorem dd_rng {D : Nat} (h : D ≠ 0) : 10 ^ ((Lib.decDigits D).length - 1) ≤ D ∧ D < 10 ^ (Lib.decDigits D).length := by
 refine ⟨?_, dd_lt D⟩
 rcases Nat.lt_or_ge D (10 ^ ((Lib.decDigits D).length - 1)) with h1 | h1
 ·exfalso
  have hp := decDigits_pos D
  have h2 : (Lib.decDigits D).length ≤ (Lib.decDigits D).length - 1 := by
   rcases Nat.eq_zero_or_pos ((Lib.decDigits D).length - 1) with h3 | h3
   ·rw [h3] at h1
    have : D = 0 := by simpa using h1
    exact absurd this h
   ·have e := Lib.decDigits_length D
    have h4 := nd_lt ((Lib.decDigits D).length - 1 - 1) D (by rw [show (Lib.decDigits D).length - 1 - 1 + 1 = (Lib.decDigits D).length - 1 by omega]; exact h1)
    omega
  omega
 ·exact h1
theorem ten_lt {a b : Nat} (h : 10 ^ a < 10 ^ b) : a < b := by
 rcases Nat.lt_or_ge a b with h1 | h1
 ·exact h1
 ·exact absurd (Nat.lt_of_lt_of_le h (Nat.pow_le_pow_right (by omega) h1)) (Nat.lt_irrefl _)
theorem len_rng {D e A B : Nat} (h : D ≠ 0) (h1 : 10 ^ A ≤ D * 10 ^ e) (h2 : D * 10 ^ e < 10 ^ B) : A < (Lib.decDigits D).length + e ∧ (Lib.decDigits D).length + e ≤ B := by
 obtain ⟨l1, l2⟩ := dd_rng h
 have hp := decDigits_pos D
 constructor
 ·refine ten_lt (Nat.lt_of_le_of_lt h1 ?_)
  rw [Nat.pow_add]
  exact Nat.mul_lt_mul_of_pos_right l2 (Nat.pow_pos (by omega))
 ·have : (Lib.decDigits D).length - 1 + e < B := by
   refine ten_lt (Nat.lt_of_le_of_lt ?_ h2)
   rw [Nat.pow_add]
   exact Nat.mul_le_mul_right _ l1
  omega
theorem c_2930 : (18446744073709551616 : Nat) * 2 ^ 3000 ≤ 10 ^ 930 := by decide +kernel
theorem five_half (n : Nat) : 10 ^ (n / 2) ≤ 5 ^ n := by
 have h : n = n / 2 + n / 2 + n % 2 := by omega
 obtain ⟨q, hq⟩ : ∃ q, n / 2 = q := ⟨_, rfl⟩
 obtain ⟨r, hr⟩ : ∃ r, n % 2 = r := ⟨_, rfl⟩
 rw [hq, hr] at h
 rw [hq, h, Nat.pow_add, Nat.pow_add, show (10 : Nat) = 5 * 2 from rfl, Nat.mul_pow]
 have h1 : 2 ^ q ≤ 5 ^ q := Nat.pow_le_pow_left (by decide) q
 exact Nat.le_trans (Nat.mul_le_mul_left _ h1) (Nat.le_mul_of_pos_right _ (Nat.pow_pos (by decide)))
structure Wok (D : Nat) (K : Int) : Prop where
 nz : D ≠ 0
 ten : D % 10 ≠ 0
 pow : -4000 ≤ K ∧ K ≤ 4500
 len : (Lib.decDigits D).length ≤ 1990
 lo : -1000 < ((Lib.decDigits D).length : Int) + K
 hi : ((Lib.decDigits D).length : Int) + K ≤ 1000
theorem Wok.rtn {D : Nat} {K : Int} (h : Wok D K) : M.rtn D K := .inr ⟨h.nz, ⟨by have := h.pow; omega, by have := h.pow; omega⟩, by have := h.len; omega, h.ten⟩
theorem full_len {m : Nat} {z : Int} (m0 : m ≠ 0) (hm : m < 18446744073709551616) (hz : -2000 ≤ z ∧ z ≤ 3000) {D : Nat} {K : Int} (h : Dgs (sz m z 0) D K) :
  D ≠ 0 ∧ (Lib.decDigits D).length ≤ 1500 ∧ -1000 < ((Lib.decDigits D).length : Int) + K ∧ ((Lib.decDigits D).length : Int) + K ≤ 999 := by
 have d0 : D ≠ 0 := fun e => h.ten (by rw [e])
 have hlo := h.lo
 have hhi := h.hi
 rcases Int.le_total 0 z with c | c
 ·obtain ⟨n, rfl⟩ : ∃ n : Nat, z = n := ⟨z.toNat, by omega⟩
  have hN : 0 < m * 2 ^ n := Nat.mul_pos (Nat.pos_of_ne_zero m0) (Nat.pow_pos (by decide))
  have hlt : m * 2 ^ n < 10 ^ 930 := Nat.lt_of_lt_of_le (lt_two (K := 3000) hm (by omega)) c_2930
  obtain ⟨D0, j, e1, e2⟩ := strip_ex (m * 2 ^ n) (m * 2 ^ n) (Nat.le_refl _) hN
  have e3 : sz D0 (j : Int) (j : Int) = sz m n 0 := by
   rw [sz_one, show ((j : Nat) : Int) = 0 + (j : Int) by omega, sz_pow j 0 (by omega), ← Nat.mul_assoc, e2, ← sz_one, sz_two]
  obtain ⟨u1, u2⟩ := ten_uniq (K := K) (K' := j) (by omega) (by omega) h.ten e1 (h.eq.trans e3.symm)
  subst u1
  obtain ⟨L, hL⟩ : ∃ L : Nat, L = 930 := ⟨_, rfl⟩
  rw [← hL] at hlt
  rw [← e2] at hlt
  obtain ⟨_, r2⟩ := len_rng (A := 0) (B := L) d0 (by rw [e2, Nat.pow_zero]; exact hN) hlt
  have hp := decDigits_pos D
  refine ⟨d0, by omega, by omega, by omega⟩
 ·obtain ⟨n, rfl⟩ : ∃ n : Nat, z = -(n : Int) := ⟨(-z).toNat, by omega⟩
  have hN : 0 < m * 5 ^ n := Nat.mul_pos (Nat.pos_of_ne_zero m0) (Nat.pow_pos (by decide))
  have hlt : m * 5 ^ n < 10 ^ (1499 + 1) := Nat.lt_of_lt_of_le (lt_five (K := 2000) hm (by omega)) c_5a
  have hlt2 : n ≤ 500 → m * 5 ^ n < 10 ^ (399 + 1) := fun hn => Nat.lt_of_lt_of_le (lt_five (K := 500) hm hn) c_5c
  obtain ⟨D0, j, e1, e2⟩ := strip_ex (m * 5 ^ n) (m * 5 ^ n) (Nat.le_refl _) hN
  have e3 : sz D0 (-(n : Int) + j) (-(n : Int) + j) = sz m (-(n : Int)) 0 := by
   rw [sz_one, sz_pow j (-(n : Int)) (by omega), ← Nat.mul_assoc, e2, ← sz_one, sz_five _ _ (by omega)]
  obtain ⟨u1, u2⟩ := ten_uniq (K := K) (K' := -(n : Int) + j) (by omega) (by omega) h.ten e1 (h.eq.trans e3.symm)
  subst u1
  have hge : 10 ^ (n / 2) ≤ D * 10 ^ j := by
   rw [e2]
   exact Nat.le_trans (five_half n) (Nat.le_mul_of_pos_left _ (Nat.pos_of_ne_zero m0))
  rw [← e2] at hlt hlt2
  obtain ⟨r1, r2⟩ := len_rng d0 hge hlt
  have r3 : n ≤ 500 → (Lib.decDigits D).length + j ≤ 399 + 1 := fun hn => (len_rng d0 hge (hlt2 hn)).2
  refine ⟨d0, by omega, by omega, ?_⟩
  by_cases c5 : n ≤ 500
  ·have := r3 c5
   omega
  ·omega
theorem sz_p10 {k : Int} (hk : -5000 ≤ k) : sz 1 k k = 10 ^ (k + 5000).toNat := by
 unfold sz ov
 rw [bse_eq, Nat.one_mul, ← Nat.mul_pow, show k - -5000 = k + 5000 by omega]
theorem short_len {X : Nat} {t : Int} (ht : Tp X t) {I : Nat → Prop} {n : Nat} {k : Int} {d : Nat} {r : Int} {y : Nat} (hs : Sh I X t n k d r y) {D : Nat} {K : Int} (h : Dgs (sz y k k) D K) (hD : D < 10 ^ n) {D' : Nat} {K' : Int} (h' : Dgs X D' K')
  (b0 : D' ≠ 0) (b1 : -1000 < ((Lib.decDigits D').length : Int) + K') (b2 : ((Lib.decDigits D').length : Int) + K' ≤ 999) : Wok D K := by
 have d0 : D ≠ 0 := fun e => h.ten (by rw [e])
 have hlo := h.lo
 have hhi := h.hi
 have hlo' := h'.lo
 have hn1 := hs.n1
 have hn := hs.n21
 have hkn := hs.kn
 have tlo := ht.lo
 have thi := ht.hi
 obtain ⟨T, hT⟩ : ∃ T : Nat, (t + 5000).toNat = T := ⟨_, rfl⟩
 obtain ⟨q, hq⟩ : ∃ q : Nat, (k + 5000).toNat = q := ⟨_, rfl⟩
 have eT : T + 1 = q + n := by omega
 have x1 := ht.le
 have x2 := ht.lt
 rw [sz_p10 (by omega), hT] at x1
 rw [sz_p10 (by omega), show (t + 1 + 5000).toNat = T + 1 by omega] at x2
 have x3 := hs.fl.le
 have x4 := hs.fl.lt
 rw [sz_one, sz_p10 (by omega), hq] at x3 x4
 have hq0 : 0 < 10 ^ q := Nat.pow_pos (by decide)
 have dlo : 10 ^ (n - 1) ≤ d := by
  have : 10 ^ (n - 1) * 10 ^ q < (d + 1) * 10 ^ q := by
   rw [← Nat.pow_add, show n - 1 + q = T by omega]
   exact Nat.lt_of_le_of_lt x1 x4
  have := Nat.lt_of_mul_lt_mul_right this
  omega
 have dhi : d < 10 ^ n := by
  have : d * 10 ^ q < 10 ^ n * 10 ^ q := by
   rw [← Nat.pow_add, show n + q = T + 1 by omega]
   exact Nat.lt_of_le_of_lt x3 x2
  exact Nat.lt_of_mul_lt_mul_right this
 have hy : 10 ^ (n - 1) ≤ y ∧ y ≤ 10 ^ n := by
  rcases hs.ch with ⟨_, ⟨_, rfl⟩ | ⟨_, _, rfl⟩⟩ | ⟨_, ⟨_, rfl⟩ | ⟨_, _, rfl⟩⟩ <;> omega
 obtain ⟨Q, hQ⟩ : ∃ Q : Nat, (K + 5000).toNat = Q := ⟨_, rfl⟩
 have e1 : D * 10 ^ Q = y * 10 ^ q := by
  have := h.eq
  rw [sz_one D, sz_one y, sz_p10 (by omega), sz_p10 (by omega), hQ, hq] at this
  exact this
 obtain ⟨r1, r2⟩ := len_rng (A := T) (B := T + 2) d0 (by
  rw [e1, show T = n - 1 + q by omega, Nat.pow_add]
  exact Nat.mul_le_mul_right _ hy.1) (by
  rw [e1]
  refine Nat.lt_of_le_of_lt (Nat.mul_le_mul_right _ hy.2) ?_
  rw [← Nat.pow_add, show n + q = T + 1 by omega]
  exact Nat.pow_lt_pow_right (by decide) (by omega))
 obtain ⟨Q', hQ'⟩ : ∃ Q' : Nat, (K' + 5000).toNat = Q' := ⟨_, rfl⟩
 have e2 : D' * 10 ^ Q' = X := by
  have := h'.eq
  rw [sz_one D', sz_p10 (by omega), hQ'] at this
  exact this
 obtain ⟨s1, s2⟩ := len_rng (A := T) (B := T + 1) b0 (by rw [e2]; exact x1) (by rw [e2]; exact x2)
 have hl : (Lib.decDigits D).length ≤ n := by
  obtain ⟨l1, _⟩ := dd_rng d0
  have := ten_lt (Nat.lt_of_le_of_lt l1 hD)
  omega
 refine ⟨d0, h.ten, ⟨by omega, by omega⟩, by omega, by omega, by omega⟩
theorem pt_z {f : Fm} (ok : Ok f) (ok2 : Ok2 f) (ok3 : Ok3 f) {p : Nat} {g : Bool} {m : Nat} {z : Int} (hp : (p : Int) ≤ msk f) (h : Dv f p 2 g m z) : m ≠ 0 ∧ m < 18446744073709551616 ∧ -2000 ≤ z ∧ z ≤ 3000 := by
 obtain ⟨_, _, k, _, hmg, _, _, _, kt, _, m0⟩ := pt_key ok ok2 hp h
 exact ⟨m0, mg_z2 ok ok2 ok3 kt hmg⟩
theorem uc_wok {i p : Nat} {g : Bool} {D : Nat} {K : Int} (h : Uc (i : Int) p g D K 0) : 1 ≤ i ∧ i ≤ 14 ∧ (p : Int) ≤ msk (tb i) ∧ ∃ m z, Dv (tb i) p 2 g m z ∧ Dgs (sz m z 0) D K ∧ Wok D K := by
 rcases h with ⟨e, _⟩ | ⟨_, j, ej, i1, i2, hp, m, z, hv, hd⟩
 ·exact absurd rfl e
 ·obtain rfl : i = j := by omega
  obtain ⟨a1, a2, a3⟩ := pt_z (ok i i1 i2) (ok2 i i1 i2) (ok3 i i1 i2) hp hv
  obtain ⟨b0, b1, b2, b3⟩ := full_len a1 a2 a3 hd
  exact ⟨i1, i2, hp, m, z, hv, hd, b0, hd.ten, ⟨hd.lo, hd.hi⟩, by omega, b2, by omega⟩
theorem shc_wok {i p : Nat} {g : Bool} {D : Nat} {K : Int} (h : Shc (i : Int) p g D K 0) : 1 ≤ i ∧ i ≤ 14 ∧ (∃ m z m1 z1 m2 z2 ev t n k d r y, Sq (tb i) p g m z m1 z1 m2 z2 ev t n k d r y D K) ∧ Wok D K := by
 rcases h with ⟨e, _⟩ | ⟨_, j, ej, i1, i2, m, z, m1, z1, m2, z2, ev, t, n, k, d, r, y, hq⟩
 ·exact absurd rfl e
 ·obtain rfl : i = j := by omega
  obtain ⟨a1, a2, a3⟩ := pt_z (ok i i1 i2) (ok2 i i1 i2) (ok3 i i1 i2) hq.pt.fit hq.pt.dv
  obtain ⟨D', K', h'⟩ := dgs_full (z := z) a1 a2 ⟨by omega, a3.2⟩
  obtain ⟨b0, _, b2, b3⟩ := full_len a1 a2 a3 h'
  exact ⟨i1, i2, ⟨m, z, m1, z1, m2, z2, ev, t, n, k, d, r, y, hq⟩, short_len hq.tp hq.sh hq.dg hq.small h' b0 b2 b3⟩
end M
end Go.Proofs.YtcmlanfgafancaaGreatDoor
namespace Go.Proofs.YtcmlanfgafancaaGreatDoor
open Go
namespace M
theorem rs_ly3 {a : Nat} {k : Int} (h : Lok a k) (ng : Bool) (hl : (dgs a).length ≤ 1990) (hk : -1000 < ((dgs a).length : Int) + k ∧ ((dgs a).length : Int) + k ≤ 1000) : rs (ly ng a k) = (⟨1, ng, ⟨a, k, 0, false⟩⟩, 0, 0) := by
 obtain ⟨x, h1, h2, h3⟩ := ly_scan h ng
 rw [rs_ok h1]
 have h4 := h3.st
 unfold itm
 rw [if_neg (by omega), h3.num, num_ly h hl hk, h2]
theorem Wok.rs {D : Nat} {K : Int} (h : Wok D K) (g : Bool) : M.rs (ly g D K) = (⟨1, g, ⟨D, K, 0, false⟩⟩, 0, 0) := by
 have e : dgs D = Lib.decDigits D := if_neg h.nz
 exact rs_ly3 h.rtn.lok g (by rw [e]; exact h.len) (by rw [e]; exact ⟨h.lo, h.hi⟩)
theorem rs_zero (i : Nat) (g : Bool) : rs (wrd i 1 g) = (⟨1, g, ⟨0, 0, 0, false⟩⟩, 0, 0) := by
 cases g <;> rfl
theorem rs_inf (i : Nat) (g : Bool) : rs (wrd i 3 g) = (⟨2, g, ⟨0, 0, 0, false⟩⟩, 0, 0) := by
 cases g <;> rfl
theorem rs_nar {i : Nat} (h : i ≤ 4) (g : Bool) : rs (wrd i 4 g) = (⟨4, false, ⟨0, 0, 0, false⟩⟩, 0, 0) := by
 unfold wrd
 rw [if_neg (by decide), if_neg (by decide), if_pos h]
 rfl
theorem rs_nan {i : Nat} (h : ¬ i ≤ 4) (g : Bool) : rs (wrd i 4 g) = (⟨3, false, ⟨0, 0, 0, false⟩⟩, 0, 0) := by
 unfold wrd
 rw [if_neg (by decide), if_neg (by decide), if_neg h]
 rfl
theorem told {i p : Nat} {fu g : Bool} {D : Nat} {K : Int} (h : if fu = true then Uc (i : Int) p g D K 0 else Shc (i : Int) p g D K 0) :
  1 ≤ i ∧ i ≤ 14 ∧ (p : Int) ≤ msk (tb i) ∧ cls (tb i) p = 2 ∧ Wok D K ∧ ∀ mode : Int, mode = 1 ∨ mode = 2 → Rv (tb i) mode g (sz D K K) p := by
 cases fu with
 | true =>
  rw [if_pos rfl] at h
  obtain ⟨i1, i2, hp, m, z, hv, hd, hw⟩ := uc_wok h
  obtain ⟨c2, _⟩ := pt_key (ok i i1 i2) (ok2 i i1 i2) hp hv
  refine ⟨i1, i2, hp, c2, hw, fun mode _ => ?_⟩
  rw [hd.eq]
  exact (has_rv (ok i i1 i2) (ok2 i i1 i2) (ok3 i i1 i2) hp hv (.inr rfl) mode).1
 | false =>
  rw [if_neg (by decide)] at h
  obtain ⟨i1, i2, ⟨m, z, m1, z1, m2, z2, ev, t, n, k, d, r, y, hq⟩, hw⟩ := shc_wok h
  obtain ⟨c2, _⟩ := pt_key (ok i i1 i2) (ok2 i i1 i2) hq.pt.fit hq.pt.dv
  refine ⟨i1, i2, hq.pt.fit, c2, hw, fun mode hm => ?_⟩
  refine in_both (ok i i1 i2) (ok2 i i1 i2) (ok3 i i1 i2) hq.pt (fun e => hw.nz (sz_zero.1 e)) ?_ hm
  rw [hq.dg.eq]
  rcases hq.sh.ch with ⟨_, ⟨h1, rfl⟩ | ⟨_, h1, rfl⟩⟩ | ⟨_, ⟨h1, rfl⟩ | ⟨_, h1, rfl⟩⟩ <;> exact h1
theorem four_one (i : Nat) (i1 : 1 ≤ i) (i2 : i ≤ 14) : (i ≤ 4 ↔ (tb i).k = 1) ∧ ((tb i).k = 1 → (tb i).x ≠ 0) ∧ ((tb i).k = 2 → (tb i).x = 0 → (tb i).t + 1 = half (tb i)) := by
 refine all14 (p := fun i => (i ≤ 4 ↔ (tb i).k = 1) ∧ ((tb i).k = 1 → (tb i).x ≠ 0) ∧ ((tb i).k = 2 → (tb i).x = 0 → (tb i).t + 1 = half (tb i))) ?_ ?_ ?_ ?_ ?_ ?_ ?_ ?_ ?_ ?_ ?_ ?_ ?_ ?_ i i1 i2 <;> exact ⟨by decide, by decide, by decide⟩
theorem kyf_pat {f : Fm} (ok : Ok f) (hk : f.k = 2) {p : Int} (p0 : 0 ≤ p) (p1 : p ≤ msk f) : 0 ≤ kyf f p ∧ kyf f p < half f ∧ p = (if ngs f p = true then kyf f p + half f else kyf f p) ∧ p % half f = kyf f p := by
 have hm := ok.hm
 obtain ⟨_, hs⟩ := sgn_ok ok
 obtain ⟨hs1, hs2⟩ := hs (by omega)
 have e : kyf f p = if ngs f p = true then p - half f else p := by
  unfold kyf
  rw [if_pos hk, hs1]
 have hn : ngs f p = decide (half f ≤ p) := by
  unfold ngs
  rw [hs1, decide_eq_false (show ¬ half f = 0 by omega)]
  rfl
 by_cases c : half f ≤ p
 ·rw [decide_eq_true c] at hn
  rw [hn, if_pos rfl] at e
  refine ⟨by omega, by omega, by rw [hn, if_pos rfl]; omega, ?_⟩
  rw [e, show p = (p - half f) + half f by omega, Int.add_emod_right, Int.emod_eq_of_lt (by omega) (by omega)]
  omega
 ·rw [decide_eq_false c] at hn
  rw [hn, if_neg (by decide)] at e
  refine ⟨by omega, by omega, by rw [hn, if_neg (by decide)]; omega, ?_⟩
  rw [e, Int.emod_eq_of_lt (by omega) (by omega)]
theorem cls_cases {f : Fm} {p : Int} (h : cls f p = 3 ∨ cls f p = 4) : (f.k = 2 ∧ f.t < kyf f p ∧ (cls f p = 3 ↔ kyf f p = f.n)) ∨ (f.k ≠ 2 ∧ f.x ≠ 0 ∧ p = f.x ∧ cls f p = 4) := by
 unfold cls at h ⊢
 by_cases c : f.k = 2 ∧ f.t < kyf f p
 ·left
  refine ⟨c.1, c.2, ?_⟩
  rw [if_pos c]
  split <;> simp_all
 ·rw [if_neg c] at h ⊢
  by_cases c2 : f.k ≠ 2 ∧ f.x ≠ 0 ∧ p = f.x
  ·right
   rw [if_pos c2]
   exact ⟨c2.1, c2.2.1, c2.2.2, rfl⟩
  ·rw [if_neg c2] at h
   split at h <;> omega
theorem word_inf {i p : Nat} (i1 : 1 ≤ i) (i2 : i ≤ 14) (hp : (p : Int) ≤ msk (tb i)) (h : cls (tb i) p = 3) : Wq (tb i) 2 (ngs (tb i) p) p 0 0 := by
 have ok3 := ok3 i i1 i2
 rcases cls_cases (.inl h) with ⟨k2, ht, hn⟩ | ⟨_, _, _, e⟩
 ·obtain ⟨a0, a1, a2, _⟩ := kyf_pat (ok i i1 i2) k2 (p := p) (by omega) hp
  have e := hn.1 h
  have hb := ok3.big
  rw [e] at a2
  exact .inl ⟨rfl, by omega, a2, rfl, rfl⟩
 ·omega
theorem word_nan {i p : Nat} (i1 : 1 ≤ i) (i2 : i ≤ 14) (hp : (p : Int) ≤ msk (tb i)) (h : cls (tb i) p = 4) : cn i p = (tb i).x ∧ (if i ≤ 4 then Wq (tb i) 4 false (tb i).x 0 0 else Wq (tb i) 3 false (tb i).x 0 0) := by
 obtain ⟨f1, f2, f3⟩ := four_one i i1 i2
 rcases cls_cases (.inr h) with ⟨k2, ht, hn⟩ | ⟨k2, x0, e, _⟩
 ·obtain ⟨a0, a1, a2, a3⟩ := kyf_pat (ok i i1 i2) k2 (p := p) (by omega) hp
  have hne : kyf (tb i) p ≠ (tb i).n := fun e => by have := hn.2 e; omega
  have x0 : (tb i).x ≠ 0 := fun e => by have := f3 k2 e; omega
  refine ⟨?_, ?_⟩
  ·unfold cn
   rw [if_pos ⟨k2, by
    rw [a3]
    unfold bey
    rw [decide_eq_true ht, decide_eq_true hne]
    rfl⟩]
  ·rw [if_neg (fun e => by have := f1.1 e; omega)]
   exact .inr (.inl ⟨rfl, x0, by omega, rfl, rfl, rfl⟩)
 ·refine ⟨?_, ?_⟩
  ·unfold cn
   rw [if_neg (fun e => k2 e.1)]
   exact e
  ·by_cases c : i ≤ 4
   ·rw [if_pos c]
    exact .inr (.inr (.inl ⟨rfl, f1.1 c, rfl, rfl, rfl, rfl⟩))
   ·rw [if_neg c]
    exact .inr (.inl ⟨rfl, x0, fun e => c (f1.2 e), rfl, rfl, rfl⟩)
theorem szn_of (D : Nat) (K : Int) : szn ⟨D, K, 0, false⟩ = sz D K K := by
 unfold szn
 exact if_pos rfl
theorem parsed {i p : Nat} {fu : Bool} {l : List UInt8} (h : Pr (i : Int) p fu l 0) {mode : Int} (hm : mode = 1 ∨ mode = 2) : 1 ≤ i ∧ i ≤ 14 ∧ (p : Int) ≤ msk (tb i) ∧ Jc (i : Int) mode l (cn i p) 0 0 := by
 obtain ⟨c, g, m, z, hd, ⟨e, _⟩ | ⟨_, c2, j, ej, rfl⟩ | ⟨_, rfl, D, K, ht, rfl⟩⟩ := h
 ·exact absurd rfl e
 ·obtain rfl : i = j := by omega
  obtain ⟨j, ej, i1, i2, hp, hv⟩ := dc_in hd
  obtain rfl : i = j := by omega
  refine ⟨i1, i2, hp, ?_⟩
  have key : ∀ (r : It), rs (wrd i c g) = (r, 0, 0) → ∀ q : Int, Iq (tb i) mode r q 0 0 → Jc (i : Int) mode (wrd i c g) q 0 0 := fun r hr q hq => .inr ⟨i, rfl, i1, i2, .inr ⟨hm, r, 0, 0, hr, .inr ⟨rfl, hq⟩⟩⟩
  rcases hv with ⟨h4, rfl, rfl, rfl, rfl⟩ | ⟨h3, rfl, rfl, rfl, rfl⟩ | ⟨h1, rfl, hg, rfl, rfl⟩ | ⟨_, rfl, _⟩
  ·obtain ⟨e, hw⟩ := word_nan i1 i2 hp h4
   rw [e]
   by_cases c : i ≤ 4
   ·rw [if_pos c] at hw
    exact key _ (rs_nar c _) _ (.inl ⟨(by decide : (4 : Nat) ≠ 1), hw⟩)
   ·rw [if_neg c] at hw
    exact key _ (rs_nan c _) _ (.inl ⟨(by decide : (3 : Nat) ≠ 1), hw⟩)
  ·have hw := word_inf i1 i2 hp h3
   have hj := key _ (rs_inf i _) _ (.inl ⟨(by decide : (2 : Nat) ≠ 1), hw⟩)
   rw [(wq_cn i1 i2 hw).2.2.2]
   exact hj
  ·have hr : Rv (tb i) mode g (sz 0 0 0) p := (has_rv (ok i i1 i2) (ok2 i i1 i2) (ok3 i i1 i2) hp (.inr (.inr (.inl ⟨h1, rfl, hg, rfl, rfl⟩))) (.inl rfl) mode).1
   have hj := key _ (rs_zero i g) p (.inr ⟨rfl, by show Rv (tb i) mode g (szn ⟨0, 0, 0, false⟩) p; rw [szn_of]; exact hr, rfl, rfl⟩)
   rw [(rv_cn i1 i2 hr).2.2]
   exact hj
  ·exact absurd rfl c2
 ·obtain ⟨i1, i2, hp, _, hw, hr⟩ := told ht
  refine ⟨i1, i2, hp, ?_⟩
  rw [(rv_cn i1 i2 (hr mode hm)).2.2]
  exact .inr ⟨i, rfl, i1, i2, .inr ⟨hm, _, 0, 0, hw.rs g, .inr ⟨rfl, .inr ⟨rfl, by show Rv (tb i) mode g (szn ⟨D, K, 0, false⟩) p; rw [szn_of]; exact hr mode hm, rfl, rfl⟩⟩⟩⟩
theorem pr_ne {ii : Int} {p : Nat} {fu : Bool} {l : List UInt8} (h : Pr ii p fu l 0) : l ≠ [] := by
 obtain ⟨c, g, m, z, hd, ⟨e, _⟩ | ⟨_, c2, j, ej, rfl⟩ | ⟨_, rfl, D, K, ht, rfl⟩⟩ := h
 ·exact absurd rfl e
 ·unfold wrd
  split
  ·simp
  ·split
   ·simp
   ·split <;> simp
 ·obtain ⟨i, rfl, _⟩ := dc_in hd
  obtain ⟨_, _, _, _, hw, _⟩ := told ht
  intro e
  have h1 := hw.rs g
  rw [e] at h1
  have h2 : rs [] = (⟨0, false, ⟨0, 0, 0, false⟩⟩, 0, 2) := rfl
  rw [h2] at h1
  simp at h1
end M
end Go.Proofs.YtcmlanfgafancaaGreatDoor
namespace Go.Proofs.YtcmlanfgafancaaGreatDoor
open Go
namespace M
theorem nx13 {a b : Int} (h : a ≠ b) {P : Prop} : a = b → P := fun e => absurd e h
theorem ph1 : Shc 14 4591870180066957722 false 1 (-1) 0 :=
 .inr ⟨rfl, 14, rfl, by decide, by decide, 3602879701896397, -55, 14411518807585587, -57, 14411518807585589, -57, true, -1, 1, -1, 1, 1, 1,
  ⟨⟨by decide, .inr (.inr (.inr ⟨by decide, rfl, by decide, 4591870180066957722, by decide, .inr (.inl ⟨rfl, 52, rfl, by unfold mok; decide +kernel, .inr ⟨by decide, 1, by decide +kernel, by decide +kernel⟩⟩)⟩)),
    4591870180066957722, by decide, ⟨.inr ⟨by decide, .inr (.inl ⟨rfl, 52, by decide, rfl, by unfold mok; decide +kernel, .inr ⟨by decide, 0, by decide +kernel, by decide +kernel⟩⟩)⟩, .inr ⟨fun e => absurd e.1 (by decide), .inr (.inl ⟨rfl, 52, by decide, rfl, by unfold mok; decide +kernel, .inr ⟨by decide, 0, by decide +kernel, by decide +kernel⟩⟩)⟩⟩, by decide⟩,
   ⟨by decide +kernel, by decide +kernel, by decide, by decide⟩,
   ⟨by decide, by decide, by decide, ⟨by decide +kernel, by decide +kernel, .inr (.inl rfl), nx13 (by decide), fun _ => by decide +kernel, nx13 (by decide), nx13 (by decide), fun _ => by decide +kernel⟩,
    .inr ⟨fun e => by omega, .inl ⟨⟨.inl (by decide +kernel), .inr (.inl (by decide +kernel))⟩, rfl⟩⟩, fun j i e j1 jn => by omega⟩,
   ⟨by decide, rfl, by decide, by decide, by decide⟩, by decide⟩⟩
theorem ph5 : Shc 14 1 false 5 (-324) 0 :=
 .inr ⟨rfl, 14, rfl, by decide, by decide, 1, -1074, 1, -1075, 3, -1075, false, -324, 1, -324, 4, 3, 5,
  ⟨⟨by decide, .inr (.inr (.inr ⟨by decide, rfl, by decide, 1, by decide, .inr (.inl ⟨rfl, 52, rfl, by unfold mok; decide +kernel, .inr ⟨by decide, 0, by decide +kernel, by decide +kernel⟩⟩)⟩)),
    1, by decide, ⟨.inr ⟨by decide, .inr (.inl ⟨rfl, 52, by decide, rfl, by unfold mok; decide +kernel, .inr ⟨by decide, 0, by decide +kernel, by decide +kernel⟩⟩)⟩, .inr ⟨fun e => absurd e.1 (by decide), .inr (.inl ⟨rfl, 52, by decide, rfl, by unfold mok; decide +kernel, .inr ⟨by decide, 0, by decide +kernel, by decide +kernel⟩⟩)⟩⟩, by decide⟩,
   ⟨by decide +kernel, by decide +kernel, by decide, by decide⟩,
   ⟨by decide, by decide, by decide, ⟨by decide +kernel, by decide +kernel, .inr (.inr (.inr rfl)), nx13 (by decide), nx13 (by decide), nx13 (by decide), fun _ => by decide +kernel, fun _ => by decide +kernel⟩,
    .inl ⟨.inl (by decide), .inl ⟨⟨.inl (by decide +kernel), .inr (.inl (by decide +kernel))⟩, rfl⟩⟩, fun j i e j1 jn => by omega⟩,
   ⟨by decide, rfl, by decide, by decide, by decide⟩, by decide⟩⟩
theorem k65_ : IsK 7 65 9 (-3) := ⟨by decide, 0, 5, 1, 0, by unfold Ps; decide, by decide, by decide⟩
theorem k129_ : IsK 8 129 17 (-4) := ⟨by decide, 0, 6, 1, 0, by unfold Ps; decide, by decide, by decide⟩
theorem k131_ : IsK 8 131 19 (-4) := ⟨by decide, 0, 6, 3, 0, by unfold Ps; decide, by decide, by decide⟩
theorem ph65 : Shc 1 65 false 11 (-1) 0 :=
 .inr ⟨rfl, 1, rfl, by decide, by decide, 9, -3, 17, -4, 19, -4, false, 0, 2, -1, 11, 1, 11,
  ⟨⟨by decide, .inr (.inr (.inr ⟨by decide, rfl, by decide, 65, by decide, .inl ⟨rfl, 7, by decide, rfl, k65_⟩⟩)),
    65, by decide, ⟨.inr ⟨by decide, .inl ⟨rfl, 7, by decide, by decide, rfl, k129_⟩⟩, .inr ⟨fun e => absurd e.1 (by decide), .inl ⟨rfl, 7, by decide, by decide, rfl, k131_⟩⟩⟩, by decide⟩,
   ⟨by decide +kernel, by decide +kernel, by decide, by decide⟩,
   ⟨by decide, by decide, by decide, ⟨by decide +kernel, by decide +kernel, .inr (.inl rfl), nx13 (by decide), fun _ => by decide +kernel, nx13 (by decide), nx13 (by decide), fun _ => by decide +kernel⟩,
    .inr ⟨fun e => by omega, .inl ⟨⟨.inl (by decide +kernel), .inr (.inl (by decide +kernel))⟩, rfl⟩⟩, fun j i e j1 jn hj e1 e2 => by
     obtain rfl : j = 1 := by omega
     obtain rfl : i = 0 := by omega
     have q1 : sz 1 0 0 ≤ sz 9 (-3) 0 := by decide +kernel
     have q2 : sz 9 (-3) 0 < sz 2 0 0 := by decide +kernel
     obtain rfl := fl_uniq q1 q2 e1 e2
     exact ⟨by unfold In; decide +kernel, by unfold In; decide +kernel⟩⟩,
   ⟨by decide, rfl, by decide, by decide, by decide⟩, by decide⟩⟩
theorem pu12 : Uc 12 11878 false 999755859375 (-13) 0 :=
 .inr ⟨rfl, 12, rfl, by decide, by decide, by decide, 819, -13, .inr (.inr (.inr ⟨by decide, rfl, by decide, 11878, by decide, .inr (.inl ⟨rfl, 10, rfl, by unfold mok; decide +kernel, .inr ⟨by decide, 1, by decide +kernel, by decide +kernel⟩⟩)⟩)), ⟨by decide, by decide +kernel, by decide, by decide, by decide⟩⟩
theorem dc_fin {i : Nat} {p : Nat} {g : Bool} {m : Nat} {z : Int} (i1 : 1 ≤ i) (i2 : i ≤ 14) (hp : (p : Int) ≤ msk (tb i)) (hv : Dv (tb i) p 2 g m z) : Dc (i : Int) p 2 g m z 0 := .inr ⟨i, rfl, i1, i2, .inr ⟨hp, hv, rfl⟩⟩
theorem pr_short {i p : Nat} {g : Bool} {D : Nat} {K : Int} (h : Shc (i : Int) p g D K 0) : Pr (i : Int) p false (ly g D K) 0 := by
 obtain ⟨i1, i2, ⟨m, z, m1, z1, m2, z2, ev, t, n, k, d, r, y, hq⟩, _⟩ := shc_wok h
 exact ⟨2, g, m, z, dc_fin i1 i2 hq.pt.fit hq.pt.dv, .inr (.inr ⟨rfl, rfl, D, K, by rw [if_neg (by decide)]; exact h, rfl⟩)⟩
theorem pr_full {i p : Nat} {g : Bool} {D : Nat} {K : Int} (h : Uc (i : Int) p g D K 0) : Pr (i : Int) p true (ly g D K) 0 := by
 obtain ⟨i1, i2, hp, m, z, hv, _⟩ := uc_wok h
 exact ⟨2, g, m, z, dc_fin i1 i2 hp hv, .inr (.inr ⟨rfl, rfl, D, K, by rw [if_pos rfl]; exact h, rfl⟩)⟩
theorem pp1 : Pr 14 4591870180066957722 false [48, 46, 49] 0 := by
 have h := pr_short (i := 14) ph1
 rw [show ly false 1 (-1) = [48, 46, 49] from by simp [ly, lyb, lfar, sgt, ntx, Lib.decDigits, List.replicate]] at h
 exact h
theorem pp2 : Pr 14 1 false [53, 101, 45, 51, 50, 52] 0 := by
 have h := pr_short (i := 14) ph5
 rw [show ly false 5 (-324) = [53, 101, 45, 51, 50, 52] from by simp [ly, lyb, lfar, sgt, ntx, Lib.decDigits, List.replicate]] at h
 exact h
theorem pp3 : Pr 1 65 false [49, 46, 49] 0 := by
 have h := pr_short (i := 1) ph65
 rw [show ly false 11 (-1) = [49, 46, 49] from by simp [ly, lyb, lfar, sgt, ntx, Lib.decDigits, List.replicate]] at h
 exact h
theorem pp4 : Pr 12 11878 true [48, 46, 48, 57, 57, 57, 55, 53, 53, 56, 53, 57, 51, 55, 53] 0 := by
 have h := pr_full (i := 12) pu12
 rw [show ly false 999755859375 (-13) = [48, 46, 48, 57, 57, 57, 55, 53, 53, 56, 53, 57, 51, 55, 53] from by simp [ly, lyb, lfar, sgt, ntx, Lib.decDigits, List.replicate]] at h
 exact h
theorem pp5 : Pr 1 128 false [78, 97, 82] 0 := ⟨4, false, 0, 0, .inr ⟨1, rfl, by decide, by decide, .inr ⟨by decide, .inl ⟨by decide, rfl, rfl, rfl, rfl⟩, rfl⟩⟩, .inr (.inl ⟨rfl, by decide, 1, rfl, rfl⟩)⟩
theorem pp6 : Pr 6 252 false [45, 105, 110, 102] 0 := ⟨3, true, 0, 0, .inr ⟨6, rfl, by decide, by decide, .inr ⟨by decide, .inr (.inl ⟨by decide, rfl, by decide, rfl, rfl⟩), rfl⟩⟩, .inr (.inl ⟨rfl, by decide, 6, rfl, rfl⟩)⟩
theorem pp7 : Pr 13 2147483648 false [45, 48] 0 := ⟨1, true, 0, 0, .inr ⟨13, rfl, by decide, by decide, .inr ⟨by decide, .inr (.inr (.inl ⟨by decide, rfl, by decide, rfl, rfl⟩)), rfl⟩⟩, .inr (.inl ⟨rfl, by decide, 13, rfl, rfl⟩)⟩
theorem pp8 : Pr 5 255 false [110, 97, 110] 0 := ⟨4, false, 0, 0, .inr ⟨5, rfl, by decide, by decide, .inr ⟨by decide, .inl ⟨by decide, rfl, rfl, rfl, rfl⟩, rfl⟩⟩, .inr (.inl ⟨rfl, by decide, 5, rfl, rfl⟩)⟩
theorem pp9 : Pr 11 255 false [110, 97, 110] 0 := ⟨4, false, 0, 0, .inr ⟨11, rfl, by decide, by decide, .inr ⟨by decide, .inl ⟨by decide, rfl, rfl, rfl, rfl⟩, rfl⟩⟩, .inr (.inl ⟨rfl, by decide, 11, rfl, rfl⟩)⟩
theorem pe1 : Pr 0 0 false [] 3 := ⟨0, false, 0, 0, .inl ⟨by decide, rfl, rfl, rfl, rfl, rfl⟩, .inl ⟨by decide, rfl⟩⟩
theorem pe2 : Pr 9 16 false [] 1 := ⟨0, false, 0, 0, .inr ⟨9, rfl, by decide, by decide, .inl ⟨by decide, rfl, rfl, rfl, rfl, rfl⟩⟩, .inl ⟨by decide, rfl⟩⟩
end M
end Go.Proofs.YtcmlanfgafancaaGreatDoor
namespace Go.Proofs.YtcmlanfgafancaaGreatDoor
open Go.RowKit Go.Shelf
structure Lq (w : World) : Prop where
 ten : TabW w
 low : Tz w
 form : TabF w
theorem Lq.up {w w' : World} (h : Lq w) (u : Up w w') : Lq w' := ⟨h.ten.up u, h.low.up u, h.form.up u⟩
def Ptx (l : List UInt8) (x : Int) (w : World) (e : Ending) (w' : World) : Prop := ∃ s, e = .returned (.tuple #[.string s, .int .i64 x]) ∧ Tx s l ∧ Up w w'
structure Prn : Prop where
 print : ∀ (w : World) (ii : Int) (p : Nat) (l : List UInt8) (x : Int), Lq w → p < 18446744073709551616 → M.Pr ii p false l x → Calls Tryz.prog 10 #[.int .i64 ii, u64 p] w (Ptx l x w)
 full : ∀ (w : World) (ii : Int) (p : Nat) (l : List UInt8) (x : Int), Lq w → p < 18446744073709551616 → M.Pr ii p true l x → Calls Tryz.prog 12 #[.int .i64 ii, u64 p] w (Ptx l x w)
theorem of13_any (F : Prn) (w : World) (L : Lq w) (ii : Int) (p : Nat) (pb : p < 18446744073709551616) (l : List UInt8) (x : Int) (h : M.Pr ii p false l x) :
  Calls Tryz.prog 17 #[.int .i64 ii, u64 p] w (Tex l w) := by
 have C := Lib.hid (F.print w ii p l x L pb h)
 clear h pb L F
 go_enter Tryz.func17, Tryz.ntmps17
 go_wp2_with fail
 refine C.out.mono ?_
 rintro _ w1 ⟨s, rfl, tS, u1⟩
 go_wp2_with fail
 go_ret
 exact ⟨s, rfl, tS, u1⟩
def True13 (w : World) (e : Ending) (w' : World) : Prop := e = .returned (.bool true) ∧ Up w w'
end Go.Proofs.YtcmlanfgafancaaGreatDoor
namespace Go.Proofs.YtcmlanfgafancaaGreatDoor
open Go.RowKit Go.Shelf
theorem Ptx.lit {l : List UInt8} {x : Int} {w : World} {e : Ending} {w' : World} (h : Ptx l x w e w') : e = .returned (.tuple #[.string ⟨l.toArray⟩, .int .i64 x]) ∧ Up w w' := by
 obtain ⟨s, rfl, tS, u⟩ := h
 rw [Tx.uniq tS (Tx.lit l)]
 exact ⟨rfl, u⟩
theorem Tex.lit {l : List UInt8} {w : World} {e : Ending} {w' : World} (h : Tex l w e w') : e = .returned (.string ⟨l.toArray⟩) ∧ Up w w' := by
 obtain ⟨s, rfl, tS, u⟩ := h
 rw [Tx.uniq tS (Tx.lit l)]
 exact ⟨rfl, u⟩
set_option maxRecDepth 100000 in
theorem shown13_any (F : Prn) (w : World) (L : Lq w) : Calls Tryz.prog 9 #[] w (True13 w) := by
 have C1 : Hid (∀ W, Lq W → Calls Tryz.prog 10 #[.int .i64 0, .int .u64 0] W (fun e w' => e = .returned (.tuple #[.string ⟨#[]⟩, .int .i64 3]) ∧ Up W w')) := Lib.hid (fun W l => (F.print W 0 0 _ _ l (by decide) M.pe1).mono fun _ _ h => h.lit)
 have C2 : Hid (∀ W, Lq W → Calls Tryz.prog 10 #[.int .i64 9, .int .u64 16] W (fun e w' => e = .returned (.tuple #[.string ⟨#[]⟩, .int .i64 1]) ∧ Up W w')) := Lib.hid (fun W l => (F.print W 9 16 _ _ l (by decide) M.pe2).mono fun _ _ h => h.lit)
 have C3 : Hid (∀ W, Lq W → Calls Tryz.prog 12 #[.int .i64 12, .int .u64 11878] W (fun e w' => e = .returned (.tuple #[.string ⟨#[48, 46, 48, 57, 57, 57, 55, 53, 53, 56, 53, 57, 51, 55, 53]⟩, .int .i64 0]) ∧ Up W w')) := Lib.hid (fun W l => (F.full W 12 11878 _ _ l (by decide) M.pp4).mono fun _ _ h => h.lit)
 have C4 : Hid (∀ W, Lq W → Calls Tryz.prog 17 #[.int .i64 1, .int .u64 128] W (fun e w' => e = .returned (.string ⟨#[78, 97, 82]⟩) ∧ Up W w')) := Lib.hid (fun W l => (of13_any F W l 1 128 (by decide) _ _ M.pp5).mono fun _ _ h => h.lit)
 have C5 : Hid (∀ W, Lq W → Calls Tryz.prog 17 #[.int .i64 6, .int .u64 252] W (fun e w' => e = .returned (.string ⟨#[45, 105, 110, 102]⟩) ∧ Up W w')) := Lib.hid (fun W l => (of13_any F W l 6 252 (by decide) _ _ M.pp6).mono fun _ _ h => h.lit)
 have C6 : Hid (∀ W, Lq W → Calls Tryz.prog 17 #[.int .i64 13, .int .u64 2147483648] W (fun e w' => e = .returned (.string ⟨#[45, 48]⟩) ∧ Up W w')) := Lib.hid (fun W l => (of13_any F W l 13 2147483648 (by decide) _ _ M.pp7).mono fun _ _ h => h.lit)
 have C7 : Hid (∀ W, Lq W → Calls Tryz.prog 17 #[.int .i64 5, .int .u64 255] W (fun e w' => e = .returned (.string ⟨#[110, 97, 110]⟩) ∧ Up W w')) := Lib.hid (fun W l => (of13_any F W l 5 255 (by decide) _ _ M.pp8).mono fun _ _ h => h.lit)
 have C8 : Hid (∀ W, Lq W → Calls Tryz.prog 17 #[.int .i64 14, .int .u64 4591870180066957722] W (fun e w' => e = .returned (.string ⟨#[48, 46, 49]⟩) ∧ Up W w')) := Lib.hid (fun W l => (of13_any F W l 14 4591870180066957722 (by decide) _ _ M.pp1).mono fun _ _ h => h.lit)
 have C9 : Hid (∀ W, Lq W → Calls Tryz.prog 17 #[.int .i64 1, .int .u64 65] W (fun e w' => e = .returned (.string ⟨#[49, 46, 49]⟩) ∧ Up W w')) := Lib.hid (fun W l => (of13_any F W l 1 65 (by decide) _ _ M.pp3).mono fun _ _ h => h.lit)
 have Ca : Hid (∀ W, Lq W → Calls Tryz.prog 17 #[.int .i64 14, .int .u64 1] W (fun e w' => e = .returned (.string ⟨#[53, 101, 45, 51, 50, 52]⟩) ∧ Up W w')) := Lib.hid (fun W l => (of13_any F W l 14 1 (by decide) _ _ M.pp2).mono fun _ _ h => h.lit)
 have Cb : Hid (∀ W, Lq W → Calls Tryz.prog 17 #[.int .i64 11, .int .u64 255] W (fun e w' => e = .returned (.string ⟨#[110, 97, 110]⟩) ∧ Up W w')) := Lib.hid (fun W l => (of13_any F W l 11 255 (by decide) _ _ M.pp9).mono fun _ _ h => h.lit)
 have U := Up.refl w
 replace L := Lib.hid L
 clear F
 go_enter Tryz.func9, Tryz.ntmps9
 go_wp2_with fail
 refine (C1.out _ (L.out.up (by first | exact U | exact U.drew))).mono ?_
 rintro _ w1 ⟨rfl, u1⟩
 replace U := Up.trans (by first | exact U | exact U.drew) u1
 clear u1 C1
 go_wp2_with fail
 refine (C2.out _ (L.out.up (by first | exact U | exact U.drew))).mono ?_
 rintro _ w2 ⟨rfl, u2⟩
 replace U := Up.trans (by first | exact U | exact U.drew) u2
 clear u2 C2
 go_wp2_with fail
 refine (C3.out _ (L.out.up (by first | exact U | exact U.drew))).mono ?_
 rintro _ w3 ⟨rfl, u3⟩
 replace U := Up.trans (by first | exact U | exact U.drew) u3
 clear u3 C3
 go_wp2_with fail
 refine (C4.out _ (L.out.up (by first | exact U | exact U.drew))).mono ?_
 rintro _ w4 ⟨rfl, u4⟩
 replace U := Up.trans (by first | exact U | exact U.drew) u4
 clear u4 C4
 go_wp2_with fail
 refine (C5.out _ (L.out.up (by first | exact U | exact U.drew))).mono ?_
 rintro _ w5 ⟨rfl, u5⟩
 replace U := Up.trans (by first | exact U | exact U.drew) u5
 clear u5 C5
 go_wp2_with fail
 refine (C6.out _ (L.out.up (by first | exact U | exact U.drew))).mono ?_
 rintro _ w6 ⟨rfl, u6⟩
 replace U := Up.trans (by first | exact U | exact U.drew) u6
 clear u6 C6
 go_wp2_with fail
 refine (C7.out _ (L.out.up (by first | exact U | exact U.drew))).mono ?_
 rintro _ w7 ⟨rfl, u7⟩
 replace U := Up.trans (by first | exact U | exact U.drew) u7
 clear u7 C7
 go_wp2_with fail
 refine (C8.out _ (L.out.up (by first | exact U | exact U.drew))).mono ?_
 rintro _ w8 ⟨rfl, u8⟩
 replace U := Up.trans (by first | exact U | exact U.drew) u8
 clear u8 C8
 go_wp2_with fail
 refine (C9.out _ (L.out.up (by first | exact U | exact U.drew))).mono ?_
 rintro _ w9 ⟨rfl, u9⟩
 replace U := Up.trans (by first | exact U | exact U.drew) u9
 clear u9 C9
 go_wp2_with fail
 refine (Ca.out _ (L.out.up (by first | exact U | exact U.drew))).mono ?_
 rintro _ w10 ⟨rfl, u10⟩
 replace U := Up.trans (by first | exact U | exact U.drew) u10
 clear u10 Ca
 go_wp2_with fail
 refine (Cb.out _ (L.out.up (by first | exact U | exact U.drew))).mono ?_
 rintro _ w11 ⟨rfl, u11⟩
 replace U := Up.trans (by first | exact U | exact U.drew) u11
 clear u11 Cb
 go_wp2_with fail
 go_ret
 exact ⟨by first | rfl | simp, by first | exact U | exact U.drew⟩
end Go.Proofs.YtcmlanfgafancaaGreatDoor
