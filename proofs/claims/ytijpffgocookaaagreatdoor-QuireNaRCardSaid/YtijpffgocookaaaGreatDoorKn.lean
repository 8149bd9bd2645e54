/-
  Layer 11 in numbers: what has one pattern is an interval, that reaches beyond its number by more than a part in 2^65 of it. No program is named here.
-/
import Derived.Test.YtijpffgocookaaaGreatDoorLab
namespace Go.Proofs.YtijpffgocookaaaGreatDoor
open Go.RowKit
set_option linter.unusedSimpArgs false
set_option linter.unusedVariables false

namespace M
/-- Two keys of one sign have two patterns. -/
theorem pat_inj {f : Fm} (ok : Ok f) (ok2 : Ok2 f) (ok3 : Ok3 f) {neg : Bool} {k k' : Nat} (h4 : ¬ (f.k = 4 ∧ neg = true)) (hk : (k : Int) ≤ mst f neg) (hk' : (k' : Int) ≤ mst f neg) (h : pat f neg k = pat f neg k') : k = k' := by
  obtain ⟨_, _, a1, a2⟩ := pat_key ok ok2 ok3 h4 hk
  obtain ⟨_, _, b1, b2⟩ := pat_key ok ok2 ok3 h4 hk'
  by_cases a : k ≠ 0 ∨ f.k = 4
  · by_cases b : k' ≠ 0 ∨ f.k = 4
    · have e1 := (a1 a).2.1
      have e2 := (b1 b).2.1
      rw [h] at e1
      omega
    · have e1 := (a1 a).1
      have e2 := b2 (by omega)
      rw [h] at e1
      omega
  · by_cases b : k' ≠ 0 ∨ f.k = 4
    · have e1 := (b1 b).1
      have e2 := a2 (by omega)
      rw [← h] at e1
      omega
    · omega
/-- A number's pattern: its key. -/
theorem rv_key {f : Fm} (ok : Ok f) (ok2 : Ok2 f) (ok3 : Ok3 f) {mode : Int} {neg : Bool} {X : Nat} {p : Int} (h : Rv f mode neg X p) (hc : cls f p = 1 ∨ cls f p = 2) :
    ¬ (f.k = 4 ∧ (neg = true ∨ X = 0)) ∧ ∃ q k o, mst f neg = (q : Nat) ∧ Nr f q X k o ∧ ¬ (o = true ∧ ¬ st f mode) ∧ p = pat f neg k ∧ k ≤ q ∧ (q : Int) ≤ tp f := by
  obtain ⟨_, _, ⟨h3, _⟩ | h⟩ := rv_class ok ok2 ok3 h
  · omega
  · exact h
/-- What has one pattern is an interval. -/
theorem rv_conv {f : Fm} (ok : Ok f) (ok2 : Ok2 f) (ok3 : Ok3 f) {mode : Int} {neg : Bool} {X Y Z : Nat} {p : Int} (h : Rv f mode neg X p) (h' : Rv f mode neg Z p) (hc : cls f p = 1 ∨ cls f p = 2) (h1 : X ≤ Y) (h2 : Y ≤ Z) : Rv f mode neg Y p := by
  obtain ⟨a4, q, k, o, hq, hn, ho, hp, hk, hqt⟩ := rv_key ok ok2 ok3 h hc
  obtain ⟨b4, q', k', o', hq', hn', ho', hp', hk', _⟩ := rv_key ok ok2 ok3 h' hc
  obtain rfl : q = q' := by omega
  have n4 : ¬ (f.k = 4 ∧ neg = true) := fun e => a4 ⟨e.1, .inl e.2⟩
  obtain rfl : k = k' := pat_inj ok ok2 ok3 n4 (by omega) (by omega) (hp.symm.trans hp')
  obtain ⟨q3, hq3, q33, _, _⟩ := mst_rng ok ok2 ok3 neg
  obtain ⟨k2, o2, hn2⟩ := nr_ex ok ok2 ok3 (q := q) (X := Y) hqt (fun _ => by omega)
  have m1 := nr_mono ok ok2 ok3 hqt h1 hn hn2
  have m2 := nr_mono ok ok2 ok3 hqt h2 hn2 hn'
  obtain rfl : k2 = k := by omega
  refine .inr ⟨fun e => ?_, q, k2, o2, hq, hn2, .inr ⟨fun e => ho' ⟨m2.2 e.1, e.2⟩, hp⟩⟩
  rcases e.2 with e2 | e2
  · exact n4 ⟨e.1, e2⟩
  · exact a4 ⟨e.1, .inr (by omega)⟩
/-- .. of both modes. -/
theorem rv_modes {f : Fm} (ok : Ok f) (ok2 : Ok2 f) (ok3 : Ok3 f) {neg : Bool} {X : Nat} {p : Int} (h : Rv f 2 neg X p) (hc : cls f p = 1 ∨ cls f p = 2) : Rv f 1 neg X p := by
  obtain ⟨a4, q, k, o, hq, hn, ho, hp, hk, hqt⟩ := rv_key ok ok2 ok3 h hc
  exact .inr ⟨a4, q, k, o, hq, hn, .inr ⟨fun e => e.2 (.inl rfl), hp⟩⟩
/-- Numbers over the base that are no powers' multiples of another are apart. -/
theorem sz_as : ∃ c : Nat, 0 < c ∧ ∀ (m : Nat) (z : Int), sz m z 0 = m * (c * 2 ^ (z - bse).toNat) :=
  ⟨5 ^ ((0 : Int) - bse).toNat, Nat.pow_pos (by decide), fun m z => by unfold sz ov; rw [Nat.mul_assoc]⟩
theorem apart_up {m n a b c : Nat} (hc : 0 < c) (hm : m < 18446744073709551616) (hn : n < 18446744073709551616) (h : m * (c * 2 ^ a) < n * (c * 2 ^ b)) :
    m * (c * 2 ^ a) < 18446744073709551616 * (n * (c * 2 ^ b) - m * (c * 2 ^ a)) := by
  rcases Nat.le_total b a with hb | hb
  · obtain ⟨d, rfl⟩ : ∃ d, a = b + d := ⟨a - b, by omega⟩
    have e : m * (c * 2 ^ (b + d)) = (m * 2 ^ d) * (c * 2 ^ b) := by rw [Nat.pow_add]; ac_rfl
    rw [e] at h ⊢
    have hu : 0 < c * 2 ^ b := Nat.mul_pos hc (p2 b)
    generalize c * 2 ^ b = u at *
    have h1 : m * 2 ^ d < n := Nat.lt_of_mul_lt_mul_right h
    rw [← Nat.sub_mul, ← Nat.mul_assoc]
    exact Nat.mul_lt_mul_of_pos_right (by omega) hu
  · obtain ⟨d, rfl⟩ : ∃ d, b = a + d := ⟨b - a, by omega⟩
    have e : n * (c * 2 ^ (a + d)) = (n * 2 ^ d) * (c * 2 ^ a) := by rw [Nat.pow_add]; ac_rfl
    rw [e] at h ⊢
    have hu : 0 < c * 2 ^ a := Nat.mul_pos hc (p2 a)
    generalize c * 2 ^ a = u at *
    have h1 : m < n * 2 ^ d := Nat.lt_of_mul_lt_mul_right h
    rw [← Nat.sub_mul, ← Nat.mul_assoc]
    exact Nat.mul_lt_mul_of_pos_right (by omega) hu
theorem apart_down {m n a b c : Nat} (hc : 0 < c) (hm : m < 18446744073709551616) (hn : n < 18446744073709551616) (h : n * (c * 2 ^ b) < m * (c * 2 ^ a)) :
    m * (c * 2 ^ a) < 36893488147419103232 * (m * (c * 2 ^ a) - n * (c * 2 ^ b)) := by
  have := apart_up hc hn hm h
  omega
/-- A number, and the boundary above it. -/
theorem gap_up {f : Fm} (ok : Ok f) (ok2 : Ok2 f) (ok3 : Ok3 f) {k m n : Nat} {z y : Int} (hk : (k : Int) ≤ tp f) (h : Mg0 f k m z) (h0 : m ≠ 0) (h' : Bd f k n y) :
    sz m z 0 < sz n y 0 ∧ sz m z 0 < 18446744073709551616 * (sz n y 0 - sz m z 0) := by
  have b1 := bd_z ok ok2 ok3 hk h'
  have b2 := mg_z ok ok2 ok3 hk h
  have g : sz m z 0 < sz n y 0 := by
    rcases gt_mid h h' with e | ⟨_, g⟩
    · exact absurd e h0
    · exact gt_sz (by omega) (by omega) g
  refine ⟨g, ?_⟩
  obtain ⟨c, c0, hc⟩ := sz_as
  rw [hc, hc] at g ⊢
  exact apart_up c0 b2.1 b1.2.1 g
/-- .. and the one below. -/
theorem gap_down {f : Fm} (ok : Ok f) (ok2 : Ok2 f) (ok3 : Ok3 f) {k m n : Nat} {z y : Int} (hk : ((k + 1 : Nat) : Int) ≤ tp f) (h : Mg0 f (k + 1) m z) (h' : Bd f k n y) :
    sz n y 0 < sz m z 0 ∧ sz m z 0 < 36893488147419103232 * (sz m z 0 - sz n y 0) := by
  have b1 := bd_z ok ok2 ok3 (k := k) (by omega) h'
  have b2 := mg_z ok ok2 ok3 hk h
  have g : sz n y 0 < sz m z 0 := gt_sz (by omega) (by omega) (gt_next h' h).2
  refine ⟨g, ?_⟩
  obtain ⟨c, c0, hc⟩ := sz_as
  rw [hc, hc] at g ⊢
  exact apart_down c0 b2.1 b1.2.1 g
/-- What is nearer to a number than a part in 2^65 of it has its pattern. -/
theorem rv_near {f : Fm} (ok : Ok f) (ok2 : Ok2 f) (ok3 : Ok3 f) {p : Nat} (hp : (p : Int) ≤ msk f) {g : Bool} {m : Nat} {z : Int} (h : Dv f p 2 g m z) (mode : Int) {Y : Nat}
    (h1 : Y ≤ sz m z 0 → 36893488147419103232 * (sz m z 0 - Y) ≤ sz m z 0) (h2 : sz m z 0 ≤ Y → 36893488147419103232 * (Y - sz m z 0) ≤ sz m z 0) : Rv f mode g Y p := by
  obtain ⟨k, hk, hmg⟩ : ∃ k, Kv f p g k 0 ∧ Mg0 f k m z := by
    rcases h with ⟨_, e, _⟩ | ⟨_, e, _⟩ | ⟨_, e, _⟩ | ⟨c2, _, rfl, k, hk, hm⟩
    · exact absurd e (by decide)
    · exact absurd e (by decide)
    · exact absurd e (by decide)
    · obtain ⟨_, _, _, r4⟩ := cls_key ok ok2 (p := p) (by omega) hp (.inr c2)
      exact ⟨k, .inr (.inr ⟨c2, rfl, hk, rfl⟩), .inr ⟨by have := r4 c2; omega, hm⟩⟩
  have m0 : m ≠ 0 := by
    rcases h with ⟨_, e, _⟩ | ⟨_, e, _⟩ | ⟨_, e, _⟩ | ⟨c2, _, rfl, k', hk', hm⟩
    · exact absurd e (by decide)
    · exact absurd e (by decide)
    · exact absurd e (by decide)
    · obtain ⟨_, _, _, r4⟩ := cls_key ok ok2 (p := p) (by omega) hp (.inr c2)
      exact mg_nz hm (by have := r4 c2; omega)
  have x0 : sz m z 0 ≠ 0 := fun e => m0 (sz_zero.1 e)
  obtain ⟨h4, km, hpat, kt, _⟩ := kv_back ok ok2 hp hk
  obtain ⟨q, hq, _, _, qt⟩ := mst_rng ok ok2 ok3 g
  obtain ⟨n, y, hb⟩ := bd_ex ok ok2 kt
  have gu := gap_up ok ok2 ok3 kt hmg m0 hb
  have Y0 : Y ≠ 0 := fun e => by
    subst e
    have := h1 (Nat.zero_le _)
    omega
  have hY : Y < sz n y 0 := by
    rcases Nat.le_total (sz m z 0) Y with c | c
    · have := h2 c
      omega
    · omega
  refine .inr ⟨fun e => ?_, q, k, false, hq, .inr ⟨rfl, by omega, ?_, fun e _ => ?_, fun j hj => .inl ?_⟩, .inr ⟨fun e => (by cases e.1), hpat.symm⟩⟩
  · rcases e.2 with e2 | e2
    · exact h4 ⟨e.1, e2⟩
    · exact Y0 e2
  · rw [byd_iff ⟨n, y, hb, rfl⟩]
    omega
  · intro k0
    subst k0
    rcases hmg with ⟨_, _, e2, _⟩ | ⟨e2, _⟩
    · exact m0 e2
    · omega
  · obtain ⟨k', rfl⟩ : ∃ k', k = k' + 1 := ⟨k - 1, by omega⟩
    obtain ⟨n', y', hb'⟩ := bd_ex ok ok2 (k := k') (by omega)
    have gd := gap_down ok ok2 ok3 kt hmg hb'
    have hY' : sz n' y' 0 < Y := by
      rcases Nat.le_total (sz m z 0) Y with c | c
      · omega
      · have := h1 c
        omega
    exact byd_down ok ok2 ok3 (k' := k') (by omega) (by omega) ⟨_, ⟨n', y', hb', rfl⟩, .inl hY'⟩
/-! Digits. -/
theorem sz_add (a b : Nat) (k j : Int) : sz (a + b) k j = sz a k j + sz b k j := by
  unfold sz ov
  rw [Nat.add_mul, Nat.add_mul]
theorem sz_times (a b : Nat) (k j : Int) : sz (a * b) k j = a * sz b k j := by
  unfold sz ov
  rw [Nat.mul_assoc, Nat.mul_assoc, Nat.mul_assoc]
theorem sz_one (a : Nat) (k j : Int) : sz a k j = a * sz 1 k j := by
  rw [← sz_times, Nat.mul_one]
theorem sz_pos (k j : Int) : 0 < sz 1 k j := Nat.pos_of_ne_zero (fun e => by have := sz_zero.1 e; omega)
theorem sz_pow (j : Nat) (k : Int) (hk : -5000 ≤ k) : sz 1 (k + j) (k + j) = 10 ^ j * sz 1 k k := by
  have e : sz (1 * 10 ^ j) k k = sz 1 (k + j) (k + j) := by
    unfold sz ov
    rw [bse_eq, show (k + j - -5000).toNat = (k - -5000).toNat + j by omega, Nat.pow_add, Nat.pow_add, show (10 : Nat) = 5 * 2 from rfl, Nat.mul_pow]
    ac_rfl
  rw [← e, Nat.one_mul, ← sz_one]
theorem c_20 : (36893488147419103232 : Nat) ≤ 10 ^ 20 := by decide
/-- What is left behind the twenty-first digit is less than a part in 2^65. -/
theorem near_21 {X d : Nat} {k t : Int} (hk : -5000 ≤ k) (ht : k + 20 = t) (h1 : sz d k k ≤ X) (h2 : X < sz (d + 1) k k) (h3 : sz 1 t t ≤ X) : 36893488147419103232 * (X - sz d k k) ≤ X := by
  subst ht
  have e := sz_pow 20 k hk
  rw [show k + ((20 : Nat) : Int) = k + 20 from rfl] at e
  rw [sz_add] at h2
  rw [e] at h3
  have h5 : X - sz d k k ≤ sz 1 k k := by omega
  generalize X - sz d k k = r at *
  have h6 := Nat.mul_le_mul_left 36893488147419103232 h5
  have h7 := Nat.mul_le_mul_right (sz 1 k k) c_20
  omega
/-- A number of at most so many digits is not between the two next ones of a number. -/
theorem next_two {X D d n : Nat} {K k t : Int} (hk : -5000 ≤ k) (hK : -5000 ≤ K) (hD : D < 10 ^ n) (hn : k + n = t + 1) (hn1 : 1 ≤ n) (h1 : sz d k k ≤ X) (h2 : X < sz (d + 1) k k) (h3 : sz 1 t t ≤ X) :
    (sz D K K ≤ X → sz D K K ≤ sz d k k) ∧ (X < sz D K K → sz (d + 1) k k ≤ sz D K K) := by
  have up := sz_pos k k
  rcases (show k ≤ K ∨ K < k by omega) with c | c
  · obtain ⟨j, rfl⟩ : ∃ j : Nat, K = k + j := ⟨(K - k).toNat, by omega⟩
    have e : sz D (k + j) (k + j) = (D * 10 ^ j) * sz 1 k k := by rw [sz_one, sz_pow j k hk, Nat.mul_assoc]
    rw [e]
    rw [sz_one] at h1 h2
    rw [sz_one d, sz_one (d + 1)]
    generalize D * 10 ^ j = M at *
    generalize sz 1 k k = u at *
    constructor
    · intro h
      have : M < d + 1 := Nat.lt_of_mul_lt_mul_right (Nat.lt_of_le_of_lt h h2)
      exact Nat.mul_le_mul_right _ (by omega)
    · intro h
      have : d < M := Nat.lt_of_mul_lt_mul_right (Nat.lt_of_le_of_lt h1 h)
      exact Nat.mul_le_mul_right _ (by omega)
  · obtain ⟨i, hi⟩ : ∃ i : Nat, t = k + i := ⟨n - 1, by omega⟩
    have hni : n = i + 1 := by omega
    obtain ⟨j, hj⟩ : ∃ j : Nat, k = K + j := ⟨(k - K).toNat, by omega⟩
    -- 10^t is a multiple of 10^k that is not above X
    have e3 : sz 1 t t = 10 ^ i * sz 1 k k := by rw [hi]; exact sz_pow i k hk
    have hd : 10 ^ i ≤ d := by
      rw [e3] at h3
      rw [sz_one] at h2
      have : 10 ^ i < d + 1 := Nat.lt_of_mul_lt_mul_right (Nat.lt_of_le_of_lt h3 h2)
      omega
    have hV : sz D K K ≤ sz 1 t t := by
      have j0 : 0 < j := by omega
      rw [sz_one D, e3, show k = K + j from hj, sz_pow j K hK, ← Nat.mul_assoc]
      refine Nat.mul_le_mul_right _ ?_
      rw [← Nat.pow_add]
      rw [hni] at hD
      exact Nat.le_trans (Nat.le_of_lt hD) (Nat.pow_le_pow_right (by decide) (by omega))
    have hdk : sz 1 t t ≤ sz d k k := by
      rw [e3, sz_one d]
      exact Nat.mul_le_mul_right _ hd
    exact ⟨fun _ => Nat.le_trans hV hdk, fun h => absurd h (by omega)⟩
end M
end Go.Proofs.YtijpffgocookaaaGreatDoor
