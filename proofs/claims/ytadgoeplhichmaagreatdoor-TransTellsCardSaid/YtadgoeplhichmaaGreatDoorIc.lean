/-
  From form to form, in numbers: what is just in a wide form; what the laws show first. No program is named here.
-/
import Derived.Test.YtadgoeplhichmaaGreatDoorIb
namespace Go.Proofs.YtadgoeplhichmaaGreatDoor
open Go
set_option linter.unusedVariables false
set_option linter.unusedSimpArgs false

namespace M
theorem bits_mul {m t : Nat} (h : m ≠ 0) : bits (m * 2 ^ t) = bits m + t := by
  have := bits_shl (m := m) h t
  omega
/-- What Binary64 has. -/
theorem wide_key {m : Nat} {z : Int} (mo : m % 2 = 1) (mb : bits m ≤ 53) (zl : -1074 ≤ z) (zh : z + (bits m : Int) ≤ 1024) : ∃ k, mok 52 1023 k ∧ IsM 52 1023 k m z ∧ (k : Int) ≤ (tb 14).t := by
  have b1 : 1 ≤ bits m := by
    have := bits_ge (a := m) (k := 0) (by rw [Nat.pow_zero]; omega)
    omega
  obtain ⟨F, hF⟩ : ∃ F : Nat, max (1023 + z + (bits m : Int) - 1) 1 = (F : Int) := ⟨(max (1023 + z + (bits m : Int) - 1) 1).toNat, by omega⟩
  obtain ⟨t, ht⟩ : ∃ t : Nat, z - ((F : Int) - 1023 - (52 : Nat)) = (t : Int) := ⟨(z - ((F : Int) - 1023 - (52 : Nat))).toNat, by omega⟩
  obtain ⟨k, h1, h2⟩ := key_found (p := 52) (b := 1023) (by decide) (by decide) (by decide) mo hF ht (by omega)
  refine ⟨k, h1, h2, ?_⟩
  have ct : (tb 14).t = 9218868437227405311 := by decide
  rw [ct]
  rcases Int.lt_or_le 9218868437227405311 (k : Int) with hk | hk
  · exfalso
    have c52 : (2 : Nat) ^ 52 = 4503599627370496 := by decide
    have hf : 2047 ≤ k / 2 ^ 52 := (Nat.le_div_iff_mul_le (by rw [c52]; decide)).2 (by rw [c52]; omega)
    rcases h2 with ⟨_, e, _⟩ | ⟨_, s, h3, h4⟩
    · omega
    · unfold mX at h3
      unfold mS at h4
      rw [if_neg (by omega)] at h3 h4
      have h5 : 2 ^ 52 ≤ m * 2 ^ s := by omega
      have h6 := bits_ge h5
      have h7 := bits_mul (m := m) (t := s) (by omega)
      omega
  · exact hk
theorem isk_more {n k m : Nat} {z : Int} : ∀ d, n + d ≤ 64 → IsK n k m z → IsK (n + d) (2 ^ d * k) m z
  | 0, _, h => by rw [Nat.pow_zero, Nat.one_mul]; exact h
  | d + 1, hd, h => by
    have := isk7_longer (n := n + d) (by omega) (isk_more d (by omega) h)
    rw [show 2 ^ (d + 1) * k = 2 * (2 ^ d * k) by rw [Nat.pow_succ, Nat.mul_comm (2 ^ d) 2, Nat.mul_assoc]]
    exact this
theorem isk_wide {n k m : Nat} {z : Int} (hn : n ≤ 31) (h : IsK n k m z) : m % 2 = 1 ∧ bits m ≤ 53 ∧ -1074 ≤ z ∧ z + (bits m : Int) ≤ 1024 := by
  obtain ⟨mo, R, r, q, t, h1, h2, h3⟩ := h
  have rg := h1.rng
  have h4 := ex_le h1.1
  have h5 := fr_lt r q
  have h6 : m * 2 ^ t < 2 ^ (r - 2 + 1) := by
    rw [← h2, p2s]; omega
  have h7 := bits_le_of_lt h6
  have h8 := bits_mul (m := m) (t := t) (by omega)
  refine ⟨mo, by omega, by omega, by omega⟩
theorem tb_one : ∀ i, 1 ≤ i → i ≤ 14 → (tb i).k = 1 → i ≠ 4 → (tb i).W ≤ 32 := by
  intro i a b
  refine all14 (p := fun i => (tb i).k = 1 → i ≠ 4 → (tb i).W ≤ 32) ?_ ?_ ?_ ?_ ?_ ?_ ?_ ?_ ?_ ?_ ?_ ?_ ?_ ?_ i a b <;> decide
theorem tb_two : ∀ i, 1 ≤ i → i ≤ 14 → (tb i).k = 2 → (tb i).m ≤ 52 ∧ (tb i).b + (tb i).m ≤ 1075 ∧ -1022 ≤ (tb i).b ∧ (((tb i).t.toNat / 2 ^ (tb i).m.toNat : Nat) : Int) - (tb i).b ≤ 1023 := by
  intro i a b
  refine all14 (p := fun i => (tb i).k = 2 → (tb i).m ≤ 52 ∧ (tb i).b + (tb i).m ≤ 1075 ∧ -1022 ≤ (tb i).b ∧ (((tb i).t.toNat / 2 ^ (tb i).m.toNat : Nat) : Int) - (tb i).b ≤ 1023) ?_ ?_ ?_ ?_ ?_ ?_ ?_ ?_ ?_ ?_ ?_ ?_ ?_ ?_ i a b <;> decide +kernel
/-- What a number of a form is, as to Binary64. -/
theorem wide_rng {i p : Nat} {g : Bool} {m : Nat} {z : Int} (i1 : 1 ≤ i) (i2 : i ≤ 14) (i4 : i ≠ 4) (hp : (p : Int) ≤ msk (tb i)) (h : Dv (tb i) p 2 g m z) : m % 2 = 1 ∧ bits m ≤ 53 ∧ -1074 ≤ z ∧ z + (bits m : Int) ≤ 1024 := by
  have ok := ok i i1 i2
  have ok2 := ok2 i i1 i2
  obtain ⟨_, _, k, hk, hm, _, _, _, kt, k0, m0⟩ := pt_key ok ok2 hp h
  have hm' : Mg (tb i) k m z := by
    rcases hm with ⟨e, e2, _⟩ | ⟨_, h⟩
    · omega
    · exact h
  rcases hm' with ⟨e, n, hn, hW, hk'⟩ | ⟨e, n, hn, hmo, hk'⟩ | ⟨e, hb, kp, mo, t, hk', hz⟩ | ⟨e, hb, hk', rfl, hz⟩
  · have := tb_one i i1 i2 e i4
    exact isk_wide (by omega) hk'
  · obtain ⟨a1, a2, a3, a4⟩ := tb_two i i1 i2 e
    rcases hk' with ⟨_, e, _⟩ | ⟨mo, t, h1, h2⟩
    · exact absurd e m0
    · have hx : m * 2 ^ t < 2 ^ (n + 1) := by
        have := mX_lt n k
        rw [h1] at this
        rw [p2s]; exact this
      have h7 := bits_le_of_lt hx
      have h8 := bits_mul (m := m) (t := t) m0
      have t0 := ok.t
      have kd : k / 2 ^ n ≤ (tb i).t.toNat / 2 ^ (tb i).m.toNat := by
        rw [show (tb i).m.toNat = n by omega]
        refine Nat.div_le_div_right ?_
        unfold tp at kt
        rw [if_neg (by omega)] at kt
        omega
      have ms := mS_eq n (tb i).b k
      obtain ⟨E, hE⟩ : ∃ E, k / 2 ^ n = E := ⟨_, rfl⟩
      obtain ⟨T, hT⟩ : ∃ T, (tb i).t.toNat / 2 ^ (tb i).m.toNat = T := ⟨_, rfl⟩
      rw [hE] at kd ms
      rw [hT] at kd a4
      refine ⟨mo, by omega, by omega, by omega⟩
  · have b3 := ok2.tri e
    have kt' : k ≤ 128 := by
      unfold tp at kt
      rw [if_pos e] at kt
      omega
    have e8 : m * 2 ^ t < 2 ^ 8 := by
      have c : (2 : Nat) ^ 8 = 256 := by decide
      omega
    have h7 := bits_le_of_lt e8
    have h8 := bits_mul (m := m) (t := t) m0
    refine ⟨mo, by omega, by omega, by omega⟩
  · have b4 := ok2.four e
    have kt' : k ≤ 254 := by
      unfold tp at kt
      rw [if_neg (by omega)] at kt
      omega
    have : bits 1 = 1 := by decide
    refine ⟨by decide, by omega, by omega, by omega⟩
theorem dv_of_key {j k : Nat} {g : Bool} {m : Nat} {z : Int} (j1 : 1 ≤ j) (j2 : j ≤ 14) (h4 : ¬ ((tb j).k = 4 ∧ g = true)) (hk : (k : Int) ≤ mst (tb j) g) (k0 : k ≠ 0 ∨ (tb j).k = 4) (hm : Mg (tb j) k m z) : ∃ q : Nat, (q : Int) ≤ msk (tb j) ∧ Dv (tb j) q 2 g m z := by
  obtain ⟨b1, b2, a1, _⟩ := pat_key (ok j j1 j2) (ok2 j j1 j2) (ok3 j j1 j2) (neg := g) (k := k) h4 hk
  obtain ⟨c2, ck, cs⟩ := a1 k0
  obtain ⟨q, hq⟩ := Int.eq_ofNat_of_zero_le b1
  rw [hq] at b2 c2 ck cs
  exact ⟨q, b2, .inr (.inr (.inr ⟨c2, rfl, cs.symm, k, ck, hm⟩))⟩
/-- All but Posit64 is just in Binary64. -/
theorem wide14 {i p : Nat} {g : Bool} {m : Nat} {z : Int} (i1 : 1 ≤ i) (i2 : i ≤ 14) (i4 : i ≠ 4) (hp : (p : Int) ≤ msk (tb i)) (h : Dv (tb i) p 2 g m z) : Jus (i : Int) 14 p true 0 := by
  obtain ⟨mo, mb, zl, zh⟩ := wide_rng i1 i2 i4 hp h
  obtain ⟨k, h1, h2, h3⟩ := wide_key mo mb zl zh
  have k0 : k ≠ 0 := fun e => by
    subst e
    rcases h2 with ⟨_, e, _⟩ | ⟨_, t, e, _⟩
    · omega
    · have : mX 52 0 = 0 := by decide
      have := Nat.mul_pos (show 0 < m by omega) (Nat.two_pow_pos t)
      omega
  obtain ⟨q, hq, hv⟩ := dv_of_key (j := 14) (g := g) (by decide) (by decide) (by rintro ⟨e, _⟩; exact absurd e (by decide)) (by unfold mst; rw [if_neg (by rintro ⟨e, _⟩; exact absurd e (by decide))]; exact h3) (.inl k0) (.inr (.inl ⟨rfl, 52, rfl, h1, h2⟩))
  exact (just (j := 14) i1 i2 (by decide) (by decide) hp h hq hv (.inr rfl)).1
/-- A posit is just in that of twice the width. -/
theorem wider {i p : Nat} {g : Bool} {m : Nat} {z : Int} (i1 : 1 ≤ i) (i3 : i ≤ 3) (hp : (p : Int) ≤ msk (tb i)) (h : Dv (tb i) p 2 g m z) : Jus (i : Int) ((i : Int) + 1) p true 0 := by
  have ok' := ok i i1 (by omega)
  obtain ⟨_, _, k, hk, hm, _, _, _, kt, k0, m0⟩ := pt_key ok' (ok2 i i1 (by omega)) hp h
  have hm' : Mg (tb i) k m z := by
    rcases hm with ⟨e, e2, _⟩ | ⟨_, h⟩
    · have : (tb i).k = 1 := by rcases (show i = 1 ∨ i = 2 ∨ i = 3 by omega) with rfl | rfl | rfl <;> decide
      omega
    · exact h
  have key : ∃ n d : Nat, ∃ k', IsK n k m z ∧ n + d ≤ 64 ∧ (tb (i + 1)).W = ((n + d : Nat) : Int) + 1 ∧ (tb (i + 1)).k = 1 ∧ (tb (i + 1)).t + 1 = ((2 ^ (n + d) : Nat) : Int) ∧ 2 ^ d * k = k' := by
    rcases (show i = 1 ∨ i = 2 ∨ i = 3 by omega) with rfl | rfl | rfl
    · rcases hm' with ⟨_, n, _, hW, h⟩ | ⟨e, _⟩ | ⟨e, _⟩ | ⟨e, _⟩
      · have e : (tb 1).W = 8 := by decide
        obtain rfl : n = 7 := by omega
        exact ⟨7, 8, _, h, by decide, by decide, by decide, by decide, rfl⟩
      · exact absurd e (by decide)
      · exact absurd e (by decide)
      · exact absurd e (by decide)
    · rcases hm' with ⟨_, n, _, hW, h⟩ | ⟨e, _⟩ | ⟨e, _⟩ | ⟨e, _⟩
      · have e : (tb 2).W = 16 := by decide
        obtain rfl : n = 15 := by omega
        exact ⟨15, 16, _, h, by decide, by decide, by decide, by decide, rfl⟩
      · exact absurd e (by decide)
      · exact absurd e (by decide)
      · exact absurd e (by decide)
    · rcases hm' with ⟨_, n, _, hW, h⟩ | ⟨e, _⟩ | ⟨e, _⟩ | ⟨e, _⟩
      · have e : (tb 3).W = 32 := by decide
        obtain rfl : n = 31 := by omega
        exact ⟨31, 32, _, h, by decide, by decide, by decide, by decide, rfl⟩
      · exact absurd e (by decide)
      · exact absurd e (by decide)
      · exact absurd e (by decide)
  obtain ⟨n, d, k', h1, nd, hW, e1, ht, hk'⟩ := key
  have h2 := isk_more d nd h1
  rw [hk'] at h2
  have h3 := h2.rng nd
  obtain ⟨q, hq, hv⟩ := dv_of_key (j := i + 1) (g := g) (k := k') (by omega) (by omega) (by omega) (by unfold mst; rw [if_neg (by omega)]; omega) (.inl (by omega)) (.inl ⟨e1, n + d, nd, hW, h2⟩)
  exact (just (j := i + 1) i1 (by omega) (by omega) (by omega) hp h hq hv (.inr rfl)).1

/-! What the laws show first. -/
theorem big_over {f : Fm} (ok : Ok f) (ok2 : Ok2 f) (ok3 : Ok3 f) {g : Bool} {q : Nat} (hq : mst f g = q) (q0 : q ≠ 0) : Nr f q (sz 1 4000 0) q true := by
  obtain ⟨r, hr, _, _, qt⟩ := mst_rng ok ok2 ok3 g
  obtain ⟨k, o, h⟩ := nr_ex ok ok2 ok3 (q := q) (X := sz 1 4000 0) (by omega) (fun _ => q0)
  obtain ⟨rfl, rfl⟩ := over_big ok ok2 ok3 hq h
  exact h
theorem sh1 : Tc 13 1 2 2139095040 128 0 :=
  tc_mk (i := 13) (j := 1) (by decide) (by decide) (by decide) (by decide) (.inr rfl) (by decide) (c := 3) (g := false) (m := 0) (z := 0) (.inr (.inl ⟨by decide, rfl, by decide, rfl, rfl⟩)) (.inr (.inl ⟨rfl, .inl rfl, by decide⟩))
theorem sh2 : Tc 13 5 1 4286578688 254 0 :=
  tc_mk (i := 13) (j := 5) (by decide) (by decide) (by decide) (by decide) (.inl rfl) (by decide) (c := 3) (g := true) (m := 0) (z := 0) (.inr (.inl ⟨by decide, rfl, by decide, rfl, rfl⟩))
    (.inr (.inr (.inl ⟨rfl, by decide, .inr ⟨fun e => absurd e.1 (by decide), 126, 126, true, by decide, big_over (g := true) (ok 5 (by decide) (by decide)) (ok2 5 (by decide) (by decide)) (ok3 5 (by decide) (by decide)) (by decide) (by decide), .inr ⟨fun e => e.2 (.inl rfl), by decide⟩⟩⟩)))
theorem k64_ : IsK 7 64 1 0 := ⟨by decide, 0, 5, 0, 3, by unfold Ps; decide, by decide, by decide⟩
theorem sh3 : Tc 1 14 2 64 4607182418800017408 0 :=
  (just (i := 1) (j := 14) (by decide) (by decide) (by decide) (by decide) (p := 64) (q := 4607182418800017408) (by decide) (c := 2) (g := false) (m := 1) (z := 0)
    (.inr (.inr (.inr ⟨by decide, rfl, by decide, 64, by decide, .inl ⟨rfl, 7, by decide, rfl, k64_⟩⟩))) (by decide)
    (.inr (.inr (.inr ⟨by decide, rfl, by decide, 4607182418800017408, by decide, .inr (.inl ⟨rfl, 52, rfl, by unfold mok; decide +kernel, .inr ⟨by decide, 52, by decide +kernel, by decide +kernel⟩⟩)⟩))) (.inr rfl)).2 2 (.inr rfl)
theorem sh4 : Jus 5 12 129 true 0 :=
  (just (i := 5) (j := 12) (by decide) (by decide) (by decide) (by decide) (p := 129) (q := 38912) (by decide) (c := 2) (g := true) (m := 1) (z := -9)
    (.inr (.inr (.inr ⟨by decide, rfl, by decide, 1, by decide, .inr (.inl ⟨rfl, 3, rfl, by unfold mok; decide +kernel, .inr ⟨by decide, 0, by decide +kernel, by decide +kernel⟩⟩)⟩))) (by decide)
    (.inr (.inr (.inr ⟨by decide, rfl, by decide, 6144, by decide, .inr (.inl ⟨rfl, 10, rfl, by unfold mok; decide +kernel, .inr ⟨by decide, 10, by decide +kernel, by decide +kernel⟩⟩)⟩))) (.inr rfl)).1
theorem sh5 : Tc 1 77 2 0 0 3 := ⟨1, false, 0, 0, 0, dc_mk (i := 1) (by decide) (by decide) (by decide) (.inr (.inr (.inl ⟨by decide, rfl, by decide, rfl, rfl⟩))), .inr (.inl ⟨rfl, by decide, rfl, rfl⟩)⟩
end M
end Go.Proofs.YtadgoeplhichmaaGreatDoor
