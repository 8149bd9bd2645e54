/-
  The walk of ExactLog: true, and nothing that was there has turned.
-/
import Derived.Test.YteeepfhjbemgoaaGreatDoorEx7
import Derived.Deep.DrawnRows
import Derived.Deep.RegionWith
namespace Go.Proofs.YteeepfhjbemgoaaGreatDoor
open Go.RowKit Go.Shelf
attribute [local go_sem ↓] Go.wp_at_zero Go.wp_at_succ

namespace M
theorem digits_bounds : ∀ (n x : Nat), x ≤ n → 0 < x → 10 ^ ((Lib.decDigits x).length - 1) ≤ x ∧ x < 10 ^ (Lib.decDigits x).length := by
  intro n
  induction n with
  | zero => intro x h h0; omega
  | succ n ih =>
    intro x hx h0
    rcases Nat.lt_or_ge x 10 with h | h
    · rw [Lib.decDigits, dif_pos h]
      simp
      omega
    · obtain ⟨h1, h2⟩ := ih (x / 10) (by omega) (by omega)
      rw [Lib.decDigits, dif_neg (by omega), List.length_append]
      obtain ⟨l, hl⟩ : ∃ l, (Lib.decDigits (x / 10)).length = l := ⟨_, rfl⟩
      rw [hl] at h1 h2 ⊢
      have hl0 : 0 < l := by
        rcases Nat.eq_zero_or_pos l with e | e
        · rw [e] at h2; simp at h2; omega
        · exact e
      simp only [List.length_cons, List.length_nil, Nat.zero_add, Nat.add_sub_cancel]
      constructor
      · obtain ⟨l', rfl⟩ : ∃ l', l = l' + 1 := ⟨l - 1, by omega⟩
        rw [Nat.add_sub_cancel] at h1
        rw [Nat.pow_succ]
        omega
      · rw [Nat.pow_succ]
        omega
/-- What the logarithm is, over a base. -/
theorem log_ov {a F T s : Nat} {t f m k B : Int} (ha : 0 < a) (hs : a < 18446744073709551616 ^ s) (hs12 : s ≤ 12) (hm : min t f = m) (hT : (T : Int) = t - m) (hF : (F : Int) = f - m) (hk : log10 a F T m = k) (bt : -2500 ≤ t ∧ t ≤ 2500) (bf : -2500 ≤ f ∧ f ≤ 2500) (hB : B = -5000) :
    -2500 ≤ k ∧ k ≤ 2740 ∧ cmp (ov 1 k k B) (ov a t f B) ≤ 0 ∧ cmp (ov a t f B) (ov 1 (k + 1) (k + 1) B) = -1 := by
  have hw : 0 < a * 5 ^ F * 2 ^ T := Nat.mul_pos (Nat.mul_pos ha (Nat.pow_pos (by omega))) (Nat.pow_pos (by omega))
  obtain ⟨d1, d2⟩ := digits_bounds _ _ (Nat.le_refl _) hw
  unfold log10 at hk
  rw [if_neg (by omega)] at hk
  obtain ⟨l, hl⟩ : ∃ l, (Lib.decDigits (a * 5 ^ F * 2 ^ T)).length = l := ⟨_, rfl⟩
  rw [hl] at hk d1 d2
  have hl0 : 0 < l := by
    rcases Nat.eq_zero_or_pos l with e | e
    · rw [e] at d2; simp at d2; omega
    · exact e
  have k1 : -2500 ≤ k := by omega
  obtain ⟨p, hp⟩ : ∃ p : Nat, (p : Int) = 2500 - m := ⟨(2500 - m).toNat, by omega⟩
  have k2 : k ≤ 2740 := by
    have e1 : a * 5 ^ F * 2 ^ T < 10 ^ (240 + p) := by
      have q1 : (18446744073709551616 : Nat) ^ s ≤ 10 ^ 240 := by
        have r1 : (18446744073709551616 : Nat) ^ s ≤ 18446744073709551616 ^ 12 := Nat.pow_le_pow_right (by omega) hs12
        have r2 : (18446744073709551616 : Nat) ^ 12 ≤ (10 ^ 20) ^ 12 := Nat.pow_le_pow_left (by omega) 12
        rw [← Nat.pow_mul] at r2
        exact Nat.le_trans r1 r2
      have q2 : (5 : Nat) ^ F ≤ 5 ^ p := Nat.pow_le_pow_right (by omega) (by omega)
      have q3 : (2 : Nat) ^ T ≤ 2 ^ p := Nat.pow_le_pow_right (by omega) (by omega)
      have q4 : a * 5 ^ F * 2 ^ T ≤ a * 5 ^ p * 2 ^ p := Nat.mul_le_mul (Nat.mul_le_mul_left _ q2) q3
      rw [Nat.mul_assoc a (5 ^ p), ← Nat.mul_pow] at q4
      have q5 : a * 10 ^ p < 10 ^ 240 * 10 ^ p := Nat.mul_lt_mul_of_pos_right (by omega) (Nat.pow_pos (by omega))
      rw [← Nat.pow_add] at q5
      exact Nat.lt_of_le_of_lt q4 q5
    have e2 := (Nat.pow_lt_pow_iff_right (by omega : 1 < 10)).1 (Nat.lt_of_le_of_lt d1 e1)
    omega
  refine ⟨k1, k2, ?_, ?_⟩
  · obtain ⟨c, hc⟩ : ∃ c : Nat, (c : Int) = m - B := ⟨(m - B).toNat, by omega⟩
    have e1 : (k - B).toNat = (l - 1) + c := by omega
    have e2 : (f - B).toNat = F + c := by omega
    have e3 : (t - B).toNat = T + c := by omega
    refine cmp_le.2 ?_
    unfold ov
    rw [e1, e2, e3, Nat.one_mul, ← Nat.mul_pow, Nat.pow_add, Nat.pow_add, Nat.pow_add]
    have h3 : (5 * 2) ^ (l - 1) * (5 * 2) ^ c ≤ a * 5 ^ F * 2 ^ T * (5 * 2) ^ c := Nat.mul_le_mul_right _ d1
    rw [Nat.mul_pow 5 2 c] at h3 ⊢
    have h4 : a * (5 ^ F * 5 ^ c) * (2 ^ T * 2 ^ c) = a * 5 ^ F * 2 ^ T * (5 ^ c * 2 ^ c) := by
      simp only [Nat.mul_assoc, Nat.mul_left_comm, Nat.mul_comm]
    rw [h4]
    exact h3
  · obtain ⟨c, hc⟩ : ∃ c : Nat, (c : Int) = m - B := ⟨(m - B).toNat, by omega⟩
    have e1 : (k + 1 - B).toNat = l + c := by omega
    have e2 : (f - B).toNat = F + c := by omega
    have e3 : (t - B).toNat = T + c := by omega
    refine cmp_lt ?_
    unfold ov
    rw [e1, e2, e3, Nat.one_mul, ← Nat.mul_pow, Nat.pow_add, Nat.pow_add, Nat.pow_add]
    have h3 : a * 5 ^ F * 2 ^ T * (5 * 2) ^ c < (5 * 2) ^ l * (5 * 2) ^ c := Nat.mul_lt_mul_of_pos_right d2 (Nat.pow_pos (by omega))
    rw [Nat.mul_pow 5 2 c] at h3 ⊢
    have h4 : a * (5 ^ F * 5 ^ c) * (2 ^ T * 2 ^ c) = a * 5 ^ F * 2 ^ T * (5 ^ c * 2 ^ c) := by
      simp only [Nat.mul_assoc, Nat.mul_left_comm, Nat.mul_comm]
    rw [h4]
    exact h3
end M
theorem Nt.zn0 {w : World} {lo s : Nat} {A : Option Addr} {n c a : Nat} (h : Nt w lo s (.slice A n c) a) : (n = 0 ↔ a = 0) := by
  obtain ⟨A', n', c', xs, e, h1, h2, _, h4⟩ := h
  injection e with _ e2 _
  subst e2
  constructor
  · intro h
    have e : xs = [] := List.eq_nil_of_length_eq_zero (by rw [h1.num, h])
    rw [← h2, e]
    rfl
  · intro h
    rw [← h1.num, M.val_zero h4 (by rw [h2, h])]
    rfl
theorem setb_same {w : World} {b : Nat} {neg neg' : Bool} {v : Value} {t f : Int} (h : Bx w b neg v t f) : Bx (w.setCell ⟨b, 0, none⟩ (.bool neg')) b neg' v t f := by
  obtain ⟨⟨a0, a1, a2, a3⟩, b0, b1, b2, b3⟩ := h
  have e : ∀ (i j : Nat), i ≠ j → (⟨b, i, none⟩ : Addr) ≠ ⟨b, j, none⟩ := by
    intro i j hij e
    injection e with _ e _
    exact hij e
  refine ⟨⟨World.cell?_setCell_same w _ _ a0, ?_, ?_, ?_⟩, ?_, ?_, ?_, ?_⟩
  · rw [World.cell?_setCell_other _ _ _ _ (e 0 1 (by omega))]; exact a1
  · rw [World.cell?_setCell_other _ _ _ _ (e 0 2 (by omega))]; exact a2
  · rw [World.cell?_setCell_other _ _ _ _ (e 0 3 (by omega))]; exact a3
  all_goals simp only [World.frozen?_setCell]; assumption
theorem Nt.set1 {w : World} {lo s : Nat} {v : Value} {a : Nat} (h : Nt w lo s v a) {b : Nat} (hb : b < lo) (u : Value) : Nt (w.setCell ⟨b, 0, none⟩ u) lo s v a := by
  obtain ⟨A, n, c, xs, e, h1, h2⟩ := h
  exact ⟨A, n, c, xs, e, h1.set_other (p := ⟨b, 0, none⟩) hb u, h2⟩

end Go.Proofs.YteeepfhjbemgoaaGreatDoor
