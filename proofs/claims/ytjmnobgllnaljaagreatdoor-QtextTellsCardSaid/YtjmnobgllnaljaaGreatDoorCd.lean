/-
  What must be in any case, of whole texts, in numbers. No program is named here.
-/
import Derived.Test.YtjmnobgllnaljaaGreatDoorCb
namespace Go.Proofs.YtjmnobgllnaljaaGreatDoor
open Go
set_option linter.unusedVariables false
set_option linter.unusedSimpArgs false

namespace M
theorem lt_two {a k n : Nat} (h : a < 2 ^ k) (hk : k ≤ n) : a < 2 ^ n := Nat.lt_of_lt_of_le h (Nat.pow_le_pow_right (by decide) hk)
theorem lt_2048 {a k : Nat} (h : a < 2 ^ k) (hk : k ≤ 2048) : a < 2 ^ 2048 := lt_two (n := 2048) h hk
theorem ys_fives (a k : Nat) (t : Int) : ys (a * 5 ^ k) t 0 = ys a t k := by
  unfold ys ov
  rw [show ((k : Int) - -5000).toNat = k + 5000 by omega, show ((0 : Int) - -5000).toNat = 5000 by omega, Nat.pow_add]
  generalize (5 : Nat) ^ 5000 = F
  generalize (5 : Nat) ^ k = G
  generalize (2 : Nat) ^ (t - -5000).toNat = Z
  simp only [Nat.mul_assoc, Nat.mul_left_comm, Nat.mul_comm]
theorem sh_125 : ys 125 (-2) (-2) = ys 5 (-2) 0 := ys_five 5 2 (by decide)
theorem sh_qd : Qd 5 (-2) 125 (-2) := ⟨.inr ⟨by decide, by decide⟩, sh_125, by decide, by simp [dgs, Lib.decDigits], by simp [dgs, Lib.decDigits]⟩
theorem sh16_a : Qt true 5 (-2) [45, 49, 46, 50, 53] 0 := .inr ⟨⟨lt_2048 (k := 3) (by decide) (by decide), by decide, by decide⟩, rfl, 125, -2, sh_qd, by simp [qp, qpb, sgt, Lib.decDigits]⟩
theorem sh16_b : Qt true 0 3 [48] 0 := .inr ⟨⟨lt_2048 (k := 3) (by decide) (by decide), by decide, by decide⟩, rfl, 0, 0, qd_zero 3, by simp [qp, sgt]⟩
theorem sh16_c : Qt false 1 1201 [] 1 := .inl ⟨fun h => absurd h.2.2 (by decide), rfl, rfl⟩
theorem sh_isn : Isn [49, 46, 50, 53] false ⟨125, -2, 0, false⟩ := by
  have h := isn_qp sh_qd false
  have e : qp false 125 (-2) = [49, 46, 50, 53] := by simp [qp, qpb, sgt, Lib.decDigits]
  rwa [e] at h
theorem sh16_d : Qr [49, 46, 50, 53] (-1) false 0 8 := by
  refine .inr ⟨by decide, .inr ⟨_, _, _, _, _, sh_isn, .inl ⟨.inr (.inr fun b h => ?_), rfl, rfl, rfl⟩⟩⟩
  rw [sh_125] at h
  have := (ys_step (a := 5) (b := b) (s := -2) (t := -1) 1 (by decide) (by decide)).1 h
  omega
theorem sh_isn2 : Isn [45, 49, 50, 46, 53, 48, 101, 45, 49] true ⟨125, -2, 0, false⟩ := ⟨_, rfl, by rfl⟩
theorem sh16_e : Qr [45, 49, 50, 46, 53, 48, 101, 45, 49] (-2) true 5 0 :=
  .inr ⟨by decide, .inr ⟨_, _, _, _, _, sh_isn2, .inr ⟨5, rfl, rfl, sh_125.symm, .inr ⟨lt_2048 (k := 3) (by decide) (by decide), by decide, rfl, rfl⟩⟩⟩⟩
theorem sh16_f : Qr [105, 110, 102] 0 false 0 2 := by
  refine .inr ⟨by decide, .inl ⟨fun ng n ⟨x, h1, h2⟩ => ?_, rfl, rfl, rfl⟩⟩
  have e : scan [105, 110, 102] = .ok ⟨12, false, [], 0, false, []⟩ := rfl
  rw [e] at h1
  obtain rfl := Except.ok.inj h1
  have h3 : (itm ⟨12, false, [], 0, false, []⟩).kind = 1 := by rw [h2]
  exact absurd h3 (by decide)
theorem sh_isn3 : Isn [49, 101, 56, 48, 48] false ⟨1, 800, 0, false⟩ := ⟨_, rfl, by rfl⟩
theorem far_num : ∀ k n t r : Nat, n + t = r → (2 : Nat) ^ n ≤ 1 * 5 ^ k → ¬ 1 * 5 ^ k * 2 ^ t < 2 ^ r := by
  intro k n t r hr h5 h
  rw [← hr, Nat.pow_add] at h
  exact absurd (Nat.lt_of_lt_of_le h (Nat.mul_le_mul_right _ h5)) (Nat.lt_irrefl _)
theorem c_548 : (2 : Nat) ^ 48 ≤ 1 * 5 ^ 800 := by decide +kernel
theorem near_num : ∀ (k t : Nat) (e : Int), -5000 ≤ e → e + t = k → ys (1 * 5 ^ k * 2 ^ t) e 0 = ys 1 k k := by
  intro k t e he h
  rw [ys_two _ t e he, h]
  exact ys_fives 1 k k
theorem sh_800 : ∃ b, ys b (-1200) 0 = ys 1 800 800 ∧ ¬ b < 2 ^ 2048 :=
  ⟨_, near_num 800 2000 (-1200) (by decide) (by decide), far_num 800 48 2000 2048 (by decide) c_548⟩
theorem sh16_g : Qr [49, 101, 56, 48, 48] (-1200) false 0 4 := by
  obtain ⟨b, h1, h2⟩ := sh_800
  exact .inr ⟨by decide, .inr ⟨_, _, _, _, _, sh_isn3, .inr ⟨b, rfl, rfl, h1, .inl ⟨h2, rfl, rfl, rfl⟩⟩⟩⟩
theorem sh_isn4 : Isn [49, 101, 49, 48, 48, 48] false ⟨0, 0, 1, false⟩ := ⟨_, rfl, by rfl⟩
theorem sh16_h : Qr [49, 101, 49, 48, 48, 48] 0 false 0 8 := .inr ⟨by decide, .inr ⟨_, _, _, _, _, sh_isn4, .inl ⟨.inl (by decide), rfl, rfl, rfl⟩⟩⟩
end M
end Go.Proofs.YtjmnobgllnaljaaGreatDoor
