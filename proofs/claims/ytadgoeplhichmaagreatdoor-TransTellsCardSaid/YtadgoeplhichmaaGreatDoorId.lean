/-
  What is too large for every form. No program is named here.
-/
import Derived.Test.YtadgoeplhichmaaGreatDoorIb
namespace Go.Proofs.YtadgoeplhichmaaGreatDoor
open Go
set_option linter.unusedVariables false
set_option linter.unusedSimpArgs false

namespace M
/-- 2 to the power of 3100 is beyond all boundaries, and so is what is greater. -/
theorem over_any {f : Fm} (ok : Ok f) (ok2 : Ok2 f) (ok3 : Ok3 f) {g : Bool} {q k X : Nat} {o : Bool} (hq : mst f g = q) (hX : sz 1 3100 0 ≤ X) (h : Nr f q X k o) : k = q ∧ o = true := by
  obtain ⟨r, hr, q3, _, qt⟩ := mst_rng ok ok2 ok3 g
  obtain rfl : q = r := by omega
  obtain ⟨_, m, z, hb, _⟩ := bo_ex ok ok2 qt
  obtain ⟨m0, m1, z1, z2⟩ := bd_z ok ok2 ok3 qt hb
  have hg : Gt 1 3100 m z := by
    refine ⟨-z, by omega, by omega, ?_⟩
    rw [show z + -z = 0 by omega, show (0 : Int).toNat = 0 from rfl, Nat.pow_zero, Nat.mul_one, Nat.one_mul]
    have : (2 : Nat) ^ 64 ≤ 2 ^ (3100 + -z).toNat := Nat.pow_le_pow_right (by decide) (by omega)
    have c : (2 : Nat) ^ 64 = 18446744073709551616 := by decide
    omega
  have h1 := nr_mono ok ok2 ok3 qt hX (nr_over (by omega) (by omega) hb hg) h
  have o1 : o = true := h1.2 rfl
  subst o1
  rcases h with ⟨_, e, _⟩ | ⟨e, _⟩
  · exact ⟨e, rfl⟩
  · cases e
theorem rv_over {f : Fm} (ok : Ok f) (ok2 : Ok2 f) (ok3 : Ok3 f) {mode : Int} {g : Bool} {X Y : Nat} (hX : sz 1 3100 0 ≤ X) (hY : sz 1 3100 0 ≤ Y) {p : Int} (h : Rv f mode g X p) : Rv f mode g Y p := by
  have x0 : sz 1 3100 0 ≠ 0 := fun e => by have := sz_zero.1 e; omega
  rcases h with ⟨a, b, c⟩ | ⟨n, q, k, o, hq, hn, hp⟩
  · refine .inl ⟨a, ?_, c⟩
    rcases b with b | b
    · exact .inl b
    · omega
  · refine .inr ⟨fun e => n ⟨e.1, ?_⟩, q, k, o, hq, ?_, hp⟩
    · rcases e.2 with b | b
      · exact .inl b
      · omega
    · obtain ⟨rfl, rfl⟩ := over_any ok ok2 ok3 hq hX hn
      obtain ⟨r, hr, q3, _, qt⟩ := mst_rng ok ok2 ok3 g
      obtain rfl : k = r := by omega
      obtain ⟨l, o', h'⟩ := nr_ex ok ok2 ok3 (q := k) (X := Y) qt (fun _ => by omega)
      obtain ⟨rfl, rfl⟩ := over_any ok ok2 ok3 hq hY h'
      exact h'
/-- A power of 2 that is as great. -/
theorem big_two {t : Int} (h : 3100 ≤ t) : sz 1 3100 0 ≤ sz 1 t 0 := by
  rcases Int.lt_or_eq_of_le h with h | rfl
  · refine Nat.le_of_lt (gt_sz (by omega) (by decide) ⟨-3100, by omega, by decide, ?_⟩)
    rw [show (3100 : Int) + -3100 = 0 by decide, show (0 : Int).toNat = 0 from rfl, Nat.pow_zero, Nat.one_mul, Nat.one_mul]
    exact Nat.one_lt_two_pow (show (t + -3100).toNat ≠ 0 by omega)
  · exact Nat.le_refl _
end M
end Go.Proofs.YtadgoeplhichmaaGreatDoor
