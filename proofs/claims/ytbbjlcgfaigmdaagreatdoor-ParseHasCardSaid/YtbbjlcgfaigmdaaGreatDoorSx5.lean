/-
  What a number that was told is bounded by (for ScanBounds).
-/
import Derived.Test.YtbbjlcgfaigmdaaGreatDoorSq
namespace Go.Proofs.YtbbjlcgfaigmdaaGreatDoor
open Go.RowKit Go.Shelf
set_option linter.unusedVariables false
namespace M
theorem nx_isd (s c : Nat) (h : nx s c = 2 ∨ nx s c = 5) : 48 ≤ c ∧ c ≤ 57 := by
  by_cases hc : 48 ≤ c ∧ c ≤ 57
  · exact hc
  · exfalso
    have e : nx s c ≠ 2 ∧ nx s c ≠ 5 := by
      unfold nx
      simp only [hc, false_and, if_false]
      constructor <;> (repeat' split) <;> omega
    rcases h with h | h
    · exact e.1 h
    · exact e.2 h
theorem scf_wh : ∀ (r : List UInt8) (x y : Sc) (i : Nat), scf x i r = .ok y → wh y.st = true
  | [], x, y, i, h => by
    rw [scf] at h
    split at h
    · rename_i hw
      cases h; exact hw
    · cases h
  | c :: r, x, y, i, h => by
    rw [scf] at h
    split at h
    · cases h
    · exact scf_wh r _ y _ h
theorem scf_ds : ∀ (r : List UInt8) (x y : Sc) (i : Nat), scf x i r = .ok y → allD x.ds = true → allD y.ds = true
  | [], x, y, i, h, hd => by
    rw [scf] at h
    split at h
    · cases h; exact hd
    · cases h
  | c :: r, x, y, i, h, hd => by
    rw [scf] at h
    split at h
    · cases h
    · refine scf_ds r _ y _ h ?_
      show allD (if nx x.st c.toNat = 2 ∨ nx x.st c.toNat = 5 then x.ds ++ [c] else x.ds) = true
      split
      · rename_i hn
        have hc := nx_isd _ _ hn
        rw [allD, List.all_append]
        rw [allD] at hd
        simp [hd, isD, hc.1, hc.2]
      · exact hd
theorem itm_bounds (l : List UInt8) (y : Sc) (h : scan l = .ok y) :
    (itm y).neg = decide (l ≠ [] ∧ l.headD 0 = 45) ∧
    ((1 ≤ (itm y).kind ∧ (itm y).kind ≤ 4 ∧ (itm y).n.d = 0 ∧ (itm y).n.k = 0 ∧ (itm y).n.cut = false ∧ ((itm y).kind = 1 ∨ (itm y).n.big = 0)) ∨
     ((itm y).kind = 1 ∧ (itm y).n.big = 0 ∧ 0 < (itm y).n.d ∧ ∃ s : List UInt8, s ≠ [] ∧ Lib.decDigits (itm y).n.d = s ∧ s.length ≤ 1991 ∧ (s.length = 1991 ↔ (itm y).n.cut = true) ∧ s.getLast? ≠ some 48 ∧ (s.length : Int) + (itm y).n.k ≤ 1000 ∧ -1000 < (s.length : Int) + (itm y).n.k)) := by
  have hw := scf_wh l _ _ _ h
  have hds := scf_ds l _ _ _ h rfl
  have hng := scan_neg l y h
  unfold itm
  by_cases h10 : 10 ≤ y.st
  · rw [if_pos h10]
    refine ⟨hng, .inl ⟨by show 1 ≤ y.st / 10 + 1; omega, ?_, rfl, rfl, rfl, .inr rfl⟩⟩
    show y.st / 10 + 1 ≤ 4
    simp [wh] at hw
    omega
  · rw [if_neg h10]
    refine ⟨hng, ?_⟩
    rcases num_bounds y.ds (pwr y - y.bh) hds with ⟨a, b, c⟩ | ⟨a, b, s, s1, s2, s3, s4, s5, s6, s7, s8, s9⟩
    · exact .inl ⟨Nat.le_refl _, by show 1 ≤ 4; omega, a, b, c, .inl rfl⟩
    · exact .inr ⟨rfl, b, a, s, s1, by show Lib.decDigits (num y.ds (pwr y - y.bh)).d = s; rw [← s2]; exact dd_vsa _ s (Nat.le_refl _) s1 s3 (.inl s4), s5, s6, s7, s8, s9⟩
end M
end Go.Proofs.YtbbjlcgfaigmdaaGreatDoor
