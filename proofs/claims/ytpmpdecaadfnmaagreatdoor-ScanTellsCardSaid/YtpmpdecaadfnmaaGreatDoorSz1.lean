/-
  The reference of layer 9, in numbers: a power that is cut does not matter. No program is named here.
-/
import Derived.Test.YtpmpdecaadfnmaaGreatDoorSq
namespace Go.Proofs.YtpmpdecaadfnmaaGreatDoor
open Go

namespace M
theorem nx_pow (s c : Nat) (h : nx s c = 8) : 48 ≤ c ∧ c ≤ 57 := by
  by_cases hc : 48 ≤ c ∧ c ≤ 57
  · exact hc
  · exfalso
    have e : nx s c ≠ 8 := by
      unfold nx
      simp only [hc, false_and, if_false]
      (repeat' split) <;> omega
    exact e h
theorem nx_dig2 (s c : Nat) (h : nx s c = 2 ∨ nx s c = 5) : 48 ≤ c ∧ c ≤ 57 := by
  by_cases hc : 48 ≤ c ∧ c ≤ 57
  · exact hc
  · exfalso
    have e : nx s c ≠ 2 ∧ nx s c ≠ 5 := by
      unfold nx
      simp only [hc, false_and, if_false]
      constructor <;> (repeat' split) <;> omega
    rcases h with h | h
    · exact e.1 h
    · exact e.2 h
/-- The power, cut. -/
def pwc (x : Sc) : Nat := min (vsa 0 x.pw) 1099511627776
theorem pwc_step (x : Sc) (c : UInt8) (h : nx x.st c.toNat = 8) : min (10 * (pwc x : Int) + (c.toNat : Int) - 48) 1099511627776 = (pwc (stp x c) : Int) ∧ 0 ≤ 10 * (pwc x : Int) + (c.toNat : Int) - 48 ∧ 10 * (pwc x : Int) + (c.toNat : Int) - 48 ≤ 20000000000000 := by
  have hc := nx_pow _ _ h
  have e : (stp x c).pw = x.pw ++ [c] := by simp [stp, h]
  unfold pwc
  rw [e, vsa_snoc]
  generalize vsa 0 x.pw = V
  generalize c.toNat = d at hc
  omega
theorem pwc_stay (x : Sc) (c : UInt8) (h : nx x.st c.toNat ≠ 8) : pwc (stp x c) = pwc x := by
  unfold pwc
  simp [stp, h]
/-- What has been read, in i bytes. -/
structure Bd (x : Sc) (i : Nat) : Prop where
  ds : x.ds.length ≤ i
  bh : x.bh ≤ x.ds.length
  al : allD x.ds = true
  st : x.st ≤ 32
  lv : lv x.st = true
theorem Bd.start : Bd sc0 0 := ⟨Nat.le_refl _, Nat.le_refl _, rfl, by decide, rfl⟩
theorem Bd.step {x : Sc} {i : Nat} (h : Bd x i) (c : UInt8) (hn : nx x.st c.toNat ≠ 99) : Bd (stp x c) (i + 1) := by
  have h1 := h.ds
  have h2 := h.bh
  have h3 := h.al
  have hl : (stp x c).ds.length = if nx x.st c.toNat = 2 ∨ nx x.st c.toNat = 5 then x.ds.length + 1 else x.ds.length := by
    unfold stp
    simp only
    split <;> simp
  have hb : (stp x c).bh = if nx x.st c.toNat = 5 then x.bh + 1 else x.bh := rfl
  refine ⟨?_, ?_, ?_, ?_, nx_lv _ _ hn⟩
  · rw [hl]; split <;> omega
  · rw [hl, hb]; split <;> split <;> omega
  · show allD (if nx x.st c.toNat = 2 ∨ nx x.st c.toNat = 5 then x.ds ++ [c] else x.ds) = true
    split
    · rename_i hd
      have hc := nx_dig2 _ _ hd
      rw [allD_snoc, h3]
      exact (isD_iff c).2 hc
    · exact h3
  · show nx x.st c.toNat ≤ 32
    rcases nx_cases x.st c.toNat _ rfl with k | ⟨k, _⟩ | k | k | k | k | k | k | k | k | k | k | k | k | k | k | k | k
    · exact absurd k hn
    all_goals (rw [k]; omega)
/-- The power as the reference has it, less what stands behind the point. -/
def kcut (x : Sc) : Int := (if x.dn = true then -(pwc x : Int) else (pwc x : Int)) - x.bh
theorem num_cut (x : Sc) (i : Nat) (hb : Bd x i) (hi : i ≤ 3000) : num x.ds (pwr x - x.bh) = num x.ds (kcut x) := by
  have h1 := hb.ds
  have h2 := hb.bh
  apply num_far
  unfold kcut pwr pwc
  cases x.dn
  · simp only [Bool.false_eq_true, if_false]
    omega
  · simp only [if_true]
    omega
theorem kcut_rng (x : Sc) (i : Nat) (hb : Bd x i) (hi : i ≤ 3000) : -1099511630776 ≤ kcut x ∧ kcut x ≤ 1099511627776 := by
  have h1 := hb.ds
  have h2 := hb.bh
  unfold kcut pwc
  cases x.dn
  · simp only [Bool.false_eq_true, if_false]
    omega
  · simp only [if_true]
    omega
theorem wh_states (s : Nat) (h : wh s = true) : s = 2 ∨ s = 3 ∨ s = 5 ∨ s = 8 ∨ s = 12 ∨ s = 22 ∨ s = 32 := by
  simp [wh] at h
  omega
end M
end Go.Proofs.YtpmpdecaadfnmaaGreatDoor
