/-
  Digits and numbers: no program is named here.
-/
import Derived.Lib.ItoaNum
namespace Go.Proofs.YtjmnobgllnaljaaGreatDoor
open Go

namespace M
/-- The number of these digits, behind acc. -/
def vsa (acc : Nat) (l : List UInt8) : Nat := l.foldl (fun a c => a * 10 + (c.toNat - 48)) acc
def isD (c : UInt8) : Bool := decide (48 ≤ c.toNat) && decide (c.toNat ≤ 57)
def allD (l : List UInt8) : Bool := l.all isD
theorem vsa_cons (acc : Nat) (c : UInt8) (r : List UInt8) : vsa acc (c :: r) = vsa (acc * 10 + (c.toNat - 48)) r := List.foldl_cons ..
theorem vsa_nil (acc : Nat) : vsa acc [] = acc := rfl
theorem vsa_append (a b : List UInt8) (acc : Nat) : vsa acc (a ++ b) = vsa (vsa acc a) b := List.foldl_append ..
theorem vsa_acc (l : List UInt8) : ∀ acc, vsa acc l = acc * 10 ^ l.length + vsa 0 l := by
  induction l with
  | nil => intro acc; rw [vsa_nil, vsa_nil, List.length_nil, Nat.pow_zero, Nat.mul_one, Nat.add_zero]
  | cons c r ih =>
    intro acc
    rw [vsa_cons, vsa_cons, ih (acc * 10 + _), ih (0 * 10 + _), List.length_cons, Nat.pow_succ]
    generalize c.toNat - 48 = d
    generalize 10 ^ r.length = p
    rw [Nat.add_mul, Nat.zero_mul, Nat.zero_add, Nat.mul_assoc, Nat.mul_comm 10 p]
    omega
theorem isD_iff (c : UInt8) : isD c = true ↔ 48 ≤ c.toNat ∧ c.toNat ≤ 57 := by simp [isD]
theorem vsa_lt (l : List UInt8) (h : allD l = true) : vsa 0 l < 10 ^ l.length := by
  induction l with
  | nil => rw [vsa_nil]; exact Nat.pow_pos (by omega)
  | cons c r ih =>
    simp only [allD, List.all_cons, Bool.and_eq_true] at h
    have h1 := (isD_iff c).1 h.1
    have h2 := ih h.2
    rw [vsa_cons, vsa_acc, List.length_cons, Nat.pow_succ]
    have h3 : (0 * 10 + (c.toNat - 48)) * 10 ^ r.length ≤ 9 * 10 ^ r.length := Nat.mul_le_mul_right _ (by omega)
    omega
theorem allD_append (a b : List UInt8) : allD (a ++ b) = (allD a && allD b) := List.all_append
theorem vsa_snoc (l : List UInt8) (c : UInt8) : vsa 0 (l ++ [c]) = vsa 0 l * 10 + (c.toNat - 48) := by rw [vsa_append, vsa_cons, vsa_nil]
theorem allD_snoc (l : List UInt8) (c : UInt8) : allD (l ++ [c]) = (allD l && isD c) := by rw [allD_append]; simp [allD]
theorem vsa_fit (l : List UInt8) (h : allD l = true) : vsa 0 l < 4294967296 ^ l.length := Nat.lt_of_lt_of_le (vsa_lt l h) (Nat.pow_le_pow_left (by omega) _)
theorem ofNat_toNat {d : Nat} (h : d ≤ 9) : (UInt8.ofNat (48 + d)).toNat = 48 + d := by
  rw [show (UInt8.ofNat (48 + d)).toNat = (48 + d) % 256 from rfl]; omega
theorem dd_all : ∀ (n a : Nat), a ≤ n → allD (Lib.decDigits a) = true ∧ vsa 0 (Lib.decDigits a) = a ∧ Lib.decDigits a ≠ [] ∧ ((Lib.decDigits a).headD 0 ≠ 48 ∨ Lib.decDigits a = [48])
  | n, a, h => by
    by_cases h10 : a < 10
    · rw [Lib.decDigits_one h10]
      have e := ofNat_toNat (d := a) (by omega)
      refine ⟨?_, ?_, by simp, ?_⟩
      · have : isD (UInt8.ofNat (48 + a)) = true := (isD_iff _).2 (by rw [e]; omega)
        simp only [allD, List.all_cons, List.all_nil, this, Bool.and_true]
      · rw [vsa_cons, vsa_nil, e]; omega
      · by_cases h0 : a = 0
        · right; rw [h0]; rfl
        · left
          intro e2
          have e3 : (UInt8.ofNat (48 + a)) = 48 := e2
          rw [e3] at e
          have : (48 : UInt8).toNat = 48 := rfl
          omega
    · cases n with
      | zero => omega
      | succ n =>
        obtain ⟨k1, k2, k3, k4⟩ := dd_all n (a / 10) (by omega)
        have e := ofNat_toNat (d := a % 10) (by omega)
        have ed : Lib.decDigits a = Lib.decDigits (a / 10) ++ [UInt8.ofNat (48 + a % 10)] := by
          conv => lhs; rw [Lib.decDigits, dif_neg h10]
        rw [ed]
        refine ⟨?_, ?_, by simp, ?_⟩
        · rw [allD_snoc, k1]
          exact (isD_iff _).2 (by rw [e]; omega)
        · rw [vsa_snoc, k2, e]; omega
        · left
          have hh : (Lib.decDigits (a / 10) ++ [UInt8.ofNat (48 + a % 10)]).headD 0 = (Lib.decDigits (a / 10)).headD 0 := by
            cases hl : Lib.decDigits (a / 10) with
            | nil => exact absurd hl k3
            | cons c r => rfl
          rw [hh]
          rcases k4 with k4 | k4
          · exact k4
          · rw [k4] at k2
            have : vsa 0 [48] = 0 := rfl
            omega
theorem vsa_pos {l : List UInt8} (h0 : l ≠ []) (hd : allD l = true) (hz : l.headD 0 ≠ 48) : 0 < vsa 0 l := by
  cases l with
  | nil => exact absurd rfl h0
  | cons c r =>
    have h1 : isD c = true := by simp only [allD, List.all_cons, Bool.and_eq_true] at hd; exact hd.1
    have h2 := (isD_iff c).1 h1
    have h3 : c.toNat ≠ 48 := fun e => hz (UInt8.toNat_inj.1 (by show c.toNat = 48; exact e))
    rw [vsa_cons, vsa_acc]
    have : 0 < (0 * 10 + (c.toNat - 48)) * 10 ^ r.length := Nat.mul_pos (by omega) (Nat.pow_pos (by omega))
    omega
theorem dd_vsa : ∀ (n : Nat) (l : List UInt8), l.length ≤ n → l ≠ [] → allD l = true → (l.headD 0 ≠ 48 ∨ l = [48]) → Lib.decDigits (vsa 0 l) = l
  | 0, l, h, h0, _, _ => absurd (List.eq_nil_of_length_eq_zero (by omega)) h0
  | n + 1, l, h, h0, hd, hz => by
    obtain ⟨b, c, rfl⟩ : ∃ b c, l = b ++ [c] := ⟨l.dropLast, l.getLast h0, (List.dropLast_concat_getLast h0).symm⟩
    rw [allD_snoc, Bool.and_eq_true] at hd
    have h2 := (isD_iff c).1 hd.2
    have hc : UInt8.ofNat (48 + (c.toNat - 48)) = c := by
      apply UInt8.toNat_inj.1
      rw [ofNat_toNat (by omega)]
      omega
    rw [vsa_snoc]
    by_cases hb : b = []
    · subst hb
      rw [vsa_nil, Nat.zero_mul, Nat.zero_add, Lib.decDigits_one (by omega), hc]
      rfl
    · have hh : (b ++ [c]).headD 0 = b.headD 0 := by
        cases hl : b with
        | nil => exact absurd hl hb
        | cons c r => rfl
      have hzb : b.headD 0 ≠ 48 := by
        rcases hz with e | e
        · rw [hh] at e; exact e
        · exfalso
          have := congrArg List.length e
          rw [List.length_append] at this
          simp at this
          exact hb this
      have hv := vsa_pos hb hd.1 hzb
      have ih := dd_vsa n b (by rw [List.length_append] at h; simp at h; omega) hb hd.1 (.inl hzb)
      rw [Lib.decDigits, dif_neg (by omega), show (vsa 0 b * 10 + (c.toNat - 48)) / 10 = vsa 0 b by omega, ih, show (vsa 0 b * 10 + (c.toNat - 48)) % 10 = c.toNat - 48 by omega, hc]
end M
end Go.Proofs.YtjmnobgllnaljaaGreatDoor
