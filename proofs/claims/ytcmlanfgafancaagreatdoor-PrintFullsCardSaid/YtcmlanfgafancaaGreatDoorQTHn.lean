import Derived.Lib.ItoaNum
set_option maxHeartbeats 32000000
set_option linter.unusedVariables false
set_option linter.unusedSimpArgs false
namespace Go.Proofs.YtcmlanfgafancaaGreatDoor
open Go
namespace M
def vsa (acc : Nat) (l : List UInt8) : Nat := l.foldl (fun a c => a * 10 + (c.toNat - 48)) acc
def isD (c : UInt8) : Bool := decide (48 ≤ c.toNat) && decide (c.toNat ≤ 57)
def allD (l : List UInt8) : Bool := l.all isD
theorem vsa_cons (acc : Nat) (c : UInt8) (r : List UInt8) : vsa acc (c :: r) = vsa (acc * 10 + (c.toNat - 48)) r := List.foldl_cons ..
theorem vsa_nil (acc : Nat) : vsa acc [] = acc := rfl
theorem vsa_append (a b : List UInt8) (acc : Nat) : vsa acc (a ++ b) = vsa (vsa acc a) b := List.foldl_append ..
theorem vsa_acc (l : List UInt8) : ∀ acc, vsa acc l = acc * 10 ^ l.length + vsa 0 l := by
 induction l with
 | nil => intro acc; rw [vsa_nil, vsa_nil, List.length_nil, Nat.pow_zero, Nat.mul_one, Nat.add_zero]
 | cons c r ih =>
  intro acc
  rw [vsa_cons, vsa_cons, ih (acc * 10 + _), ih (0 * 10 + _), List.length_cons, Nat.pow_succ]
  generalize c.toNat - 48 = d
  generalize 10 ^ r.length = p
  rw [Nat.add_mul, Nat.zero_mul, Nat.zero_add, Nat.mul_assoc, Nat.mul_comm 10 p]
  omega
theorem isD_iff (c : UInt8) : isD c = true ↔ 48 ≤ c.toNat ∧ c.toNat ≤ 57 := by simp [isD]
theorem vsa_lt (l : List UInt8) (h : allD l = true) : vsa 0 l < 10 ^ l.length := by
 induction l with
 | nil => rw [vsa_nil]; exact Nat.pow_pos (by omega)
 | cons c r ih =>
  simp only [allD, List.all_cons, Bool.and_eq_true] at h
  have h1 := (isD_iff c).1 h.1
  have h2 := ih h.2
  rw [vsa_cons, vsa_acc, List.length_cons, Nat.pow_succ]
  have h3 : (0 * 10 + (c.toNat - 48)) * 10 ^ r.length ≤ 9 * 10 ^ r.length := Nat.mul_le_mul_right _ (by omega)
  omega
theorem allD_append (a b : List UInt8) : allD (a ++ b) = (allD a && allD b) := List.all_append
theorem vsa_snoc (l : List UInt8) (c : UInt8) : vsa 0 (l ++ [c]) = vsa 0 l * 10 + (c.toNat - 48) := by rw [vsa_append, vsa_cons, vsa_nil]
theorem allD_snoc (l : List UInt8) (c : UInt8) : allD (l ++ [c]) = (allD l && isD c) := by rw [allD_append]; simp [allD]
theorem ofNat_toNat {d : Nat} (h : d ≤ 9) : (UInt8.ofNat (48 + d)).toNat = 48 + d := by
 rw [show (UInt8.ofNat (48 + d)).toNat = (48 + d) % 256 from rfl]; omega
theorem dd_all : ∀ (n a : Nat), a ≤ n → allD (Lib.decDigits a) = true ∧ vsa 0 (Lib.decDigits a) = a ∧ Lib.decDigits a ≠ [] ∧ ((Lib.decDigits a).headD 0 ≠ 48 ∨ Lib.decDigits a = [48])
 | n, a, h => by
  by_cases h10 : a < 10
  ·rw [Lib.decDigits_one h10]
   have e := ofNat_toNat (d := a) (by omega)
   refine ⟨?_, ?_, by simp, ?_⟩
   ·have : isD (UInt8.ofNat (48 + a)) = true := (isD_iff _).2 (by rw [e]; omega)
    simp only [allD, List.all_cons, List.all_nil, this, Bool.and_true]
   ·rw [vsa_cons, vsa_nil, e]; omega
   ·by_cases h0 : a = 0
    ·right; rw [h0]; rfl
    ·left
     intro e2
     have e3 : (UInt8.ofNat (48 + a)) = 48 := e2
     rw [e3] at e
     have : (48 : UInt8).toNat = 48 := rfl
     omega
  ·cases n with
   | zero => omega
   | succ n =>
    obtain ⟨k1, k2, k3, k4⟩ := dd_all n (a / 10) (by omega)
    have e := ofNat_toNat (d := a % 10) (by omega)
    have ed : Lib.decDigits a = Lib.decDigits (a / 10) ++ [UInt8.ofNat (48 + a % 10)] := by
     conv => lhs; rw [Lib.decDigits, dif_neg h10]
    rw [ed]
    refine ⟨?_, ?_, by simp, ?_⟩
    ·rw [allD_snoc, k1]
     exact (isD_iff _).2 (by rw [e]; omega)
    ·rw [vsa_snoc, k2, e]; omega
    ·left
     have hh : (Lib.decDigits (a / 10) ++ [UInt8.ofNat (48 + a % 10)]).headD 0 = (Lib.decDigits (a / 10)).headD 0 := by
      cases hl : Lib.decDigits (a / 10) with
      | nil => exact absurd hl k3
      | cons c r => rfl
     rw [hh]
     rcases k4 with k4 | k4
     ·exact k4
     ·rw [k4] at k2
      have : vsa 0 [48] = 0 := rfl
      omega
theorem drop_at {l : List UInt8} {i : Nat} (h : i < l.length) : l.drop i = l.getD i 0 :: l.drop (i + 1) := by
 rw [List.drop_eq_getElem_cons h]
 simp [List.getD_eq_getElem?_getD, List.getElem?_eq_getElem h]
def sgt (b : Bool) : List UInt8 := if b = true then [45] else []
def ntx (z : Int) : List UInt8 := sgt (decide (z < 0)) ++ Lib.decDigits z.natAbs
def lfar (p : Int) : Prop := 21 < p ∨ p < -5
instance (p : Int) : Decidable (lfar p) := by unfold lfar; infer_instance
def lyb (S : List UInt8) (k : Int) : List UInt8 :=
 if lfar (S.length + k) then S.take 1 ++ ((if 1 < S.length then 46 :: S.drop 1 else []) ++ (101 :: ntx (S.length + k - 1)))
 else if (S.length : Int) + k ≤ 0 then 48 :: 46 :: (List.replicate (-((S.length : Int) + k)).toNat 48 ++ S)
 else if 0 ≤ k then S ++ List.replicate k.toNat 48
 else S.take ((S.length : Int) + k).toNat ++ (46 :: S.drop ((S.length : Int) + k).toNat)
def ly (neg : Bool) (n : Nat) (k : Int) : List UInt8 := sgt neg ++ (if n = 0 then [48] else lyb (Lib.decDigits n) k)
structure Cl (S : List UInt8) : Prop where
 all : allD S = true
 ne : S ≠ []
 hd : S.headD 0 ≠ 48
 tl : S.getLast? ≠ some 48
theorem Cl.pos {S : List UInt8} (h : Cl S) : 0 < S.length := List.length_pos_iff.2 h.ne
theorem cl_dec {n : Nat} (h0 : n ≠ 0) (h : n % 10 ≠ 0) : Cl (Lib.decDigits n) := by
 obtain ⟨k1, k2, k3, k4⟩ := dd_all n n (Nat.le_refl _)
 refine ⟨k1, k3, ?_, ?_⟩
 ·rcases k4 with k4 | k4
  ·exact k4
  ·rw [k4] at k2
   exact absurd k2.symm h0
 ·obtain ⟨b, c, e⟩ : ∃ b c, Lib.decDigits n = b ++ [c] := ⟨_, (Lib.decDigits n).getLast k3, (List.dropLast_concat_getLast k3).symm⟩
  rw [e, List.getLast?_concat]
  intro e2
  have hc : c = 48 := Option.some.inj e2
  rw [e, vsa_snoc, hc] at k2
  have : ((48 : UInt8).toNat - 48) = 0 := rfl
  rw [this] at k2
  omega
end M
end Go.Proofs.YtcmlanfgafancaaGreatDoor
