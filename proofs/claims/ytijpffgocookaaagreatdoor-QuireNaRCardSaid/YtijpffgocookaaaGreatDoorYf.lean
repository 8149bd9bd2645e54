/-
  Steps in memory.
-/
import Derived.Test.YtijpffgocookaaaGreatDoorYe
import Derived.Test.YtijpffgocookaaaGreatDoorYd
namespace Go.Proofs.YtijpffgocookaaaGreatDoor
open Go.RowKit Go.Shelf
set_option linter.unusedVariables false
set_option linter.unusedSimpArgs false

/-- A slice of steps that came in: of each its kind, and both patterns. -/
structure Stps (w : World) (A : Option Addr) (n c : Nat) (K : Nat → Int) (P R : Nat → Nat) : Prop where
  len : n ≤ c
  at_ : 0 < n → ∃ b o, A = some ⟨b, o, none⟩ ∧ ∀ j, j < n → w.cell? ⟨b, o + j * 8, none⟩ = some (.int .i64 (K j)) ∧ w.cell? ⟨b, o + j * 8 + 1, none⟩ = some (u64 (P j)) ∧ w.cell? ⟨b, o + j * 8 + 2, none⟩ = some (u64 (R j)) ∧ P j < 18446744073709551616 ∧ R j < 18446744073709551616
theorem Nt.sl {w : World} {lo s : Nat} {v : Value} {a : Nat} (h : Nt w lo s v a) : ∃ A n c, v = .slice A n c := by
  obtain ⟨A, n, c, xs, e, _⟩ := h
  exact ⟨A, n, c, e⟩
theorem and_3 (x : Int) : ∃ m : Nat, Go.bits BinOp.and IntKind.i64 x 3 = (m : Int) ∧ m ≤ 3 := by
  refine ⟨((BitVec.ofInt 64 x).toNat &&& 3), ?_, ?_⟩
  · show IntKind.i64.wrap ((BitVec.ofInt 64 x &&& BitVec.ofInt 64 3).toNat : Int) = _
    rw [BitVec.toNat_and, show (BitVec.ofInt 64 3).toNat = 3 from rfl]
    have : (BitVec.ofInt 64 x).toNat &&& 3 ≤ 3 := Nat.and_le_right
    exact IntWalk.i64_in _ (by omega)
  · exact Nat.and_le_right
theorem and_lowq (p n : Nat) (hp : p < 18446744073709551616) (hn : n ≤ 64) : Go.bits BinOp.and IntKind.u64 (p : Int) (((2 ^ n - 1 : Nat)) : Int) = ((p % 2 ^ n : Nat) : Int) := by
  have l : 2 ^ n ≤ 2 ^ 64 := M.p2le hn
  have e : (2 : Nat) ^ 64 = 18446744073709551616 := by decide
  rw [bits_and_u64_nat p (2 ^ n - 1) hp (by have := M.p2 n; omega), Nat.and_two_pow_sub_one_eq_mod]
namespace M
theorem qp_zero {i : Nat} (i1 : 1 ≤ i) (i2 : i ≤ 4) : Qp i 0 0 := by
  have hn := qn_pos i
  refine .inr ⟨by omega, ?_⟩
  have hr := (has_rv (ok i i1 (four14 i2)) (ok2 i i1 (four14 i2)) (ok3 i i1 (four14 i2)) (zero_pat i1 i2).1 (zero_pat i1 i2).2 (.inl rfl) 1).1
  rw [decide_eq_false (by omega)]
  unfold qm; rw [if_pos hn]
  rw [sz_zero.2 rfl] at hr ⊢
  exact hr
theorem qp_nar {i : Nat} : Qp i (qn i) (tb i).x := .inl ⟨rfl, rfl⟩
end M
end Go.Proofs.YtijpffgocookaaaGreatDoor
