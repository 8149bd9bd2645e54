/-
  Package posit: split of what is no key; the run's bits; join.
-/
import Derived.Test.YtngoglhjelcdgaaDoorPq2
namespace Go.Proofs.YtngoglhjelcdgaaDoor
open Go.RowKit Go.Shelf

set_option maxHeartbeats 1000000 in
theorem split_out (w : World) (n k : Nat) (hn : n ≤ 64) (hk : k < 18446744073709551616) (h : k = 0 ∨ 2 ^ n ≤ k) : Calls Tryd.prog 24 #[.int .i64 (n : Int), u64 k] w (Pns w) := by
  by_cases k0 : k = 0
  · subst k0
    clear h
    go_enter Tryd.func24, Tryd.ntmps24
    go_wp2_with fail
    exact ⟨rfl, ⟨_, rfl⟩, (Up.refl _).alloc _⟩
  · have d0 : ((k : Int) == 0) = false := by rw [beq_eq_false_iff_ne]; omega
    obtain ⟨P, hP⟩ : ∃ P : Nat, 2 ^ n = P := ⟨_, rfl⟩
    have pz : (2 : Int) ^ n = (P : Int) := by rw [← hP]; push_cast; rfl
    have pp : 0 < P := by rw [← hP]; exact M.p2 n
    have hPk : P ≤ k := by omega
    obtain ⟨A, hA⟩ : ∃ A : Nat, k / P = A := ⟨_, rfl⟩
    have hA0 : 0 < A := by rw [← hA]; exact Nat.div_pos hPk pp
    have kz : (k : Int) / (P : Int) = (A : Int) := by rw [← hA]; push_cast; rfl
    have d1 : ((A : Int) != 0) = true := by rw [bne_iff_ne]; omega
    clear h hP hPk hA hA0 k0
    go_enter Tryd.func24, Tryd.ntmps24
    go_wp2_with fail
    exact ⟨rfl, ⟨_, rfl⟩, (Up.refl _).alloc _⟩
set_option maxHeartbeats 1000000 in
theorem runOf_neg (w : World) (n r : Nat) (R : Int) (hn2 : 2 ≤ n) (hn : n ≤ 64) (h0 : R < 0) (h1 : R + n - 1 = r) :
    Calls Tryd.prog 38 #[.int .i64 (n : Int), .int .i64 R] w (Same (u64 (2 ^ r)) w) := by
  have d0 : decide (R < 0) = true := decide_eq_true h0
  obtain ⟨P, hP⟩ : ∃ P : Nat, 2 ^ r = P := ⟨_, rfl⟩
  have pz : (2 : Int) ^ r = (P : Int) := by rw [← hP]; push_cast; rfl
  have hr : r ≤ 62 := by omega
  have pb : P ≤ 4611686018427387904 := by
    rw [← hP]
    have h1 := M.p2le hr
    have h2 : (2 : Nat) ^ 62 = 4611686018427387904 := by decide
    omega
  have s1 : (n : Int) - 1 + R = (r : Int) := by omega
  have rb : -64 ≤ R ∧ R ≤ 64 := by omega
  rw [hP]
  clear hP h1
  go_enter Tryd.func38, Tryd.ntmps38
  go_wp2_with fail
  go_ret
  exact ⟨rfl, rfl⟩
set_option maxHeartbeats 1000000 in
theorem runOf_pos (w : World) (n t : Nat) (R : Int) (hn2 : 2 ≤ n) (hn : n ≤ 64) (h0 : 0 ≤ R) (h1 : (n : Int) - 1 - R = t) :
    Calls Tryd.prog 38 #[.int .i64 (n : Int), .int .i64 R] w (Val (u64 (2 ^ n - 2 ^ t)) w) := by
  have d0 : decide (R < 0) = false := decide_eq_false (by omega)
  obtain ⟨P, hP⟩ : ∃ P : Nat, 2 ^ t = P := ⟨_, rfl⟩
  have pz : (2 : Int) ^ t = (P : Int) := by rw [← hP]; push_cast; rfl
  have hr : t ≤ 63 := by omega
  have pb : P ≤ 9223372036854775808 := by
    rw [← hP]
    have h1 := M.p2le hr
    have h2 : (2 : Nat) ^ 63 = 9223372036854775808 := by decide
    omega
  have pp : 0 < P := by rw [← hP]; exact M.p2 _
  have rb : -64 ≤ R ∧ R ≤ 64 := by omega
  rw [hP]
  rcases (show n = 64 ∨ n < 64 by omega) with rfl | hlt
  · clear hP
    have h2 : (64 : Int) - 1 - R = (t : Int) := h1
    have h3 : (63 : Int) - R = (t : Int) := by omega
    clear h1
    go_enter Tryd.func38, Tryd.ntmps38
    go_wp2_with fail
    go_quiet (fail)
    go_wp2_with fail
    go_ret
    exact ⟨ret_int (by simp [IntKind.wrap, IntKind.bits, IntKind.signed]; omega), _, rfl⟩
  · obtain ⟨N, hN⟩ : ∃ N : Nat, 2 ^ n = N := ⟨_, rfl⟩
    have nz : (2 : Int) ^ n = (N : Int) := by rw [← hN]; push_cast; rfl
    have nb : N ≤ 9223372036854775808 := by
      rw [← hN]
      have h1 := M.p2le (show n ≤ 63 by omega)
      have h2 : (2 : Nat) ^ 63 = 9223372036854775808 := by decide
      omega
    have pn : P < N := by rw [← hN, ← hP]; exact Nat.pow_lt_pow_right (by decide) (by omega)
    clear hP
    go_enter Tryd.func38, Tryd.ntmps38
    go_wp2_with fail
    go_quiet (fail)
    go_wp2_with fail
    go_ret
    exact ⟨ret_int (by rw [hN]; omega), _, rfl⟩
/-- The bits of a run, by the regime. -/
def M.rn (n : Nat) (R : Int) : Nat := if R < 0 then 2 ^ (R + n - 1).toNat else 2 ^ n - 2 ^ (n - 1 - R).toNat
theorem runOf_any (w : World) (n : Nat) (R : Int) (hn2 : 2 ≤ n) (hn : n ≤ 64) (h1 : -(n : Int) < R) (h2 : R < n) :
    Calls Tryd.prog 38 #[.int .i64 (n : Int), .int .i64 R] w (Val (u64 (M.rn n R)) w) := by
  unfold M.rn
  split
  · exact (runOf_neg w n _ R hn2 hn (by omega) (by omega)).mono fun _ _ ⟨a, b⟩ => ⟨a, 0, b.symm⟩
  · exact runOf_pos w n _ R hn2 hn (by omega) (by omega)
end Go.Proofs.YtngoglhjelcdgaaDoor
