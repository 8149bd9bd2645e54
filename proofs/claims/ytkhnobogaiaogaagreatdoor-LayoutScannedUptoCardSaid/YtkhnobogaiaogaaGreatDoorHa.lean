/-
  The reference of layer 12: number: its contract.
-/
import Derived.Test.YtkhnobogaiaogaaGreatDoorHs
import Derived.OwnWalk
import Derived.BigQuiet
namespace Go.Proofs.YtkhnobogaiaogaaGreatDoor
open Go.RowKit Go.Shelf
set_option linter.unusedVariables false

set_option maxHeartbeats 1000000 in
theorem rnum_small (w : World) (n : Nat) (hn : n < 10) : Calls Tryz.prog 27 #[.int .i64 (n : Int)] w (Tex (Lib.decDigits n) w) := by
  have q1 : ((n : Int)).tmod 10 = (n : Int) := by rw [Int.tmod_eq_emod_of_nonneg (by omega)]; omega
  have q2 : (n : Int) % 10 = (n : Int) := by omega
  have d1 : decide ((n : Int) < 0) = false := decide_eq_false (by omega)
  have d2 : decide ((n : Int) < 10) = true := decide_eq_true (by omega)
  have C := one_dig w n hn
  go_enter Tryz.func27, Tryz.ntmps27
  go_wp2_with fail
  go_ret
  exact ⟨_, rfl, rfl, (Up.refl w).alloc _⟩
theorem M.dd_last (n : Nat) (h : ¬ n < 10) : Lib.decDigits n = Lib.decDigits (n / 10) ++ Lib.decDigits (n % 10) := by
  rw [Lib.decDigits_one (Nat.mod_lt n (by omega))]
  conv => lhs; rw [Lib.decDigits, dif_neg h]
set_option maxHeartbeats 1000000 in
theorem rnum_large (w : World) (n : Nat) (h10 : ¬ n < 10) (hn : n ≤ 1000000) (IH : Hid (∀ W : World, Calls Tryz.prog 27 #[.int .i64 ((n / 10 : Nat) : Int)] W (Tex (Lib.decDigits (n / 10)) W))) :
    Calls Tryz.prog 27 #[.int .i64 (n : Int)] w (Tex (Lib.decDigits n) w) := by
  obtain ⟨q, hq⟩ : ∃ q, n / 10 = q := ⟨_, rfl⟩
  obtain ⟨r, hr⟩ : ∃ r, n % 10 = r := ⟨_, rfl⟩
  have hr10 : r < 10 := by omega
  have HL := Lib.hid (M.dd_last n h10)
  have hlen : (Lib.decDigits q).length ≤ 7 := M.dd_len7 q (by omega)
  rw [hq] at IH HL
  rw [hr] at HL
  have q1 : ((n : Int)).tmod 10 = (r : Int) := by rw [Int.tmod_eq_emod_of_nonneg (by omega)]; omega
  have q2 : (n : Int) % 10 = (r : Int) := by omega
  have q3 : ((n : Int)).tdiv 10 = (q : Int) := by rw [Int.tdiv_eq_ediv_of_nonneg (by omega)]; omega
  have q4 : (n : Int) / 10 = (q : Int) := by omega
  have d1 : decide ((n : Int) < 0) = false := decide_eq_false (by omega)
  have d2 : decide ((n : Int) < 10) = false := decide_eq_false (by omega)
  have C := one_dig w r hr10
  obtain ⟨D, hD⟩ : ∃ D : ByteArray, (⟨(Lib.decDigits r).toArray⟩ : ByteArray) = D := ⟨_, rfl⟩
  have HD : Hid (Tx D (Lib.decDigits r)) := by rw [← hD]; exact Lib.hid (Tx.lit _)
  have hDs : D.size = 1 := by rw [HD.out.size, Lib.decDigits_one hr10]; rfl
  rw [hD] at C
  clear hD hq hr
  go_enter Tryz.func27, Tryz.ntmps27
  go_wp2_with fail
  refine (IH.out _).mono ?_
  rintro _ w2 ⟨T, rfl, HT, u2⟩
  have hTs : T.size ≤ 7 := by rw [HT.size]; exact hlen
  replace HT := Lib.hid HT
  go_wp2_with fail
  go_ret
  refine ⟨_, rfl, ?_, ((Up.refl w).alloc _).trans u2⟩
  rw [HL.out]
  exact HT.out.cat HD.out
theorem rnum_nat : ∀ (k n : Nat), n ≤ k → n ≤ 1000000 → ∀ w : World, Calls Tryz.prog 27 #[.int .i64 (n : Int)] w (Tex (Lib.decDigits n) w)
  | 0, n, h, _, w => rnum_small w n (by omega)
  | k + 1, n, h, hn, w => by
    by_cases h10 : n < 10
    · exact rnum_small w n h10
    · exact rnum_large w n h10 hn (Lib.hid fun W => rnum_nat k (n / 10) (by omega) (by omega) W)
set_option maxHeartbeats 1000000 in
theorem rnum_any (w : World) (z : Int) (hz : -1000000 ≤ z ∧ z ≤ 1000000) : Calls Tryz.prog 27 #[.int .i64 z] w (Tex (M.ntx z) w) := by
  by_cases h : z < 0
  · obtain ⟨n, hn⟩ : ∃ n : Nat, z = -(n : Int) := ⟨z.natAbs, by omega⟩
    subst hn
    have d1 : decide (-(n : Int) < 0) = true := decide_eq_true h
    have e1 : -(-(n : Int)) = (n : Int) := by omega
    have hw : IntKind.i64.wrap (n : Int) = (n : Int) := by simp [IntKind.wrap, IntKind.bits, IntKind.signed]; omega
    have C := Lib.hid (rnum_nat n n (Nat.le_refl _) (by omega))
    have hlen : (Lib.decDigits n).length ≤ 7 := M.dd_len7 n (by omega)
    have HE : Hid (M.ntx (-(n : Int)) = [45] ++ Lib.decDigits n) := by
      show _ = _
      unfold M.ntx
      rw [d1, show (-(n : Int)).natAbs = n by omega]
      rfl
    go_enter Tryz.func27, Tryz.ntmps27
    go_wp2_with fail
    refine (C.out _).mono ?_
    rintro _ w2 ⟨T, rfl, HT, u2⟩
    have hTs : T.size ≤ 7 := by rw [HT.size]; exact hlen
    replace HT := Lib.hid HT
    go_wp2_with fail
    go_ret
    refine ⟨_, rfl, ?_, u2⟩
    rw [HE.out]
    exact (Tx.lit [45]).cat HT.out
  · obtain ⟨n, hn⟩ : ∃ n : Nat, z = (n : Int) := ⟨z.natAbs, by omega⟩
    subst hn
    have HE : M.ntx (n : Int) = Lib.decDigits n := by
      unfold M.ntx
      rw [decide_eq_false h]
      rfl
    rw [HE]
    exact rnum_nat n n (Nat.le_refl _) (by omega) w
end Go.Proofs.YtkhnobogaiaogaaGreatDoor
