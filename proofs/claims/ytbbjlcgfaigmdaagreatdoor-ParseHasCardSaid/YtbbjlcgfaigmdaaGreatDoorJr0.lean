/-
  A whole number as text; what is left of a number.
-/
import Derived.Test.YtbbjlcgfaigmdaaGreatDoorJd
namespace Go.Proofs.YtbbjlcgfaigmdaaGreatDoor
open Go.RowKit Go.Shelf
set_option linter.unusedSimpArgs false
set_option linter.unusedVariables false

set_option maxHeartbeats 4000000 in
set_option maxRecDepth 100000 in
theorem numtext10_any (w : World) (TW : Hid (TabW w)) (z : Int) (hz : -10000000 ≤ z ∧ z ≤ 10000000) (S : ByteArray) (hS : Hid ((⟨(M.nt z).toArray⟩ : ByteArray) = S)) :
    Calls Tryz.prog 22 #[.int .i64 z] w (Str S w) := by
  obtain ⟨T, hT⟩ : ∃ T : ByteArray, (⟨(Lib.decDigits z.natAbs).toArray⟩ : ByteArray) = T := ⟨_, rfl⟩
  have hTs : T.size ≤ 20 := by
    rw [← hT]
    show (Lib.decDigits z.natAbs).toArray.size ≤ 20
    rw [List.size_toArray, Lib.decDigits_length]
    exact Nat.le_trans (M.nd_le 9 _ (by omega)) (by omega)
  have HT := Lib.hid hT
  clear hT
  obtain ⟨m, hm⟩ : ∃ m, z.natAbs = m := ⟨_, rfl⟩
  rw [hm] at HT
  by_cases h : z < 0
  · have hzm : -z = (m : Int) := by omega
    have d : decide (z < 0) = true := decide_eq_true h
    have hw : IntKind.i64.wrap (-z) = (m : Int) := by simp [IntKind.wrap, IntKind.bits, IntKind.signed]; omega
    have hw2 : IntKind.u64.wrap (m : Int) = (m : Int) := by simp [IntKind.wrap, IntKind.bits, IntKind.signed]; omega
    have HSS : Hid ((⟨#[45]⟩ : ByteArray) ++ T = S) := by
      show _ = _
      rw [← hS.out, ← HT.out, M.nt, if_pos h, hm]
      apply ByteArray.ext
      rw [ByteArray.data_append]
      simp
    have CO := Lib.hid (of_lit w m (m : Int) rfl (by omega))
    clear hS hm
    go_enter Tryz.func22, Tryz.ntmps22
    go_wp2_with fail
    refine CO.out.mono ?_
    rintro _ w1 ⟨v1, rfl, N1, u1⟩
    have CT := Lib.hid (text_of w1 _ _ _ _ N1.nw (by omega) (TW.out.up u1) T HT.out)
    obtain ⟨R, hR⟩ : ∃ R, (⟨#[45]⟩ : ByteArray) ++ T = R := ⟨_, rfl⟩
    have HR := Lib.hid hR
    clear CO N1
    go_wp2_with fail
    refine CT.out.mono ?_
    rintro _ w2 ⟨rfl, u2⟩
    go_wp2_with fail
    go_ret
    exact ⟨congrArg (fun t => Ending.returned (.string t)) (by first | exact HSS.out | rw [← HSS.out, ← HR.out]), u1.trans u2⟩
  · have hzm : z = (m : Int) := by omega
    have d : decide (z < 0) = false := decide_eq_false h
    have hw2 : IntKind.u64.wrap z = (m : Int) := by rw [hzm]; simp [IntKind.wrap, IntKind.bits, IntKind.signed]; omega
    have HSS : Hid (T = S) := by
      show _ = _
      rw [← hS.out, ← HT.out, M.nt, if_neg h, hm]
      rfl
    have CO := Lib.hid (of_lit w m (m : Int) rfl (by omega))
    clear hS hm
    go_enter Tryz.func22, Tryz.ntmps22
    go_wp2_with fail
    refine CO.out.mono ?_
    rintro _ w1 ⟨v1, rfl, N1, u1⟩
    have CT := Lib.hid (text_of w1 _ _ _ _ N1.nw (by omega) (TW.out.up u1) T HT.out)
    clear CO N1
    go_wp2_with fail
    refine CT.out.mono ?_
    rintro _ w2 ⟨rfl, u2⟩
    go_wp2_with fail
    go_ret
    exact ⟨congrArg (fun t => Ending.returned (.string t)) HSS.out, u1.trans u2⟩
theorem tmod_rng10 (x : Int) (n : Nat) (hn : 0 < n) : ∃ k : Int, x.tmod n = k ∧ -(n : Int) < k ∧ k < n := by
  refine ⟨_, rfl, ?_, ?_⟩
  · have := Int.lt_tmod_of_pos x (show (0 : Int) < n by omega)
    omega
  · exact Int.tmod_lt_of_pos x (by omega)
end Go.Proofs.YtbbjlcgfaigmdaaGreatDoor
