/-
  Package exact: the small calls.
-/
import Derived.Test.YteeepfhjbemgoaaDoorUse
import Derived.Deep.RegionHeld3
import Derived.Deep.DrawnRows
namespace Go.Proofs.YteeepfhjbemgoaaDoor
open Go.RowKit Go.Shelf

/-- A number as a value. -/
abbrev xv (neg : Bool) (v : Value) (t f : Int) : Value := .agg #[.bool neg, v, .int .i64 t, .int .i64 f]
/-- What a call comes to that tells z, and makes memory of its own. -/
def Num (z : Int) (w : World) (e : Ending) (w' : World) : Prop := e = .returned (.int .i64 z) ∧ Up w w'
def Boo (t : Bool) (w : World) (e : Ending) (w' : World) : Prop := e = .returned (.bool t) ∧ Up w w'

theorem nearestPower_any (w : World) (k z : Int) (hz : Hid (max (-5000) (min k 5000) = z)) : Calls Tryd.prog 110 #[.int .i64 k] w (Same (.int .i64 z) w) := by
  go_enter Tryd.func110, Tryd.ntmps110
  go_wp2_with fail
  go_ret
  exact ⟨ret_int hz.out, rfl⟩
theorem mayBePower_any (w : World) (k : Int) (t : Bool) (ht : Hid (decide (-5000 ≤ k ∧ k ≤ 5000) = t)) : Calls Tryd.prog 79 #[.int .i64 k] w (Same (.bool t) w) := by
  obtain ⟨z, hz⟩ : ∃ z, max (-5000) (min k 5000) = z := ⟨_, rfl⟩
  have HT : Hid ((k == z) = t) := by
    rw [Hid, ← ht.out, Bool.eq_iff_iff, beq_iff_eq, decide_eq_true_iff]
    omega
  have CN := Lib.hid (nearestPower_any w k z hz)
  clear hz ht
  go_enter Tryd.func79, Tryd.ntmps79
  go_wp2_with fail
  refine CN.out.mono ?_
  rintro _ _ ⟨rfl, rfl⟩
  go_wp2_with fail
  go_ret
  exact ⟨ret_bool HT.out, rfl⟩
theorem M.bits_eq_zero (a : Nat) : (((M.bits a : Nat) : Int) == 0) = decide (a = 0) := by
  rw [Bool.eq_iff_iff, beq_iff_eq, decide_eq_true_iff]
  constructor
  · intro h
    rcases Nat.eq_zero_or_pos a with h0 | h0
    · exact h0
    · have := M.bits_pos (a := a) (by omega); omega
  · intro h; rw [h]; rfl
theorem isNought_any (w : World) (lo s : Nat) (v : Value) (a : Nat) (h : Nw w lo s v a) (t : Bool) (ht : Hid (decide (a = 0) = t)) : Calls Tryd.prog 112 #[v] w (Same (.bool t) w) := by
  obtain ⟨z, hz⟩ : ∃ z : Int, ((M.bits a : Nat) : Int) = z := ⟨_, rfl⟩
  have HT : Hid ((z == 0) = t) := by rw [Hid, ← hz, M.bits_eq_zero]; exact ht.out
  have CB := Lib.hid (bits_at2 w lo s v a z h hz)
  obtain ⟨A, n, c, xs, rfl, _, _, _⟩ := h
  clear hz ht
  go_enter Tryd.func112, Tryd.ntmps112
  go_wp2_with fail
  refine CB.out.mono ?_
  rintro _ _ ⟨rfl, rfl⟩
  go_wp2_with fail
  go_ret
  exact ⟨ret_bool HT.out, rfl⟩

set_option maxHeartbeats 400000 in
theorem xtimes_any (w : World) (lo s : Nat) (v : Value) (a : Nat) (h : Nw w lo s v a) (hs : s ≤ 50000000) (two five : Int) (T F : Nat) (hT : Hid (max 0 (min two 131072) = (T : Int))) (hF : Hid (max 0 (min five 10000) = (F : Int))) :
    Calls Tryd.prog 92 #[v, .int .i64 two, .int .i64 five] w (Res (s + F + T / 64 + 3) (a * 5 ^ F * 2 ^ T) w) := by
  have CP := Lib.hid (pow_any w 5 F five (by omega) hF.out)
  have hF1 : F ≤ 10000 := by have := hF.out; omega
  obtain ⟨A, n, c, xs, rfl, hx, ha, hns⟩ := h
  have HA := Lib.hid ha
  clear ha hF
  go_enter Tryd.func92, Tryd.ntmps92
  go_wp2_with fail
  refine CP.out.mono ?_
  rintro _ w1 ⟨v1, rfl, h1, hu1⟩
  have hv : Nw w1 lo s (.slice A n c) a := ⟨A, n, c, xs, rfl, hx.up hu1, HA.out, hns⟩
  go_wp2_with fail
  refine (mul_any w1 _ _ _ _ _ _ _ _ hv h1.nw (by omega) (by omega)).mono ?_
  rintro _ w2 ⟨v2, rfl, h2, hu2⟩
  go_wp2_with fail
  refine (shl_any w2 _ _ _ _ h2.nw (by omega) two T hT.out).mono ?_
  rintro _ w3 ⟨v3, rfl, h3, hu3⟩
  go_wp2_with fail
  go_ret
  exact ⟨v3, rfl, (h3.lower (Up.size (hu1.trans hu2))).more (by omega), (hu1.trans hu2).trans hu3⟩

/-- -1, 0, 1, as a number stands to 0. -/
def M.sgn (neg : Bool) (a : Nat) : Int := if a = 0 then 0 else if neg = true then -1 else 1
set_option maxHeartbeats 400000 in
theorem sign_any (w : World) (lo s : Nat) (neg : Bool) (v : Value) (t f : Int) (a : Nat) (h : Nw w lo s v a) (z : Int) (hz : Hid (M.sgn neg a = z)) : Calls Tryd.prog 114 #[xv neg v t f] w (Num z w) := by
  have hu := (Up.refl w).alloc (.cells #[.bool neg, v, .int .i64 t, .int .i64 f] 44)
  by_cases h0 : a = 0
  · have hz0 : Hid (z = 0) := by rw [Hid, ← hz.out, M.sgn, if_pos h0]
    have CI := Lib.hid (isNought_any _ lo s v a (h.up hu) true (decide_eq_true h0))
    clear hz h0
    go_enter Tryd.func114, Tryd.ntmps114
    go_wp2_with fail
    refine CI.out.mono ?_
    rintro _ _ ⟨rfl, rfl⟩
    go_wp2_with fail
    go_ret
    exact ⟨ret_int hz0.out.symm, hu⟩
  · have CI := Lib.hid (isNought_any _ lo s v a (h.up hu) false (decide_eq_false h0))
    rcases neg with _ | _
    · have hz0 : Hid (z = 1) := by rw [Hid, ← hz.out, M.sgn, if_neg h0]; rfl
      clear hz h0
      go_enter Tryd.func114, Tryd.ntmps114
      go_wp2_with fail
      refine CI.out.mono ?_
      rintro _ _ ⟨rfl, rfl⟩
      go_wp2_with fail
      go_ret
      exact ⟨ret_int hz0.out.symm, hu⟩
    · have hz0 : Hid (z = -1) := by rw [Hid, ← hz.out, M.sgn, if_neg h0]; rfl
      clear hz h0
      go_enter Tryd.func114, Tryd.ntmps114
      go_wp2_with fail
      refine CI.out.mono ?_
      rintro _ _ ⟨rfl, rfl⟩
      go_wp2_with fail
      go_ret
      exact ⟨ret_int hz0.out.symm, hu⟩
end Go.Proofs.YteeepfhjbemgoaaDoor
