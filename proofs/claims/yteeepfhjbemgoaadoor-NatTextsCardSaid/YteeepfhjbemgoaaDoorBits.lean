/-
  nat.Bits, nat.Bit, nat.Even, nat.clamp: their contracts.
-/
import Derived.Test.YteeepfhjbemgoaaDoorLib
import Derived.Test.YteeepfhjbemgoaaDoorMath2
namespace Go.Proofs.YteeepfhjbemgoaaDoor
open Go.RowKit Go.Shelf

theorem M.bitLen_eq : ∀ (n x : Nat), x ≤ n → x < 18446744073709551616 → Lib.bitLen x = M.bits x := by
  intro n
  induction n with
  | zero =>
    intro x hx _
    obtain rfl : x = 0 := by omega
    rfl
  | succ n ih =>
    intro x hx hb
    by_cases h0 : x = 0
    · subst h0; rfl
    · rw [Lib.bitLen_half x h0 hb, M.bits_half h0, ih (x / 2) (by omega) (by omega)]

set_option maxHeartbeats 400000 in
theorem clamp_any (w : World) (i t : Int) : Calls Tryd.prog 73 #[.int .i64 i, .int .i64 t] w (Same (.int .i64 (max 0 (min i t))) w) := by
  go_enter Tryd.func73, Tryd.ntmps73
  go_wp2
  go_ret
  exact ⟨rfl, rfl⟩

set_option maxHeartbeats 400000 in
theorem bit_nat (w : World) (lo s : Nat) (v : Value) (a : Nat) (h : Nw w lo s v a) (k : Nat) (hk : k ≤ 1000000000000000) :
    Calls Tryd.prog 51 #[v, .int .i64 k] w (Same (.bool (a.testBit k)) w) := by
  obtain ⟨A, n, c, xs, rfl, hx, ha, _⟩ := h
  obtain ⟨y, hy⟩ : ∃ y, xs.getD (k / 64) 0 = y := ⟨_, rfl⟩
  have cw := Lib.hid (wordAt_nat w lo A n c xs hx (k / 64) (by omega) y hy)
  have hfin : (bits BinOp.and IntKind.u64 ((y : Int) / 2 ^ (k % 64)) 1 == 1) = a.testBit k := by
    have h1 : (y : Int) < 18446744073709551616 := by have := hx.wds.getD (k / 64); omega
    have h2 : (y : Int) / 2 ^ (k % 64) ≤ y := Int.ediv_le_self _ (by omega)
    have h3 : 0 ≤ (y : Int) / 2 ^ (k % 64) := Int.ediv_nonneg (by omega) (by have := Int.pow_pos (n := 2) (m := k % 64) (by omega); omega)
    rw [and_one_u64 _ h3 (by omega), M.testBit_int, ← ha, M.testBit_word hx.wds, hy]
  have HF := Lib.hid hfin
  clear hy ha hfin hx
  go_enter Tryd.func51, Tryd.ntmps51
  go_wp2_with fail
  refine cw.out.mono ?_
  rintro _ _ ⟨rfl, rfl⟩
  go_wp2_with fail
  go_ret
  exact ⟨ret_bool HF.out, rfl⟩

set_option maxHeartbeats 400000 in
theorem bit_neg (w : World) (v : Value) (i : Int) (hi : i < 0) :
    Calls Tryd.prog 51 #[v, .int .i64 i] w (Same (.bool false) w) := by
  have h0 : decide (0 ≤ i) = false := by simp; omega
  go_enter Tryd.func51, Tryd.ntmps51
  go_wp2_with fail
  go_ret
  exact ⟨rfl, rfl⟩

set_option maxHeartbeats 400000 in
theorem even_any (w : World) (lo s : Nat) (v : Value) (a : Nat) (h : Nw w lo s v a) :
    Calls Tryd.prog 55 #[v] w (Same (.bool (!a.testBit 0)) w) := by
  have cw := Lib.hid (bit_nat w lo s v a h 0 (by omega))
  generalize a.testBit 0 = t at *
  go_enter Tryd.func55, Tryd.ntmps55
  go_wp2_with fail
  refine cw.out.mono ?_
  rintro _ _ ⟨rfl, rfl⟩
  go_wp2_with fail
  go_ret
  exact ⟨rfl, rfl⟩

set_option maxHeartbeats 400000 in
theorem bits_any (w : World) (lo s : Nat) (v : Value) (a : Nat) (h : Nw w lo s v a) :
    Calls Tryd.prog 37 #[v] w (Same (.int .i64 (M.bits a)) w) := by
  obtain ⟨A, n, c, xs, rfl, hx, ha, _⟩ := h
  have HA := Lib.hid ha
  clear ha
  go_enter Tryd.func37, Tryd.ntmps37
  go_wp2_with fail
  refine (trim_any w lo A n c xs hx).mono ?_
  rintro _ _ ⟨m, ys, rfl, rfl, hy, hny, hv, hmn⟩
  have HV : Hid (M.val ys = a) := hv.trans HA.out
  clear hx hv HA
  rcases Nat.eq_zero_or_pos m with hm | hm
  · subst hm
    have hz : M.bits a = 0 := by
      rw [← HV.out, List.eq_nil_of_length_eq_zero hy.num]; rfl
    have HZ := Lib.hid hz
    clear hz
    go_wp2_with fail
    go_ret
    exact ⟨ret_int (by rw [HZ.out]; rfl), rfl⟩
  · obtain ⟨j, rfl⟩ : ∃ j, m = j + 1 := ⟨m - 1, by omega⟩
    obtain ⟨b, o, rfl, _, hc⟩ := hy.at_ hm
    have hc1 := (hc j (by omega)).1
    obtain ⟨x, hx⟩ : ∃ x, ys.getD j 0 = x := ⟨_, rfl⟩
    have hxb : x < 18446744073709551616 := by rw [← hx]; exact hy.wds.getD j
    have hfin : M.bits a = 64 * j + M.bits x := by rw [← HV.out, M.bits_val hy.wds hny hy.num, hx]
    have cw := len64_any x hxb
    rw [M.bitLen_eq x x (Nat.le_refl _) hxb] at cw
    have hbx : M.bits x ≤ 64 := by
      by_cases h0 : x = 0
      · subst h0; decide
      · have h1 := M.bits_le h0
        rcases Nat.lt_or_ge 64 (M.bits x) with h2 | h2
        · have h3 : 2 ^ 64 ≤ 2 ^ (M.bits x - 1) := Nat.pow_le_pow_right (by omega) (by omega)
          omega
        · exact h2
    rw [hx] at hc1
    have b2 := hy.small
    generalize M.bits x = y at *
    have HF := Lib.hid hfin
    have CW := Lib.hid cw
    have hj : ((j + 1 : Nat) : Int) - 1 = (j : Int) := by omega
    clear hx hxb hfin cw hc hy HV hny
    go_wp2_with fail
    refine (CW.out _).mono ?_
    rintro _ _ ⟨rfl, rfl⟩
    go_wp2_with fail
    go_ret
    exact ⟨ret_int (by rw [HF.out]; omega), rfl⟩
end Go.Proofs.YteeepfhjbemgoaaDoor
