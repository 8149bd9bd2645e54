/-
  nat.Div: its contract; of a divisor of more than one word, from divideLong's.
-/
import Derived.Test.YteeepfhjbemgoaaDoorDivW
import Derived.Test.YteeepfhjbemgoaaDoorBits
namespace Go.Proofs.YteeepfhjbemgoaaDoor
open Go.RowKit Go.Shelf

/-- What Div comes to. -/
def Div3 (s q r : Nat) (is : Bool) (w : World) (e : Ending) (w' : World) : Prop := ∃ v1 v2, e = .returned (.tuple #[v1, v2, .bool is]) ∧ Nt w' w.heap.size s v1 q ∧ Nt w' w.heap.size s v2 r ∧ Up w w'
/-- What divideLong comes to. -/
def Div2 (s q r : Nat) (w : World) (e : Ending) (w' : World) : Prop := ∃ v1 v2, e = .returned (.tuple #[v1, v2]) ∧ Nt w' w.heap.size s v1 q ∧ Nt w' w.heap.size s v2 r ∧ Up w w'
/-- divideLong's contract. -/
def DivLong : Prop := ∀ (w : World) (lo lo' : Nat) (A A' : Option Addr) (n c n' c' : Nat) (xs ys : List Nat), Wd w lo A n c xs → Wd w lo' A' n' c' ys → M.Nrm xs → M.Nrm ys → n ≤ 1000000000 → 2 ≤ n' → n' ≤ n →
  Calls Tryd.prog 67 #[.slice A n c, .slice A' n' c'] w (Div2 n (M.val xs / M.val ys) (M.val xs % M.val ys) w)

set_option maxHeartbeats 400000 in
set_option maxRecDepth 100000 in
theorem div_zero (w : World) (lo lo' s s' : Nat) (v v' : Value) (a : Nat) (h : Nw w lo s v a) (h' : Nw w lo' s' v' 0) :
    Calls Tryd.prog 23 #[v, v'] w (Div3 s 0 0 false w) := by
  obtain ⟨A, n, c, xs, rfl, hx, _, hns⟩ := h
  obtain ⟨A', n', c', xs', rfl, hx', hb, hns'⟩ := h'
  have HB := Lib.hid hb
  clear hb
  go_enter Tryd.func23, Tryd.ntmps23
  go_wp2_with fail
  refine (trim_any w lo A n c xs hx).mono ?_
  rintro _ _ ⟨m, ys, rfl, rfl, hy, hny, hv, hmn⟩
  clear hx hv
  go_wp2_with fail
  refine (trim_any w lo' A' n' c' xs' hx').mono ?_
  rintro _ _ ⟨m', ys', rfl, rfl, hy', hny', hv', hmn'⟩
  have hm0 : m' = 0 := by rw [← hy'.num, M.val_zero hny' (hv'.trans HB.out)]; rfl
  subst hm0
  clear hv' hx'
  go_wp2_with fail
  go_ret3
  exact ⟨_, _, rfl, Nt.nil _ _ _, Nt.nil _ _ _, Up.refl w⟩

set_option maxHeartbeats 800000 in
set_option maxRecDepth 100000 in
theorem div_of (w : World) (lo lo' s s' : Nat) (v v' : Value) (a b : Nat) (h : Nw w lo s v a) (h' : Nw w lo' s' v' b) (hb0 : 0 < b) (hs : s ≤ 1000000000) (hlong : b < 18446744073709551616 ∨ DivLong) :
    Calls Tryd.prog 23 #[v, v'] w (Div3 (s + 1) (a / b) (a % b) true w) := by
  obtain ⟨A, n, c, xs, rfl, hx, ha, hns⟩ := h
  obtain ⟨A', n', c', xs', rfl, hx', hb, hns'⟩ := h'
  have HA := Lib.hid ha
  have HB := Lib.hid hb
  have HL := Lib.hid hlong
  clear ha hb hlong
  go_enter Tryd.func23, Tryd.ntmps23
  go_wp2_with fail
  refine (trim_any w lo A n c xs hx).mono ?_
  rintro _ _ ⟨m, ys, rfl, rfl, hA, hny, hv, hmn⟩
  have HV : Hid (M.val ys = a) := hv.trans HA.out
  clear hx hv HA
  go_wp2_with fail
  refine (trim_any w lo' A' n' c' xs' hx').mono ?_
  rintro _ _ ⟨m', ys', rfl, rfl, hB, hny', hv', hmn'⟩
  have HV' : Hid (M.val ys' = b) := hv'.trans HB.out
  clear hx' hv' HB
  have hm0 : 1 ≤ m' := by
    rcases Nat.eq_zero_or_pos m' with h0 | h0
    · subst h0
      have := List.eq_nil_of_length_eq_zero hB.num
      have h1 := HV'.out
      rw [this] at h1
      simp [M.val] at h1
      omega
    · exact h0
  have t0 : ((m' : Int) == 0) = false := by rw [beq_eq_false_iff_ne]; omega
  have hsm := hA.small
  by_cases hlt : m < m'
  · have hab : a < b := by rw [← HV.out, ← HV'.out]; exact M.val_lt_of_length hA.wds hny' (by rw [hA.num, hB.num]; exact hlt)
    have E1 : Hid (a / b = 0) := Nat.div_eq_of_lt hab
    have E2 : Hid (a % b = a) := Nat.mod_eq_of_lt hab
    clear hab
    go_wp2_with fail
    refine (norm_any w lo s _ a ⟨A, m, c, ys, rfl, hA, HV.out, by omega⟩).mono ?_
    rintro _ w1 ⟨v1, rfl, h1, h2⟩
    go_wp2_with fail
    go_ret3
    rw [E1.out, E2.out]
    exact ⟨_, _, rfl, Nt.nil _ _ _, h1.more (by omega), h2⟩
  · by_cases hone : m' = 1
    · subst hone
      obtain ⟨y, hy⟩ : ∃ y, ys' = [y] := by
        match ys', hB.num with
        | [y], _ => exact ⟨y, rfl⟩
      have hyb : y = b := by have h1 := HV'.out; rw [hy] at h1; simpa [M.val] using h1
      have hb64 : b < 18446744073709551616 := by rw [← hyb]; exact hB.wds y (by rw [hy]; simp)
      obtain ⟨bb, oo, rfl, _, hc⟩ := hB.at_ (by omega)
      have hc1 := (hc 0 (by omega)).1
      rw [hy, List.getD_cons_zero, hyb, Nat.add_zero] at hc1
      have HB64 := Lib.hid hb64
      clear hc hy hyb hB hny' HV' HL hb64
      have hge : 1 ≤ m := by omega
      go_wp2_with fail
      refine (norm_any w lo s _ a ⟨A, m, c, ys, rfl, hA, HV.out, by omega⟩).mono ?_
      rintro _ w1 ⟨v1, rfl, h1, h2⟩
      obtain ⟨A1, n1, cc1, zs1, rfl, hz1, hzv1, hzs1, hzn1⟩ := h1
      have hc2 : w1.cell? ⟨bb, oo, none⟩ = some (u64 b) := by
        rw [Below.cell h2 (World.block_lt_of_cell? w _ hc1)]; exact hc1
      have HZV := Lib.hid hzv1
      clear hzv1 hA hc1
      go_wp2_with fail
      refine (divideByWord_any w1 _ A1 n1 cc1 zs1 hz1 b hb0 HB64.out h2.size).mono ?_
      rintro _ w2 ⟨zs2, rfl, hz2, hzv2, hbl2, _⟩
      have hu2 : Up w w2 := (show Below w.heap.size w w1 from h2).trans hbl2
      have HZV2 : Hid (M.val zs2 = a / b) := by rw [HZV.out] at hzv2; exact hzv2
      have E2 : Hid (M.val zs1 % b = a % b) := by show _ = _; rw [HZV.out]
      have hmodlt : a % b < 18446744073709551616 := Nat.lt_of_lt_of_le (Nat.mod_lt _ hb0) (Nat.le_of_lt HB64.out)
      rw [E2.out]
      generalize a % b = r at *
      have HM := Lib.hid hmodlt
      clear hz1 hzv2 hbl2 h2 hc2 hmodlt
      go_wp2_with fail
      refine (trim_any w2 _ A1 n1 cc1 zs2 hz2).mono ?_
      rintro _ _ ⟨m3, zz, rfl, rfl, hd3, hn3, hv3, hm3⟩
      have HV3 : Hid (M.val zz = a / b) := hv3.trans HZV2.out
      clear hv3 hz2 HZV2
      go_wp2_with fail
      refine (of_any w2 r HM.out).mono ?_
      rintro _ w4 ⟨v4, rfl, h4, hu4⟩
      go_wp2_with fail
      go_ret3
      exact ⟨_, _, rfl, ⟨_, _, _, zz, rfl, hd3.up hu4, HV3.out, by omega, hn3⟩, (h4.lower hu2.size).more (by omega), hu2.trans hu4⟩
    · have hDL : DivLong := by
        rcases HL.out with h | h
        · exfalso
          have h1 := M.val_ge hny' (by intro e; have := hB.num; rw [e] at this; simp at this; omega)
          have h2 : 18446744073709551616 ^ 1 ≤ 18446744073709551616 ^ (ys'.length - 1) := Nat.pow_le_pow_right (by omega) (by rw [hB.num]; omega)
          have h3 := HV'.out
          omega
        · exact h
      have t1 : ((m' : Int) == 1) = false := by rw [beq_eq_false_iff_ne]; omega
      have CW := Lib.hid (hDL w lo lo' A A' m c m' c' ys ys' hA hB hny hny' (by omega) (by omega) (by omega))
      rw [HV.out, HV'.out] at CW
      clear hDL HL hA hB
      go_wp2_with fail
      refine CW.out.mono ?_
      rintro _ w1 ⟨v1, v2, rfl, h1, h2, h3⟩
      go_wp2_with fail
      go_ret3
      exact ⟨_, _, rfl, h1.more (by omega), h2.more (by omega), h3⟩
end Go.Proofs.YteeepfhjbemgoaaDoor
