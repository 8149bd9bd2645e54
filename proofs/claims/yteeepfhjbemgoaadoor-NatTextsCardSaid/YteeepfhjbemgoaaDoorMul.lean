/-
  nat.addTimes, nat.Mul: their contracts.
-/
import Derived.Test.YteeepfhjbemgoaaDoorLib
import Derived.Test.YteeepfhjbemgoaaDoorMath2
namespace Go.Proofs.YteeepfhjbemgoaaDoor
open Go.RowKit Go.Shelf

theorem add64_zero (x y : Nat) (hx : x < 18446744073709551616) (hy : y < 18446744073709551616) :
    ∃ s d : Nat, s < 18446744073709551616 ∧ d ≤ 1 ∧ x + y = s + 18446744073709551616 * d ∧
      ∀ w, (callFunc 70 #[u64 x, u64 y, .int .u64 0]).run Tryd.prog w = .ok (.value (.tuple #[u64 s, u64 d])) w := by
  obtain ⟨s, d, h1, h2, h3, h4⟩ := add64_ex x y 0 hx hy (by omega)
  exact ⟨s, d, h1, h2, by omega, h4⟩

/-- What addTimes comes to. -/
def AddTimes (w0 : World) (base g N m : Nat) (zs ys : List Nat) (x i : Nat) (e : Ending) (w' : World) : Prop :=
  ∃ q zs', e = .returned (u64 q) ∧ q < 18446744073709551616 ∧ Up w0 w' ∧ Ow w' base (.slice (some ⟨g, 0, none⟩) N N) N zs' ∧ M.Wds zs' ∧ M.AddInv zs ys x i m q zs'

set_option maxHeartbeats 400000 in
set_option maxRecDepth 100000 in
theorem addTimes_any (w0 w : World) (lo base g N i n1 c1 m c x : Nat) (A : Option Addr) (zs ys : List Nat) (hu : Up w0 w) (hB : Wd w0 lo A m c ys) (hg : w0.heap.size ≤ g)
    (hown : Ow w base (.slice (some ⟨g, 0, none⟩) N N) N zs) (hwd : M.Wds zs) (hN : i + n1 ≤ N) (hm : m ≤ n1) (hx : x < 18446744073709551616) :
    Calls Tryd.prog 71 #[.slice (some ⟨g, i, none⟩) n1 c1, .slice A m c, u64 x] w (AddTimes w0 base g N m zs ys x i) := by
  have b1 := hB.small
  go_enter Tryd.func71, Tryd.ntmps71
  go_wp2_with fail
  go_loopw [7, 15] (fun c j wr => ∃ (k q : Nat) (zs' : List Nat), k ≤ m ∧ Hid (q < 18446744073709551616) ∧ c = u64 q ∧ j = .int .i64 k ∧ Up w0 wr ∧ Ow wr base (.slice (some ⟨g, 0, none⟩) N N) N zs' ∧ M.Wds zs' ∧ M.AddInv zs ys x i k q zs') (fun _ j _ => m - (intOf j).toNat)
  case atStart => exact ⟨0, 0, _, by omega, by simp [Hid], rfl, rfl, hu, hown, hwd, M.AddInv.start _ _ _ _⟩
  case round =>
    obtain ⟨k, q, zs', hk, hq, rfl, rfl, hu1, hown1, hwd1, HI⟩ := hrel
    clear hown hwd hu
    by_cases hlt : k < m
    · have hcB := (hB.up hu1).at_
      obtain ⟨bb, oo, rfl, _, hc⟩ := hcB (by omega)
      have hc1 := (hc k hlt).1
      have hzl := hown1.num
      have hcz := hown1.cellAt (i + k) (by omega)
      rw [cu_get (by omega), HI.word] at hcz
      have hfz := hown1.frozenAt (i + k)
      obtain ⟨y, hy⟩ : ∃ y, ys.getD k 0 = y := ⟨_, rfl⟩
      obtain ⟨z, hz⟩ : ∃ z, zs.getD (i + k) 0 = z := ⟨_, rfl⟩
      have hyb : y < 18446744073709551616 := by rw [← hy]; exact hB.wds.getD k
      have hzb : z < 18446744073709551616 := by rw [← hz, ← HI.word]; exact hwd1.getD _
      rw [hy] at hc1
      rw [hz] at hcz
      obtain ⟨hi1, lo1, e1, e2, e3, c1m⟩ := mul64_ex y x hyb hx
      obtain ⟨s1, d1, f1, f2, f3, run1⟩ := add64_zero lo1 q e1 hq.out
      obtain ⟨s2, d2, g1, g2, g3, run2⟩ := add64_zero z s1 hzb f1
      have hfin := M.word_carry hx hyb hzb hq.out e3 f3 g3
      have HE := Lib.hid (HI.step (by omega) hz hy hfin.1)
      have HQ := Lib.hid hfin.2
      have HW : Hid (IntKind.u64.wrap ((hi1 : Int) + d1 + d2) = ((hi1 + d1 + d2 : Nat) : Int)) := wrap_u64 (by omega) hfin.2
      have CM := Lib.hid c1m
      clear hc hcB hy hz hyb hzb e1 e3 f3 g3 hfin c1m
      go_wp2_with (go_at_call 109; refine (CM.out _).mono ?_; rintro _ _ ⟨rfl, rfl⟩)
      go_roundw
      case rel =>
        obtain ⟨h1, h2⟩ := hown1.stored (i + k) (u64 s2)
        rw [cu_set] at h1
        exact ⟨k + 1, _, _, by omega, HQ.out, by rw [HW.out], by go_num, hu1.setCell hg _, h1, hwd1.set _ g1, HE.out⟩
      case measure => simp [intOf]; omega
    · have hkm : k = m := by omega
      subst hkm
      go_wp2_with fail
      go_ret
      exact ⟨q, zs', rfl, hq.out, hu1, hown1, hwd1, HI⟩

set_option maxHeartbeats 400000 in
set_option maxRecDepth 100000 in
theorem mul_any (w : World) (lo lo' s s' : Nat) (v v' : Value) (a b : Nat) (h : Nw w lo s v a) (h' : Nw w lo' s' v' b) (hs : s ≤ 100000000000) (hs' : s' ≤ 100000000000) :
    Calls Tryd.prog 26 #[v, v'] w (Res (s + s') (a * b) w) := by
  obtain ⟨A, n, c, xs, rfl, hx, ha, hns⟩ := h
  obtain ⟨A', n', c', xs', rfl, hx', hb, hns'⟩ := h'
  have HA := Lib.hid ha
  have HB := Lib.hid hb
  clear ha hb
  go_enter Tryd.func26, Tryd.ntmps26
  go_wp2_with fail
  refine (trim_any w lo A n c xs hx).mono ?_
  rintro _ _ ⟨m, ys, rfl, rfl, hA, hny, hv, hmn⟩
  have HV : Hid (M.val ys = a) := hv.trans HA.out
  clear hx hv HA
  go_wp2_with fail
  refine (trim_any w lo' A' n' c' xs' hx').mono ?_
  rintro _ _ ⟨m', ys', rfl, rfl, hB, hny', hv', hmn'⟩
  have HV' : Hid (M.val ys' = b) := hv'.trans HB.out
  clear hx' hv' HB
  have b1 := hA.len
  have b3 := hB.len
  go_wp2_with (at_make; refine wpList_make_wd _ rfl (.tmp 16) (.tmp 16) 23 rfl info_u64 Tryd.underlying23 ((m : Int) + (m' : Int)) ((m : Int) + (m' : Int)) (m + m') rfl rfl (by omega) (by omega) (by omega) ?_; intro w1 hown1 hg1)
  have hu1 : Up w w1 := (Up.refl w).grown hg1 (by simp)
  go_loopw [20] (fun i wr => ∃ (k : Nat) (zs : List Nat), k ≤ m ∧ i = .int .i64 k ∧ Up w wr ∧ Ow wr w.heap.size (.slice (some ⟨w.heap.size, 0, none⟩) (m + m') (m + m')) (m + m') zs ∧ M.Wds zs ∧ M.MulInv ys ys' m' k zs) (fun i _ => m - (intOf i).toNat)
  case atStart => exact ⟨0, _, by omega, rfl, hu1, hown1, M.Wds.replicate _, M.MulInv.start _ _ _ _⟩
  case round =>
    obtain ⟨k, zs, hk, rfl, hu, hown, hwd, HI⟩ := hrel
    clear hown1 hg1 hu1
    by_cases hlt : k < m
    · obtain ⟨bb, oo, rfl, _, hc⟩ := (hA.up hu).at_ (by omega)
      have hc1 := (hc k hlt).1
      obtain ⟨x, hx⟩ : ∃ x, ys.getD k 0 = x := ⟨_, rfl⟩
      have hxb : x < 18446744073709551616 := by rw [← hx]; exact hA.wds.getD k
      rw [hx] at hc1
      have HX := Lib.hid hx
      have CW := Lib.hid (addTimes_any w wr lo' w.heap.size w.heap.size (m + m') k (m + m' - k) (m + m' - k) m' c' x A' zs ys' hu hB (Nat.le_refl _) hown hwd (by omega) (by omega) hxb)
      clear hc hx hxb
      have hzl := hown.num
      go_wp2_with fail
      refine CW.out.mono ?_
      rintro _ w2 ⟨q, zs2, rfl, hq, hu2, hown2, hwd2, hadd⟩
      have hzl2 := hown2.num
      have hcz := hown2.cellAt (k + m') (by omega)
      rw [cu_get (by omega)] at hcz
      have hfz := hown2.frozenAt (k + m')
      have HI2 := Lib.hid (HI.step hB.num (by omega) (by omega) HX.out hadd)
      have HQ := Lib.hid hq
      clear HI hadd hq CW hown hwd hu
      go_wp2_with fail
      go_roundw
      case rel =>
        obtain ⟨h1, h2⟩ := hown2.stored (k + m') (u64 q)
        rw [cu_set] at h1
        exact ⟨k + 1, _, by omega, by go_num, hu2.setCell (Nat.le_refl _) _, h1, hwd2.set _ HQ.out, HI2.out⟩
      case measure => simp [intOf]; omega
    · have hkm : k = m := by omega
      subst hkm
      have hzl := hown.num
      have hwd2 := Ow.wd_ hown hwd (by omega)
      have hvs : M.val zs = a * b := by
        have h1 := HI.1
        rwa [M.val_take_all (a := zs) (by omega), M.val_take_all (a := ys) (by have := hA.num; omega), HV.out, HV'.out] at h1
      have HVS := Lib.hid hvs
      clear hvs hwd hown HI
      go_wp2_with fail
      refine (trim_any _ _ _ _ _ _ hwd2).mono ?_
      rintro _ _ ⟨m2, zz, rfl, rfl, hd2, hn2, hv2, hm2⟩
      have HV2 : Hid (M.val zz = a * b) := hv2.trans HVS.out
      clear hv2 hwd2
      go_wp2_with fail
      go_ret
      exact ⟨_, rfl, ⟨_, _, _, zz, rfl, hd2, HV2.out, by omega, hn2⟩, hu⟩
end Go.Proofs.YteeepfhjbemgoaaDoor
