/-
  nat.Sub: its contract.
-/
import Derived.Test.YtbbjlcgfaigmdaaGreatDoorNa
namespace Go.Proofs.YtbbjlcgfaigmdaaGreatDoor
open Go.RowKit Go.Shelf

set_option maxHeartbeats 400000 in
set_option maxRecDepth 100000 in
theorem add_any (w : World) (lo lo' s : Nat) (v v' : Value) (a b : Nat) (h : Nw w lo s v a) (h' : Nw w lo' s v' b) (hs : s ≤ 1000000000) :
    Calls Tryz.prog 144 #[v, v'] w (Res (s + 1) (a + b) w) := by
  obtain ⟨A, n, c, xs, rfl, hx, ha, hns⟩ := h
  obtain ⟨A', n', c', xs', rfl, hx', hb, hns'⟩ := h'
  have HA := Lib.hid ha
  have HB := Lib.hid hb
  clear ha hb
  go_enter Tryz.func144, Tryz.ntmps144
  go_wp2_with fail
  refine (trim_any w lo A n c xs hx).mono ?_
  rintro _ _ ⟨m, ys, rfl, rfl, hy, hny, hv, hmn⟩
  have HV : Hid (M.val ys = a) := hv.trans HA.out
  clear hx hv HA
  go_wp2_with fail
  refine (trim_any w lo' A' n' c' xs' hx').mono ?_
  rintro _ _ ⟨m', ys', rfl, rfl, hy', hny', hv', hmn'⟩
  have HV' : Hid (M.val ys' = b) := hv'.trans HB.out
  clear hx' hv' HB
  by_cases hm : m < m'
  · have hA := hy'
    have hB := hy
    have FIN : Hid (M.val ys' + M.val ys = a + b) := by
      show _ = _
      rw [HV.out, HV'.out, Nat.add_comm]
    clear HV HV' hy hy'
    have b1 := hA.len
    have b2 := hA.small
    have b3 := hB.len
    have b4 := hB.small
    go_wp2_with (at_make; refine wpList_make_wd _ rfl (.tmp 22) (.tmp 22) 39 rfl info_u64 Tryz.underlying39 ((m' : Int) + 1) ((m' : Int) + 1) (m' + 1) rfl rfl (by omega) (by omega) (by omega) ?_; intro w1 hown1 hg1)
    have hu1 : Up w w1 := (Up.refl w).grown hg1 (by simp)
    have hz1 : w.heap.size < w1.heap.size := (hown1.lt _ rfl).2
    go_loopw [6, 26] (fun c i wr => ∃ (k q : Nat) (zs : List Nat), k ≤ m' ∧ q ≤ 1 ∧ c = u64 q ∧ i = .int .i64 k ∧ Up w wr ∧ Ow wr w.heap.size (.slice (some ⟨w.heap.size, 0, none⟩) (m' + 1) (m' + 1)) (m' + 1) zs ∧ M.Wds zs ∧ Hid (M.val (zs.take k) + 18446744073709551616 ^ k * q = M.val (ys'.take k) + M.val (ys.take k))) (fun _ i _ => m' - (intOf i).toNat)
    case atStart => exact ⟨0, 0, _, by omega, by omega, rfl, rfl, hu1, hown1, M.Wds.replicate _, by simp [Hid, M.val]⟩
    case round =>
      obtain ⟨k, q, zs, hk, hq, rfl, rfl, hu, hown, hwd, HI⟩ := hrel
      have hcA := (hA.up hu).at_
      have hWB := hB.up hu
      have hzl := hown.num
      clear hown1 hg1 hu1 hz1
      by_cases hlt : k < m'
      · obtain ⟨bb, oo, rfl, _, hc⟩ := hcA (by omega)
        have hc1 := (hc k hlt).1
        obtain ⟨x, hx⟩ : ∃ x, ys'.getD k 0 = x := ⟨_, rfl⟩
        obtain ⟨y, hy⟩ : ∃ y, ys.getD k 0 = y := ⟨_, rfl⟩
        have hxb : x < 18446744073709551616 := by rw [← hx]; exact hA.wds.getD k
        have hyb : y < 18446744073709551616 := by rw [← hy]; exact hB.wds.getD k
        rw [hx] at hc1
        obtain ⟨s1, d1, hs1, hd1, he1, hrun⟩ := add64_ex x y q hxb hyb hq
        have hcz := hown.cellAt k (by omega)
        rw [cu_get (by omega)] at hcz
        have hfz := hown.frozenAt k
        have HE := Lib.hid (M.add_step (i := k) (s := s1) (d := d1) (zs := zs) (by omega) HI.out (by rw [hx, hy]; exact he1))
        have HX := Lib.hid hx
        have cw := Lib.hid (wordAt_nat wr _ _ _ _ _ hWB k (by omega) y hy)
        clear hx hy he1 hxb hyb hc hcA
        go_wp2_with (go_at_call 173; refine cw.out.mono ?_; rintro _ _ ⟨rfl, rfl⟩)
        go_roundw
        case rel =>
          obtain ⟨h1, h2⟩ := hown.stored k (u64 s1)
          rw [cu_set] at h1
          exact ⟨k + 1, d1, zs.set k s1, by omega, hd1, rfl, by go_num, hu.setCell (Nat.le_refl _) _, h1, hwd.set k hs1, HE.out⟩
        case measure => simp [intOf]; omega
      · have hkm : k = m' := by omega
        subst hkm
        have hcz := hown.cellAt k (by omega)
        rw [cu_get (by omega)] at hcz
        have hfz := hown.frozenAt k
        obtain ⟨h1, h2⟩ := hown.stored k (u64 q)
        rw [cu_set] at h1
        have hwd2 := Ow.wd_ h1 (hwd.set k (by omega)) (by omega)
        have hvs : M.val (zs.set k q) = a + b := by
          rw [M.val_set_last (by omega), HI.out, M.val_take_all (by have := hA.num; omega), M.val_take_all (by have := hB.num; omega)]
          exact FIN.out
        have HVS := Lib.hid hvs
        have hu2 := hu.setCell (p := ⟨w.heap.size, k, none⟩) (Nat.le_refl _) (u64 q)
        clear hvs h1 h2 hwd hown hWB hcA
        go_wp2_with fail
        refine (trim_any _ _ _ _ _ _ hwd2).mono ?_
        rintro _ _ ⟨m2, zz, rfl, rfl, hd2, hn2, hv2, hm2⟩
        have HV2 : Hid (M.val zz = a + b) := hv2.trans HVS.out
        clear hv2 hwd2
        go_wp2_with fail
        go_ret
        exact ⟨_, rfl, ⟨_, _, _, zz, rfl, hd2, HV2.out, by omega, hn2⟩, hu2⟩
  · have hA := hy
    have hB := hy'
    have FIN : Hid (M.val ys + M.val ys' = a + b) := by
      show _ = _
      rw [HV.out, HV'.out]
    clear HV HV' hy hy'
    have b1 := hA.len
    have b2 := hA.small
    have b3 := hB.len
    have b4 := hB.small
    go_wp2_with (at_make; refine wpList_make_wd _ rfl (.tmp 22) (.tmp 22) 39 rfl info_u64 Tryz.underlying39 ((m : Int) + 1) ((m : Int) + 1) (m + 1) rfl rfl (by omega) (by omega) (by omega) ?_; intro w1 hown1 hg1)
    have hu1 : Up w w1 := (Up.refl w).grown hg1 (by simp)
    have hz1 : w.heap.size < w1.heap.size := (hown1.lt _ rfl).2
    go_loopw [6, 26] (fun c i wr => ∃ (k q : Nat) (zs : List Nat), k ≤ m ∧ q ≤ 1 ∧ c = u64 q ∧ i = .int .i64 k ∧ Up w wr ∧ Ow wr w.heap.size (.slice (some ⟨w.heap.size, 0, none⟩) (m + 1) (m + 1)) (m + 1) zs ∧ M.Wds zs ∧ Hid (M.val (zs.take k) + 18446744073709551616 ^ k * q = M.val (ys.take k) + M.val (ys'.take k))) (fun _ i _ => m - (intOf i).toNat)
    case atStart => exact ⟨0, 0, _, by omega, by omega, rfl, rfl, hu1, hown1, M.Wds.replicate _, by simp [Hid, M.val]⟩
    case round =>
      obtain ⟨k, q, zs, hk, hq, rfl, rfl, hu, hown, hwd, HI⟩ := hrel
      have hcA := (hA.up hu).at_
      have hWB := hB.up hu
      have hzl := hown.num
      clear hown1 hg1 hu1 hz1
      by_cases hlt : k < m
      · obtain ⟨bb, oo, rfl, _, hc⟩ := hcA (by omega)
        have hc1 := (hc k hlt).1
        obtain ⟨x, hx⟩ : ∃ x, ys.getD k 0 = x := ⟨_, rfl⟩
        obtain ⟨y, hy⟩ : ∃ y, ys'.getD k 0 = y := ⟨_, rfl⟩
        have hxb : x < 18446744073709551616 := by rw [← hx]; exact hA.wds.getD k
        have hyb : y < 18446744073709551616 := by rw [← hy]; exact hB.wds.getD k
        rw [hx] at hc1
        obtain ⟨s1, d1, hs1, hd1, he1, hrun⟩ := add64_ex x y q hxb hyb hq
        have hcz := hown.cellAt k (by omega)
        rw [cu_get (by omega)] at hcz
        have hfz := hown.frozenAt k
        have HE := Lib.hid (M.add_step (i := k) (s := s1) (d := d1) (zs := zs) (by omega) HI.out (by rw [hx, hy]; exact he1))
        have HX := Lib.hid hx
        have cw := Lib.hid (wordAt_nat wr _ _ _ _ _ hWB k (by omega) y hy)
        clear hx hy he1 hxb hyb hc hcA
        go_wp2_with (go_at_call 173; refine cw.out.mono ?_; rintro _ _ ⟨rfl, rfl⟩)
        go_roundw
        case rel =>
          obtain ⟨h1, h2⟩ := hown.stored k (u64 s1)
          rw [cu_set] at h1
          exact ⟨k + 1, d1, zs.set k s1, by omega, hd1, rfl, by go_num, hu.setCell (Nat.le_refl _) _, h1, hwd.set k hs1, HE.out⟩
        case measure => simp [intOf]; omega
      · have hkm : k = m := by omega
        subst hkm
        have hcz := hown.cellAt k (by omega)
        rw [cu_get (by omega)] at hcz
        have hfz := hown.frozenAt k
        obtain ⟨h1, h2⟩ := hown.stored k (u64 q)
        rw [cu_set] at h1
        have hwd2 := Ow.wd_ h1 (hwd.set k (by omega)) (by omega)
        have hvs : M.val (zs.set k q) = a + b := by
          rw [M.val_set_last (by omega), HI.out, M.val_take_all (by have := hA.num; omega), M.val_take_all (by have := hB.num; omega)]
          exact FIN.out
        have HVS := Lib.hid hvs
        have hu2 := hu.setCell (p := ⟨w.heap.size, k, none⟩) (Nat.le_refl _) (u64 q)
        clear hvs h1 h2 hwd hown hWB hcA
        go_wp2_with fail
        refine (trim_any _ _ _ _ _ _ hwd2).mono ?_
        rintro _ _ ⟨m2, zz, rfl, rfl, hd2, hn2, hv2, hm2⟩
        have HV2 : Hid (M.val zz = a + b) := hv2.trans HVS.out
        clear hv2 hwd2
        go_wp2_with fail
        go_ret
        exact ⟨_, rfl, ⟨_, _, _, zz, rfl, hd2, HV2.out, by omega, hn2⟩, hu2⟩
end Go.Proofs.YtbbjlcgfaigmdaaGreatDoor
namespace Go.Proofs.YtbbjlcgfaigmdaaGreatDoor
open Go.RowKit Go.Shelf

end Go.Proofs.YtbbjlcgfaigmdaaGreatDoor
