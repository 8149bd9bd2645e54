/-
  Shl: its contract.
-/
import Derived.Test.YtdokioefcfcfnaaDoorShift
namespace Go.Proofs.YtdokioefcfcfnaaDoor
open Go.RowKit Go.Shelf

set_option maxHeartbeats 1000000 in
set_option maxRecDepth 100000 in
theorem shl_any (w : World) (lo s : Nat) (v : Value) (a : Nat) (h : Nw w lo s v a) (hs : s ≤ 100000000) (n : Int) (N : Nat) (hN : max 0 (min n 131072) = (N : Int)) :
    Calls Tryd.prog 19 #[v, .int .i64 n] w (Res (s + N / 64 + 1) (a * 2 ^ N) w) := by
  obtain ⟨A, k, c, xs, rfl, hx, ha, hns⟩ := h
  have HA := Lib.hid ha
  have cl := clamp_any w n 131072
  rw [hN] at cl
  have CL := Lib.hid cl
  have hN1 : N ≤ 131072 := by omega
  have hN2 : N ≤ 10000000 := by omega
  clear ha cl hN hN1
  go_enter Tryd.func19, Tryd.ntmps19
  go_wp2_with fail
  refine (trim_any w lo A k c xs hx).mono ?_
  rintro _ _ ⟨m, ys, rfl, rfl, hy, hny, hv, hmn⟩
  have HV : Hid (M.val ys = a) := hv.trans HA.out
  clear hx hv HA
  go_wp2_with fail
  refine CL.out.mono ?_
  rintro _ _ ⟨rfl, rfl⟩
  go_wp2_with fail
  refine (shiftUp_any w lo A m c ys hy N hN2 (by omega)).mono ?_
  rintro _ w1 ⟨g, zs, rfl, hg, hown, hwd, hval, hu⟩
  have HZ : Hid (M.val zs = a * 2 ^ N) := by rw [Hid, hval, HV.out]
  obtain ⟨L, hL⟩ : ∃ L, m + N / 64 + 1 = L := ⟨_, rfl⟩
  have hLs : L ≤ s + N / 64 + 1 := by omega
  have hLb : L ≤ 1099511627776 := by omega
  rw [hL] at hown ⊢
  have hwd2 := Ow.wd_ hown hwd hLb
  clear hval hown hwd hL CL
  go_wp2_with fail
  refine (trim_any _ _ _ _ _ _ hwd2).mono ?_
  rintro _ _ ⟨m2, zz, rfl, rfl, hd2, hn2, hv2, hm2⟩
  go_wp2_with fail
  go_ret
  exact ⟨_, rfl, ⟨_, m2, _, zz, rfl, hd2, hv2.trans HZ.out, by omega, hn2⟩, hu⟩
end Go.Proofs.YtdokioefcfcfnaaDoor
