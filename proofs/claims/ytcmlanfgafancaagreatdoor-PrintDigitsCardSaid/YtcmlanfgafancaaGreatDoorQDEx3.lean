import Derived.Test.YtcmlanfgafancaaGreatDoorQDNb
import Derived.Test.YtcmlanfgafancaaGreatDoorQDNa
import Derived.Deep.RegionHeld3
import Derived.Deep.DrawnRows
import Derived.Test.YtcmlanfgafancaaGreatDoorQDTake
import Derived.Deep.DeepCutAuto
import Derived.OwnWalk
import Derived.BigQuiet
import Derived.Deep.RegionLaw
import Derived.Deep.QuietTactic
import Derived.Test.YtcmlanfgafancaaGreatDoorQDDigm
import Derived.Deep.LoopGhost
import Derived.Test.YtcmlanfgafancaaGreatDoorQDObm
import Derived.LoopTactic
import Derived.Deep.RegionWith
set_option maxHeartbeats 32000000
set_option linter.unusedVariables false
set_option linter.unusedSimpArgs false
namespace Go.Proofs.YtcmlanfgafancaaGreatDoor
open Go.RowKit Go.Shelf
namespace M
def shr (s : Nat) : List Nat → List Nat
 | [] => []
 | x :: r => (x / 2 ^ s + r.getD 0 0 * 2 ^ (64 - s) % 18446744073709551616) :: shr s r
theorem shr_length (s : Nat) : ∀ xs, (shr s xs).length = xs.length
 | [] => rfl
 | x :: r => by rw [shr, List.length_cons, List.length_cons, shr_length s r]
theorem shr_getD (s : Nat) : ∀ (xs : List Nat) (j : Nat), j < xs.length → (shr s xs).getD j 0 = xs.getD j 0 / 2 ^ s + xs.getD (j + 1) 0 * 2 ^ (64 - s) % 18446744073709551616
 | [], j, h => by simp at h
 | x :: r, 0, _ => rfl
 | x :: r, j + 1, h => by
  rw [shr, List.getD_cons_succ, shr_getD s r j (by simpa using h), List.getD_cons_succ, List.getD_cons_succ]
theorem val_mod (s : Nat) (hs : s < 64) (r : List Nat) : val r % 2 ^ s = r.getD 0 0 % 2 ^ s := by
 cases r with
 | nil => rfl
 | cons x r =>
  have hB : (18446744073709551616 : Nat) = 2 ^ s * 2 ^ (64 - s) := by rw [← Nat.pow_add, show s + (64 - s) = 64 from by omega]
  rw [val, List.getD_cons_zero, hB, Nat.mul_assoc, Nat.add_mul_mod_self_left]
theorem val_shr (s : Nat) (hs : s < 64) : ∀ xs, val (shr s xs) = val xs / 2 ^ s
 | [] => by simp [shr, val]
 | x :: r => by
  have hB : (18446744073709551616 : Nat) = 2 ^ s * 2 ^ (64 - s) := by rw [← Nat.pow_add, show s + (64 - s) = 64 from by omega]
  have hp : 0 < 2 ^ s := Nat.pow_pos (by omega)
  have e1 : r.getD 0 0 * 2 ^ (64 - s) % 18446744073709551616 = (val r % 2 ^ s) * 2 ^ (64 - s) := by
   rw [hB, Nat.mul_mod_mul_right, val_mod s hs r]
  have e2 : (x + 18446744073709551616 * val r) / 2 ^ s = x / 2 ^ s + 2 ^ (64 - s) * val r := by
   rw [hB, Nat.mul_assoc, Nat.add_mul_div_left _ _ hp]
  have e3 : 2 ^ (64 - s) * val r = (val r % 2 ^ s) * 2 ^ (64 - s) + 18446744073709551616 * (val r / 2 ^ s) := by
   have h := Nat.mod_add_div (val r) (2 ^ s)
   calc 2 ^ (64 - s) * val r = 2 ^ (64 - s) * (val r % 2 ^ s + 2 ^ s * (val r / 2 ^ s)) := by rw [h]
    _ = _ := by rw [Nat.mul_add, hB, Nat.mul_comm (2 ^ (64 - s)) (val r % 2 ^ s), ← Nat.mul_assoc, Nat.mul_comm (2 ^ (64 - s)) (2 ^ s)]
  rw [shr, val, val, val_shr s hs r, e1, e2, e3]
  omega
theorem val_div {xs : List Nat} (h : Wds xs) (S : Nat) (hS : S ≤ xs.length) : val (xs.drop S) = val xs / 18446744073709551616 ^ S := by
 have h1 := val_split xs S hS
 have h2 := val_lt (h.take S)
 rw [List.length_take, Nat.min_eq_left hS] at h2
 rw [h1, Nat.add_mul_div_left _ _ (Nat.pow_pos (by omega)), Nat.div_eq_of_lt h2, Nat.zero_add]
theorem val_shr_drop {xs : List Nat} (h : Wds xs) {S s N : Nat} (hs : s < 64) (hN : N = 64 * S + s) (hS : S ≤ xs.length) : val (shr s (xs.drop S)) = val xs / 2 ^ N := by
 rw [val_shr s hs, val_div h S hS, Nat.div_div_eq_div_mul, hN, Nat.pow_add, Nat.pow_mul]
end M
end Go.Proofs.YtcmlanfgafancaaGreatDoor
namespace Go.Proofs.YtcmlanfgafancaaGreatDoor
open Go.RowKit Go.Shelf
theorem or_down (x y s : Nat) (hx : x < 18446744073709551616) (hs : s < 64) :
  bits .or .u64 ((x / 2 ^ s : Nat) : Int) (IntKind.u64.wrap ((y : Int) * 2 ^ (64 - s))) = ((x / 2 ^ s + y * 2 ^ (64 - s) % 18446744073709551616 : Nat) : Int) ∧ x / 2 ^ s + y * 2 ^ (64 - s) % 18446744073709551616 < 18446744073709551616 := by
 have hB : (18446744073709551616 : Nat) = 2 ^ s * 2 ^ (64 - s) := by rw [← Nat.pow_add, show s + (64 - s) = 64 from by omega]
 have hp : 0 < 2 ^ s := Nat.pow_pos (by omega)
 have hq : 0 < 2 ^ (64 - s) := Nat.pow_pos (by omega)
 have h1 : x / 2 ^ s < 2 ^ (64 - s) := Nat.div_lt_of_lt_mul (by rw [← hB]; exact hx)
 have e1 : (y : Int) * 2 ^ (64 - s) = ((y * 2 ^ (64 - s) : Nat) : Int) := by simp
 have e2 : IntKind.u64.wrap ((y * 2 ^ (64 - s) : Nat) : Int) = ((y * 2 ^ (64 - s) % 18446744073709551616 : Nat) : Int) := by
  rw [IntKind.wrap_u64]; omega
 have h2 : y * 2 ^ (64 - s) % 18446744073709551616 % 2 ^ (64 - s) = 0 := by
  rw [hB, Nat.mul_mod_mul_right]
  exact Nat.mul_mod_left _ _
 have h3 : y * 2 ^ (64 - s) % 18446744073709551616 + 2 ^ (64 - s) ≤ 18446744073709551616 := by
  rw [hB, Nat.mul_mod_mul_right]
  have h4 : y % 2 ^ s < 2 ^ s := Nat.mod_lt _ hp
  calc y % 2 ^ s * 2 ^ (64 - s) + 2 ^ (64 - s) = (y % 2 ^ s + 1) * 2 ^ (64 - s) := by rw [Nat.add_mul, Nat.one_mul]
   _ ≤ _ := Nat.mul_le_mul_right _ h4
 have h5 : (2 : Nat) ^ (64 - s) ≤ 2 ^ 64 := Nat.pow_le_pow_right (by omega) (by omega)
 refine ⟨?_, by omega⟩
 rw [e1, e2, bits_or_u64_nat _ _ (by omega) (by omega), Nat.or_comm, nat_join (64 - s) _ _ h2 h1, Nat.add_comm]
set_option maxRecDepth 100000 in
theorem shr_any (w : World) (lo s0 : Nat) (v : Value) (a : Nat) (h : Nw w lo s0 v a) (n : Int) (N : Nat) (hN : max 0 (min n 131072) = (N : Int)) :
  Calls Tryz.prog 262 #[v, .int .i64 n] w (Res s0 (a / 2 ^ N) w) := by
 obtain ⟨A, k, c, xs, rfl, hx, ha, hns⟩ := h
 have HA := Lib.hid ha
 have cl := clamp_any w n 131072
 rw [hN] at cl
 have CL := Lib.hid cl
 have hN1 : N ≤ 131072 := by omega
 obtain ⟨S, hS⟩ : ∃ S, N / 64 = S := ⟨_, rfl⟩
 obtain ⟨s, hs⟩ : ∃ s, N % 64 = s := ⟨_, rfl⟩
 have hs64 : s < 64 := by omega
 have hSb : S ≤ 2048 := by omega
 have q1 : (N : Int) / 64 = (S : Int) := by omega
 have q2 : (N : Int) % 64 = (s : Int) := by omega
 have q3 : (N : Int).tdiv 64 = (S : Int) := by rw [Int.tdiv_eq_ediv_of_nonneg (by omega)]; exact q1
 have q4 : (N : Int).tmod 64 = (s : Int) := by rw [Int.tmod_eq_emod_of_nonneg (by omega)]; exact q2
 have HN : Hid (N = 64 * S + s) := by show _ = _; omega
 clear ha cl hN hN1 hS hs
 go_enter Tryz.func262, Tryz.ntmps262
 go_wp2_with fail
 refine (trim_any w lo A k c xs hx).mono ?_
 rintro _ _ ⟨m, ys, rfl, rfl, hy, hny, hv, hmn⟩
 have HV : Hid (M.val ys = a) := hv.trans HA.out
 clear hx hv HA
 go_wp2_with fail
 refine CL.out.mono ?_
 rintro _ _ ⟨rfl, rfl⟩
 have b1 := hy.len
 have b2 := hy.small
 by_cases hSm : m ≤ S
 ·have h0 : a / 2 ^ N = 0 := by
   apply Nat.div_eq_of_lt
   rw [← HV.out, HN.out, Nat.pow_add, Nat.pow_mul]
   have h1 := M.val_lt hy.wds
   rw [hy.num] at h1
   have h2 : (18446744073709551616 : Nat) ^ m ≤ 18446744073709551616 ^ S := Nat.pow_le_pow_right (by omega) hSm
   have h3 : (18446744073709551616 : Nat) ^ S * 1 ≤ 18446744073709551616 ^ S * 2 ^ s := Nat.mul_le_mul_left _ (Nat.pow_pos (by omega))
   show _ < 18446744073709551616 ^ S * 2 ^ s
   omega
  have H0 := Lib.hid h0
  clear h0
  go_wp2_with fail
  go_ret
  rw [H0.out]
  exact ⟨_, rfl, Nt.nil _ _ _, Up.refl w⟩
 ·obtain ⟨L, hL⟩ : ∃ L, m - S = L := ⟨_, rfl⟩
  have qL : (m : Int) - (S : Int) = (L : Int) := by omega
  have hLb : L ≤ m := by omega
  have hSm2 : S < m := by omega
  have HL : Hid (m = S + L) := by show _ = _; omega
  clear hL hSm
  go_wp2_with (at_make; refine wpList_make_wd _ rfl (.tmp 24) (.tmp 24) 42 rfl info_u64 Tryz.underlying42 (L : Int) (L : Int) L rfl rfl (by omega) (by omega) (by omega) ?_; intro w1 hown1 hg1)
  have hu1 : Up w w1 := (Up.refl w).grown hg1 (by simp)
  have hst : Hid (∀ j, j < 0 → (List.replicate L 0).getD j 0 = (M.shr s (ys.drop S)).getD j 0) := fun j hj => by omega
  go_loopw [28] (fun i wr => ∃ (k : Nat) (zs : List Nat), k ≤ L ∧ i = .int .i64 k ∧ Up w wr ∧ Ow wr w.heap.size (.slice (some ⟨w.heap.size, 0, none⟩) L L) L zs ∧ M.Wds zs ∧ Hid (∀ j, j < k → zs.getD j 0 = (M.shr s (ys.drop S)).getD j 0)) (fun i _ => L - (intOf i).toNat)
  case atStart => exact ⟨0, _, by omega, rfl, hu1, hown1, M.Wds.replicate _, hst⟩
  case round =>
   obtain ⟨k, zs, hk, rfl, hu, hown, hwd, HI⟩ := hrel
   have hcA := (hy.up hu).at_
   have hWB := hy.up hu
   have hzl := hown.num
   clear hown1 hg1 hu1 hst
   by_cases hlt : k < L
   ·have hcW := hy.at_
    obtain ⟨bb, oo, rfl, _, hc⟩ := hcA (by omega)
    have hnb : ¬ bb = w.heap.size := by
     obtain ⟨b', o', e, _, hcw⟩ := hcW (by omega)
     injection e with e
     injection e with e1 _ _
     have := World.block_lt_of_cell? w _ (hcw 0 (by omega)).1
     simp only at this
     omega
    have hnb' : ¬ w.heap.size = bb := fun h => hnb h.symm
    clear hcW
    obtain ⟨P, hP⟩ : ∃ P, S + k = P := ⟨_, rfl⟩
    have qP : (S : Int) + (k : Int) = (P : Int) := by omega
    have hPm : P < m := by have := HL.out; omega
    have hPi : (P : Int) < (m : Int) := by omega
    have hPb : P ≤ 1099511627776 := by omega
    have hki : (k : Int) < (L : Int) := by omega
    have hc1 := (hc P hPm).1
    obtain ⟨x, hxk⟩ : ∃ x, ys.getD P 0 = x := ⟨_, rfl⟩
    obtain ⟨y, hyk⟩ : ∃ y, ys.getD (P + 1) 0 = y := ⟨_, rfl⟩
    have hxb : x < 18446744073709551616 := by rw [← hxk]; exact hy.wds.getD P
    have hyb : y < 18446744073709551616 := by rw [← hyk]; exact hy.wds.getD (P + 1)
    rw [hxk] at hc1
    obtain ⟨hor, hZb⟩ := or_down x y s hxb hs64
    have hj : (M.shr s (ys.drop S)).getD k 0 = x / 2 ^ s + y * 2 ^ (64 - s) % 18446744073709551616 := by
     rw [M.shr_getD s _ k (by rw [List.length_drop, hy.num]; have := HL.out; omega)]
     rw [List.getD_eq_getElem?_getD, List.getD_eq_getElem?_getD, List.getElem?_drop, List.getElem?_drop, ← List.getD_eq_getElem?_getD, ← List.getD_eq_getElem?_getD, hP, show S + (k + 1) = P + 1 from by omega, hxk, hyk]
    obtain ⟨Z, hZ⟩ : ∃ Z, x / 2 ^ s + y * 2 ^ (64 - s) % 18446744073709551616 = Z := ⟨_, rfl⟩
    obtain ⟨X1, hX1⟩ : ∃ X1, x / 2 ^ s = X1 := ⟨_, rfl⟩
    obtain ⟨cs, hcs⟩ : ∃ cs, 64 - s = cs := ⟨_, rfl⟩
    have hcs64 : cs ≤ 64 := by omega
    rw [hZ] at hor hZb hj
    rw [hX1, hcs] at hor
    have q5 : (64 : Int) - (s : Int) = (cs : Int) := by omega
    have q6 : (x : Int) / 2 ^ s = (X1 : Int) := by rw [← hX1]; simp
    have HE : Hid (∀ j, j < k + 1 → (zs.set k Z).getD j 0 = (M.shr s (ys.drop S)).getD j 0) := fun j hj2 => by
     by_cases e : j = k
     ·rw [e, M.getD_set_eq (by omega), hj]
     ·rw [M.getD_set_ne' (by omega)]; exact HI.out j (by omega)
    have cg : ∀ q, Calls Tryz.prog 214 #[.slice (some ⟨bb, oo, none⟩) m c, .int .i64 ((P : Int) + 1)] (wr.drewN q) (Same (u64 y) (wr.drewN q)) := fun q => by
     have := wordAt_nat (wr.drewN q) _ _ _ _ _ (hy.up (hu.drewN q)) (P + 1) (by omega) y hyk
     exact this
    have CG := Lib.hid cg
    have CG1 := Lib.hid (show Calls Tryz.prog 214 #[.slice (some ⟨bb, oo, none⟩) m c, .int .i64 ((P : Int) + 1)] wr.drew (Same (u64 y) wr.drew) from cg 1)
    have hcz := hown.cellAt k (by omega)
    rw [cu_get (by omega)] at hcz
    have hfz := hown.frozenAt k
    clear hc hcA hxk hyk hj hZ hX1 hcs hP cg
    have qw1 : IntKind.i64.wrap ((P : Int) + 1) = (P : Int) + 1 := by simp [IntKind.wrap, IntKind.bits, IntKind.signed]; omega
    have qwP : IntKind.i64.wrap (P : Int) = (P : Int) := by simp [IntKind.wrap, IntKind.bits, IntKind.signed]; omega
    have qwc : IntKind.i64.wrap (cs : Int) = (cs : Int) := by simp [IntKind.wrap, IntKind.bits, IntKind.signed]; omega
    have hP0 : (0 : Int) ≤ (P : Int) := by omega
    go_wp2_with fail
    go_region_held3 (fun w' => w'.cell? ⟨bb, oo + P, none⟩ = some (u64 x)) (go_keep) ((go_at_call 214; refine (CG.out _).mono ?_; rintro _ _ ⟨rfl, rfl⟩))
    obtain ⟨h1, _⟩ := hown.stored k (u64 Z)
    rw [cu_set] at h1
    have hown2 : Ow (wr.drew.setCell ⟨w.heap.size, k, none⟩ (u64 Z)) w.heap.size (.slice (some ⟨w.heap.size, 0, none⟩) L L) L (zs.set k Z) := Ow.up h1 ((Up.refl _).drewN 1)
    have hu2 : Up w (wr.drew.setCell ⟨w.heap.size, k, none⟩ (u64 Z)) := (hu.drewN 1).setCell (Nat.le_refl _) _
    clear qw1 qwP qwc
    go_wp2_with fail
    go_roundw
    case rel => exact ⟨k + 1, _, by omega, by go_num, hu2, hown2, hwd.set k hZb, HE⟩
    case measure => simp [intOf]; omega
   ·have hkL : k = L := by omega
    subst hkL
    have hzs : zs = M.shr s (ys.drop S) := by
     refine M.ext_getD (by rw [M.shr_length, List.length_drop, hy.num, hzl]; have := HL.out; omega) fun j hj => HI.out j (by omega)
    have hvs : M.val zs = a / 2 ^ N := by
     rw [hzs, M.val_shr_drop hy.wds hs64 HN.out (by rw [hy.num]; omega), HV.out]
    have HVS := Lib.hid hvs
    have hwd2 := Ow.wd_ hown hwd (by omega)
    clear hvs hzs hown HI hcA hWB
    go_wp2_with fail
    refine (trim_any _ _ _ _ _ _ hwd2).mono ?_
    rintro _ _ ⟨m2, zz, rfl, rfl, hd2, hn2, hv2, hm2⟩
    have HV2 : Hid (M.val zz = a / 2 ^ N) := hv2.trans HVS.out
    clear hv2 hwd2
    go_wp2_with fail
    go_ret
    exact ⟨_, rfl, ⟨_, _, _, zz, rfl, hd2, HV2.out, by omega, hn2⟩, hu⟩
end Go.Proofs.YtcmlanfgafancaaGreatDoor
namespace Go.Proofs.YtcmlanfgafancaaGreatDoor
open Go.RowKit Go.Shelf
theorem shiftUp_up (w w' : World) (lo : Nat) (A : Option Addr) (n c : Nat) (xs : List Nat) (hx : Wd w lo A n c xs) (hu : Up w w') (N : Nat) (hN : N ≤ 63) (hn : n ≤ 1000000000) :
  Calls Tryz.prog 152 #[.slice A n c, .int .i64 N] w' (Rw (n + 1) (M.val xs * 2 ^ N) w') := by
 have := shiftUp_any w' lo A n c xs (hx.up hu) N (by omega) hn
 rwa [show N / 64 = 0 from by omega, Nat.add_zero] at this
theorem Ow.low {w : World} {base base' : Nat} {v : Value} {n : Nat} {xs : List Nat} (h : Ow w base v n xs) (hb : base' ≤ base) : Ow w base' v n xs := by
 obtain ⟨h1, h2⟩ := h
 refine ⟨h1, ?_⟩
 rcases h2 with h2 | ⟨g, cap, cur, e, k1, k2⟩
 ·exact .inl h2
 ·exact .inr ⟨g, cap, cur, e, Nat.le_trans hb k1, k2⟩
def Two (w : World) (n n' a b : Nat) (r d : Value) (wx : World) : Prop :=
 ∃ (g g' : Nat) (zs bs : List Nat), r = .slice (some ⟨g, 0, none⟩) (n + 1 : Nat) (n + 1) ∧ d = .slice (some ⟨g', 0, none⟩) n' (n' + 1) ∧ w.heap.size ≤ g ∧ g ≠ g' ∧ Ow wx w.heap.size (.slice (some ⟨g, 0, none⟩) (n + 1) (n + 1)) (n + 1) zs ∧ M.Wds zs ∧ M.val zs = a ∧
  Wd wx w.heap.size (some ⟨g', 0, none⟩) n' (n' + 1) bs ∧ M.val bs = b ∧ Up w wx
theorem two_mk {w wa wb wx : World} {n n' a b g g' : Nat} {zs bs : List Nat} (hua : Up w wa) (hub : Up w wb) (hga : wa.heap.size ≤ g) (hne : g ≠ g')
  (h1 : Ow wx wa.heap.size (.slice (some ⟨g, 0, none⟩) (n + 1) (n + 1)) (n + 1) zs) (h2 : M.Wds zs) (h3 : M.val zs = a)
  (k1 : Ow wx wb.heap.size (.slice (some ⟨g', 0, none⟩) (n' + 1) (n' + 1)) (n' + 1) bs) (k2 : M.Wds bs) (k3 : M.val bs = b) (hb : b < 18446744073709551616 ^ n') (hn' : n' ≤ 1000000000) (hu : Up w wx) :
  Two w n n' a b (.slice (some ⟨g, 0, none⟩) (n + 1 : Nat) (n + 1)) (.slice (some ⟨g', 0, none⟩) n' (n' + 1)) wx := by
 have hl := k1.num
 have hd := (Ow.wd_ k1 k2 (by omega)).take (show n' ≤ n' + 1 by omega)
 have hv : M.val (bs.take n') = b := by rw [M.val_take_small (by omega) (by rw [k3]; exact hb)]; exact k3
 have h1' : Ow wx w.heap.size (.slice (some ⟨g, 0, none⟩) (n + 1) (n + 1)) (n + 1) zs := h1.low (Up.size hua)
 exact ⟨g, g', zs, bs.take n', rfl, rfl, Nat.le_trans (Up.size hua) hga, hne, h1', h2, h3, hd.lower (Up.size hub), hv, hu⟩
set_option maxRecDepth 100000 in
theorem divideLong_any : DivLong := by
 intro w lo lo' A A' n c n' c' xs ys hx hy hnx hny hn h2 hnn
 obtain ⟨p, hp⟩ : ∃ p, n' = p + 2 := ⟨n' - 2, by omega⟩
 have hyl := hy.num
 have hxl := hx.num
 have hn'b := hy.len
 obtain ⟨y, hyk⟩ : ∃ y, ys.getD (p + 1) 0 = y := ⟨_, rfl⟩
 have hy0 : y ≠ 0 := by rw [← hyk]; exact M.top_ne hny (by omega)
 have hyb : y < 18446744073709551616 := by rw [← hyk]; exact hy.wds.getD _
 obtain ⟨b1, b2, b3, b4, b5⟩ := M.bitLen_bounds hyb (by omega)
 obtain ⟨s, hs⟩ : ∃ s, 64 - M.bits y = s := ⟨_, rfl⟩
 rw [hs] at b4 b5
 have hs63 : s ≤ 63 := by omega
 have cl : Calls Tryz.prog 260 #[u64 y] w (Same (.int .i64 (s : Int)) w) := by
  have := lead64_any y hyb w
  rwa [b1, show (64 : Int) - ((M.bits y : Nat) : Int) = (s : Int) from by omega] at this
 have CLZ := Lib.hid cl
 obtain ⟨f1, f2⟩ := M.shifted_fits hy.wds (show ys.length = p + 1 + 1 by omega) hyk hs63 b4 b5
 have F1 : Hid (M.val ys * 2 ^ s < 18446744073709551616 ^ n') := by rw [Hid, hp]; exact f1
 have F2 := Lib.hid f2
 have hxlt := M.val_lt hx.wds
 rw [hxl] at hxlt
 have HXL := Lib.hid hxlt
 obtain ⟨bb, oo, rfl, _, hc⟩ := hy.at_ (by omega)
 have hc1 := (hc (p + 1) (by omega)).1
 rw [hyk] at hc1
 obtain ⟨m1, hm1⟩ : ∃ m1, p + 1 = m1 := ⟨_, rfl⟩
 rw [hm1] at hc1
 have q1 : (n' : Int) - 1 = (m1 : Int) := by omega
 have l1 : m1 < n' := by omega
 obtain ⟨L, hL⟩ : ∃ L, n - n' + 1 = L := ⟨_, rfl⟩
 have q2 : (n : Int) - (n' : Int) + 1 = (L : Int) := by omega
 have l2 : L ≤ n := by omega
 have HP := Lib.hid hp
 have HLN : Hid (n + 1 = L + n') := by show _ = _; omega
 clear hyk hy0 hyb b1 b2 b3 b4 b5 hs cl f1 f2 hxlt hc hm1 hp hL hyl hxl hnx
 go_enter Tryz.func208, Tryz.ntmps208
 go_wp2_with fail
 refine CLZ.out.mono ?_
 rintro _ _ ⟨rfl, rfl⟩
 go_wp2_with fail
 go_cut [7, 8] (fun r d wx => Two w n n' (M.val xs * 2 ^ s) (M.val ys * 2 ^ s) r d wx)
 case first =>
  go_region_with (first
   | (go_at_call_of 152 (Value.slice A n c); (with_reducible refine (shiftUp_up w _ lo A n c xs hx ?_ s hs63 hn).mono ?_); (first | with_reducible assumption | exact (Up.refl _).drewN 1 | (refine Up.drewN ?_ 1; assumption)); rintro _ wA ⟨ga, za, rfl, hga, hoa, hwa, hva, hua⟩; have uA := Up.trans (by first | with_reducible assumption | exact (Up.refl w).drewN 1) hua)
   | (go_at_call_of 152 (Value.slice (some ⟨bb, oo, none⟩) n' c'); (with_reducible refine (shiftUp_up w _ lo' (some ⟨bb, oo, none⟩) n' c' ys hy ?_ s hs63 (by omega)).mono ?_); (first | with_reducible assumption | exact (Up.refl _).drewN 1 | (refine Up.drewN ?_ 1; assumption)); rintro _ wB ⟨gb, zb, rfl, hgb, hob, hwb, hvb, hub⟩; have uB := Up.trans (by first | with_reducible assumption | exact (Up.refl w).drewN 1) hub))
  all_goals
   go_wp2_with fail
   go_meet
   first
    | exact two_mk ((Up.refl w).drewN 1) uA hga (Nat.ne_of_lt (Nat.lt_of_lt_of_le (hoa.lt _ rfl).2 hgb)) (Ow.up hoa hub) hwa hva hob hwb hvb F1.out (by omega) uB
    | exact two_mk uB ((Up.refl w).drewN 1) hga (Ne.symm (Nat.ne_of_lt (Nat.lt_of_lt_of_le (hob.lt _ rfl).2 hga))) hoa hwa hva (Ow.up hob hua) hwb hvb F1.out (by omega) uA
 case rest =>
  obtain ⟨g, g', zs, bs, rfl, rfl, hg, hne, hown, hwd, hzv, hB, hbv, hu⟩ := hcut
  have hbl := hB.num
  have HZV := Lib.hid hzv
  have HBV := Lib.hid hbv
  have hgl := (hown.lt _ rfl).2
  obtain ⟨b', o', e, hg', hcB⟩ := hB.at_ (by omega)
  simp only [Option.some.injEq, Addr.mk.injEq, and_true] at e
  obtain ⟨rfl, rfl⟩ := e
  have hgl' := World.block_lt_of_cell? _ _ (hcB 0 (by omega)).1
  simp only at hgl'
  clear hzv hbv hx hy hc1 CLZ F1 hcB
  go_wp2_with (at_make; refine wpList_make_wd _ rfl (.tmp 32) (.tmp 32) 42 rfl info_u64 Tryz.underlying42 (L : Int) (L : Int) L rfl rfl (by omega) (by omega) (by omega) ?_; intro wq hownQ hgq)
  obtain ⟨gq, hgqe⟩ : ∃ gq, wc.heap.size = gq := ⟨_, rfl⟩
  rw [hgqe] at hownQ hgl hgl' ⊢
  have hgq0 : w.heap.size ≤ gq := by have := Up.size hu; omega
  have hownQ0 := Ow.low hownQ hgq0
  have huq : Up w wq := hu.grown hgq (by simp)
  have hownq : Ow wq w.heap.size (.slice (some ⟨g, 0, none⟩) (n + 1) (n + 1)) (n + 1) zs := World.ownsRow.kept hown hgq (Or.inr (by simp [Value.ownBlock]))
  have hBq : Wd wq w.heap.size (some ⟨g', 0, none⟩) n' (n' + 1) bs := hB.kept hgq (fun _ b _ => by simp)
  have hzl := hown.num
  have hg'q : g' ≠ gq := by omega
  have hgq' : g ≠ gq := by omega
  have hst : Hid (M.Lg (M.val zs) (M.val bs) (n + 1) n' L L zs (List.replicate L 0)) := by
   refine M.Lg.start hzl (by simp) rfl ?_
   have := M.start_lt (X := zs) (a := M.val xs) (n := n) (m := p + 1) (s := s) (β := M.val bs) HXL.out hs63 HZV.out hzl (by have := HP.out; omega) (by rw [HBV.out]; exact F2.out)
   rwa [show n - (p + 1) = L from by have := HP.out; have := HLN.out; omega] at this
  have htop : Hid (9223372036854775808 ≤ bs.getD (p + 1) 0) := M.top_ge hB.wds (by have := HP.out; omega) (by rw [HBV.out]; exact F2.out)
  clear hown hownQ hB hgq hgqe hu hgl hgl'
  go_loopw [10] (fun i wr => ∃ (k : Int) (X Q : List Nat), -1 ≤ k ∧ k < L ∧ i = .int .i64 k ∧ Up w wr ∧ Ow wr w.heap.size (.slice (some ⟨g, 0, none⟩) (n + 1) (n + 1)) (n + 1) X ∧ M.Wds X ∧ Ow wr w.heap.size (.slice (some ⟨gq, 0, none⟩) L L) L Q ∧ M.Wds Q ∧
   Wd wr w.heap.size (some ⟨g', 0, none⟩) n' (n' + 1) bs ∧ Hid (M.Lg (M.val zs) (M.val bs) (n + 1) n' L (k + 1).toNat X Q)) (fun i _ => (intOf i + 1).toNat)
  case atStart => exact ⟨(L : Int) - 1, zs, _, by omega, by omega, rfl, huq, hownq, hwd, hownQ0, M.Wds.replicate _, hBq, by rw [show ((L : Int) - 1 + 1).toNat = L from by omega]; exact hst.out⟩
  case round =>
   obtain ⟨k, X, Q, hk1, hk2, rfl, hu, hX, hwX, hQ, hwQ, hB, HL⟩ := hrel
   clear hownq hownQ0 hBq huq hst hwd hzl
   by_cases hk0 : k = -1
   ·subst hk0
    obtain ⟨v1, v2⟩ := HL.out.fin
    have hqw := Ow.wd_ hQ hwQ (by omega)
    have hxw : Nw wr w.heap.size (n + 1) (.slice (some ⟨g, 0, none⟩) (n + 1) (n + 1)) (M.val X) := Ow.nw hX hwX (by omega)
    have hp2 : 0 < 2 ^ s := Nat.pow_pos (by omega)
    have e1 : M.val Q = M.val xs / M.val ys := by rw [v1, HZV.out, HBV.out, Nat.mul_div_mul_right _ _ hp2]
    have e2 : M.val X / 2 ^ s = M.val xs % M.val ys := by rw [v2, HZV.out, HBV.out, Nat.mul_mod_mul_right, Nat.mul_div_cancel _ hp2]
    have E1 := Lib.hid e1
    have E2 := Lib.hid e2
    clear v1 v2 e1 e2 hX hQ HL
    go_wp2_with fail
    refine (trim_any _ _ _ _ _ _ hqw).mono ?_
    rintro _ _ ⟨m2, zz, rfl, rfl, hd2, hn2, hv2, hm2⟩
    have HV2 : Hid (M.val zz = M.val xs / M.val ys) := hv2.trans E1.out
    clear hv2 hqw
    go_wp2_with fail
    refine (shr_any _ _ _ _ _ hxw (s : Int) s (by omega)).mono ?_
    rintro _ w9 ⟨v9, rfl, h9, hu9⟩
    rw [E2.out] at h9
    go_wp2_with fail
    go_ret2
    refine ⟨_, _, rfl, ⟨_, _, _, zz, rfl, (hd2.up hu9), HV2.out, by omega, hn2⟩, (h9.lower (Up.size hu)).fit ?_, hu.trans hu9⟩
    exact Nat.lt_of_le_of_lt (Nat.mod_le _ _) HXL.out
   ·obtain ⟨i, rfl⟩ := Int.eq_ofNat_of_zero_le (show 0 ≤ k by omega)
    have hiL : i < L := by omega
    have hI := HL.out
    rw [show ((i : Int) + 1).toNat = i + 1 from by omega] at hI
    have hN1 := HLN.out
    have hn1 : i + n' + 1 - i = n' + 1 := by omega
    have CW := Lib.hid (takeDigit_any wr wr w.heap.size w.heap.size g (n + 1) i (i + n' + 1 - i) (n + 1 - i) p n' (n' + 1) (some ⟨g', 0, none⟩) X bs (World.grownBy.refl _ _) hB (fun _ b e => by
     simp only [Option.map_some, Option.some.injEq] at e
     subst e
     simpa using hne) hX hwX (by omega) HP.out hn1 htop.out (hI.next hwX hB.wds hbl hiL hN1).2.1)
    have HN := Lib.hid hI
    clear hI hN1 HL hn1
    go_wp2_with fail
    refine CW.out.mono ?_
    rintro _ w2 ⟨q, X', rfl, hq, hgw, hX', hwX', HDG⟩
    have hu2 : Up w w2 := hu.grown hgw (fun b e => by cases e; exact hg)
    have hQ2 : Ow w2 w.heap.size (.slice (some ⟨gq, 0, none⟩) L L) L Q := World.ownsRow.kept hQ hgw (Or.inr (by simp only [Value.ownBlock, ne_eq, Option.some.injEq]; exact fun e => hgq' e.symm))
    have hB2 : Wd w2 w.heap.size (some ⟨g', 0, none⟩) n' (n' + 1) bs := hB.kept hgw (fun _ b e => by
     simp only [Option.map_some, Option.some.injEq] at e
     subst e
     simpa using hne)
    have hLN := Lib.hid (HN.out.step hwX hB.wds hbl hiL HLN.out hX'.num HDG)
    have hcz := hQ2.cellAt i (by omega)
    have hQl := hQ2.num
    rw [cu_get (by omega)] at hcz
    have hfz := hQ2.frozenAt i
    clear CW hX hwX hQ hB HN HDG hu hgw
    go_wp2_with fail
    go_roundw
    case rel =>
     obtain ⟨h1, h2⟩ := hQ2.stored i (u64 q)
     rw [cu_set] at h1
     refine ⟨(i : Int) - 1, X', _, by omega, by omega, rfl, hu2.setCell hgq0 _, World.ownsRow.kept hX' h2 (Or.inr (by simp only [Value.ownBlock, ne_eq, Option.some.injEq]; exact hgq')), hwX', h1, hwQ.set i hq, hB2.kept h2 (fun _ b e => by
      simp only [Option.map_some, Option.some.injEq] at e
      subst e
      simp only [ne_eq, Option.some.injEq]
      exact fun e => hg'q e.symm), by rw [show ((i : Int) - 1 + 1).toNat = i from by omega]; exact hLN.out⟩
    case measure => simp [intOf]
theorem div_any (w : World) (lo lo' s s' : Nat) (v v' : Value) (a b : Nat) (h : Nw w lo s v a) (h' : Nw w lo' s' v' b) (hb0 : 0 < b) (hs : s ≤ 1000000000) :
  Calls Tryz.prog 149 #[v, v'] w (Div3 (s + 1) (a / b) (a % b) true w) := div_of w lo lo' s s' v v' a b h h' hb0 hs (.inr divideLong_any)
end Go.Proofs.YtcmlanfgafancaaGreatDoor
namespace Go.Proofs.YtcmlanfgafancaaGreatDoor
open Go.RowKit Go.Shelf
namespace M
def rtn (a : Nat) (k : Int) : Prop := (a = 0 ∧ k = 0) ∨ (a ≠ 0 ∧ (-5000 ≤ k ∧ k ≤ 5000) ∧ (Lib.decDigits a).length ≤ 2000 ∧ a % 10 ≠ 0)
instance (a : Nat) (k : Int) : Decidable (rtn a k) := by unfold rtn; infer_instance
def rt (xs : List Nat) (k : Int) : Prop := Nrm xs ∧ rtn (val xs) k
instance (xs : List Nat) (k : Int) : Decidable (rt xs k) := by unfold rt Nrm; infer_instance
theorem rtn.lok {a : Nat} {k : Int} (h : rtn a k) : Lok a k := by
 rcases h with h | ⟨h1, _, _, h2⟩
 ·exact .inl h
 ·exact .inr ⟨h1, h2⟩
theorem dd_lt (a : Nat) : a < 10 ^ (Lib.decDigits a).length := by
 obtain ⟨k1, k2, _, _⟩ := dd_all a a (Nat.le_refl _)
 have := vsa_lt _ k1
 rwa [k2] at this
theorem b_two (m : Nat) : (18446744073709551616 : Nat) ^ m = 2 ^ (64 * m) := (Nat.pow_mul 2 64 m).symm
theorem ten_gap (K : Nat) (h : K ≤ 2000) : 10 ^ K < 18446744073709551616 ^ 128 := by
 obtain ⟨G, hG⟩ : ∃ G, 64 * 128 = G := ⟨_, rfl⟩
 have h1 : (10 : Nat) ^ K ≤ (2 ^ 4) ^ K := Nat.pow_le_pow_left (by omega) _
 rw [← Nat.pow_mul] at h1
 have h2 : (2 : Nat) ^ (4 * K) < 2 ^ G := Nat.pow_lt_pow_right (by omega) (by omega)
 rw [b_two, hG]
 exact Nat.lt_of_le_of_lt h1 h2
theorem rt_len {xs : List Nat} {k : Int} (h : rt xs k) : xs.length ≤ 128 := by
 obtain ⟨h1, h2⟩ := h
 refine len_of_lt h1 ?_
 rcases h2 with ⟨h3, _⟩ | ⟨_, _, h3, _⟩
 ·rw [h3]; exact Nat.pow_pos (by omega)
 ·exact Nat.lt_trans (dd_lt _) (ten_gap _ h3)
theorem dd_room (a n : Nat) (h : a < 18446744073709551616 ^ n) : (Lib.decDigits a).length ≤ 20 * n + 1 := by
 rw [Lib.decDigits_length]
 refine nd_lt (20 * n) a ?_
 have h1 : (18446744073709551616 : Nat) ^ n ≤ (10 ^ 20) ^ n := Nat.pow_le_pow_left (by omega) _
 rw [← Nat.pow_mul] at h1
 exact Nat.lt_of_lt_of_le h (Nat.le_trans h1 (Nat.pow_le_pow_right (by omega) (by omega)))
theorem dd_end (a : Nat) : ((Lib.decDigits a).getD ((Lib.decDigits a).length - 1) 0).toNat = 48 + a % 10 := by
 rw [dd_step, List.length_append, List.length_singleton, List.getD_eq_getElem?_getD, show (dz (a / 10)).length + 1 - 1 = (dz (a / 10)).length from by omega, List.getElem?_concat_length]
 exact ofNat_toNat (by omega)
end M
structure Dr (w : World) (A : Option Addr) (n c : Nat) (xs : List Nat) : Prop where
 num : xs.length = n
 wd : n ≤ 1000 → Wd w 0 A n c xs
 src : 1000 < n → Src w A n c xs
 mx : n ≤ 17592186044416
theorem Dr.up {w w' : World} {A : Option Addr} {n c : Nat} {xs : List Nat} (h : Dr w A n c xs) (hu : Up w w') : Dr w' A n c xs :=
 ⟨h.num, fun hn => (h.wd hn).up hu, fun hn => (h.src hn).up hu, h.mx⟩
theorem Wd.dr {w : World} {lo : Nat} {A : Option Addr} {n c : Nat} {xs : List Nat} (h : Wd w lo A n c xs) (hn : n ≤ 1000) : Dr w A n c xs :=
 ⟨h.num, fun _ => h.lower (Nat.zero_le _), fun h1 => absurd h1 (by omega), by omega⟩
theorem Nt.dr {w : World} {lo s : Nat} {A : Option Addr} {n c a : Nat} (h : Nt w lo s (.slice A n c) a) (hs : s ≤ 1000) : ∃ xs, Dr w A n c xs ∧ M.val xs = a ∧ M.Nrm xs := by
 obtain ⟨A', n', c', xs, e, h1, h2, h3, h4⟩ := h
 cases e
 exact ⟨xs, h1.dr (by omega), h2, h4⟩
theorem Dr.cell {w : World} {A : Option Addr} {n c : Nat} {xs : List Nat} (h : Dr w A n c xs) (h0 : 0 < n) : ∃ ad, A = some ad ∧ ∀ j, j < n → w.cell? (ad.add j) = some (u64 (xs.getD j 0)) := by
 by_cases hn : n ≤ 1000
 ·obtain ⟨b, o, rfl, _, hc⟩ := (h.wd hn).at_ h0
  refine ⟨_, rfl, fun j hj => ?_⟩
  have e : (Addr.mk b o none).add j = ⟨b, o + j, none⟩ := by
   unfold Addr.add
   split
   ·rename_i e; subst e; rfl
   ·rfl
  rw [e]
  exact (hc j hj).1
 ·have k := h.src (by omega)
  rcases A with _ | ad
  ·have := k.none_ rfl
   have := k.len
   omega
  ·exact ⟨ad, rfl, k.at_ ad rfl⟩
theorem Dr.last {w : World} {A : Option Addr} {n c : Nat} {xs : List Nat} (h : Dr w A n c xs) (h0 : 0 < n) :
  ∃ ad y, A = some ad ∧ w.cell? (ad.add (n - 1)) = some (u64 y) ∧ (M.Nrm xs ↔ y ≠ 0) := by
 obtain ⟨ad, rfl, hc⟩ := h.cell h0
 have hl := h.num
 refine ⟨ad, xs.getD (n - 1) 0, rfl, hc (n - 1) (by omega), ?_⟩
 unfold M.Nrm
 rw [List.getLast?_eq_getElem?, hl, List.getD_eq_getElem?_getD, List.getElem?_eq_getElem (by omega)]
 simp
theorem Dr.nil {w : World} {A : Option Addr} {c : Nat} {xs : List Nat} (h : Dr w A 0 c xs) : xs = [] := List.eq_nil_of_length_eq_zero h.num
abbrev dv (ng : Bool) (v : Value) (k : Int) : Value := .agg #[.bool ng, v, .int .i64 k]
end Go.Proofs.YtcmlanfgafancaaGreatDoor
namespace Go.Proofs.YtcmlanfgafancaaGreatDoor
open Go.RowKit Go.Shelf
namespace M
def lyr (ng : Bool) (xs : List Nat) (k : Int) : List UInt8 := if rt xs k then ly ng (val xs) k else []
end M
theorem Tx.to {s : ByteArray} {l m : List UInt8} (h : Tx s l) (e : l = m) : Tx s m := e ▸ h
end Go.Proofs.YtcmlanfgafancaaGreatDoor
namespace Go.Proofs.YtcmlanfgafancaaGreatDoor
open Go.RowKit Go.Shelf
def ErrR (w : World) : Prop := ∃ tp p, w.var? Tryz.prog "strconv.ErrRange" = some #[.iface tp p]
theorem ErrR.up {w w' : World} (h : ErrR w) (hu : Up w w') : ErrR w' := by
 obtain ⟨tp, p, h⟩ := h
 refine ⟨tp, p, ?_⟩
 unfold World.var? at *
 cases hg : Tryz.prog.globalNamed "strconv.ErrRange" with
 | none => simp [hg] at h
 | some g =>
  simp only [hg, Option.bind_some] at h ⊢
  have hlt : g < w.heap.size := by
   rcases Nat.lt_or_ge g w.heap.size with h' | h'
   ·exact h'
   ·rw [Array.getElem?_eq_none h'] at h; simp at h
  rw [Below.block hu g hlt]
  exact h
structure ErrB (w : World) : Prop where
 syn : ErrW w
 rng : ErrR w
theorem ErrB.up {w w' : World} (h : ErrB w) (hu : Up w w') : ErrB w' := ⟨h.syn.up hu, h.rng.up hu⟩
namespace M
def lyn (ng : Bool) (a : Nat) (k : Int) : List UInt8 := if rtn a k then ly ng a k else []
theorem lyr_nrm {xs : List Nat} (h : Nrm xs) (ng : Bool) (k : Int) : lyr ng xs k = lyn ng (val xs) k := by
 unfold lyr lyn
 by_cases e : rtn (val xs) k
 ·rw [if_pos (show rt xs k from ⟨h, e⟩), if_pos e]
 ·rw [if_neg (show ¬ rt xs k from fun x => e x.2), if_neg e]
def Ulr (l : List UInt8) (ng : Bool) (a : Nat) (k er : Int) : Prop :=
 (er = 0 ∧ rtn a k ∧ ly ng a k = l) ∨ (er = 2 ∧ ng = false ∧ a = 0 ∧ k = 0 ∧ ∀ ng a k, rtn a k → ly ng a k ≠ l)
theorem Ulr.of {l : List UInt8} {ng g : Bool} {a b : Nat} {k j er : Int} (h : Ulr l ng a k er) (h1 : rtn b j) (h2 : ly g b j = l) : er = 0 ∧ ng = g ∧ a = b ∧ k = j := by
 rcases h with ⟨e1, e2, e3⟩ | ⟨_, _, _, _, e⟩
 ·obtain ⟨i1, i2, i3⟩ := ly_inj e2.lok h1.lok (e3.trans h2.symm)
  exact ⟨e1, i1, i2, i3⟩
 ·exact absurd h2 (e g b j h1)
end M
def Uly (l : List UInt8) (w : World) (e : Ending) (w' : World) : Prop :=
 ∃ ng A n c a k er, e = .returned (.tuple #[dv ng (.slice A n c) k, .int .i64 er]) ∧ M.Ulr l ng a k er ∧ Nt w' 0 128 (.slice A n c) a ∧ Up w w'
structure Lay : Prop where
 right : ∀ (w : World) (ng : Bool) (A : Option Addr) (n c : Nat) (xs : List Nat) (k : Int) (r : Bool), TabW w → ErrB w → Dr w A n c xs → (-9223372036854775808 ≤ k ∧ k ≤ 9223372036854775807) → Hid (decide (M.rt xs k) = r) → Calls Tryz.prog 74 #[dv ng (.slice A n c) k] w (Boo r w)
 layout : ∀ (w : World) (ng : Bool) (A : Option Addr) (n c : Nat) (xs : List Nat) (k : Int), TabW w → ErrB w → Dr w A n c xs → (-9223372036854775808 ≤ k ∧ k ≤ 9223372036854775807) → Calls Tryz.prog 39 #[dv ng (.slice A n c) k] w (Tex (M.lyr ng xs k) w)
 unlay : ∀ (w : World) (s : ByteArray) (l : List UInt8), TabW w → ErrB w → Hid (Tx s l) → l.length ≤ 3000 → Calls Tryz.prog 19 #[.string s] w (Uly l w)
end Go.Proofs.YtcmlanfgafancaaGreatDoor
namespace Go.Proofs.YtcmlanfgafancaaGreatDoor
open Go.RowKit Go.Shelf
theorem nDigits_le' : ∀ (k u : Nat), u < 10 ^ (k + 1) → Lib.nDigits u ≤ k + 1
 | 0, u, h => by rw [Lib.nDigits_small (by simpa using h)]; exact Nat.le_refl _
 | k + 1, u, h => by
  by_cases h10 : u < 10
  ·rw [Lib.nDigits_small h10]; omega
  ·rw [Lib.nDigits_big h10]
   have := nDigits_le' k (u / 10) (by rw [Nat.pow_succ] at h; omega)
   omega
def M.part (l w : Nat) : Int := if l = 0 then 0 else 2 + M.cmp (l * 2) w
theorem part_any (w : World) (lo lo' s s' : Nat) (v v' : Value) (a b : Nat) (h : Nw w lo s v a) (h' : Nw w lo' s' v' b) (hs : s ≤ 100000000) (z : Int) (hz : Hid (M.part a b = z)) : Calls Tryz.prog 213 #[v, v'] w (Num z w) := by
 by_cases h0 : a = 0
 ·have hz0 : Hid (z = 0) := by rw [Hid, ← hz.out, M.part, if_pos h0]
  have CI := Lib.hid (isNought_any w lo s v a h true (decide_eq_true h0))
  clear hz h0
  go_enter Tryz.func213, Tryz.ntmps213
  go_wp2_with fail
  refine CI.out.mono ?_
  rintro _ _ ⟨rfl, rfl⟩
  go_wp2_with fail
  go_ret
  exact ⟨ret_int hz0.out.symm, Up.refl w⟩
 ·have CI := Lib.hid (isNought_any w lo s v a h false (decide_eq_false h0))
  obtain ⟨y, hy⟩ : ∃ y, M.cmp (a * 2 ^ 1) b = y := ⟨_, rfl⟩
  have ry := M.cmp_rng (a * 2 ^ 1) b
  rw [hy] at ry
  have hz0 : Hid (z = 2 + y) := by rw [Hid, ← hz.out, M.part, if_neg h0, ← hy, Nat.pow_one]
  have HY := Lib.hid hy
  clear hz h0 hy
  go_enter Tryz.func213, Tryz.ntmps213
  go_wp2_with fail
  refine CI.out.mono ?_
  rintro _ _ ⟨rfl, rfl⟩
  go_wp2_with fail
  refine (shl_any w _ _ _ _ h hs 1 1 (by omega)).mono ?_
  rintro _ w1 ⟨v1, rfl, h1, hu1⟩
  go_wp2_with fail
  refine (cmp_at w1 _ _ _ _ _ _ _ _ y h1.nw (h'.up hu1) HY).mono ?_
  rintro _ w2 ⟨rfl, kk, rfl⟩
  go_wp2_with fail
  go_ret
  exact ⟨ret_int hz0.out.symm, hu1.drewN kk⟩
def Flo (S q : Nat) (z : Int) (w : World) (e : Ending) (w' : World) : Prop := ∃ v, e = .returned (.tuple #[v, .int .i64 z]) ∧ Nt w' w.heap.size S v q ∧ Up w w'
set_option maxRecDepth 100000 in
theorem floor_any (w : World) (lo s : Nat) (neg : Bool) (v : Value) (t f : Int) (a : Nat) (h : Nw w lo s v a) (hs : s ≤ 1000000)
  (bt : -1000000 ≤ t ∧ t ≤ 1000000) (bf : -1000000 ≤ f ∧ f ≤ 1000000) (k K : Int) (hK : Hid (max (-5000) (min k 5000) = K))
  (T F T' F' : Nat) (hT : Hid (max 0 (min (t - K) 131072) = (T : Int))) (hF : Hid (max 0 (min (f - K) 10000) = (F : Int))) (hT' : Hid (max 0 (min (-(t - K)) 131072) = (T' : Int))) (hF' : Hid (max 0 (min (-(f - K)) 10000) = (F' : Int)))
  (q r : Nat) (hq : Hid (a * 5 ^ F * 2 ^ T / (1 * 5 ^ F' * 2 ^ T') = q)) (hr : Hid (a * 5 ^ F * 2 ^ T % (1 * 5 ^ F' * 2 ^ T') = r)) (z : Int) (hz : Hid (M.part r (1 * 5 ^ F' * 2 ^ T') = z)) :
  Calls Tryz.prog 156 #[xv neg v t f, .int .i64 k] w (Flo (s + F + T / 64 + 4) q z w) := by
 have bK : -5000 ≤ K ∧ K ≤ 5000 := by have := hK.out; omega
 obtain ⟨D, hD⟩ : ∃ D, t - K = D := ⟨_, rfl⟩
 obtain ⟨E, hE⟩ : ∃ E, f - K = E := ⟨_, rfl⟩
 have bD : -2000000 ≤ D ∧ D ≤ 2000000 := by omega
 have bE : -2000000 ≤ E ∧ E ≤ 2000000 := by omega
 rw [hD] at hT hT'
 rw [hE] at hF hF'
 have bT : T ≤ 131072 := by have := hT.out; omega
 have bT' : T' ≤ 131072 := by have := hT'.out; omega
 have bF : F ≤ 10000 := by have := hF.out; omega
 have bF' : F' ≤ 10000 := by have := hF'.out; omega
 have hby : 0 < 1 * 5 ^ F' * 2 ^ T' := Nat.mul_pos (Nat.mul_pos (by omega) (Nat.pow_pos (by omega))) (Nat.pow_pos (by omega))
 obtain ⟨B, hB⟩ : ∃ B, 1 * 5 ^ F' * 2 ^ T' = B := ⟨_, rfl⟩
 have HB := Lib.hid hB
 rw [hB] at hq hr hz hby
 have w1 : IntKind.i64.wrap (t - K) = D := by rw [hD]; simp [IntKind.wrap, IntKind.bits, IntKind.signed]; omega
 have w2 : IntKind.i64.wrap (f - K) = E := by rw [hE]; simp [IntKind.wrap, IntKind.bits, IntKind.signed]; omega
 have w1' : IntKind.i64.wrap D = D := by simp [IntKind.wrap, IntKind.bits, IntKind.signed]; omega
 have w2' : IntKind.i64.wrap E = E := by simp [IntKind.wrap, IntKind.bits, IntKind.signed]; omega
 have CN := Lib.hid (fun w' => nearestPower_any w' k K hK)
 clear hB
 go_enter Tryz.func156, Tryz.ntmps156
 go_wp2_with fail
 refine (CN.out _).mono ?_
 rintro _ _ ⟨rfl, rfl⟩
 go_wp2_with fail
 go_quiet (fail)
 obtain ⟨W, hW⟩ : ∃ W, (w.alloc (.cells #[.bool neg, v, .int .i64 t, .int .i64 f] 84)).drewN nq = W := ⟨_, rfl⟩
 have hu : Up w W := by rw [← hW]; exact (((Up.refl w).alloc _).drewN _)
 have c1 : W.cell? ⟨w.heap.size, 1, none⟩ = some v := by rw [← hW]; simp
 rw [hW]
 clear hW w1 w2 w1' w2' hD hE
 have hh := h.up hu
 go_wp2_with fail
 refine (of_lit _ 1 _ rfl (by omega)).mono ?_
 rintro _ w1 ⟨v1, rfl, h1, hu1⟩
 go_wp2_with fail
 refine (xtimes_any w1 _ _ _ _ h1.nw (by omega) (-D) (-E) T' F' hT' hF').mono ?_
 rintro _ w2 ⟨v2, rfl, h2, hu2⟩
 rw [HB.out] at h2
 have u2 : Up W w2 := hu1.trans hu2
 have c2 := cell_up u2 c1
 clear c1 h1 hu1 hu2
 go_wp2_with fail
 refine (xtimes_any w2 _ _ _ _ (hh.up u2) (by omega) D E T F hT hF).mono ?_
 rintro _ w3 ⟨v3, rfl, h3, hu3⟩
 go_wp2_with fail
 refine (div_any w3 _ _ _ _ _ _ _ _ h3.nw (h2.up hu3).nw hby (by omega)).mono ?_
 rintro _ w4 ⟨v4, v5, rfl, h4, h5, hu4⟩
 rw [hq.out] at h4
 rw [hr.out] at h5
 have u4 : Up w2 w4 := hu3.trans hu4
 go_wp2_with fail
 refine (part_any w4 _ _ _ _ _ _ _ _ h5.nw (h2.up u4).nw (by omega) z hz).mono ?_
 rintro _ w5 ⟨rfl, hu5⟩
 go_wp2_with fail
 go_ret2
 exact ⟨v4, rfl, ((h4.up hu5).lower (Up.size ((hu.trans u2).trans hu3))).more (by omega), ((hu.trans u2).trans u4).trans hu5⟩
theorem M.digits_len {a s F T : Nat} (h : a < 18446744073709551616 ^ s) (hs : s ≤ 1000000) (hF : F ≤ 10000) (hT : T ≤ 131072) : (Lib.decDigits (a * 5 ^ F * 2 ^ T)).length ≤ 100000000 := by
 have h1 : a * 5 ^ F * 2 ^ T < 10 ^ (20 * s + F + T + 1) := by
  have e1 : (18446744073709551616 : Nat) ^ s ≤ 10 ^ (20 * s) := by rw [Nat.pow_mul]; exact Nat.pow_le_pow_left (by omega) s
  have e2 : (5 : Nat) ^ F ≤ 10 ^ F := Nat.pow_le_pow_left (by omega) F
  have e3 : (2 : Nat) ^ T ≤ 10 ^ T := Nat.pow_le_pow_left (by omega) T
  have e4 : a * 5 ^ F * 2 ^ T ≤ 10 ^ (20 * s) * 10 ^ F * 10 ^ T := Nat.mul_le_mul (Nat.mul_le_mul (by omega) e2) e3
  rw [← Nat.pow_add, ← Nat.pow_add] at e4
  exact Nat.lt_of_le_of_lt e4 (Nat.pow_lt_pow_right (by omega) (by omega))
 rw [Lib.decDigits_length]
 have := nDigits_le' (20 * s + F + T) _ h1
 omega
def M.log10 (a F T : Nat) (m : Int) : Int := if a = 0 then 0 else m + (Lib.decDigits (a * 5 ^ F * 2 ^ T)).length - 1
set_option maxRecDepth 100000 in
theorem log10_any (w : World) (hTW : TabW w) (lo s : Nat) (neg : Bool) (v : Value) (t f : Int) (a : Nat) (h : Nw w lo s v a) (hs : s ≤ 1000000)
  (bt : -1000000 ≤ t ∧ t ≤ 1000000) (bf : -1000000 ≤ f ∧ f ≤ 1000000) (m : Int) (hm : Hid (min t f = m))
  (T F : Nat) (hT : Hid (max 0 (min (t - m) 131072) = (T : Int))) (hF : Hid (max 0 (min (f - m) 10000) = (F : Int))) (z : Int) (hz : Hid (M.log10 a F T m = z)) :
  Calls Tryz.prog 87 #[xv neg v t f] w (Num z w) := by
 have hu := (Up.refl w).alloc (.cells #[.bool neg, v, .int .i64 t, .int .i64 f] 84)
 by_cases h0 : a = 0
 ·have hz0 : Hid (z = 0) := by rw [Hid, ← hz.out, M.log10, if_pos h0]
  have CI := Lib.hid (isNought_any _ lo s v a (h.up hu) true (decide_eq_true h0))
  clear hz h0 hm hT hF
  go_enter Tryz.func87, Tryz.ntmps87
  go_wp2_with fail
  refine CI.out.mono ?_
  rintro _ _ ⟨rfl, rfl⟩
  go_wp2_with fail
  go_ret
  exact ⟨ret_int hz0.out.symm, hu⟩
 ·have CI := Lib.hid (isNought_any _ lo s v a (h.up hu) false (decide_eq_false h0))
  have bm : -1000000 ≤ m ∧ m ≤ 1000000 := by have := hm.out; omega
  have bT : T ≤ 131072 := by have := hT.out; omega
  have bF : F ≤ 10000 := by have := hF.out; omega
  obtain ⟨L, hL⟩ : ∃ L, (Lib.decDigits (a * 5 ^ F * 2 ^ T)).length = L := ⟨_, rfl⟩
  have hz0 : Hid (z = m + (L : Int) - 1) := by rw [Hid, ← hz.out, M.log10, if_neg h0, hL]
  obtain ⟨S, hS⟩ : ∃ S, (⟨(Lib.decDigits (a * 5 ^ F * 2 ^ T)).toArray⟩ : ByteArray) = S := ⟨_, rfl⟩
  have hSL : S.size = L := by rw [← hS, ← hL]; rfl
  have hLb : L ≤ 100000000 := by
   rw [← hL]
   exact M.digits_len (h.lt) hs bF bT
  have HS := Lib.hid hS
  have hm1 := hm.out
  have HSL := Lib.hid hSL
  have hSb : (S.size : Int) ≤ 100000000 := by omega
  clear hz h0 hL hS hSL
  go_enter Tryz.func87, Tryz.ntmps87
  go_wp2_with fail
  refine CI.out.mono ?_
  rintro _ _ ⟨rfl, rfl⟩
  go_wp2_with fail
  refine (xtimes_any _ _ _ _ _ (h.up hu) (by omega) (t - m) (f - m) T F hT hF).mono ?_
  rintro _ w1 ⟨v1, rfl, h1, hu1⟩
  go_wp2_with fail
  refine (text_of _ _ _ _ _ h1.nw (by omega) (hTW.up (hu.trans hu1)) S HS.out).mono ?_
  rintro _ w2 ⟨rfl, hu2⟩
  go_wp2_with fail
  go_ret
  exact ⟨ret_int (by rw [hz0.out, ← HSL.out]), (hu.trans hu1).trans hu2⟩
end Go.Proofs.YtcmlanfgafancaaGreatDoor
