import Derived.Test.YtcmlanfgafancaaGreatDoorQTNb
import Derived.Test.YtcmlanfgafancaaGreatDoorQTNa
import Derived.Deep.RegionHeld3
import Derived.Deep.DrawnRows
import Derived.Test.YtcmlanfgafancaaGreatDoorQTTake
import Derived.Deep.DeepCutAuto
import Derived.Test.YtcmlanfgafancaaGreatDoorQTDigm
import Derived.Test.YtcmlanfgafancaaGreatDoorQTRfa
import Derived.Deep.LoopGhost
set_option maxHeartbeats 32000000
set_option linter.unusedVariables false
set_option linter.unusedSimpArgs false
namespace Go.Proofs.YtcmlanfgafancaaGreatDoor
open Go.RowKit Go.Shelf
namespace M
def shr (s : Nat) : List Nat → List Nat
 | [] => []
 | x :: r => (x / 2 ^ s + r.getD 0 0 * 2 ^ (64 - s) % 18446744073709551616) :: shr s r
theorem shr_length (s : Nat) : ∀ xs, (shr s xs).length = xs.length
 | [] => rfl
 | x :: r => by rw [shr, List.length_cons, List.length_cons, shr_length s r]
theorem shr_getD (s : Nat) : ∀ (xs : List Nat) (j : Nat), j < xs.length → (shr s xs).getD j 0 = xs.getD j 0 / 2 ^ s + xs.getD (j + 1) 0 * 2 ^ (64 - s) % 18446744073709551616
 | [], j, h => by simp at h
 | x :: r, 0, _ => rfl
 | x :: r, j + 1, h => by
  rw [shr, List.getD_cons_succ, shr_getD s r j (by simpa using h), List.getD_cons_succ, List.getD_cons_succ]
theorem val_mod (s : Nat) (hs : s < 64) (r : List Nat) : val r % 2 ^ s = r.getD 0 0 % 2 ^ s := by
 cases r with
 | nil => rfl
 | cons x r =>
  have hB : (18446744073709551616 : Nat) = 2 ^ s * 2 ^ (64 - s) := by rw [← Nat.pow_add, show s + (64 - s) = 64 from by omega]
  rw [val, List.getD_cons_zero, hB, Nat.mul_assoc, Nat.add_mul_mod_self_left]
theorem val_shr (s : Nat) (hs : s < 64) : ∀ xs, val (shr s xs) = val xs / 2 ^ s
 | [] => by simp [shr, val]
 | x :: r => by
  have hB : (18446744073709551616 : Nat) = 2 ^ s * 2 ^ (64 - s) := by rw [← Nat.pow_add, show s + (64 - s) = 64 from by omega]
  have hp : 0 < 2 ^ s := Nat.pow_pos (by omega)
  have e1 : r.getD 0 0 * 2 ^ (64 - s) % 18446744073709551616 = (val r % 2 ^ s) * 2 ^ (64 - s) := by
   rw [hB, Nat.mul_mod_mul_right, val_mod s hs r]
  have e2 : (x + 18446744073709551616 * val r) / 2 ^ s = x / 2 ^ s + 2 ^ (64 - s) * val r := by
   rw [hB, Nat.mul_assoc, Nat.add_mul_div_left _ _ hp]
  have e3 : 2 ^ (64 - s) * val r = (val r % 2 ^ s) * 2 ^ (64 - s) + 18446744073709551616 * (val r / 2 ^ s) := by
   have h := Nat.mod_add_div (val r) (2 ^ s)
   calc 2 ^ (64 - s) * val r = 2 ^ (64 - s) * (val r % 2 ^ s + 2 ^ s * (val r / 2 ^ s)) := by rw [h]
    _ = _ := by rw [Nat.mul_add, hB, Nat.mul_comm (2 ^ (64 - s)) (val r % 2 ^ s), ← Nat.mul_assoc, Nat.mul_comm (2 ^ (64 - s)) (2 ^ s)]
  rw [shr, val, val, val_shr s hs r, e1, e2, e3]
  omega
theorem val_div {xs : List Nat} (h : Wds xs) (S : Nat) (hS : S ≤ xs.length) : val (xs.drop S) = val xs / 18446744073709551616 ^ S := by
 have h1 := val_split xs S hS
 have h2 := val_lt (h.take S)
 rw [List.length_take, Nat.min_eq_left hS] at h2
 rw [h1, Nat.add_mul_div_left _ _ (Nat.pow_pos (by omega)), Nat.div_eq_of_lt h2, Nat.zero_add]
theorem val_shr_drop {xs : List Nat} (h : Wds xs) {S s N : Nat} (hs : s < 64) (hN : N = 64 * S + s) (hS : S ≤ xs.length) : val (shr s (xs.drop S)) = val xs / 2 ^ N := by
 rw [val_shr s hs, val_div h S hS, Nat.div_div_eq_div_mul, hN, Nat.pow_add, Nat.pow_mul]
end M
theorem or_down (x y s : Nat) (hx : x < 18446744073709551616) (hs : s < 64) :
  bits .or .u64 ((x / 2 ^ s : Nat) : Int) (IntKind.u64.wrap ((y : Int) * 2 ^ (64 - s))) = ((x / 2 ^ s + y * 2 ^ (64 - s) % 18446744073709551616 : Nat) : Int) ∧ x / 2 ^ s + y * 2 ^ (64 - s) % 18446744073709551616 < 18446744073709551616 := by
 have hB : (18446744073709551616 : Nat) = 2 ^ s * 2 ^ (64 - s) := by rw [← Nat.pow_add, show s + (64 - s) = 64 from by omega]
 have hp : 0 < 2 ^ s := Nat.pow_pos (by omega)
 have hq : 0 < 2 ^ (64 - s) := Nat.pow_pos (by omega)
 have h1 : x / 2 ^ s < 2 ^ (64 - s) := Nat.div_lt_of_lt_mul (by rw [← hB]; exact hx)
 have e1 : (y : Int) * 2 ^ (64 - s) = ((y * 2 ^ (64 - s) : Nat) : Int) := by simp
 have e2 : IntKind.u64.wrap ((y * 2 ^ (64 - s) : Nat) : Int) = ((y * 2 ^ (64 - s) % 18446744073709551616 : Nat) : Int) := by
  rw [IntKind.wrap_u64]; omega
 have h2 : y * 2 ^ (64 - s) % 18446744073709551616 % 2 ^ (64 - s) = 0 := by
  rw [hB, Nat.mul_mod_mul_right]
  exact Nat.mul_mod_left _ _
 have h3 : y * 2 ^ (64 - s) % 18446744073709551616 + 2 ^ (64 - s) ≤ 18446744073709551616 := by
  rw [hB, Nat.mul_mod_mul_right]
  have h4 : y % 2 ^ s < 2 ^ s := Nat.mod_lt _ hp
  calc y % 2 ^ s * 2 ^ (64 - s) + 2 ^ (64 - s) = (y % 2 ^ s + 1) * 2 ^ (64 - s) := by rw [Nat.add_mul, Nat.one_mul]
   _ ≤ _ := Nat.mul_le_mul_right _ h4
 have h5 : (2 : Nat) ^ (64 - s) ≤ 2 ^ 64 := Nat.pow_le_pow_right (by omega) (by omega)
 refine ⟨?_, by omega⟩
 rw [e1, e2, bits_or_u64_nat _ _ (by omega) (by omega), Nat.or_comm, nat_join (64 - s) _ _ h2 h1, Nat.add_comm]
set_option maxRecDepth 100000 in
theorem shr_any (w : World) (lo s0 : Nat) (v : Value) (a : Nat) (h : Nw w lo s0 v a) (n : Int) (N : Nat) (hN : max 0 (min n 131072) = (N : Int)) :
  Calls Tryz.prog 262 #[v, .int .i64 n] w (Res s0 (a / 2 ^ N) w) := by
 obtain ⟨A, k, c, xs, rfl, hx, ha, hns⟩ := h
 have HA := Lib.hid ha
 have cl := clamp_any w n 131072
 rw [hN] at cl
 have CL := Lib.hid cl
 have hN1 : N ≤ 131072 := by omega
 obtain ⟨S, hS⟩ : ∃ S, N / 64 = S := ⟨_, rfl⟩
 obtain ⟨s, hs⟩ : ∃ s, N % 64 = s := ⟨_, rfl⟩
 have hs64 : s < 64 := by omega
 have hSb : S ≤ 2048 := by omega
 have q1 : (N : Int) / 64 = (S : Int) := by omega
 have q2 : (N : Int) % 64 = (s : Int) := by omega
 have q3 : (N : Int).tdiv 64 = (S : Int) := by rw [Int.tdiv_eq_ediv_of_nonneg (by omega)]; exact q1
 have q4 : (N : Int).tmod 64 = (s : Int) := by rw [Int.tmod_eq_emod_of_nonneg (by omega)]; exact q2
 have HN : Hid (N = 64 * S + s) := by show _ = _; omega
 clear ha cl hN hN1 hS hs
 go_enter Tryz.func262, Tryz.ntmps262
 go_wp2_with fail
 refine (trim_any w lo A k c xs hx).mono ?_
 rintro _ _ ⟨m, ys, rfl, rfl, hy, hny, hv, hmn⟩
 have HV : Hid (M.val ys = a) := hv.trans HA.out
 clear hx hv HA
 go_wp2_with fail
 refine CL.out.mono ?_
 rintro _ _ ⟨rfl, rfl⟩
 have b1 := hy.len
 have b2 := hy.small
 by_cases hSm : m ≤ S
 ·have h0 : a / 2 ^ N = 0 := by
   apply Nat.div_eq_of_lt
   rw [← HV.out, HN.out, Nat.pow_add, Nat.pow_mul]
   have h1 := M.val_lt hy.wds
   rw [hy.num] at h1
   have h2 : (18446744073709551616 : Nat) ^ m ≤ 18446744073709551616 ^ S := Nat.pow_le_pow_right (by omega) hSm
   have h3 : (18446744073709551616 : Nat) ^ S * 1 ≤ 18446744073709551616 ^ S * 2 ^ s := Nat.mul_le_mul_left _ (Nat.pow_pos (by omega))
   show _ < 18446744073709551616 ^ S * 2 ^ s
   omega
  have H0 := Lib.hid h0
  clear h0
  go_wp2_with fail
  go_ret
  rw [H0.out]
  exact ⟨_, rfl, Nt.nil _ _ _, Up.refl w⟩
 ·obtain ⟨L, hL⟩ : ∃ L, m - S = L := ⟨_, rfl⟩
  have qL : (m : Int) - (S : Int) = (L : Int) := by omega
  have hLb : L ≤ m := by omega
  have hSm2 : S < m := by omega
  have HL : Hid (m = S + L) := by show _ = _; omega
  clear hL hSm
  go_wp2_with (at_make; refine wpList_make_wd _ rfl (.tmp 24) (.tmp 24) 42 rfl info_u64 Tryz.underlying42 (L : Int) (L : Int) L rfl rfl (by omega) (by omega) (by omega) ?_; intro w1 hown1 hg1)
  have hu1 : Up w w1 := (Up.refl w).grown hg1 (by simp)
  have hst : Hid (∀ j, j < 0 → (List.replicate L 0).getD j 0 = (M.shr s (ys.drop S)).getD j 0) := fun j hj => by omega
  go_loopw [28] (fun i wr => ∃ (k : Nat) (zs : List Nat), k ≤ L ∧ i = .int .i64 k ∧ Up w wr ∧ Ow wr w.heap.size (.slice (some ⟨w.heap.size, 0, none⟩) L L) L zs ∧ M.Wds zs ∧ Hid (∀ j, j < k → zs.getD j 0 = (M.shr s (ys.drop S)).getD j 0)) (fun i _ => L - (intOf i).toNat)
  case atStart => exact ⟨0, _, by omega, rfl, hu1, hown1, M.Wds.replicate _, hst⟩
  case round =>
   obtain ⟨k, zs, hk, rfl, hu, hown, hwd, HI⟩ := hrel
   have hcA := (hy.up hu).at_
   have hWB := hy.up hu
   have hzl := hown.num
   clear hown1 hg1 hu1 hst
   by_cases hlt : k < L
   ·have hcW := hy.at_
    obtain ⟨bb, oo, rfl, _, hc⟩ := hcA (by omega)
    have hnb : ¬ bb = w.heap.size := by
     obtain ⟨b', o', e, _, hcw⟩ := hcW (by omega)
     injection e with e
     injection e with e1 _ _
     have := World.block_lt_of_cell? w _ (hcw 0 (by omega)).1
     simp only at this
     omega
    have hnb' : ¬ w.heap.size = bb := fun h => hnb h.symm
    clear hcW
    obtain ⟨P, hP⟩ : ∃ P, S + k = P := ⟨_, rfl⟩
    have qP : (S : Int) + (k : Int) = (P : Int) := by omega
    have hPm : P < m := by have := HL.out; omega
    have hPi : (P : Int) < (m : Int) := by omega
    have hPb : P ≤ 1099511627776 := by omega
    have hki : (k : Int) < (L : Int) := by omega
    have hc1 := (hc P hPm).1
    obtain ⟨x, hxk⟩ : ∃ x, ys.getD P 0 = x := ⟨_, rfl⟩
    obtain ⟨y, hyk⟩ : ∃ y, ys.getD (P + 1) 0 = y := ⟨_, rfl⟩
    have hxb : x < 18446744073709551616 := by rw [← hxk]; exact hy.wds.getD P
    have hyb : y < 18446744073709551616 := by rw [← hyk]; exact hy.wds.getD (P + 1)
    rw [hxk] at hc1
    obtain ⟨hor, hZb⟩ := or_down x y s hxb hs64
    have hj : (M.shr s (ys.drop S)).getD k 0 = x / 2 ^ s + y * 2 ^ (64 - s) % 18446744073709551616 := by
     rw [M.shr_getD s _ k (by rw [List.length_drop, hy.num]; have := HL.out; omega)]
     rw [List.getD_eq_getElem?_getD, List.getD_eq_getElem?_getD, List.getElem?_drop, List.getElem?_drop, ← List.getD_eq_getElem?_getD, ← List.getD_eq_getElem?_getD, hP, show S + (k + 1) = P + 1 from by omega, hxk, hyk]
    obtain ⟨Z, hZ⟩ : ∃ Z, x / 2 ^ s + y * 2 ^ (64 - s) % 18446744073709551616 = Z := ⟨_, rfl⟩
    obtain ⟨X1, hX1⟩ : ∃ X1, x / 2 ^ s = X1 := ⟨_, rfl⟩
    obtain ⟨cs, hcs⟩ : ∃ cs, 64 - s = cs := ⟨_, rfl⟩
    have hcs64 : cs ≤ 64 := by omega
    rw [hZ] at hor hZb hj
    rw [hX1, hcs] at hor
    have q5 : (64 : Int) - (s : Int) = (cs : Int) := by omega
    have q6 : (x : Int) / 2 ^ s = (X1 : Int) := by rw [← hX1]; simp
    have HE : Hid (∀ j, j < k + 1 → (zs.set k Z).getD j 0 = (M.shr s (ys.drop S)).getD j 0) := fun j hj2 => by
     by_cases e : j = k
     ·rw [e, M.getD_set_eq (by omega), hj]
     ·rw [M.getD_set_ne' (by omega)]; exact HI.out j (by omega)
    have cg : ∀ q, Calls Tryz.prog 214 #[.slice (some ⟨bb, oo, none⟩) m c, .int .i64 ((P : Int) + 1)] (wr.drewN q) (Same (u64 y) (wr.drewN q)) := fun q => by
     have := wordAt_nat (wr.drewN q) _ _ _ _ _ (hy.up (hu.drewN q)) (P + 1) (by omega) y hyk
     exact this
    have CG := Lib.hid cg
    have CG1 := Lib.hid (show Calls Tryz.prog 214 #[.slice (some ⟨bb, oo, none⟩) m c, .int .i64 ((P : Int) + 1)] wr.drew (Same (u64 y) wr.drew) from cg 1)
    have hcz := hown.cellAt k (by omega)
    rw [cu_get (by omega)] at hcz
    have hfz := hown.frozenAt k
    clear hc hcA hxk hyk hj hZ hX1 hcs hP cg
    have qw1 : IntKind.i64.wrap ((P : Int) + 1) = (P : Int) + 1 := by simp [IntKind.wrap, IntKind.bits, IntKind.signed]; omega
    have qwP : IntKind.i64.wrap (P : Int) = (P : Int) := by simp [IntKind.wrap, IntKind.bits, IntKind.signed]; omega
    have qwc : IntKind.i64.wrap (cs : Int) = (cs : Int) := by simp [IntKind.wrap, IntKind.bits, IntKind.signed]; omega
    have hP0 : (0 : Int) ≤ (P : Int) := by omega
    go_wp2_with fail
    go_region_held3 (fun w' => w'.cell? ⟨bb, oo + P, none⟩ = some (u64 x)) (go_keep) ((go_at_call 214; refine (CG.out _).mono ?_; rintro _ _ ⟨rfl, rfl⟩))
    obtain ⟨h1, _⟩ := hown.stored k (u64 Z)
    rw [cu_set] at h1
    have hown2 : Ow (wr.drew.setCell ⟨w.heap.size, k, none⟩ (u64 Z)) w.heap.size (.slice (some ⟨w.heap.size, 0, none⟩) L L) L (zs.set k Z) := Ow.up h1 ((Up.refl _).drewN 1)
    have hu2 : Up w (wr.drew.setCell ⟨w.heap.size, k, none⟩ (u64 Z)) := (hu.drewN 1).setCell (Nat.le_refl _) _
    clear qw1 qwP qwc
    go_wp2_with fail
    go_roundw
    case rel => exact ⟨k + 1, _, by omega, by go_num, hu2, hown2, hwd.set k hZb, HE⟩
    case measure => simp [intOf]; omega
   ·have hkL : k = L := by omega
    subst hkL
    have hzs : zs = M.shr s (ys.drop S) := by
     refine M.ext_getD (by rw [M.shr_length, List.length_drop, hy.num, hzl]; have := HL.out; omega) fun j hj => HI.out j (by omega)
    have hvs : M.val zs = a / 2 ^ N := by
     rw [hzs, M.val_shr_drop hy.wds hs64 HN.out (by rw [hy.num]; omega), HV.out]
    have HVS := Lib.hid hvs
    have hwd2 := Ow.wd_ hown hwd (by omega)
    clear hvs hzs hown HI hcA hWB
    go_wp2_with fail
    refine (trim_any _ _ _ _ _ _ hwd2).mono ?_
    rintro _ _ ⟨m2, zz, rfl, rfl, hd2, hn2, hv2, hm2⟩
    have HV2 : Hid (M.val zz = a / 2 ^ N) := hv2.trans HVS.out
    clear hv2 hwd2
    go_wp2_with fail
    go_ret
    exact ⟨_, rfl, ⟨_, _, _, zz, rfl, hd2, HV2.out, by omega, hn2⟩, hu⟩
theorem shiftUp_up (w w' : World) (lo : Nat) (A : Option Addr) (n c : Nat) (xs : List Nat) (hx : Wd w lo A n c xs) (hu : Up w w') (N : Nat) (hN : N ≤ 63) (hn : n ≤ 1000000000) :
  Calls Tryz.prog 152 #[.slice A n c, .int .i64 N] w' (Rw (n + 1) (M.val xs * 2 ^ N) w') := by
 have := shiftUp_any w' lo A n c xs (hx.up hu) N (by omega) hn
 rwa [show N / 64 = 0 from by omega, Nat.add_zero] at this
theorem Ow.low {w : World} {base base' : Nat} {v : Value} {n : Nat} {xs : List Nat} (h : Ow w base v n xs) (hb : base' ≤ base) : Ow w base' v n xs := by
 obtain ⟨h1, h2⟩ := h
 refine ⟨h1, ?_⟩
 rcases h2 with h2 | ⟨g, cap, cur, e, k1, k2⟩
 ·exact .inl h2
 ·exact .inr ⟨g, cap, cur, e, Nat.le_trans hb k1, k2⟩
def Two (w : World) (n n' a b : Nat) (r d : Value) (wx : World) : Prop :=
 ∃ (g g' : Nat) (zs bs : List Nat), r = .slice (some ⟨g, 0, none⟩) (n + 1 : Nat) (n + 1) ∧ d = .slice (some ⟨g', 0, none⟩) n' (n' + 1) ∧ w.heap.size ≤ g ∧ g ≠ g' ∧ Ow wx w.heap.size (.slice (some ⟨g, 0, none⟩) (n + 1) (n + 1)) (n + 1) zs ∧ M.Wds zs ∧ M.val zs = a ∧
  Wd wx w.heap.size (some ⟨g', 0, none⟩) n' (n' + 1) bs ∧ M.val bs = b ∧ Up w wx
theorem two_mk {w wa wb wx : World} {n n' a b g g' : Nat} {zs bs : List Nat} (hua : Up w wa) (hub : Up w wb) (hga : wa.heap.size ≤ g) (hne : g ≠ g')
  (h1 : Ow wx wa.heap.size (.slice (some ⟨g, 0, none⟩) (n + 1) (n + 1)) (n + 1) zs) (h2 : M.Wds zs) (h3 : M.val zs = a)
  (k1 : Ow wx wb.heap.size (.slice (some ⟨g', 0, none⟩) (n' + 1) (n' + 1)) (n' + 1) bs) (k2 : M.Wds bs) (k3 : M.val bs = b) (hb : b < 18446744073709551616 ^ n') (hn' : n' ≤ 1000000000) (hu : Up w wx) :
  Two w n n' a b (.slice (some ⟨g, 0, none⟩) (n + 1 : Nat) (n + 1)) (.slice (some ⟨g', 0, none⟩) n' (n' + 1)) wx := by
 have hl := k1.num
 have hd := (Ow.wd_ k1 k2 (by omega)).take (show n' ≤ n' + 1 by omega)
 have hv : M.val (bs.take n') = b := by rw [M.val_take_small (by omega) (by rw [k3]; exact hb)]; exact k3
 have h1' : Ow wx w.heap.size (.slice (some ⟨g, 0, none⟩) (n + 1) (n + 1)) (n + 1) zs := h1.low (Up.size hua)
 exact ⟨g, g', zs, bs.take n', rfl, rfl, Nat.le_trans (Up.size hua) hga, hne, h1', h2, h3, hd.lower (Up.size hub), hv, hu⟩
set_option maxRecDepth 100000 in
theorem divideLong_any : DivLong := by
 intro w lo lo' A A' n c n' c' xs ys hx hy hnx hny hn h2 hnn
 obtain ⟨p, hp⟩ : ∃ p, n' = p + 2 := ⟨n' - 2, by omega⟩
 have hyl := hy.num
 have hxl := hx.num
 have hn'b := hy.len
 obtain ⟨y, hyk⟩ : ∃ y, ys.getD (p + 1) 0 = y := ⟨_, rfl⟩
 have hy0 : y ≠ 0 := by rw [← hyk]; exact M.top_ne hny (by omega)
 have hyb : y < 18446744073709551616 := by rw [← hyk]; exact hy.wds.getD _
 obtain ⟨b1, b2, b3, b4, b5⟩ := M.bitLen_bounds hyb (by omega)
 obtain ⟨s, hs⟩ : ∃ s, 64 - M.bits y = s := ⟨_, rfl⟩
 rw [hs] at b4 b5
 have hs63 : s ≤ 63 := by omega
 have cl : Calls Tryz.prog 260 #[u64 y] w (Same (.int .i64 (s : Int)) w) := by
  have := lead64_any y hyb w
  rwa [b1, show (64 : Int) - ((M.bits y : Nat) : Int) = (s : Int) from by omega] at this
 have CLZ := Lib.hid cl
 obtain ⟨f1, f2⟩ := M.shifted_fits hy.wds (show ys.length = p + 1 + 1 by omega) hyk hs63 b4 b5
 have F1 : Hid (M.val ys * 2 ^ s < 18446744073709551616 ^ n') := by rw [Hid, hp]; exact f1
 have F2 := Lib.hid f2
 have hxlt := M.val_lt hx.wds
 rw [hxl] at hxlt
 have HXL := Lib.hid hxlt
 obtain ⟨bb, oo, rfl, _, hc⟩ := hy.at_ (by omega)
 have hc1 := (hc (p + 1) (by omega)).1
 rw [hyk] at hc1
 obtain ⟨m1, hm1⟩ : ∃ m1, p + 1 = m1 := ⟨_, rfl⟩
 rw [hm1] at hc1
 have q1 : (n' : Int) - 1 = (m1 : Int) := by omega
 have l1 : m1 < n' := by omega
 obtain ⟨L, hL⟩ : ∃ L, n - n' + 1 = L := ⟨_, rfl⟩
 have q2 : (n : Int) - (n' : Int) + 1 = (L : Int) := by omega
 have l2 : L ≤ n := by omega
 have HP := Lib.hid hp
 have HLN : Hid (n + 1 = L + n') := by show _ = _; omega
 clear hyk hy0 hyb b1 b2 b3 b4 b5 hs cl f1 f2 hxlt hc hm1 hp hL hyl hxl hnx
 go_enter Tryz.func208, Tryz.ntmps208
 go_wp2_with fail
 refine CLZ.out.mono ?_
 rintro _ _ ⟨rfl, rfl⟩
 go_wp2_with fail
 go_cut [7, 8] (fun r d wx => Two w n n' (M.val xs * 2 ^ s) (M.val ys * 2 ^ s) r d wx)
 case first =>
  go_region_with (first
   | (go_at_call_of 152 (Value.slice A n c); (with_reducible refine (shiftUp_up w _ lo A n c xs hx ?_ s hs63 hn).mono ?_); (first | with_reducible assumption | exact (Up.refl _).drewN 1 | (refine Up.drewN ?_ 1; assumption)); rintro _ wA ⟨ga, za, rfl, hga, hoa, hwa, hva, hua⟩; have uA := Up.trans (by first | with_reducible assumption | exact (Up.refl w).drewN 1) hua)
   | (go_at_call_of 152 (Value.slice (some ⟨bb, oo, none⟩) n' c'); (with_reducible refine (shiftUp_up w _ lo' (some ⟨bb, oo, none⟩) n' c' ys hy ?_ s hs63 (by omega)).mono ?_); (first | with_reducible assumption | exact (Up.refl _).drewN 1 | (refine Up.drewN ?_ 1; assumption)); rintro _ wB ⟨gb, zb, rfl, hgb, hob, hwb, hvb, hub⟩; have uB := Up.trans (by first | with_reducible assumption | exact (Up.refl w).drewN 1) hub))
  all_goals
   go_wp2_with fail
   go_meet
   first
    | exact two_mk ((Up.refl w).drewN 1) uA hga (Nat.ne_of_lt (Nat.lt_of_lt_of_le (hoa.lt _ rfl).2 hgb)) (Ow.up hoa hub) hwa hva hob hwb hvb F1.out (by omega) uB
    | exact two_mk uB ((Up.refl w).drewN 1) hga (Ne.symm (Nat.ne_of_lt (Nat.lt_of_lt_of_le (hob.lt _ rfl).2 hga))) hoa hwa hva (Ow.up hob hua) hwb hvb F1.out (by omega) uA
 case rest =>
  obtain ⟨g, g', zs, bs, rfl, rfl, hg, hne, hown, hwd, hzv, hB, hbv, hu⟩ := hcut
  have hbl := hB.num
  have HZV := Lib.hid hzv
  have HBV := Lib.hid hbv
  have hgl := (hown.lt _ rfl).2
  obtain ⟨b', o', e, hg', hcB⟩ := hB.at_ (by omega)
  simp only [Option.some.injEq, Addr.mk.injEq, and_true] at e
  obtain ⟨rfl, rfl⟩ := e
  have hgl' := World.block_lt_of_cell? _ _ (hcB 0 (by omega)).1
  simp only at hgl'
  clear hzv hbv hx hy hc1 CLZ F1 hcB
  go_wp2_with (at_make; refine wpList_make_wd _ rfl (.tmp 32) (.tmp 32) 42 rfl info_u64 Tryz.underlying42 (L : Int) (L : Int) L rfl rfl (by omega) (by omega) (by omega) ?_; intro wq hownQ hgq)
  obtain ⟨gq, hgqe⟩ : ∃ gq, wc.heap.size = gq := ⟨_, rfl⟩
  rw [hgqe] at hownQ hgl hgl' ⊢
  have hgq0 : w.heap.size ≤ gq := by have := Up.size hu; omega
  have hownQ0 := Ow.low hownQ hgq0
  have huq : Up w wq := hu.grown hgq (by simp)
  have hownq : Ow wq w.heap.size (.slice (some ⟨g, 0, none⟩) (n + 1) (n + 1)) (n + 1) zs := World.ownsRow.kept hown hgq (Or.inr (by simp [Value.ownBlock]))
  have hBq : Wd wq w.heap.size (some ⟨g', 0, none⟩) n' (n' + 1) bs := hB.kept hgq (fun _ b _ => by simp)
  have hzl := hown.num
  have hg'q : g' ≠ gq := by omega
  have hgq' : g ≠ gq := by omega
  have hst : Hid (M.Lg (M.val zs) (M.val bs) (n + 1) n' L L zs (List.replicate L 0)) := by
   refine M.Lg.start hzl (by simp) rfl ?_
   have := M.start_lt (X := zs) (a := M.val xs) (n := n) (m := p + 1) (s := s) (β := M.val bs) HXL.out hs63 HZV.out hzl (by have := HP.out; omega) (by rw [HBV.out]; exact F2.out)
   rwa [show n - (p + 1) = L from by have := HP.out; have := HLN.out; omega] at this
  have htop : Hid (9223372036854775808 ≤ bs.getD (p + 1) 0) := M.top_ge hB.wds (by have := HP.out; omega) (by rw [HBV.out]; exact F2.out)
  clear hown hownQ hB hgq hgqe hu hgl hgl'
  go_loopw [10] (fun i wr => ∃ (k : Int) (X Q : List Nat), -1 ≤ k ∧ k < L ∧ i = .int .i64 k ∧ Up w wr ∧ Ow wr w.heap.size (.slice (some ⟨g, 0, none⟩) (n + 1) (n + 1)) (n + 1) X ∧ M.Wds X ∧ Ow wr w.heap.size (.slice (some ⟨gq, 0, none⟩) L L) L Q ∧ M.Wds Q ∧
   Wd wr w.heap.size (some ⟨g', 0, none⟩) n' (n' + 1) bs ∧ Hid (M.Lg (M.val zs) (M.val bs) (n + 1) n' L (k + 1).toNat X Q)) (fun i _ => (intOf i + 1).toNat)
  case atStart => exact ⟨(L : Int) - 1, zs, _, by omega, by omega, rfl, huq, hownq, hwd, hownQ0, M.Wds.replicate _, hBq, by rw [show ((L : Int) - 1 + 1).toNat = L from by omega]; exact hst.out⟩
  case round =>
   obtain ⟨k, X, Q, hk1, hk2, rfl, hu, hX, hwX, hQ, hwQ, hB, HL⟩ := hrel
   clear hownq hownQ0 hBq huq hst hwd hzl
   by_cases hk0 : k = -1
   ·subst hk0
    obtain ⟨v1, v2⟩ := HL.out.fin
    have hqw := Ow.wd_ hQ hwQ (by omega)
    have hxw : Nw wr w.heap.size (n + 1) (.slice (some ⟨g, 0, none⟩) (n + 1) (n + 1)) (M.val X) := Ow.nw hX hwX (by omega)
    have hp2 : 0 < 2 ^ s := Nat.pow_pos (by omega)
    have e1 : M.val Q = M.val xs / M.val ys := by rw [v1, HZV.out, HBV.out, Nat.mul_div_mul_right _ _ hp2]
    have e2 : M.val X / 2 ^ s = M.val xs % M.val ys := by rw [v2, HZV.out, HBV.out, Nat.mul_mod_mul_right, Nat.mul_div_cancel _ hp2]
    have E1 := Lib.hid e1
    have E2 := Lib.hid e2
    clear v1 v2 e1 e2 hX hQ HL
    go_wp2_with fail
    refine (trim_any _ _ _ _ _ _ hqw).mono ?_
    rintro _ _ ⟨m2, zz, rfl, rfl, hd2, hn2, hv2, hm2⟩
    have HV2 : Hid (M.val zz = M.val xs / M.val ys) := hv2.trans E1.out
    clear hv2 hqw
    go_wp2_with fail
    refine (shr_any _ _ _ _ _ hxw (s : Int) s (by omega)).mono ?_
    rintro _ w9 ⟨v9, rfl, h9, hu9⟩
    rw [E2.out] at h9
    go_wp2_with fail
    go_ret2
    refine ⟨_, _, rfl, ⟨_, _, _, zz, rfl, (hd2.up hu9), HV2.out, by omega, hn2⟩, (h9.lower (Up.size hu)).fit ?_, hu.trans hu9⟩
    exact Nat.lt_of_le_of_lt (Nat.mod_le _ _) HXL.out
   ·obtain ⟨i, rfl⟩ := Int.eq_ofNat_of_zero_le (show 0 ≤ k by omega)
    have hiL : i < L := by omega
    have hI := HL.out
    rw [show ((i : Int) + 1).toNat = i + 1 from by omega] at hI
    have hN1 := HLN.out
    have hn1 : i + n' + 1 - i = n' + 1 := by omega
    have CW := Lib.hid (takeDigit_any wr wr w.heap.size w.heap.size g (n + 1) i (i + n' + 1 - i) (n + 1 - i) p n' (n' + 1) (some ⟨g', 0, none⟩) X bs (World.grownBy.refl _ _) hB (fun _ b e => by
     simp only [Option.map_some, Option.some.injEq] at e
     subst e
     simpa using hne) hX hwX (by omega) HP.out hn1 htop.out (hI.next hwX hB.wds hbl hiL hN1).2.1)
    have HN := Lib.hid hI
    clear hI hN1 HL hn1
    go_wp2_with fail
    refine CW.out.mono ?_
    rintro _ w2 ⟨q, X', rfl, hq, hgw, hX', hwX', HDG⟩
    have hu2 : Up w w2 := hu.grown hgw (fun b e => by cases e; exact hg)
    have hQ2 : Ow w2 w.heap.size (.slice (some ⟨gq, 0, none⟩) L L) L Q := World.ownsRow.kept hQ hgw (Or.inr (by simp only [Value.ownBlock, ne_eq, Option.some.injEq]; exact fun e => hgq' e.symm))
    have hB2 : Wd w2 w.heap.size (some ⟨g', 0, none⟩) n' (n' + 1) bs := hB.kept hgw (fun _ b e => by
     simp only [Option.map_some, Option.some.injEq] at e
     subst e
     simpa using hne)
    have hLN := Lib.hid (HN.out.step hwX hB.wds hbl hiL HLN.out hX'.num HDG)
    have hcz := hQ2.cellAt i (by omega)
    have hQl := hQ2.num
    rw [cu_get (by omega)] at hcz
    have hfz := hQ2.frozenAt i
    clear CW hX hwX hQ hB HN HDG hu hgw
    go_wp2_with fail
    go_roundw
    case rel =>
     obtain ⟨h1, h2⟩ := hQ2.stored i (u64 q)
     rw [cu_set] at h1
     refine ⟨(i : Int) - 1, X', _, by omega, by omega, rfl, hu2.setCell hgq0 _, World.ownsRow.kept hX' h2 (Or.inr (by simp only [Value.ownBlock, ne_eq, Option.some.injEq]; exact hgq')), hwX', h1, hwQ.set i hq, hB2.kept h2 (fun _ b e => by
      simp only [Option.map_some, Option.some.injEq] at e
      subst e
      simp only [ne_eq, Option.some.injEq]
      exact fun e => hg'q e.symm), by rw [show ((i : Int) - 1 + 1).toNat = i from by omega]; exact hLN.out⟩
    case measure => simp [intOf]
theorem div_any (w : World) (lo lo' s s' : Nat) (v v' : Value) (a b : Nat) (h : Nw w lo s v a) (h' : Nw w lo' s' v' b) (hb0 : 0 < b) (hs : s ≤ 1000000000) :
  Calls Tryz.prog 149 #[v, v'] w (Div3 (s + 1) (a / b) (a % b) true w) := div_of w lo lo' s s' v v' a b h h' hb0 hs (.inr divideLong_any)
theorem wpList_append_by {P : Program} (w : World) {ops : Array Oper} {rest : List Oper} {o : Oper} {a : Act} {Q : Exit → Act → World → Prop} (hgd : o.guard = none) (sl x : Operand) (t : TypeId)
  (ho : o.op = .call { callee := .builtin .append, args := #[sl, x], argTypes := #[t, t] })
  (hP : (P.info? 5).map (fun i => (i.zero, i.size, i.bytes)) = some (some (.int .u8 0), 1, 1)) (base : Nat) (ht : P.underlying t = some (.slice 5))
  (v : Value) (bs : List UInt8) (hs : a.eval sl = v) (hown : By w base v bs) (ad : Addr) (m c : Nat) (cs : List UInt8) (hx : a.eval x = .slice (some ad) m c) (hm : cs.length = m)
  (hy : ∀ j u, (Lib.byteCells cs)[j]? = some u → w.cell? (ad.add j) = some u) (hn : bs.length + m ≤ 1000000000000) (hbase : base ≤ w.heap.size)
  (h : ∀ v' w', By w' base v' (bs ++ cs) → w.grownBy w' v.ownBlock → wpList P ops Q rest (a.put o.dst v') w') : wpList P ops Q (o :: rest) a w := by
 obtain ⟨i, hi, hz0, hz1, hz2⟩ := info_parts hP
 refine wpList_plain hgd fun K hK => ?_
 obtain ⟨v', w', hr, h2, h3, _, _⟩ := run_append_own_at (P := P) w base t o.type 5 i _ 1 1 ht hi hz0 hz1 hz2 rfl (by omega) v bs.length _ hown ad m c (Lib.byteCells cs) (by rw [Lib.byteCells_length]; omega) hy (Lib.byteCells_one _)
  (by simp only [maxLen]; omega) (by omega) hbase
 unfold Oper.wp execOp
 simp only [ho, resolve, invoke, builtin, Sem.run_bind, Sem.run_pure, Result.andThen_ok, List.map_toArray, List.map_cons, List.map_nil, hs, hx, hr]
 refine hK _ _ (h v' w' ?_ h3)
 rw [By, List.length_append, Lib.byteCells_append, hm]
 exact h2
theorem By.form {w : World} {base : Nat} {v : Value} {bs : List UInt8} (h : By w base v bs) : ∃ A c, v = .slice A bs.length c ∧ (0 < bs.length → ∃ g, A = some ⟨g, 0, none⟩) := by
 rcases h.2 with ⟨e, h1⟩ | ⟨g, cap, cur, e, _⟩
 ·refine ⟨none, 0, ?_, fun h0 => by omega⟩
  rw [e, h1]
 ·exact ⟨_, _, e, fun _ => ⟨g, rfl⟩⟩
theorem bc_get {bs : List UInt8} {j : Nat} (h : j < bs.length) : (Lib.byteCells bs)[j]? = some (.int .u8 ((bs.getD j 0).toNat : Int)) := by
 simp [Lib.byteCells, List.getD_eq_getElem?_getD, List.getElem?_eq_getElem h]
theorem bc_set (bs : List UInt8) (i : Nat) (x : UInt8) : (Lib.byteCells bs).set i (.int .u8 (x.toNat : Int)) = Lib.byteCells (bs.set i x) := by simp [Lib.byteCells, List.map_set]
theorem u8_of {d : Nat} (h : d ≤ 9) : ((UInt8.ofNat (48 + d)).toNat : Int) = 48 + (d : Int) := by
 rw [show (UInt8.ofNat (48 + d)).toNat = (48 + d) % 256 from rfl]; omega
theorem lit1_cell (w : World) (v : Value) (t : TypeId) : (w.alloc (.cells #[v] t)).cell? ((⟨w.heap.size, 0, none⟩ : Addr).add 0) = some v := by
 show (match (w.heap.push (.cells #[v] t))[w.heap.size]? with | some (.cells c _ _) => c[0 + 0]? | _ => none) = _
 simp
theorem nh_l0 {w : World} {lo s : Nat} {A : Option Addr} {n c a : Nat} (h : Nh w lo s (.slice A n c) a) : (n = 0 ↔ a = 0) := by
 obtain ⟨A', n', c', xs, e, h1, h2, h3, _, h4⟩ := h
 injection e with _ e2 _
 subst e2
 constructor
 ·intro h
  have e : xs = [] := List.eq_nil_of_length_eq_zero (by rw [h1.num, h])
  rw [← h3, e]
  rfl
 ·intro h
  have := M.hlen_of_lt (k := 0) h2 h4 (by rw [h3, h]; exact Nat.lt_of_lt_of_le Nat.zero_lt_one (Nat.le_refl _))
  rw [← h1.num]
  omega
theorem M.DgInv.len {a cur : Nat} {bs : List UInt8} (h : M.DgInv a cur bs) : bs.length ≤ (Lib.decDigits a).length := by
 by_cases e : bs = []
 ·rw [e]; exact Nat.zero_le _
 ·rw [h.rest e, List.length_append, List.length_reverse]
  omega
set_option maxRecDepth 100000 in
theorem rdigits1_any (w : World) (lo s : Nat) (v : Value) (a : Nat) (h : Nh w lo s v a) (hs : s ≤ 100000) (hL : (Lib.decDigits a).length ≤ 1000000) (S : ByteArray) (hS : (⟨(Lib.decDigits a).toArray⟩ : ByteArray) = S) :
  Calls Tryz.prog 50 #[v] w (Str S w) := by
 have hst : By (w.alloc (.cells #[] 5)) w.heap.size (.slice (some ⟨w.heap.size, 0, none⟩) 0 0) [] := World.ownsRow_lit w #[] 0 (Nat.le_refl _) (by simp only [maxLen]; omega) rfl
 have h0 := (h.up ((Up.refl w).alloc (.cells #[] 5))).lower (Nat.zero_le _)
 have HS := Lib.hid hS
 have hst2 := Lib.hid (M.DgInv.start a)
 clear h hS
 go_enter Tryz.func50, Tryz.ntmps50
 go_wp2_with fail
 go_loopg [0, 3] (a + 1) (fun g av ov wr => ∃ (cur : Nat) (bs : List UInt8), cur + (1 - bs.length) ≤ g ∧ Up w wr ∧ w.heap.size ≤ wr.heap.size ∧ Nh wr 0 s av cur ∧ By wr w.heap.size ov bs ∧ Hid (M.DgInv a cur bs))
 case atStart => exact ⟨a, [], by simp, (Up.refl w).alloc _, by simp, h0, hst, hst2⟩
 case round =>
  obtain ⟨cur, bs, hg, U, hsz, na, by_, HI⟩ := hrel
  obtain ⟨wo, rfl⟩ : ∃ x, x = wr := ⟨_, rfl⟩
  clear hst hst2 h0
  obtain ⟨A, n, c, xs, rfl, hwd, hhs, hv, hns, hnm⟩ := na
  obtain ⟨N, hN⟩ : ∃ N, bs.length = N := ⟨_, rfl⟩
  have hform := by_.form
  rw [hN] at hform
  obtain ⟨A2, c2, rfl, hA2⟩ := hform
  have hn0 : n = 0 ↔ cur = 0 := nh_l0 (w := wo) (lo := 0) (s := s) (A := A) (c := c) ⟨A, n, c, xs, rfl, hwd, hhs, hv, hns, hnm⟩
  have hbl := HI.out.len
  rw [hN] at hg hbl
  have HN := Lib.hid hN
  have hNb : N ≤ 1000000 := by omega
  by_cases hgo : 0 < n ∨ N = 0
  ·have hdg := HI.out.step (by
    rcases hgo with e | e
    ·left; intro e2; have := hn0.2 e2; omega
    ·right; exact List.eq_nil_of_length_eq_zero (by rw [hN, e]))
   have HDG := Lib.hid hdg
   have hmeas : cur / 10 + 1 ≤ cur + (1 - N) := by
    rcases Nat.eq_zero_or_pos n with e | e
    ·have := hn0.1 e; omega
    ·have : cur ≠ 0 := fun e2 => by have := hn0.2 e2; omega
     omega
   have hmeas2 : cur / 10 < gk := by omega
   have bsm := hwd.small
   have bc := hwd.len
   have hst3 := M.TdInv.start xs
   rw [hwd.num] at hst3
   have HST3 := Lib.hid hst3
   have HV := Lib.hid hv
   have hgoo : 0 < n ∨ (¬ 0 < n ∧ N = 0) := by omega
   clear hdg hst3 hv hn0 hbl hgo hN hL HI hg hmeas hnm
   rcases hgoo with hgo | ⟨hgo, rfl⟩
   all_goals
    go_wp2_with (at_make; refine wpList_make_wd _ rfl (.tmp 20) (.tmp 20) 41 rfl info_u64 Tryz.underlying41 (n : Int) (n : Int) n rfl rfl (by omega) (by omega) (by omega) ?_; intro w1 hown1 hg1)
    have u1 : Up wo w1 := (Up.refl wo).grown hg1 (by simp)
    have hq1 : wo.heap.size < w1.heap.size := (World.ownsRow.lt hown1 wo.heap.size (by simp [Value.ownBlock])).2
    clear hg1
    go_loopw [4, 6] (fun lv iv wi => ∃ (i left : Nat) (qs : List Nat), i ≤ n ∧ left ≤ 9 ∧ lv = u64 left ∧ iv = .int .i64 i ∧ Up wo wi ∧ wo.heap.size < wi.heap.size ∧ Ow wi wo.heap.size (.slice (some ⟨wo.heap.size, 0, none⟩) n n) n qs ∧ Hid (M.TdInv xs i left qs)) (fun _ iv _ => (intOf iv).toNat)
    case atStart => exact ⟨n, 0, _, Nat.le_refl _, by omega, rfl, rfl, u1, hq1, hown1, HST3⟩
    case round =>
     obtain ⟨i, left, qs, hi, hl9, rfl, rfl, u, hq, hown, HT⟩ := hrel
     clear u1 hq1 hown1 HST3 hgo
     rcases Nat.eq_zero_or_pos i with hi0 | hi0
     ·subst hi0
      obtain ⟨f1, f2⟩ := HT.out.fin
      have hqh := HT.out.hw
      rw [HV.out] at f1 f2
      have F2 := Lib.hid f2
      have F1 : cur % 10 = left := f1.symm
      rw [F1] at HDG
      clear f1 f2 F1 HT hwd hhs
      have e1 : IntKind.u64.wrap (48 + (left : Int)) = 48 + (left : Int) := by rw [IntKind.wrap_u64]; omega
      have e2 : IntKind.u8.wrap (48 + (left : Int)) = 48 + (left : Int) := by show (48 + (left : Int)) % 256 = _; omega
      have u2 : Up wr (wr.alloc (.cells #[.int .u8 (48 + (left : Int))] 5)) := (Up.refl wr).alloc _
      have by3 := (by_.up u).up u2
      have hcell : ∀ j x, (Lib.byteCells [UInt8.ofNat (48 + left)])[j]? = some x → (wr.alloc (.cells #[.int .u8 (48 + (left : Int))] 5)).cell? ((⟨wr.heap.size, 0, none⟩ : Addr).add j) = some x := by
       intro j x hj
       have hj0 : j = 0 := by
        have := (List.getElem?_eq_some_iff.1 hj).1
        rw [Lib.byteCells_length] at this
        simpa using this
       subst hj0
       rw [lit1_cell, ← hj, bc_get (by simp), ← u8_of hl9]
       rfl
      have HC := Lib.hid hcell
      have own2 := Ow.up hown u2
      have hb1 : w.heap.size ≤ (wr.alloc (.cells #[.int .u8 (48 + (left : Int))] 5)).heap.size := Nat.le_trans (Nat.le_trans hsz (Up.size u)) (Up.size u2)
      clear hcell hown
      go_wp2_with (at_builtin; refine wpList_append_by _ rfl (.tmp 44) (.tmp 48) _ rfl info_u8 w.heap.size Tryz.underlying120 _ bs rfl by3 ⟨wr.heap.size, 0, none⟩ 1 1 [UInt8.ofNat (48 + left)] rfl rfl HC.out (by have := HN.out; omega) hb1 ?_; intro v3 w3 hby3 hg3)
      have u3 : Up w w3 := ((U.trans u).trans u2).grown hg3 (fun b hb => (World.ownsRow.lt by3 b hb).1)
      have own3 := World.ownsRow.kept own2 hg3 (.inr (fun e => by
       have := (World.ownsRow.lt by_ wo.heap.size e.symm).2
       omega))
      have hwdq := Ow.wd_ own3 hqh.wds (by omega)
      clear own2 own3 by3 hg3 HC u2
      refine (trim_hs _ _ s _ _ _ _ hwdq hqh (cur / 10) F2 hns).mono ?_
      rintro _ _ ⟨v4, rfl, rfl, h4⟩
      clear hwdq
      go_wp2_with fail
      go_roundg (cur / 10)
      case measure => omega
      case rel => exact ⟨cur / 10, _, by rw [List.length_append, List.length_singleton]; omega, u3, u3.size, h4.lower (Nat.zero_le _), hby3, HDG⟩
     ·obtain ⟨j, rfl⟩ : ∃ j, i = j + 1 := ⟨i - 1, by omega⟩
      obtain ⟨bb, oo, rfl, _, hc⟩ := (hwd.up u).at_ (by omega)
      obtain ⟨x, hxk⟩ : ∃ x, xs.getD j 0 = x := ⟨_, rfl⟩
      have hxb : x < 4294967296 := by rw [← hxk]; exact hhs.getD j
      have hc1 := (hc j (by omega)).1
      rw [hxk] at hc1
      obtain ⟨t, ht⟩ : ∃ t, left * 4294967296 + x = t := ⟨_, rfl⟩
      obtain ⟨_, g1, g2, g3⟩ := HT.out.step (by rw [hwd.num]; omega) hxk hxb ht
      obtain ⟨T0, hT0⟩ : ∃ T0, t % 10 = T0 := ⟨_, rfl⟩
      obtain ⟨T1, hT1⟩ : ∃ T1, t / 10 = T1 := ⟨_, rfl⟩
      rw [hT0, hT1] at g3
      rw [hT1] at g2
      have HE := Lib.hid g3
      have q1 : ((j + 1 : Nat) : Int) - 1 = (j : Int) := by omega
      have q2 : (j : Int) + 1 - 1 = (j : Int) := by omega
      have e1 : IntKind.u64.wrap ((left : Int) * 4294967296) = (left : Int) * 4294967296 := by rw [IntKind.wrap_u64]; omega
      have qt : (left : Int) * 4294967296 + (x : Int) = (t : Int) := by omega
      have e2 : IntKind.u64.wrap (t : Int) = (t : Int) := by rw [IntKind.wrap_u64]; omega
      have qT1 : (t : Int) / 10 = (T1 : Int) := by omega
      have qT1' : (t : Int).tdiv 10 = (T1 : Int) := by rw [Int.tdiv_eq_ediv_of_nonneg (by omega)]; exact qT1
      have qT0 : (t : Int) % 10 = (T0 : Int) := by omega
      have qT0' : (t : Int).tmod 10 = (T0 : Int) := by rw [Int.tmod_eq_emod_of_nonneg (by omega)]; exact qT0
      have hT09 : T0 ≤ 9 := by omega
      have hjn : j < n := by omega
      have hcz := hown.cellAt j (by omega)
      rw [cu_get (by have := hown.num; omega)] at hcz
      have hfz := hown.frozenAt j
      clear g3 hc hxk ht hT0 hT1 HT
      go_wp2_with fail
      go_roundw
      case rel =>
       obtain ⟨h1, _⟩ := hown.stored j (u64 T1)
       rw [cu_set] at h1
       exact ⟨j, T0, _, by omega, hT09, by go_num, by go_num, u.setCell (p := ⟨wo.heap.size, j, none⟩) (Nat.le_refl _) _, by rw [show (wr.setCell ⟨wo.heap.size, j, none⟩ (u64 T1)).heap.size = wr.heap.size by simp [World.setCell]]; exact hq, h1, HE⟩
      case measure => simp [intOf] <;> omega
  ·have hn00 : n = 0 := by omega
   have hc0 : cur = 0 := hn0.1 hn00
   have hNpos : 0 < N := by omega
   obtain ⟨g0, rfl⟩ := hA2 hNpos
   subst hn00
   have hI := HI.out
   rw [hc0] at hI
   have hrev := hI.fin (by intro e; rw [e] at hN; simp at hN; omega)
   have HREV := Lib.hid hrev
   obtain ⟨H, hH⟩ : ∃ H, N / 2 = H := ⟨_, rfl⟩
   have q1 : (N : Int) / 2 = (H : Int) := by omega
   have q2 : (N : Int).tdiv 2 = (H : Int) := by rw [Int.tdiv_eq_ediv_of_nonneg (by omega)]; exact q1
   have hHN : 2 * H ≤ N := by omega
   have HH := Lib.hid hH
   have hrv := Lib.hid (M.Rvd.start bs)
   have hng : ¬ 0 < 0 := by omega
   have own : wo.ownsRow w.heap.size 5 1 (.slice (some ⟨g0, 0, none⟩) N c2) N (Lib.byteCells bs) := by
    have := by_
    rw [By, hN] at this
    exact this
   have hN0 : ((N : Int) == 0) = false := by rw [beq_eq_false_iff_ne]; omega
   clear hI hrev hgo hn0 hwd hhs hv hnm hns by_ hH HI hL hbl hN hg hc0 hA2
   go_wp2_with fail
   go_loopw [8] (fun iv wr => ∃ (i : Nat) (cu8 : List UInt8), i ≤ H ∧ iv = .int .i64 i ∧ Up w wr ∧ wr.ownsRow w.heap.size 5 1 (.slice (some ⟨g0, 0, none⟩) N c2) N (Lib.byteCells cu8) ∧ Hid (M.Rvd bs i cu8)) (fun iv _ => H - (intOf iv).toNat)
   case atStart => exact ⟨0, bs, by omega, rfl, U, own, hrv⟩
   case round =>
    obtain ⟨i, cu8, hi, rfl, U2, own2, HR⟩ := hrel
    clear own hrv U
    have hcl : cu8.length = N := by rw [HR.out.1]; exact HN.out
    by_cases hlt : i < H
    ·obtain ⟨K, hK⟩ : ∃ K, N - 1 - i = K := ⟨_, rfl⟩
     obtain ⟨X, hX⟩ : ∃ X, cu8.getD i 0 = X := ⟨_, rfl⟩
     obtain ⟨Y, hY⟩ : ∃ X, cu8.getD K 0 = X := ⟨_, rfl⟩
     have hst := HR.out.step (by rw [HN.out, HH.out]; exact hlt)
     rw [HN.out, hK, hX, hY] at hst
     have HST := Lib.hid hst
     have r1 : (N : Int) - 1 - (i : Int) = (K : Int) := by omega
     have c1 := own2.cellAt i (by omega)
     have c2' := own2.cellAt K (by omega)
     rw [bc_get (by omega), hX] at c1
     rw [bc_get (by omega), hY] at c2'
     have f1 := own2.frozenAt i
     have f2 := own2.frozenAt K
     have hiK : ¬ i = K := by omega
     have hKi : ¬ K = i := by omega
     have hKN : K < N := by omega
     have hiN : i < N := by omega
     have HCL := Lib.hid hcl
     clear hK hX hY hst hcl
     go_wp2_with fail
     go_roundw
     case rel =>
      obtain ⟨k1, _⟩ := own2.stored i (.int .u8 (Y.toNat : Int))
      obtain ⟨k2, _⟩ := k1.stored K (.int .u8 (X.toNat : Int))
      rw [bc_set, bc_set] at k2
      have hgb : w.heap.size ≤ g0 := (World.ownsRow.lt own2 g0 (by simp [Value.ownBlock])).1
      exact ⟨i + 1, _, by omega, by go_num, (U2.setCell (p := ⟨g0, i, none⟩) hgb _).setCell (p := ⟨g0, K, none⟩) hgb _, k2, HST⟩
     case measure => simp [intOf] <;> omega
    ·have hfin := HR.out.fin (by rw [HN.out, HH.out]; omega)
     have hcu : cu8 = Lib.decDigits a := by rw [hfin, HREV.out]
     have hby : By wr w.heap.size (.slice (some ⟨g0, 0, none⟩) N c2) cu8 := by rw [By, hcl]; exact own2
     have hcv := conv_bytes hby (by rw [hcl]; exact hNpos)
     rw [hcu, HS.out] at hcv
     clear hfin hcu hcl hby
     go_wp2_with fail
     go_ret
     exact ⟨rfl, U2⟩
end Go.Proofs.YtcmlanfgafancaaGreatDoor
