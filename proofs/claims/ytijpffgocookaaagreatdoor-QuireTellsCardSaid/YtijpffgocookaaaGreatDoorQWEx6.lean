import Derived.Test.YtijpffgocookaaaGreatDoorQWNb
import Derived.Test.YtijpffgocookaaaGreatDoorQWNa
import Derived.Deep.RegionHeld3
import Derived.Deep.DrawnRows
import Derived.Test.YtijpffgocookaaaGreatDoorQWTake
import Derived.Deep.DeepCutAuto
import Derived.Test.YtijpffgocookaaaGreatDoorQWExa
set_option maxHeartbeats 32000000
set_option linter.unusedVariables false
set_option linter.unusedSimpArgs false
namespace Go.Proofs.YtijpffgocookaaaGreatDoor
open Go.RowKit Go.Shelf
namespace M
def shr (s : Nat) : List Nat → List Nat
 | [] => []
 | x :: r => (x / 2 ^ s + r.getD 0 0 * 2 ^ (64 - s) % 18446744073709551616) :: shr s r
theorem shr_length (s : Nat) : ∀ xs, (shr s xs).length = xs.length
 | [] => rfl
 | x :: r => by rw [shr, List.length_cons, List.length_cons, shr_length s r]
theorem shr_getD (s : Nat) : ∀ (xs : List Nat) (j : Nat), j < xs.length → (shr s xs).getD j 0 = xs.getD j 0 / 2 ^ s + xs.getD (j + 1) 0 * 2 ^ (64 - s) % 18446744073709551616
 | [], j, h => by simp at h
 | x :: r, 0, _ => rfl
 | x :: r, j + 1, h => by
  rw [shr, List.getD_cons_succ, shr_getD s r j (by simpa using h), List.getD_cons_succ, List.getD_cons_succ]
theorem val_mod (s : Nat) (hs : s < 64) (r : List Nat) : val r % 2 ^ s = r.getD 0 0 % 2 ^ s := by
 cases r with
 | nil => rfl
 | cons x r =>
  have hB : (18446744073709551616 : Nat) = 2 ^ s * 2 ^ (64 - s) := by rw [← Nat.pow_add, show s + (64 - s) = 64 from by omega]
  rw [val, List.getD_cons_zero, hB, Nat.mul_assoc, Nat.add_mul_mod_self_left]
theorem val_shr (s : Nat) (hs : s < 64) : ∀ xs, val (shr s xs) = val xs / 2 ^ s
 | [] => by simp [shr, val]
 | x :: r => by
  have hB : (18446744073709551616 : Nat) = 2 ^ s * 2 ^ (64 - s) := by rw [← Nat.pow_add, show s + (64 - s) = 64 from by omega]
  have hp : 0 < 2 ^ s := Nat.pow_pos (by omega)
  have e1 : r.getD 0 0 * 2 ^ (64 - s) % 18446744073709551616 = (val r % 2 ^ s) * 2 ^ (64 - s) := by
   rw [hB, Nat.mul_mod_mul_right, val_mod s hs r]
  have e2 : (x + 18446744073709551616 * val r) / 2 ^ s = x / 2 ^ s + 2 ^ (64 - s) * val r := by
   rw [hB, Nat.mul_assoc, Nat.add_mul_div_left _ _ hp]
  have e3 : 2 ^ (64 - s) * val r = (val r % 2 ^ s) * 2 ^ (64 - s) + 18446744073709551616 * (val r / 2 ^ s) := by
   have h := Nat.mod_add_div (val r) (2 ^ s)
   calc 2 ^ (64 - s) * val r = 2 ^ (64 - s) * (val r % 2 ^ s + 2 ^ s * (val r / 2 ^ s)) := by rw [h]
    _ = _ := by rw [Nat.mul_add, hB, Nat.mul_comm (2 ^ (64 - s)) (val r % 2 ^ s), ← Nat.mul_assoc, Nat.mul_comm (2 ^ (64 - s)) (2 ^ s)]
  rw [shr, val, val, val_shr s hs r, e1, e2, e3]
  omega
theorem val_div {xs : List Nat} (h : Wds xs) (S : Nat) (hS : S ≤ xs.length) : val (xs.drop S) = val xs / 18446744073709551616 ^ S := by
 have h1 := val_split xs S hS
 have h2 := val_lt (h.take S)
 rw [List.length_take, Nat.min_eq_left hS] at h2
 rw [h1, Nat.add_mul_div_left _ _ (Nat.pow_pos (by omega)), Nat.div_eq_of_lt h2, Nat.zero_add]
theorem val_shr_drop {xs : List Nat} (h : Wds xs) {S s N : Nat} (hs : s < 64) (hN : N = 64 * S + s) (hS : S ≤ xs.length) : val (shr s (xs.drop S)) = val xs / 2 ^ N := by
 rw [val_shr s hs, val_div h S hS, Nat.div_div_eq_div_mul, hN, Nat.pow_add, Nat.pow_mul]
end M
theorem or_down (x y s : Nat) (hx : x < 18446744073709551616) (hs : s < 64) :
  bits .or .u64 ((x / 2 ^ s : Nat) : Int) (IntKind.u64.wrap ((y : Int) * 2 ^ (64 - s))) = ((x / 2 ^ s + y * 2 ^ (64 - s) % 18446744073709551616 : Nat) : Int) ∧ x / 2 ^ s + y * 2 ^ (64 - s) % 18446744073709551616 < 18446744073709551616 := by
 have hB : (18446744073709551616 : Nat) = 2 ^ s * 2 ^ (64 - s) := by rw [← Nat.pow_add, show s + (64 - s) = 64 from by omega]
 have hp : 0 < 2 ^ s := Nat.pow_pos (by omega)
 have hq : 0 < 2 ^ (64 - s) := Nat.pow_pos (by omega)
 have h1 : x / 2 ^ s < 2 ^ (64 - s) := Nat.div_lt_of_lt_mul (by rw [← hB]; exact hx)
 have e1 : (y : Int) * 2 ^ (64 - s) = ((y * 2 ^ (64 - s) : Nat) : Int) := by simp
 have e2 : IntKind.u64.wrap ((y * 2 ^ (64 - s) : Nat) : Int) = ((y * 2 ^ (64 - s) % 18446744073709551616 : Nat) : Int) := by
  rw [IntKind.wrap_u64]; omega
 have h2 : y * 2 ^ (64 - s) % 18446744073709551616 % 2 ^ (64 - s) = 0 := by
  rw [hB, Nat.mul_mod_mul_right]
  exact Nat.mul_mod_left _ _
 have h3 : y * 2 ^ (64 - s) % 18446744073709551616 + 2 ^ (64 - s) ≤ 18446744073709551616 := by
  rw [hB, Nat.mul_mod_mul_right]
  have h4 : y % 2 ^ s < 2 ^ s := Nat.mod_lt _ hp
  calc y % 2 ^ s * 2 ^ (64 - s) + 2 ^ (64 - s) = (y % 2 ^ s + 1) * 2 ^ (64 - s) := by rw [Nat.add_mul, Nat.one_mul]
   _ ≤ _ := Nat.mul_le_mul_right _ h4
 have h5 : (2 : Nat) ^ (64 - s) ≤ 2 ^ 64 := Nat.pow_le_pow_right (by omega) (by omega)
 refine ⟨?_, by omega⟩
 rw [e1, e2, bits_or_u64_nat _ _ (by omega) (by omega), Nat.or_comm, nat_join (64 - s) _ _ h2 h1, Nat.add_comm]
set_option maxRecDepth 100000 in
theorem shr_any (w : World) (lo s0 : Nat) (v : Value) (a : Nat) (h : Nw w lo s0 v a) (n : Int) (N : Nat) (hN : max 0 (min n 131072) = (N : Int)) :
  Calls Tryz.prog 161 #[v, .int .i64 n] w (Res s0 (a / 2 ^ N) w) := by
 obtain ⟨A, k, c, xs, rfl, hx, ha, hns⟩ := h
 have HA := Lib.hid ha
 have cl := clamp_any w n 131072
 rw [hN] at cl
 have CL := Lib.hid cl
 have hN1 : N ≤ 131072 := by omega
 obtain ⟨S, hS⟩ : ∃ S, N / 64 = S := ⟨_, rfl⟩
 obtain ⟨s, hs⟩ : ∃ s, N % 64 = s := ⟨_, rfl⟩
 have hs64 : s < 64 := by omega
 have hSb : S ≤ 2048 := by omega
 have q1 : (N : Int) / 64 = (S : Int) := by omega
 have q2 : (N : Int) % 64 = (s : Int) := by omega
 have q3 : (N : Int).tdiv 64 = (S : Int) := by rw [Int.tdiv_eq_ediv_of_nonneg (by omega)]; exact q1
 have q4 : (N : Int).tmod 64 = (s : Int) := by rw [Int.tmod_eq_emod_of_nonneg (by omega)]; exact q2
 have HN : Hid (N = 64 * S + s) := by show _ = _; omega
 clear ha cl hN hN1 hS hs
 go_enter Tryz.func161, Tryz.ntmps161
 go_wp2_with fail
 refine (trim_any w lo A k c xs hx).mono ?_
 rintro _ _ ⟨m, ys, rfl, rfl, hy, hny, hv, hmn⟩
 have HV : Hid (M.val ys = a) := hv.trans HA.out
 clear hx hv HA
 go_wp2_with fail
 refine CL.out.mono ?_
 rintro _ _ ⟨rfl, rfl⟩
 have b1 := hy.len
 have b2 := hy.small
 by_cases hSm : m ≤ S
 ·have h0 : a / 2 ^ N = 0 := by
   apply Nat.div_eq_of_lt
   rw [← HV.out, HN.out, Nat.pow_add, Nat.pow_mul]
   have h1 := M.val_lt hy.wds
   rw [hy.num] at h1
   have h2 : (18446744073709551616 : Nat) ^ m ≤ 18446744073709551616 ^ S := Nat.pow_le_pow_right (by omega) hSm
   have h3 : (18446744073709551616 : Nat) ^ S * 1 ≤ 18446744073709551616 ^ S * 2 ^ s := Nat.mul_le_mul_left _ (Nat.pow_pos (by omega))
   show _ < 18446744073709551616 ^ S * 2 ^ s
   omega
  have H0 := Lib.hid h0
  clear h0
  go_wp2_with fail
  go_ret
  rw [H0.out]
  exact ⟨_, rfl, Nt.nil _ _ _, Up.refl w⟩
 ·obtain ⟨L, hL⟩ : ∃ L, m - S = L := ⟨_, rfl⟩
  have qL : (m : Int) - (S : Int) = (L : Int) := by omega
  have hLb : L ≤ m := by omega
  have hSm2 : S < m := by omega
  have HL : Hid (m = S + L) := by show _ = _; omega
  clear hL hSm
  go_wp2_with (at_make; refine wpList_make_wd _ rfl (.tmp 24) (.tmp 24) 32 rfl info_u64 Tryz.underlying32 (L : Int) (L : Int) L rfl rfl (by omega) (by omega) (by omega) ?_; intro w1 hown1 hg1)
  have hu1 : Up w w1 := (Up.refl w).grown hg1 (by simp)
  have hst : Hid (∀ j, j < 0 → (List.replicate L 0).getD j 0 = (M.shr s (ys.drop S)).getD j 0) := fun j hj => by omega
  go_loopw [28] (fun i wr => ∃ (k : Nat) (zs : List Nat), k ≤ L ∧ i = .int .i64 k ∧ Up w wr ∧ Ow wr w.heap.size (.slice (some ⟨w.heap.size, 0, none⟩) L L) L zs ∧ M.Wds zs ∧ Hid (∀ j, j < k → zs.getD j 0 = (M.shr s (ys.drop S)).getD j 0)) (fun i _ => L - (intOf i).toNat)
  case atStart => exact ⟨0, _, by omega, rfl, hu1, hown1, M.Wds.replicate _, hst⟩
  case round =>
   obtain ⟨k, zs, hk, rfl, hu, hown, hwd, HI⟩ := hrel
   have hcA := (hy.up hu).at_
   have hWB := hy.up hu
   have hzl := hown.num
   clear hown1 hg1 hu1 hst
   by_cases hlt : k < L
   ·have hcW := hy.at_
    obtain ⟨bb, oo, rfl, _, hc⟩ := hcA (by omega)
    have hnb : ¬ bb = w.heap.size := by
     obtain ⟨b', o', e, _, hcw⟩ := hcW (by omega)
     injection e with e
     injection e with e1 _ _
     have := World.block_lt_of_cell? w _ (hcw 0 (by omega)).1
     simp only at this
     omega
    have hnb' : ¬ w.heap.size = bb := fun h => hnb h.symm
    clear hcW
    obtain ⟨P, hP⟩ : ∃ P, S + k = P := ⟨_, rfl⟩
    have qP : (S : Int) + (k : Int) = (P : Int) := by omega
    have hPm : P < m := by have := HL.out; omega
    have hPi : (P : Int) < (m : Int) := by omega
    have hPb : P ≤ 1099511627776 := by omega
    have hki : (k : Int) < (L : Int) := by omega
    have hc1 := (hc P hPm).1
    obtain ⟨x, hxk⟩ : ∃ x, ys.getD P 0 = x := ⟨_, rfl⟩
    obtain ⟨y, hyk⟩ : ∃ y, ys.getD (P + 1) 0 = y := ⟨_, rfl⟩
    have hxb : x < 18446744073709551616 := by rw [← hxk]; exact hy.wds.getD P
    have hyb : y < 18446744073709551616 := by rw [← hyk]; exact hy.wds.getD (P + 1)
    rw [hxk] at hc1
    obtain ⟨hor, hZb⟩ := or_down x y s hxb hs64
    have hj : (M.shr s (ys.drop S)).getD k 0 = x / 2 ^ s + y * 2 ^ (64 - s) % 18446744073709551616 := by
     rw [M.shr_getD s _ k (by rw [List.length_drop, hy.num]; have := HL.out; omega)]
     rw [List.getD_eq_getElem?_getD, List.getD_eq_getElem?_getD, List.getElem?_drop, List.getElem?_drop, ← List.getD_eq_getElem?_getD, ← List.getD_eq_getElem?_getD, hP, show S + (k + 1) = P + 1 from by omega, hxk, hyk]
    obtain ⟨Z, hZ⟩ : ∃ Z, x / 2 ^ s + y * 2 ^ (64 - s) % 18446744073709551616 = Z := ⟨_, rfl⟩
    obtain ⟨X1, hX1⟩ : ∃ X1, x / 2 ^ s = X1 := ⟨_, rfl⟩
    obtain ⟨cs, hcs⟩ : ∃ cs, 64 - s = cs := ⟨_, rfl⟩
    have hcs64 : cs ≤ 64 := by omega
    rw [hZ] at hor hZb hj
    rw [hX1, hcs] at hor
    have q5 : (64 : Int) - (s : Int) = (cs : Int) := by omega
    have q6 : (x : Int) / 2 ^ s = (X1 : Int) := by rw [← hX1]; simp
    have HE : Hid (∀ j, j < k + 1 → (zs.set k Z).getD j 0 = (M.shr s (ys.drop S)).getD j 0) := fun j hj2 => by
     by_cases e : j = k
     ·rw [e, M.getD_set_eq (by omega), hj]
     ·rw [M.getD_set_ne' (by omega)]; exact HI.out j (by omega)
    have cg : ∀ q, Calls Tryz.prog 69 #[.slice (some ⟨bb, oo, none⟩) m c, .int .i64 ((P : Int) + 1)] (wr.drewN q) (Same (u64 y) (wr.drewN q)) := fun q => by
     have := wordAt_nat (wr.drewN q) _ _ _ _ _ (hy.up (hu.drewN q)) (P + 1) (by omega) y hyk
     exact this
    have CG := Lib.hid cg
    have CG1 := Lib.hid (show Calls Tryz.prog 69 #[.slice (some ⟨bb, oo, none⟩) m c, .int .i64 ((P : Int) + 1)] wr.drew (Same (u64 y) wr.drew) from cg 1)
    have hcz := hown.cellAt k (by omega)
    rw [cu_get (by omega)] at hcz
    have hfz := hown.frozenAt k
    clear hc hcA hxk hyk hj hZ hX1 hcs hP cg
    have qw1 : IntKind.i64.wrap ((P : Int) + 1) = (P : Int) + 1 := by simp [IntKind.wrap, IntKind.bits, IntKind.signed]; omega
    have qwP : IntKind.i64.wrap (P : Int) = (P : Int) := by simp [IntKind.wrap, IntKind.bits, IntKind.signed]; omega
    have qwc : IntKind.i64.wrap (cs : Int) = (cs : Int) := by simp [IntKind.wrap, IntKind.bits, IntKind.signed]; omega
    have hP0 : (0 : Int) ≤ (P : Int) := by omega
    go_wp2_with fail
    go_region_held3 (fun w' => w'.cell? ⟨bb, oo + P, none⟩ = some (u64 x)) (go_keep) ((go_at_call 69; refine (CG.out _).mono ?_; rintro _ _ ⟨rfl, rfl⟩))
    obtain ⟨h1, _⟩ := hown.stored k (u64 Z)
    rw [cu_set] at h1
    have hown2 : Ow (wr.drew.setCell ⟨w.heap.size, k, none⟩ (u64 Z)) w.heap.size (.slice (some ⟨w.heap.size, 0, none⟩) L L) L (zs.set k Z) := Ow.up h1 ((Up.refl _).drewN 1)
    have hu2 : Up w (wr.drew.setCell ⟨w.heap.size, k, none⟩ (u64 Z)) := (hu.drewN 1).setCell (Nat.le_refl _) _
    clear qw1 qwP qwc
    go_wp2_with fail
    go_roundw
    case rel => exact ⟨k + 1, _, by omega, by go_num, hu2, hown2, hwd.set k hZb, HE⟩
    case measure => simp [intOf]; omega
   ·have hkL : k = L := by omega
    subst hkL
    have hzs : zs = M.shr s (ys.drop S) := by
     refine M.ext_getD (by rw [M.shr_length, List.length_drop, hy.num, hzl]; have := HL.out; omega) fun j hj => HI.out j (by omega)
    have hvs : M.val zs = a / 2 ^ N := by
     rw [hzs, M.val_shr_drop hy.wds hs64 HN.out (by rw [hy.num]; omega), HV.out]
    have HVS := Lib.hid hvs
    have hwd2 := Ow.wd_ hown hwd (by omega)
    clear hvs hzs hown HI hcA hWB
    go_wp2_with fail
    refine (trim_any _ _ _ _ _ _ hwd2).mono ?_
    rintro _ _ ⟨m2, zz, rfl, rfl, hd2, hn2, hv2, hm2⟩
    have HV2 : Hid (M.val zz = a / 2 ^ N) := hv2.trans HVS.out
    clear hv2 hwd2
    go_wp2_with fail
    go_ret
    exact ⟨_, rfl, ⟨_, _, _, zz, rfl, hd2, HV2.out, by omega, hn2⟩, hu⟩
theorem shiftUp_up (w w' : World) (lo : Nat) (A : Option Addr) (n c : Nat) (xs : List Nat) (hx : Wd w lo A n c xs) (hu : Up w w') (N : Nat) (hN : N ≤ 63) (hn : n ≤ 1000000000) :
  Calls Tryz.prog 117 #[.slice A n c, .int .i64 N] w' (Rw (n + 1) (M.val xs * 2 ^ N) w') := by
 have := shiftUp_any w' lo A n c xs (hx.up hu) N (by omega) hn
 rwa [show N / 64 = 0 from by omega, Nat.add_zero] at this
theorem Ow.low {w : World} {base base' : Nat} {v : Value} {n : Nat} {xs : List Nat} (h : Ow w base v n xs) (hb : base' ≤ base) : Ow w base' v n xs := by
 obtain ⟨h1, h2⟩ := h
 refine ⟨h1, ?_⟩
 rcases h2 with h2 | ⟨g, cap, cur, e, k1, k2⟩
 ·exact .inl h2
 ·exact .inr ⟨g, cap, cur, e, Nat.le_trans hb k1, k2⟩
def Two (w : World) (n n' a b : Nat) (r d : Value) (wx : World) : Prop :=
 ∃ (g g' : Nat) (zs bs : List Nat), r = .slice (some ⟨g, 0, none⟩) (n + 1 : Nat) (n + 1) ∧ d = .slice (some ⟨g', 0, none⟩) n' (n' + 1) ∧ w.heap.size ≤ g ∧ g ≠ g' ∧ Ow wx w.heap.size (.slice (some ⟨g, 0, none⟩) (n + 1) (n + 1)) (n + 1) zs ∧ M.Wds zs ∧ M.val zs = a ∧
  Wd wx w.heap.size (some ⟨g', 0, none⟩) n' (n' + 1) bs ∧ M.val bs = b ∧ Up w wx
theorem two_mk {w wa wb wx : World} {n n' a b g g' : Nat} {zs bs : List Nat} (hua : Up w wa) (hub : Up w wb) (hga : wa.heap.size ≤ g) (hne : g ≠ g')
  (h1 : Ow wx wa.heap.size (.slice (some ⟨g, 0, none⟩) (n + 1) (n + 1)) (n + 1) zs) (h2 : M.Wds zs) (h3 : M.val zs = a)
  (k1 : Ow wx wb.heap.size (.slice (some ⟨g', 0, none⟩) (n' + 1) (n' + 1)) (n' + 1) bs) (k2 : M.Wds bs) (k3 : M.val bs = b) (hb : b < 18446744073709551616 ^ n') (hn' : n' ≤ 1000000000) (hu : Up w wx) :
  Two w n n' a b (.slice (some ⟨g, 0, none⟩) (n + 1 : Nat) (n + 1)) (.slice (some ⟨g', 0, none⟩) n' (n' + 1)) wx := by
 have hl := k1.num
 have hd := (Ow.wd_ k1 k2 (by omega)).take (show n' ≤ n' + 1 by omega)
 have hv : M.val (bs.take n') = b := by rw [M.val_take_small (by omega) (by rw [k3]; exact hb)]; exact k3
 have h1' : Ow wx w.heap.size (.slice (some ⟨g, 0, none⟩) (n + 1) (n + 1)) (n + 1) zs := h1.low (Up.size hua)
 exact ⟨g, g', zs, bs.take n', rfl, rfl, Nat.le_trans (Up.size hua) hga, hne, h1', h2, h3, hd.lower (Up.size hub), hv, hu⟩
set_option maxRecDepth 100000 in
theorem divideLong_any : DivLong := by
 intro w lo lo' A A' n c n' c' xs ys hx hy hnx hny hn h2 hnn
 obtain ⟨p, hp⟩ : ∃ p, n' = p + 2 := ⟨n' - 2, by omega⟩
 have hyl := hy.num
 have hxl := hx.num
 have hn'b := hy.len
 obtain ⟨y, hyk⟩ : ∃ y, ys.getD (p + 1) 0 = y := ⟨_, rfl⟩
 have hy0 : y ≠ 0 := by rw [← hyk]; exact M.top_ne hny (by omega)
 have hyb : y < 18446744073709551616 := by rw [← hyk]; exact hy.wds.getD _
 obtain ⟨b1, b2, b3, b4, b5⟩ := M.bitLen_bounds hyb (by omega)
 obtain ⟨s, hs⟩ : ∃ s, 64 - M.bits y = s := ⟨_, rfl⟩
 rw [hs] at b4 b5
 have hs63 : s ≤ 63 := by omega
 have cl : Calls Tryz.prog 159 #[u64 y] w (Same (.int .i64 (s : Int)) w) := by
  have := lead64_any y hyb w
  rwa [b1, show (64 : Int) - ((M.bits y : Nat) : Int) = (s : Int) from by omega] at this
 have CLZ := Lib.hid cl
 obtain ⟨f1, f2⟩ := M.shifted_fits hy.wds (show ys.length = p + 1 + 1 by omega) hyk hs63 b4 b5
 have F1 : Hid (M.val ys * 2 ^ s < 18446744073709551616 ^ n') := by rw [Hid, hp]; exact f1
 have F2 := Lib.hid f2
 have hxlt := M.val_lt hx.wds
 rw [hxl] at hxlt
 have HXL := Lib.hid hxlt
 obtain ⟨bb, oo, rfl, _, hc⟩ := hy.at_ (by omega)
 have hc1 := (hc (p + 1) (by omega)).1
 rw [hyk] at hc1
 obtain ⟨m1, hm1⟩ : ∃ m1, p + 1 = m1 := ⟨_, rfl⟩
 rw [hm1] at hc1
 have q1 : (n' : Int) - 1 = (m1 : Int) := by omega
 have l1 : m1 < n' := by omega
 obtain ⟨L, hL⟩ : ∃ L, n - n' + 1 = L := ⟨_, rfl⟩
 have q2 : (n : Int) - (n' : Int) + 1 = (L : Int) := by omega
 have l2 : L ≤ n := by omega
 have HP := Lib.hid hp
 have HLN : Hid (n + 1 = L + n') := by show _ = _; omega
 clear hyk hy0 hyb b1 b2 b3 b4 b5 hs cl f1 f2 hxlt hc hm1 hp hL hyl hxl hnx
 go_enter Tryz.func122, Tryz.ntmps122
 go_wp2_with fail
 refine CLZ.out.mono ?_
 rintro _ _ ⟨rfl, rfl⟩
 go_wp2_with fail
 go_cut [7, 8] (fun r d wx => Two w n n' (M.val xs * 2 ^ s) (M.val ys * 2 ^ s) r d wx)
 case first =>
  go_region_with (first
   | (go_at_call_of 117 (Value.slice A n c); (with_reducible refine (shiftUp_up w _ lo A n c xs hx ?_ s hs63 hn).mono ?_); (first | with_reducible assumption | exact (Up.refl _).drewN 1 | (refine Up.drewN ?_ 1; assumption)); rintro _ wA ⟨ga, za, rfl, hga, hoa, hwa, hva, hua⟩; have uA := Up.trans (by first | with_reducible assumption | exact (Up.refl w).drewN 1) hua)
   | (go_at_call_of 117 (Value.slice (some ⟨bb, oo, none⟩) n' c'); (with_reducible refine (shiftUp_up w _ lo' (some ⟨bb, oo, none⟩) n' c' ys hy ?_ s hs63 (by omega)).mono ?_); (first | with_reducible assumption | exact (Up.refl _).drewN 1 | (refine Up.drewN ?_ 1; assumption)); rintro _ wB ⟨gb, zb, rfl, hgb, hob, hwb, hvb, hub⟩; have uB := Up.trans (by first | with_reducible assumption | exact (Up.refl w).drewN 1) hub))
  all_goals
   go_wp2_with fail
   go_meet
   first
    | exact two_mk ((Up.refl w).drewN 1) uA hga (Nat.ne_of_lt (Nat.lt_of_lt_of_le (hoa.lt _ rfl).2 hgb)) (Ow.up hoa hub) hwa hva hob hwb hvb F1.out (by omega) uB
    | exact two_mk uB ((Up.refl w).drewN 1) hga (Ne.symm (Nat.ne_of_lt (Nat.lt_of_lt_of_le (hob.lt _ rfl).2 hga))) hoa hwa hva (Ow.up hob hua) hwb hvb F1.out (by omega) uA
 case rest =>
  obtain ⟨g, g', zs, bs, rfl, rfl, hg, hne, hown, hwd, hzv, hB, hbv, hu⟩ := hcut
  have hbl := hB.num
  have HZV := Lib.hid hzv
  have HBV := Lib.hid hbv
  have hgl := (hown.lt _ rfl).2
  obtain ⟨b', o', e, hg', hcB⟩ := hB.at_ (by omega)
  simp only [Option.some.injEq, Addr.mk.injEq, and_true] at e
  obtain ⟨rfl, rfl⟩ := e
  have hgl' := World.block_lt_of_cell? _ _ (hcB 0 (by omega)).1
  simp only at hgl'
  clear hzv hbv hx hy hc1 CLZ F1 hcB
  go_wp2_with (at_make; refine wpList_make_wd _ rfl (.tmp 32) (.tmp 32) 32 rfl info_u64 Tryz.underlying32 (L : Int) (L : Int) L rfl rfl (by omega) (by omega) (by omega) ?_; intro wq hownQ hgq)
  obtain ⟨gq, hgqe⟩ : ∃ gq, wc.heap.size = gq := ⟨_, rfl⟩
  rw [hgqe] at hownQ hgl hgl' ⊢
  have hgq0 : w.heap.size ≤ gq := by have := Up.size hu; omega
  have hownQ0 := Ow.low hownQ hgq0
  have huq : Up w wq := hu.grown hgq (by simp)
  have hownq : Ow wq w.heap.size (.slice (some ⟨g, 0, none⟩) (n + 1) (n + 1)) (n + 1) zs := World.ownsRow.kept hown hgq (Or.inr (by simp [Value.ownBlock]))
  have hBq : Wd wq w.heap.size (some ⟨g', 0, none⟩) n' (n' + 1) bs := hB.kept hgq (fun _ b _ => by simp)
  have hzl := hown.num
  have hg'q : g' ≠ gq := by omega
  have hgq' : g ≠ gq := by omega
  have hst : Hid (M.Lg (M.val zs) (M.val bs) (n + 1) n' L L zs (List.replicate L 0)) := by
   refine M.Lg.start hzl (by simp) rfl ?_
   have := M.start_lt (X := zs) (a := M.val xs) (n := n) (m := p + 1) (s := s) (β := M.val bs) HXL.out hs63 HZV.out hzl (by have := HP.out; omega) (by rw [HBV.out]; exact F2.out)
   rwa [show n - (p + 1) = L from by have := HP.out; have := HLN.out; omega] at this
  have htop : Hid (9223372036854775808 ≤ bs.getD (p + 1) 0) := M.top_ge hB.wds (by have := HP.out; omega) (by rw [HBV.out]; exact F2.out)
  clear hown hownQ hB hgq hgqe hu hgl hgl'
  go_loopw [10] (fun i wr => ∃ (k : Int) (X Q : List Nat), -1 ≤ k ∧ k < L ∧ i = .int .i64 k ∧ Up w wr ∧ Ow wr w.heap.size (.slice (some ⟨g, 0, none⟩) (n + 1) (n + 1)) (n + 1) X ∧ M.Wds X ∧ Ow wr w.heap.size (.slice (some ⟨gq, 0, none⟩) L L) L Q ∧ M.Wds Q ∧
   Wd wr w.heap.size (some ⟨g', 0, none⟩) n' (n' + 1) bs ∧ Hid (M.Lg (M.val zs) (M.val bs) (n + 1) n' L (k + 1).toNat X Q)) (fun i _ => (intOf i + 1).toNat)
  case atStart => exact ⟨(L : Int) - 1, zs, _, by omega, by omega, rfl, huq, hownq, hwd, hownQ0, M.Wds.replicate _, hBq, by rw [show ((L : Int) - 1 + 1).toNat = L from by omega]; exact hst.out⟩
  case round =>
   obtain ⟨k, X, Q, hk1, hk2, rfl, hu, hX, hwX, hQ, hwQ, hB, HL⟩ := hrel
   clear hownq hownQ0 hBq huq hst hwd hzl
   by_cases hk0 : k = -1
   ·subst hk0
    obtain ⟨v1, v2⟩ := HL.out.fin
    have hqw := Ow.wd_ hQ hwQ (by omega)
    have hxw : Nw wr w.heap.size (n + 1) (.slice (some ⟨g, 0, none⟩) (n + 1) (n + 1)) (M.val X) := Ow.nw hX hwX (by omega)
    have hp2 : 0 < 2 ^ s := Nat.pow_pos (by omega)
    have e1 : M.val Q = M.val xs / M.val ys := by rw [v1, HZV.out, HBV.out, Nat.mul_div_mul_right _ _ hp2]
    have e2 : M.val X / 2 ^ s = M.val xs % M.val ys := by rw [v2, HZV.out, HBV.out, Nat.mul_mod_mul_right, Nat.mul_div_cancel _ hp2]
    have E1 := Lib.hid e1
    have E2 := Lib.hid e2
    clear v1 v2 e1 e2 hX hQ HL
    go_wp2_with fail
    refine (trim_any _ _ _ _ _ _ hqw).mono ?_
    rintro _ _ ⟨m2, zz, rfl, rfl, hd2, hn2, hv2, hm2⟩
    have HV2 : Hid (M.val zz = M.val xs / M.val ys) := hv2.trans E1.out
    clear hv2 hqw
    go_wp2_with fail
    refine (shr_any _ _ _ _ _ hxw (s : Int) s (by omega)).mono ?_
    rintro _ w9 ⟨v9, rfl, h9, hu9⟩
    rw [E2.out] at h9
    go_wp2_with fail
    go_ret2
    refine ⟨_, _, rfl, ⟨_, _, _, zz, rfl, (hd2.up hu9), HV2.out, by omega, hn2⟩, (h9.lower (Up.size hu)).fit ?_, hu.trans hu9⟩
    exact Nat.lt_of_le_of_lt (Nat.mod_le _ _) HXL.out
   ·obtain ⟨i, rfl⟩ := Int.eq_ofNat_of_zero_le (show 0 ≤ k by omega)
    have hiL : i < L := by omega
    have hI := HL.out
    rw [show ((i : Int) + 1).toNat = i + 1 from by omega] at hI
    have hN1 := HLN.out
    have hn1 : i + n' + 1 - i = n' + 1 := by omega
    have CW := Lib.hid (takeDigit_any wr wr w.heap.size w.heap.size g (n + 1) i (i + n' + 1 - i) (n + 1 - i) p n' (n' + 1) (some ⟨g', 0, none⟩) X bs (World.grownBy.refl _ _) hB (fun _ b e => by
     simp only [Option.map_some, Option.some.injEq] at e
     subst e
     simpa using hne) hX hwX (by omega) HP.out hn1 htop.out (hI.next hwX hB.wds hbl hiL hN1).2.1)
    have HN := Lib.hid hI
    clear hI hN1 HL hn1
    go_wp2_with fail
    refine CW.out.mono ?_
    rintro _ w2 ⟨q, X', rfl, hq, hgw, hX', hwX', HDG⟩
    have hu2 : Up w w2 := hu.grown hgw (fun b e => by cases e; exact hg)
    have hQ2 : Ow w2 w.heap.size (.slice (some ⟨gq, 0, none⟩) L L) L Q := World.ownsRow.kept hQ hgw (Or.inr (by simp only [Value.ownBlock, ne_eq, Option.some.injEq]; exact fun e => hgq' e.symm))
    have hB2 : Wd w2 w.heap.size (some ⟨g', 0, none⟩) n' (n' + 1) bs := hB.kept hgw (fun _ b e => by
     simp only [Option.map_some, Option.some.injEq] at e
     subst e
     simpa using hne)
    have hLN := Lib.hid (HN.out.step hwX hB.wds hbl hiL HLN.out hX'.num HDG)
    have hcz := hQ2.cellAt i (by omega)
    have hQl := hQ2.num
    rw [cu_get (by omega)] at hcz
    have hfz := hQ2.frozenAt i
    clear CW hX hwX hQ hB HN HDG hu hgw
    go_wp2_with fail
    go_roundw
    case rel =>
     obtain ⟨h1, h2⟩ := hQ2.stored i (u64 q)
     rw [cu_set] at h1
     refine ⟨(i : Int) - 1, X', _, by omega, by omega, rfl, hu2.setCell hgq0 _, World.ownsRow.kept hX' h2 (Or.inr (by simp only [Value.ownBlock, ne_eq, Option.some.injEq]; exact hgq')), hwX', h1, hwQ.set i hq, hB2.kept h2 (fun _ b e => by
      simp only [Option.map_some, Option.some.injEq] at e
      subst e
      simp only [ne_eq, Option.some.injEq]
      exact fun e => hg'q e.symm), by rw [show ((i : Int) - 1 + 1).toNat = i from by omega]; exact hLN.out⟩
    case measure => simp [intOf]
theorem div_any (w : World) (lo lo' s s' : Nat) (v v' : Value) (a b : Nat) (h : Nw w lo s v a) (h' : Nw w lo' s' v' b) (hb0 : 0 < b) (hs : s ≤ 1000000000) :
  Calls Tryz.prog 96 #[v, v'] w (Div3 (s + 1) (a / b) (a % b) true w) := div_of w lo lo' s s' v v' a b h h' hb0 hs (.inr divideLong_any)
theorem cell_grown {w w' : World} {b : Nat} (hg : w.grownBy w' (some b)) {p : Addr} (hp : p.block ≠ b) {v : Value} (h : w.cell? p = some v) : w'.cell? p = some v := by
 have hbl := hg.block p.block (World.block_lt_of_cell? w _ h) (fun e => hp (Option.some.inj e))
 exact (World.cell?_of_block (w := w) hbl).trans h
theorem frozen_grown {w w' : World} {b : Nat} (hg : w.grownBy w' (some b)) {p : Addr} (hp : p.block ≠ b) {v : Value} (h : w.cell? p = some v) (k : w.frozen? p = false) : w'.frozen? p = false := by
 have hbl := hg.block p.block (World.block_lt_of_cell? w _ h) (fun e => hp (Option.some.inj e))
 exact (World.frozen?_of_block (w := w) hbl).trans k
theorem Nt.kept {w w' : World} {lo s b : Nat} {v : Value} {a : Nat} (h : Nt w lo s v a) (hg : w.grownBy w' (some b)) (hne : v.ownBlock ≠ some b) : Nt w' lo s v a := by
 obtain ⟨A, n, c, xs, rfl, h1, h2⟩ := h
 refine ⟨A, n, c, xs, rfl, h1.kept hg (fun _ b' e => ?_), h2⟩
 rcases A with _ | ad
 ·cases e
 ·simp only [Option.map_some, Option.some.injEq] at e
  subst e
  intro e2
  exact hne e2.symm
theorem Nt.own_lo {w : World} {lo s b : Nat} {v : Value} {a : Nat} (h : Nt w lo s v a) (h0 : 0 < a) (hb : b < lo) : v.ownBlock ≠ some b := by
 obtain ⟨A, n, c, xs, rfl, h1, h2, _⟩ := h
 have hn : 0 < n := by
  rcases Nat.eq_zero_or_pos n with e | e
  ·exfalso
   have : xs = [] := List.eq_nil_of_length_eq_zero (by rw [h1.num, e])
   rw [this] at h2; simp [M.val] at h2; omega
  ·exact e
 obtain ⟨b', o, rfl, hl, _⟩ := h1.at_ hn
 intro e
 simp only [Value.ownBlock, Option.some.injEq] at e
 omega
theorem Nt.own_hi {w : World} {lo s b : Nat} {v : Value} {a : Nat} (h : Nt w lo s v a) (h0 : 0 < a) (hb : w.heap.size ≤ b) : v.ownBlock ≠ some b := by
 obtain ⟨A, n, c, xs, rfl, h1, h2, _⟩ := h
 have hn : 0 < n := by
  rcases Nat.eq_zero_or_pos n with e | e
  ·exfalso
   have : xs = [] := List.eq_nil_of_length_eq_zero (by rw [h1.num, e])
   rw [this] at h2; simp [M.val] at h2; omega
  ·exact e
 obtain ⟨b', o, rfl, hl, hc⟩ := h1.at_ hn
 have := World.block_lt_of_cell? w _ (hc 0 hn).1
 simp only at this
 intro e
 simp only [Value.ownBlock, Option.some.injEq] at e
 omega
theorem Bx.grown {w w' : World} {b b' : Nat} {neg : Bool} {v : Value} {t f : Int} (h : Bx w b' neg v t f) (hg : w.grownBy w' (some b)) (hne : b' ≠ b) : Bx w' b' neg v t f := by
 obtain ⟨⟨a0, a1, a2, a3⟩, b0, b1, b2, b3⟩ := h
 exact ⟨⟨cell_grown hg hne a0, cell_grown hg hne a1, cell_grown hg hne a2, cell_grown hg hne a3⟩, frozen_grown hg hne a0 b0, frozen_grown hg hne a1 b1, frozen_grown hg hne a2 b2, frozen_grown hg hne a3 b3⟩
structure RInv (w0 : World) (b lo s N base k r : Nat) (v : Value) (wr : World) : Prop where
 only : w0.grownBy wr (some b)
 cell : wr.cell? ⟨b, 0, none⟩ = some v
 free : wr.frozen? ⟨b, 0, none⟩ = false
 num : Nt wr lo s v r
 own : v.ownBlock ≠ some b
 eq : r * base ^ k = N
theorem RInv.up {w0 wr w' : World} {b lo s N base k r : Nat} {v : Value} (h : RInv w0 b lo s N base k r v wr) (hu : Up wr w') : RInv w0 b lo s N base k r v w' :=
 ⟨only_up h.only hu, cell_up hu h.cell, frozen_up hu h.cell h.free, h.num.up hu, h.own, h.eq⟩
theorem RInv.set {w0 wr : World} {b lo s N base k r k' r' : Nat} {v v' : Value} (h : RInv w0 b lo s N base k r v wr) (h' : Nt wr lo s v' r') (ho : v'.ownBlock ≠ some b) (e : r' * base ^ k' = N) :
  RInv w0 b lo s N base k' r' v' (wr.setCell ⟨b, 0, none⟩ v') := by
 have hg : wr.grownBy (wr.setCell ⟨b, 0, none⟩ v') (some b) := only_setCell (World.grownBy.refl _ _) 0 v'
 exact ⟨only_setCell h.only 0 v', World.cell?_setCell_same wr _ _ h.cell, by rw [World.frozen?_setCell]; exact h.free, h'.kept hg ho, ho, e⟩
theorem M.taken_le {r base k N s : Nat} (h : r * base ^ k = N) (hN : 0 < N) (hb : 2 ≤ base) (hs : N < 18446744073709551616 ^ s) : k < 64 * s + 1 := by
 have hr : 0 < r := by
  rcases Nat.eq_zero_or_pos r with e | e
  ·rw [e, Nat.zero_mul] at h; omega
  ·exact e
 have h1 : 2 ^ k ≤ base ^ k := Nat.pow_le_pow_left hb k
 have h2 : 1 * base ^ k ≤ r * base ^ k := Nat.mul_le_mul_right _ hr
 have h3 : 2 ^ k < 2 ^ (64 * s) := by rw [Nat.pow_mul]; exact Nat.lt_of_le_of_lt (by omega) hs
 have := (Nat.pow_lt_pow_iff_right (by omega : 1 < 2)).1 h3
 omega
def Took (w0 : World) (b lo s N base : Nat) (e : Ending) (w' : World) : Prop := ∃ (k r : Nat) (v : Value), e = .returned (.int .i64 k) ∧ RInv w0 b lo s N base k r v w' ∧ r % base ≠ 0 ∧ k ≤ 64 * s
set_option maxRecDepth 100000 in
theorem takeOut_any (w0 w : World) (b lo s N base : Nat) (v : Value) (hbs : base = 2 ∨ base = 5) (h : RInv w0 b lo s N base 0 N v w) (hN : 0 < N) (hNs : N < 18446744073709551616 ^ s) (hs : s ≤ 1000000) (hlo : lo ≤ w.heap.size) (hbl : b < w.heap.size) (B : Int) (hB : B = (base : Int)) :
  Calls Tryz.prog 95 #[.int .u64 B, .pointer (some ⟨b, 0, none⟩)] w (Took w0 b lo s N base) := by
 subst hB
 have hb2 : 2 ≤ base := by omega
 have hb5 : base ≤ 5 := by omega
 clear hbs
 have H := Lib.hid h
 clear h
 go_enter Tryz.func95, Tryz.ntmps95
 go_wp2_with fail
 go_loopw [4, 5] (fun kv pv wr => ∃ (k p r : Nat) (v : Value), kv = .int .i64 k ∧ pv = .int .i64 p ∧ p ≤ 16 ∧ 0 < r ∧ lo ≤ wr.heap.size ∧ b < wr.heap.size ∧ Hid (RInv w0 b lo s N base k r v wr) ∧ Hid (p = 0 → r % base ≠ 0)) (fun _ pv _ => (intOf pv).toNat)
 case atStart => exact ⟨0, 16, N, v, rfl, rfl, by omega, hN, hlo, hbl, H, fun h => by omega⟩
 case round =>
  obtain ⟨k, p, r, v1, rfl, rfl, hp, hr, hlo1, hbl1, HI, HP⟩ := hrel
  clear H hlo hbl
  have hk := M.taken_le HI.out.eq hN hb2 hNs
  by_cases hp0 : p = 0
  ·subst hp0
   have hrb := HP.out rfl
   have HRB := Lib.hid hrb
   clear hrb
   go_wp2_with fail
   go_ret
   exact ⟨k, r, v1, rfl, HI.out, HRB.out, by omega⟩
  ·have hpp : 0 < p := by omega
   clear HP hp0
   go_wp2_with fail
   refine (pow_any wr base p (p : Int) (by omega) (by omega)).mono ?_
   rintro _ w1 ⟨vf, rfl, hf, hu1⟩
   obtain ⟨F, hF⟩ : ∃ F, base ^ p = F := ⟨_, rfl⟩
   have hF2 : 2 ≤ F := by
    rw [← hF]
    have h1 : 2 ^ 1 ≤ 2 ^ p := Nat.pow_le_pow_right (by omega) hpp
    have h2 : 2 ^ p ≤ base ^ p := Nat.pow_le_pow_left hb2 p
    omega
   rw [hF] at hf
   have HFO := Lib.hid (hf.own_lo (by omega) hbl1)
   have HF := Lib.hid hF
   have HI1 := Lib.hid (HI.out.up hu1)
   have hl1 := Nat.le_trans hlo1 (Up.size hu1)
   have hl2 := Nat.lt_of_lt_of_le hbl1 (Up.size hu1)
   have hc1 := HI1.out.cell
   have hnw := HI1.out.num.nw
   clear hF HI hu1 hlo1 hbl1
   go_wp2_with fail
   refine (div_any w1 _ _ _ _ _ _ _ _ hnw hf.nw (by omega) (by omega)).mono ?_
   rintro _ w2 ⟨v2, v3, rfl, h2, h3, hu2⟩
   have HI2 := Lib.hid (HI1.out.up hu2)
   have hf2 := hf.up hu2
   have hm1 := Nat.le_trans hl1 (Up.size hu2)
   have hm2 := Nat.lt_of_lt_of_le hl2 (Up.size hu2)
   have hrN : r ≤ N := by
    rw [← HI2.out.eq]
    exact Nat.le_mul_of_pos_right r (Nat.pow_pos (by omega))
   have h2' : Nt w2 lo s v2 (r / F) := ((h2.lower hl1).fit (Nat.lt_of_le_of_lt (Nat.div_le_self _ _) (Nat.lt_of_le_of_lt hrN hNs)))
   have h3' : Nt w2 lo (s + 1) v3 (r % F) := h3.lower hl1
   have ho : Hid (0 < r / F → v2.ownBlock ≠ some b) := fun h => h2.own_lo h hl2
   clear hc1 hnw HI1 hl1 hl2 hu2 h2 h3 hrN hf
   go_wp2_with fail
   go_loopw [4, 7, 8] (fun kv ov lv wi => ∃ (k r : Nat) (v1 v2 v3 : Value), kv = .int .i64 k ∧ ov = v2 ∧ lv = v3 ∧ 0 < r ∧ lo ≤ wi.heap.size ∧ b < wi.heap.size ∧ Hid (RInv w0 b lo s N base k r v1 wi) ∧ Nt wi lo s v2 (r / F) ∧ Nt wi lo (s + 1) v3 (r % F) ∧ Up w2 w2 ∧ w2.grownBy wi (some b) ∧ Hid (0 < r / F → v2.ownBlock ≠ some b)) (fun kv _ _ _ => 64 * s + 100 - (intOf kv).toNat)
   case atStart => exact ⟨k, r, v1, v2, v3, rfl, rfl, rfl, hr, hm1, hm2, HI2, h2', h3', Up.refl _, World.grownBy.refl _ _, ho⟩
   case round =>
    obtain ⟨k, r, v1, v2, v3, rfl, rfl, rfl, hr, hm1, hm2, HI, h2, h3, _, hg, HO⟩ := hrel
    have hk := M.taken_le HI.out.eq hN hb2 hNs
    by_cases hd : r % F = 0
    ·have CI := Lib.hid (isNought_any wr lo _ _ _ h3.nw true (decide_eq_true hd))
     have hq0 : 0 < r / F := by
      have := Nat.div_add_mod r F
      rcases Nat.eq_zero_or_pos (r / F) with e | e
      ·rw [e, Nat.mul_zero, hd] at this; omega
      ·exact e
     have hE : r / F * base ^ (k + p) = N := by
      rw [← HI.out.eq, Nat.pow_add, HF.out, Nat.mul_comm (base ^ k), ← Nat.mul_assoc]
      congr 1
      have := Nat.div_add_mod r F
      rw [hd, Nat.add_zero, Nat.mul_comm] at this
      exact this
     have hk2 := M.taken_le hE hN hb2 hNs
     have h2k := h2
     obtain ⟨A2, n2, c2, xs2, rfl, hx2⟩ := h2
     have HS := Lib.hid (HI.out.set h2k (HO.out hq0) hE)
     have hcz := HI.out.cell
     have hfz := HI.out.free
     have hm3 : lo ≤ (wr.setCell ⟨b, 0, none⟩ (.slice A2 n2 c2)).heap.size := by simpa [World.setCell] using hm1
     have hm4 : b < (wr.setCell ⟨b, 0, none⟩ (.slice A2 n2 c2)).heap.size := by simpa [World.setCell] using hm2
     have hg2 : w2.grownBy (wr.setCell ⟨b, 0, none⟩ (.slice A2 n2 c2)) (some b) := only_setCell hg 0 (.slice A2 n2 c2)
     have hqN : r / F ≤ N := by
      rw [← hE]
      exact Nat.le_mul_of_pos_right _ (Nat.pow_pos (by omega))
     have hf3 := hf2.kept hg2 HFO.out
     clear hd hE HI h3 HO hx2 h2k hm1 hm2 hg
     go_wp2_with fail
     refine CI.out.mono ?_
     rintro _ _ ⟨rfl, rfl⟩
     go_wp2_with fail
     refine (div_any _ _ _ _ _ _ _ _ _ HS.out.num.nw hf3.nw (by omega) (by omega)).mono ?_
     rintro _ w5 ⟨v4, v5, rfl, h4, h5, hu5⟩
     have HS5 := Lib.hid (HS.out.up hu5)
     have hn1 := Nat.le_trans hm3 (Up.size hu5)
     have hn2 := Nat.lt_of_lt_of_le hm4 (Up.size hu5)
     have hg5 := only_up hg2 hu5
     have h4' : Nt w5 lo s v4 (r / F / F) := (h4.lower hm3).fit (Nat.lt_of_le_of_lt (Nat.div_le_self _ _) (Nat.lt_of_le_of_lt hqN hNs))
     have h5' : Nt w5 lo (s + 1) v5 (r / F % F) := h5.lower hm3
     have ho5 : Hid (0 < r / F / F → v4.ownBlock ≠ some b) := fun h => h4.own_lo h hm4
     clear HS hm3 hm4 hg2 h4 h5 hu5 hqN hf3
     go_wp2_with fail
     go_roundw
     case rel => exact ⟨k + p, r / F, _, v4, v5, by go_num, rfl, rfl, hq0, hn1, hn2, HS5, h4', h5', Up.refl _, hg5, ho5⟩
     case measure => simp [intOf]; omega
    ·have CI := Lib.hid (isNought_any wr lo _ _ _ h3.nw false (decide_eq_false hd))
     obtain ⟨p2, hp2⟩ : ∃ p2, p / 2 = p2 := ⟨_, rfl⟩
     have q1 : (p : Int) / 2 = (p2 : Int) := by omega
     have q2 : (p : Int).tdiv 2 = (p2 : Int) := by rw [Int.tdiv_eq_ediv_of_nonneg (by omega)]; exact q1
     have HP2 : Hid (p2 = 0 → r % base ≠ 0) := fun h => by
      have hp1 : p = 1 := by omega
      have := HF.out
      rw [hp1, Nat.pow_one] at this
      rw [this]; exact hd
     have hp3 : p2 ≤ 16 := by omega
     have hp4 : p2 < p := by omega
     clear hd hp2 h2 h3 HO hg
     go_wp2_with fail
     refine CI.out.mono ?_
     rintro _ _ ⟨rfl, rfl⟩
     go_wp2_with fail
     go_roundw
     case rel => exact ⟨k, p2, r, v1, rfl, rfl, hp3, hr, hm1, hm2, HI, HP2⟩
     case measure => simp [intOf]; omega
structure M.Rdx (a : Nat) (t f : Int) (s a' : Nat) (t' f' : Int) : Prop where
 zero : a = 0 → a' = 0 ∧ t' = 0 ∧ f' = 0
 pos : 0 < a → ∃ k2 k5 : Nat, a' * 5 ^ k5 * 2 ^ k2 = a ∧ a' % 2 ≠ 0 ∧ a' % 5 ≠ 0 ∧ t' = t + k2 ∧ f' = f + k5 ∧ k2 ≤ 64 * s ∧ k5 ≤ 64 * s
def Red (neg : Bool) (s a : Nat) (t f : Int) (w : World) (e : Ending) (w' : World) : Prop := ∃ v a' t' f', e = .returned (xv neg v t' f') ∧ Nt w' w.heap.size s v a' ∧ Up w w' ∧ M.Rdx a t f s a' t' f'
set_option maxRecDepth 100000 in
theorem reduced_any (w : World) (lo s : Nat) (neg : Bool) (v : Value) (t f : Int) (a : Nat) (h : Nw w lo s v a) (hs : s ≤ 1000000) (bt : -1000000 ≤ t ∧ t ≤ 1000000) (bf : -1000000 ≤ f ∧ f ≤ 1000000) :
  Calls Tryz.prog 56 #[xv neg v t f] w (Red neg s a t f w) := by
 have bA := Bx.mk_ w neg v t f
 have bR := Bx.mk_ (w.alloc (.cells #[.bool neg, v, .int .i64 t, .int .i64 f] 34)) false (.slice none 0 0) 0 0
 rw [show (w.alloc (.cells #[.bool neg, v, .int .i64 t, .int .i64 f] 34)).heap.size = w.heap.size + 1 from Array.size_push _] at bR
 obtain ⟨W, hW⟩ : ∃ W, (w.alloc (.cells #[.bool neg, v, .int .i64 t, .int .i64 f] 34)).alloc (.cells #[.bool false, .slice none 0 0, .int .i64 0, .int .i64 0] 34) = W := ⟨_, rfl⟩
 have hu : Up w W := by rw [← hW]; exact (((Up.refl w).alloc _).alloc _)
 replace bA : Bx W w.heap.size neg v t f := by rw [← hW]; exact bA.up ((Up.refl _).alloc _)
 rw [hW] at bR
 have HW := Lib.hid hW
 clear hW
 by_cases h0 : a = 0
 ·have CI := Lib.hid (isNought_any W lo s v a (h.up hu) true (decide_eq_true h0))
  have fin : Red neg s a t f w (.returned (xv neg (.slice none 0 0) 0 0)) (set4 W (w.heap.size + 1) (.bool neg) (.slice none 0 0) (.int .i64 0) (.int .i64 0)) :=
   ⟨_, 0, 0, 0, rfl, Nt.nil _ _ _, hu.set4 (Nat.le_succ _) _ _ _ _, ⟨fun _ => ⟨rfl, rfl, rfl⟩, fun hp => by omega⟩⟩
  have FIN := Lib.hid fin
  obtain ⟨⟨a0, a1, a2, a3⟩, _⟩ := bA
  obtain ⟨⟨b0, b1, b2, b3⟩, g0, g1, g2, g3⟩ := bR
  clear h0 fin
  go_enter Tryz.func56, Tryz.ntmps56
  go_wp2_with fail
  rw [HW.out]
  refine CI.out.mono ?_
  rintro _ _ ⟨rfl, rfl⟩
  go_wp2_with fail
  exact bodyPost_ret (v := xv neg (.slice none 0 0) 0 0) (by simp [results, Tryz.results56, go_sem, b0, b1, b2, b3]) rfl FIN.out
 ·have hp : 0 < a := by omega
  have CI := Lib.hid (isNought_any W lo s v a (h.up hu) false (decide_eq_false h0))
  have hNs := h.lt
  have hsz := World.block_lt_of_cell? W _ bR.1.1
  simp only at hsz
  obtain ⟨⟨a0, a1, a2, a3⟩, aa⟩ := bA
  go_enter Tryz.func56, Tryz.ntmps56
  go_wp2_with fail
  rw [HW.out]
  refine CI.out.mono ?_
  rintro _ _ ⟨rfl, rfl⟩
  go_wp2_with fail
  refine (norm_any W _ _ _ _ (h.up hu)).mono ?_
  rintro _ w1 ⟨_, rfl, ⟨A1, nn1, cc1, ys1, rfl, h1⟩, hu1⟩
  replace h1 : Nt w1 W.heap.size s (.slice A1 nn1 cc1) a := ⟨A1, nn1, cc1, ys1, rfl, h1⟩
  have bA1 := Bx.up ⟨⟨a0, a1, a2, a3⟩, aa⟩ hu1
  have bR1 := bR.up hu1
  clear a0 a1 a2 a3 aa bR CI
  go_wp2_with fail
  obtain ⟨V, hV⟩ : ∃ V, w1.alloc (.cells #[.slice A1 nn1 cc1] 32) = V := ⟨_, rfl⟩
  have uV : Up w1 V := by rw [← hV]; exact (Up.refl w1).alloc _
  have hVs : V.heap.size = w1.heap.size + 1 := by rw [← hV]; exact Array.size_push _
  have r0 : RInv V w1.heap.size W.heap.size s a 2 0 a (.slice A1 nn1 cc1) V :=
   ⟨World.grownBy.refl _ _, by rw [← hV]; simp, by rw [← hV]; simp, h1.up uV, h1.own_hi hp (Nat.le_refl _), by simp⟩
  obtain ⟨b, hb⟩ : ∃ b, w1.heap.size = b := ⟨_, rfl⟩
  have hWb : W.heap.size ≤ b := by rw [← hb]; exact Up.size hu1
  rw [hb] at r0 hVs ⊢
  have bA2 := bA1.up uV
  have bR2 := bR1.up uV
  have uwV := (hu.trans hu1).trans uV
  rw [hV]
  clear bA1 bR1 hV uV hb h1 hu1 HW
  refine (takeOut_any V V b W.heap.size s a 2 _ (.inl rfl) r0 hp hNs hs (by omega) (by omega) 2 rfl).mono ?_
  rintro _ w2 ⟨k2, r2, v2, rfl, R2, hr2, hk2⟩
  have hr2p : 0 < r2 := by
   rcases Nat.eq_zero_or_pos r2 with e | e
   ·rw [e] at hr2; simp at hr2
   ·exact e
  have hr2a : r2 ≤ a := by
   rw [← R2.eq]
   exact Nat.le_mul_of_pos_right _ (Nat.pow_pos (by omega))
  have r20 : RInv V b W.heap.size s r2 5 0 r2 v2 w2 := ⟨R2.only, R2.cell, R2.free, R2.num, R2.own, by simp⟩
  have hs2 := R2.only.size
  have E2 := Lib.hid R2.eq
  have HR2 := Lib.hid hr2
  clear R2 r0 hr2
  go_wp2_with fail
  refine (takeOut_any V w2 b W.heap.size s r2 5 v2 (.inr rfl) r20 hr2p (by omega) hs (by omega) (by omega) 5 rfl).mono ?_
  rintro _ w3 ⟨k5, r5, v5, rfl, R5, hr5, hk5⟩
  have bA3 := bA2.grown R5.only (by omega)
  have bR3 := bR2.grown R5.only (by omega)
  have uF : Up w w3 := uwV.grown R5.only (fun b' e => by cases e; have := Up.size hu; omega)
  have hN := R5.num
  have hcv := R5.cell
  have hrd : M.Rdx a t f s r5 (t + k2) (f + k5) := ⟨fun e => absurd e h0, fun _ => ⟨k2, k5, by rw [R5.eq]; exact E2.out, fun e => by
   apply HR2.out
   rw [← R5.eq, Nat.mul_mod, e, Nat.zero_mul, Nat.zero_mod], hr5, rfl, rfl, hk2, hk5⟩⟩
  have fin : Red neg s a t f w (.returned (xv neg v5 (t + k2) (f + k5))) (set4 w3 (w.heap.size + 1) (.bool neg) v5 (.int .i64 (t + k2)) (.int .i64 (f + k5))) :=
   ⟨v5, r5, _, _, rfl, (hN.set4 hsz _ _ _ _).lower (Up.size hu), uF.set4 (Nat.le_succ _) _ _ _ _, hrd⟩
  obtain ⟨A5, n5, c5, ys5, rfl, h5⟩ := hN
  have FIN := Lib.hid fin
  obtain ⟨⟨a0, a1, a2, a3⟩, _⟩ := bA3
  obtain ⟨⟨b0, b1, b2, b3⟩, g0, g1, g2, g3⟩ := bR3
  clear fin hrd uF R5 r20 bA2 bR2 E2 HR2 h5
  go_wp2_with fail
  exact bodyPost_ret (v := xv neg (.slice A5 n5 c5) (t + k2) (f + k5)) (by simp [results, Tryz.results56, go_sem, b0, b1, b2, b3]) rfl FIN.out
end Go.Proofs.YtijpffgocookaaaGreatDoor
