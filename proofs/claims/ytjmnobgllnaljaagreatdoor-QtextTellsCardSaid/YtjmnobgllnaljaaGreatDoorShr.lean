/-
  Shr: its contract.
-/
import Derived.Test.YtjmnobgllnaljaaGreatDoorNb
import Derived.Test.YtjmnobgllnaljaaGreatDoorNa
import Derived.Deep.RegionHeld3
import Derived.Deep.DrawnRows
namespace Go.Proofs.YtjmnobgllnaljaaGreatDoor
open Go.RowKit Go.Shelf

namespace M
/-- The words moved down by fewer than 64 bits. -/
def shr (s : Nat) : List Nat → List Nat
  | [] => []
  | x :: r => (x / 2 ^ s + r.getD 0 0 * 2 ^ (64 - s) % 18446744073709551616) :: shr s r
theorem shr_length (s : Nat) : ∀ xs, (shr s xs).length = xs.length
  | [] => rfl
  | x :: r => by rw [shr, List.length_cons, List.length_cons, shr_length s r]
theorem shr_getD (s : Nat) : ∀ (xs : List Nat) (j : Nat), j < xs.length → (shr s xs).getD j 0 = xs.getD j 0 / 2 ^ s + xs.getD (j + 1) 0 * 2 ^ (64 - s) % 18446744073709551616
  | [], j, h => by simp at h
  | x :: r, 0, _ => rfl
  | x :: r, j + 1, h => by
    rw [shr, List.getD_cons_succ, shr_getD s r j (by simpa using h), List.getD_cons_succ, List.getD_cons_succ]
theorem val_mod (s : Nat) (hs : s < 64) (r : List Nat) : val r % 2 ^ s = r.getD 0 0 % 2 ^ s := by
  cases r with
  | nil => rfl
  | cons x r =>
    have hB : (18446744073709551616 : Nat) = 2 ^ s * 2 ^ (64 - s) := by rw [← Nat.pow_add, show s + (64 - s) = 64 from by omega]
    rw [val, List.getD_cons_zero, hB, Nat.mul_assoc, Nat.add_mul_mod_self_left]
theorem val_shr (s : Nat) (hs : s < 64) : ∀ xs, val (shr s xs) = val xs / 2 ^ s
  | [] => by simp [shr, val]
  | x :: r => by
    have hB : (18446744073709551616 : Nat) = 2 ^ s * 2 ^ (64 - s) := by rw [← Nat.pow_add, show s + (64 - s) = 64 from by omega]
    have hp : 0 < 2 ^ s := Nat.pow_pos (by omega)
    have e1 : r.getD 0 0 * 2 ^ (64 - s) % 18446744073709551616 = (val r % 2 ^ s) * 2 ^ (64 - s) := by
      rw [hB, Nat.mul_mod_mul_right, val_mod s hs r]
    have e2 : (x + 18446744073709551616 * val r) / 2 ^ s = x / 2 ^ s + 2 ^ (64 - s) * val r := by
      rw [hB, Nat.mul_assoc, Nat.add_mul_div_left _ _ hp]
    have e3 : 2 ^ (64 - s) * val r = (val r % 2 ^ s) * 2 ^ (64 - s) + 18446744073709551616 * (val r / 2 ^ s) := by
      have h := Nat.mod_add_div (val r) (2 ^ s)
      calc 2 ^ (64 - s) * val r = 2 ^ (64 - s) * (val r % 2 ^ s + 2 ^ s * (val r / 2 ^ s)) := by rw [h]
        _ = _ := by rw [Nat.mul_add, hB, Nat.mul_comm (2 ^ (64 - s)) (val r % 2 ^ s), ← Nat.mul_assoc, Nat.mul_comm (2 ^ (64 - s)) (2 ^ s)]
    rw [shr, val, val, val_shr s hs r, e1, e2, e3]
    omega
theorem val_div {xs : List Nat} (h : Wds xs) (S : Nat) (hS : S ≤ xs.length) : val (xs.drop S) = val xs / 18446744073709551616 ^ S := by
  have h1 := val_split xs S hS
  have h2 := val_lt (h.take S)
  rw [List.length_take, Nat.min_eq_left hS] at h2
  rw [h1, Nat.add_mul_div_left _ _ (Nat.pow_pos (by omega)), Nat.div_eq_of_lt h2, Nat.zero_add]
theorem val_shr_drop {xs : List Nat} (h : Wds xs) {S s N : Nat} (hs : s < 64) (hN : N = 64 * S + s) (hS : S ≤ xs.length) : val (shr s (xs.drop S)) = val xs / 2 ^ N := by
  rw [val_shr s hs, val_div h S hS, Nat.div_div_eq_div_mul, hN, Nat.pow_add, Nat.pow_mul]
end M
end Go.Proofs.YtjmnobgllnaljaaGreatDoor
namespace Go.Proofs.YtjmnobgllnaljaaGreatDoor
open Go.RowKit Go.Shelf

theorem or_down (x y s : Nat) (hx : x < 18446744073709551616) (hs : s < 64) :
    bits .or .u64 ((x / 2 ^ s : Nat) : Int) (IntKind.u64.wrap ((y : Int) * 2 ^ (64 - s))) = ((x / 2 ^ s + y * 2 ^ (64 - s) % 18446744073709551616 : Nat) : Int) ∧ x / 2 ^ s + y * 2 ^ (64 - s) % 18446744073709551616 < 18446744073709551616 := by
  have hB : (18446744073709551616 : Nat) = 2 ^ s * 2 ^ (64 - s) := by rw [← Nat.pow_add, show s + (64 - s) = 64 from by omega]
  have hp : 0 < 2 ^ s := Nat.pow_pos (by omega)
  have hq : 0 < 2 ^ (64 - s) := Nat.pow_pos (by omega)
  have h1 : x / 2 ^ s < 2 ^ (64 - s) := Nat.div_lt_of_lt_mul (by rw [← hB]; exact hx)
  have e1 : (y : Int) * 2 ^ (64 - s) = ((y * 2 ^ (64 - s) : Nat) : Int) := by simp
  have e2 : IntKind.u64.wrap ((y * 2 ^ (64 - s) : Nat) : Int) = ((y * 2 ^ (64 - s) % 18446744073709551616 : Nat) : Int) := by
    rw [IntKind.wrap_u64]; omega
  have h2 : y * 2 ^ (64 - s) % 18446744073709551616 % 2 ^ (64 - s) = 0 := by
    rw [hB, Nat.mul_mod_mul_right]
    exact Nat.mul_mod_left _ _
  have h3 : y * 2 ^ (64 - s) % 18446744073709551616 + 2 ^ (64 - s) ≤ 18446744073709551616 := by
    rw [hB, Nat.mul_mod_mul_right]
    have h4 : y % 2 ^ s < 2 ^ s := Nat.mod_lt _ hp
    calc y % 2 ^ s * 2 ^ (64 - s) + 2 ^ (64 - s) = (y % 2 ^ s + 1) * 2 ^ (64 - s) := by rw [Nat.add_mul, Nat.one_mul]
      _ ≤ _ := Nat.mul_le_mul_right _ h4
  have h5 : (2 : Nat) ^ (64 - s) ≤ 2 ^ 64 := Nat.pow_le_pow_right (by omega) (by omega)
  refine ⟨?_, by omega⟩
  rw [e1, e2, bits_or_u64_nat _ _ (by omega) (by omega), Nat.or_comm, nat_join (64 - s) _ _ h2 h1, Nat.add_comm]

set_option maxHeartbeats 2000000 in
set_option maxRecDepth 100000 in
theorem shr_any (w : World) (lo s0 : Nat) (v : Value) (a : Nat) (h : Nw w lo s0 v a) (n : Int) (N : Nat) (hN : max 0 (min n 131072) = (N : Int)) :
    Calls Tryz.prog 18 #[v, .int .i64 n] w (Res s0 (a / 2 ^ N) w) := by
  obtain ⟨A, k, c, xs, rfl, hx, ha, hns⟩ := h
  have HA := Lib.hid ha
  have cl := clamp_any w n 131072
  rw [hN] at cl
  have CL := Lib.hid cl
  have hN1 : N ≤ 131072 := by omega
  obtain ⟨S, hS⟩ : ∃ S, N / 64 = S := ⟨_, rfl⟩
  obtain ⟨s, hs⟩ : ∃ s, N % 64 = s := ⟨_, rfl⟩
  have hs64 : s < 64 := by omega
  have hSb : S ≤ 2048 := by omega
  have q1 : (N : Int) / 64 = (S : Int) := by omega
  have q2 : (N : Int) % 64 = (s : Int) := by omega
  have q3 : (N : Int).tdiv 64 = (S : Int) := by rw [Int.tdiv_eq_ediv_of_nonneg (by omega)]; exact q1
  have q4 : (N : Int).tmod 64 = (s : Int) := by rw [Int.tmod_eq_emod_of_nonneg (by omega)]; exact q2
  have HN : Hid (N = 64 * S + s) := by show _ = _; omega
  clear ha cl hN hN1 hS hs
  go_enter Tryz.func18, Tryz.ntmps18
  go_wp2_with fail
  refine (trim_any w lo A k c xs hx).mono ?_
  rintro _ _ ⟨m, ys, rfl, rfl, hy, hny, hv, hmn⟩
  have HV : Hid (M.val ys = a) := hv.trans HA.out
  clear hx hv HA
  go_wp2_with fail
  refine CL.out.mono ?_
  rintro _ _ ⟨rfl, rfl⟩
  have b1 := hy.len
  have b2 := hy.small
  by_cases hSm : m ≤ S
  · have h0 : a / 2 ^ N = 0 := by
      apply Nat.div_eq_of_lt
      rw [← HV.out, HN.out, Nat.pow_add, Nat.pow_mul]
      have h1 := M.val_lt hy.wds
      rw [hy.num] at h1
      have h2 : (18446744073709551616 : Nat) ^ m ≤ 18446744073709551616 ^ S := Nat.pow_le_pow_right (by omega) hSm
      have h3 : (18446744073709551616 : Nat) ^ S * 1 ≤ 18446744073709551616 ^ S * 2 ^ s := Nat.mul_le_mul_left _ (Nat.pow_pos (by omega))
      show _ < 18446744073709551616 ^ S * 2 ^ s
      omega
    have H0 := Lib.hid h0
    clear h0
    go_wp2_with fail
    go_ret
    rw [H0.out]
    exact ⟨_, rfl, Nt.nil _ _ _, Up.refl w⟩
  · obtain ⟨L, hL⟩ : ∃ L, m - S = L := ⟨_, rfl⟩
    have qL : (m : Int) - (S : Int) = (L : Int) := by omega
    have hLb : L ≤ m := by omega
    have hSm2 : S < m := by omega
    have HL : Hid (m = S + L) := by show _ = _; omega
    clear hL hSm
    go_wp2_with (at_make; refine wpList_make_wd _ rfl (.tmp 24) (.tmp 24) 23 rfl info_u64 Tryz.underlying23 (L : Int) (L : Int) L rfl rfl (by omega) (by omega) (by omega) ?_; intro w1 hown1 hg1)
    have hu1 : Up w w1 := (Up.refl w).grown hg1 (by simp)
    have hst : Hid (∀ j, j < 0 → (List.replicate L 0).getD j 0 = (M.shr s (ys.drop S)).getD j 0) := fun j hj => by omega
    go_loopw [28] (fun i wr => ∃ (k : Nat) (zs : List Nat), k ≤ L ∧ i = .int .i64 k ∧ Up w wr ∧ Ow wr w.heap.size (.slice (some ⟨w.heap.size, 0, none⟩) L L) L zs ∧ M.Wds zs ∧ Hid (∀ j, j < k → zs.getD j 0 = (M.shr s (ys.drop S)).getD j 0)) (fun i _ => L - (intOf i).toNat)
    case atStart => exact ⟨0, _, by omega, rfl, hu1, hown1, M.Wds.replicate _, hst⟩
    case round =>
      obtain ⟨k, zs, hk, rfl, hu, hown, hwd, HI⟩ := hrel
      have hcA := (hy.up hu).at_
      have hWB := hy.up hu
      have hzl := hown.num
      clear hown1 hg1 hu1 hst
      by_cases hlt : k < L
      · have hcW := hy.at_
        obtain ⟨bb, oo, rfl, _, hc⟩ := hcA (by omega)
        have hnb : ¬ bb = w.heap.size := by
          obtain ⟨b', o', e, _, hcw⟩ := hcW (by omega)
          injection e with e
          injection e with e1 _ _
          have := World.block_lt_of_cell? w _ (hcw 0 (by omega)).1
          simp only at this
          omega
        have hnb' : ¬ w.heap.size = bb := fun h => hnb h.symm
        clear hcW
        obtain ⟨P, hP⟩ : ∃ P, S + k = P := ⟨_, rfl⟩
        have qP : (S : Int) + (k : Int) = (P : Int) := by omega
        have hPm : P < m := by have := HL.out; omega
        have hPi : (P : Int) < (m : Int) := by omega
        have hPb : P ≤ 1099511627776 := by omega
        have hki : (k : Int) < (L : Int) := by omega
        have hc1 := (hc P hPm).1
        obtain ⟨x, hxk⟩ : ∃ x, ys.getD P 0 = x := ⟨_, rfl⟩
        obtain ⟨y, hyk⟩ : ∃ y, ys.getD (P + 1) 0 = y := ⟨_, rfl⟩
        have hxb : x < 18446744073709551616 := by rw [← hxk]; exact hy.wds.getD P
        have hyb : y < 18446744073709551616 := by rw [← hyk]; exact hy.wds.getD (P + 1)
        rw [hxk] at hc1
        obtain ⟨hor, hZb⟩ := or_down x y s hxb hs64
        have hj : (M.shr s (ys.drop S)).getD k 0 = x / 2 ^ s + y * 2 ^ (64 - s) % 18446744073709551616 := by
          rw [M.shr_getD s _ k (by rw [List.length_drop, hy.num]; have := HL.out; omega)]
          rw [List.getD_eq_getElem?_getD, List.getD_eq_getElem?_getD, List.getElem?_drop, List.getElem?_drop, ← List.getD_eq_getElem?_getD, ← List.getD_eq_getElem?_getD, hP, show S + (k + 1) = P + 1 from by omega, hxk, hyk]
        obtain ⟨Z, hZ⟩ : ∃ Z, x / 2 ^ s + y * 2 ^ (64 - s) % 18446744073709551616 = Z := ⟨_, rfl⟩
        obtain ⟨X1, hX1⟩ : ∃ X1, x / 2 ^ s = X1 := ⟨_, rfl⟩
        obtain ⟨cs, hcs⟩ : ∃ cs, 64 - s = cs := ⟨_, rfl⟩
        have hcs64 : cs ≤ 64 := by omega
        rw [hZ] at hor hZb hj
        rw [hX1, hcs] at hor
        have q5 : (64 : Int) - (s : Int) = (cs : Int) := by omega
        have q6 : (x : Int) / 2 ^ s = (X1 : Int) := by rw [← hX1]; simp
        have HE : Hid (∀ j, j < k + 1 → (zs.set k Z).getD j 0 = (M.shr s (ys.drop S)).getD j 0) := fun j hj2 => by
          by_cases e : j = k
          · rw [e, M.getD_set_eq (by omega), hj]
          · rw [M.getD_set_ne' (by omega)]; exact HI.out j (by omega)
        have cg : ∀ q, Calls Tryz.prog 41 #[.slice (some ⟨bb, oo, none⟩) m c, .int .i64 ((P : Int) + 1)] (wr.drewN q) (Same (u64 y) (wr.drewN q)) := fun q => by
          have := wordAt_nat (wr.drewN q) _ _ _ _ _ (hy.up (hu.drewN q)) (P + 1) (by omega) y hyk
          exact this
        have CG := Lib.hid cg
        have CG1 := Lib.hid (show Calls Tryz.prog 41 #[.slice (some ⟨bb, oo, none⟩) m c, .int .i64 ((P : Int) + 1)] wr.drew (Same (u64 y) wr.drew) from cg 1)
        have hcz := hown.cellAt k (by omega)
        rw [cu_get (by omega)] at hcz
        have hfz := hown.frozenAt k
        clear hc hcA hxk hyk hj hZ hX1 hcs hP cg
        have qw1 : IntKind.i64.wrap ((P : Int) + 1) = (P : Int) + 1 := by simp [IntKind.wrap, IntKind.bits, IntKind.signed]; omega
        have qwP : IntKind.i64.wrap (P : Int) = (P : Int) := by simp [IntKind.wrap, IntKind.bits, IntKind.signed]; omega
        have qwc : IntKind.i64.wrap (cs : Int) = (cs : Int) := by simp [IntKind.wrap, IntKind.bits, IntKind.signed]; omega
        have hP0 : (0 : Int) ≤ (P : Int) := by omega
        go_wp2_with fail
        go_region_held3 (fun w' => w'.cell? ⟨bb, oo + P, none⟩ = some (u64 x)) (go_keep) ((go_at_call 41; refine (CG.out _).mono ?_; rintro _ _ ⟨rfl, rfl⟩))
        obtain ⟨h1, _⟩ := hown.stored k (u64 Z)
        rw [cu_set] at h1
        have hown2 : Ow (wr.drew.setCell ⟨w.heap.size, k, none⟩ (u64 Z)) w.heap.size (.slice (some ⟨w.heap.size, 0, none⟩) L L) L (zs.set k Z) := Ow.up h1 ((Up.refl _).drewN 1)
        have hu2 : Up w (wr.drew.setCell ⟨w.heap.size, k, none⟩ (u64 Z)) := (hu.drewN 1).setCell (Nat.le_refl _) _
        clear qw1 qwP qwc
        go_wp2_with fail
        go_roundw
        case rel => exact ⟨k + 1, _, by omega, by go_num, hu2, hown2, hwd.set k hZb, HE⟩
        case measure => simp [intOf]; omega
      · have hkL : k = L := by omega
        subst hkL
        have hzs : zs = M.shr s (ys.drop S) := by
          refine M.ext_getD (by rw [M.shr_length, List.length_drop, hy.num, hzl]; have := HL.out; omega) fun j hj => HI.out j (by omega)
        have hvs : M.val zs = a / 2 ^ N := by
          rw [hzs, M.val_shr_drop hy.wds hs64 HN.out (by rw [hy.num]; omega), HV.out]
        have HVS := Lib.hid hvs
        have hwd2 := Ow.wd_ hown hwd (by omega)
        clear hvs hzs hown HI hcA hWB
        go_wp2_with fail
        refine (trim_any _ _ _ _ _ _ hwd2).mono ?_
        rintro _ _ ⟨m2, zz, rfl, rfl, hd2, hn2, hv2, hm2⟩
        have HV2 : Hid (M.val zz = a / 2 ^ N) := hv2.trans HVS.out
        clear hv2 hwd2
        go_wp2_with fail
        go_ret
        exact ⟨_, rfl, ⟨_, _, _, zz, rfl, hd2, HV2.out, by omega, hn2⟩, hu⟩
end Go.Proofs.YtjmnobgllnaljaaGreatDoor
