/-
  Shl: its contract.
-/
import Derived.Test.YteeepfhjbemgoaaDoorFirst
import Derived.RegionTactic
namespace Go.Proofs.YteeepfhjbemgoaaDoor
open Go.RowKit Go.Shelf

namespace M
theorem val_set : ∀ (zs : List Nat) (i x : Nat), i < zs.length → val (zs.set i x) + 18446744073709551616 ^ i * zs.getD i 0 = val zs + 18446744073709551616 ^ i * x
  | [], i, x, h => by simp at h
  | z :: zs, 0, x, _ => by simp [val]; omega
  | z :: zs, i + 1, x, h => by
    have := val_set zs i x (by simpa using h)
    simp only [List.set_cons_succ, val_cons, List.getD_cons_succ, Nat.pow_succ]
    have e1 : 18446744073709551616 ^ i * 18446744073709551616 * zs.getD i 0 = 18446744073709551616 * (18446744073709551616 ^ i * zs.getD i 0) := by rw [Nat.mul_comm (18446744073709551616 ^ i), Nat.mul_assoc]
    have e2 : 18446744073709551616 ^ i * 18446744073709551616 * x = 18446744073709551616 * (18446744073709551616 ^ i * x) := by rw [Nat.mul_comm (18446744073709551616 ^ i), Nat.mul_assoc]
    rw [e1, e2]
    omega
/-- A word moved up by fewer than 64 bits: what stays, what goes over. -/
theorem shift_word (x s : Nat) (hs : s < 64) : ∃ X1 X2, X1 = x * 2 ^ s % 18446744073709551616 ∧ X2 = x / 2 ^ (64 - s) ∧ x * 2 ^ s = X1 + 18446744073709551616 * X2 ∧ X1 % 2 ^ s = 0 ∧ X1 + 2 ^ s ≤ 18446744073709551616 ∧ (x < 18446744073709551616 → X2 < 2 ^ s) := by
  have hB : (18446744073709551616 : Nat) = 2 ^ s * 2 ^ (64 - s) := by rw [← Nat.pow_add, show s + (64 - s) = 64 from by omega]
  have hp : 0 < 2 ^ s := Nat.pow_pos (by omega)
  have hq : 0 < 2 ^ (64 - s) := Nat.pow_pos (by omega)
  refine ⟨_, _, rfl, rfl, ?_, ?_, ?_, ?_⟩
  · have h1 : x / 2 ^ (64 - s) = x * 2 ^ s / 18446744073709551616 := by
      rw [hB, Nat.mul_comm x, Nat.mul_div_mul_left _ _ hp]
    rw [h1]
    omega
  · rw [hB, Nat.mul_comm x, Nat.mul_mod_mul_left]
    exact Nat.mul_mod_right _ _
  · rw [hB, Nat.mul_comm x, Nat.mul_mod_mul_left]
    have h1 : x % 2 ^ (64 - s) < 2 ^ (64 - s) := Nat.mod_lt _ hq
    calc 2 ^ s * (x % 2 ^ (64 - s)) + 2 ^ s = 2 ^ s * (x % 2 ^ (64 - s) + 1) := by rw [Nat.mul_add, Nat.mul_one]
      _ ≤ _ := Nat.mul_le_mul_left _ h1
  · intro h
    exact Nat.div_lt_of_lt_mul (by rw [hB, Nat.mul_comm] at h; exact h)
/-- What is so while the words are moved up. -/
structure ShInv (S s n : Nat) (xs : List Nat) (k : Nat) (zs : List Nat) : Prop where
  eq : val zs = 18446744073709551616 ^ S * (2 ^ s * val (xs.take k))
  low : zs.getD (S + k) 0 < 2 ^ s
  high : ∀ j, S + k < j → zs.getD j 0 = 0
theorem ShInv.start (S s n : Nat) (xs : List Nat) : ShInv S s n xs 0 (List.replicate (n + S + 1) 0) := by
  have hz : ∀ j, (List.replicate (n + S + 1) 0).getD j 0 = 0 := fun j => by
    rw [List.getD_eq_getElem?_getD, List.getElem?_replicate]
    split <;> rfl
  refine ⟨by rw [val_replicate]; simp [val], ?_, fun j _ => hz j⟩
  rw [hz]
  exact Nat.pow_pos (by omega)
theorem getD_set_eq {zs : List Nat} {i x : Nat} (h : i < zs.length) : (zs.set i x).getD i 0 = x := by
  rw [List.getD_eq_getElem?_getD, List.getElem?_set_self h]; rfl
theorem getD_set_ne' {zs : List Nat} {i j x : Nat} (h : i ≠ j) : (zs.set i x).getD j 0 = zs.getD j 0 := by
  rw [List.getD_eq_getElem?_getD, List.getD_eq_getElem?_getD, List.getElem?_set_ne h]
theorem ShInv.step {S s n : Nat} {xs : List Nat} {k : Nat} {zs : List Nat} (h : ShInv S s n xs k zs) (hl : zs.length = n + S + 1) (hk : k < n) {x z X1 X2 : Nat} (hx : xs.getD k 0 = x) (hz : zs.getD (S + k) 0 = z)
    (e : x * 2 ^ s = X1 + 18446744073709551616 * X2) (h2 : X2 < 2 ^ s) :
    ShInv S s n xs (k + 1) ((zs.set (S + k) (X1 + z)).set (S + k + 1) X2) := by
  have h0 : zs.getD (S + k + 1) 0 = 0 := h.high _ (by omega)
  have a1 := val_set zs (S + k) (X1 + z) (by omega)
  have a2 := val_set (zs.set (S + k) (X1 + z)) (S + k + 1) X2 (by rw [List.length_set]; omega)
  rw [getD_set_ne' (by omega), h0] at a2
  rw [hz] at a1
  refine ⟨?_, ?_, fun j hj => ?_⟩
  · rw [val_take_succ, hx, Nat.mul_add, Nat.mul_add, ← h.eq]
    have e1 : 18446744073709551616 ^ S * (2 ^ s * (18446744073709551616 ^ k * x)) = 18446744073709551616 ^ (S + k) * X1 + 18446744073709551616 ^ (S + k + 1) * X2 := by
      rw [← Nat.mul_assoc (2 ^ s), Nat.mul_comm (2 ^ s), Nat.mul_assoc (18446744073709551616 ^ k), Nat.mul_comm (2 ^ s) x, e, Nat.mul_add, Nat.mul_add, ← Nat.mul_assoc, ← Nat.pow_add, ← Nat.mul_assoc, ← Nat.pow_add, ← Nat.mul_assoc, ← Nat.pow_succ]
    rw [e1]
    rw [Nat.mul_add] at a1
    omega
  · rw [show S + (k + 1) = S + k + 1 from by omega, getD_set_eq (by rw [List.length_set]; omega)]
    exact h2
  · rw [getD_set_ne' (by omega), getD_set_ne' (by omega)]
    exact h.high j (by omega)
theorem ShInv.fin {S s n : Nat} {xs : List Nat} {zs : List Nat} (h : ShInv S s n xs n zs) (hn : xs.length = n) {N : Nat} (hN : N = 64 * S + s) : val zs = val xs * 2 ^ N := by
  rw [h.eq, val_take_all (by omega), hN, Nat.pow_add, Nat.pow_mul]
  rw [show (2 : Nat) ^ 64 = 18446744073709551616 from rfl]
  rw [← Nat.mul_assoc, Nat.mul_comm]
end M
theorem Ow.up {w w' : World} {base : Nat} {v : Value} {n : Nat} {xs : List Nat} (h : Ow w base v n xs) (hu : Up w w') : Ow w' base v n xs :=
  World.ownsRow.kept (row := none) h ⟨Below.os hu, Below.tape hu, Below.output hu, Below.size hu, fun j hj _ => Below.block hu j hj⟩ (by cases h : v.ownBlock <;> simp)
/-- What shiftUp comes to: a row of its own, of so many words. -/
def Rw (L a : Nat) (w : World) (e : Ending) (w' : World) : Prop := ∃ g zs, e = .returned (.slice (some ⟨g, 0, none⟩) L L) ∧ w.heap.size ≤ g ∧ Ow w' w.heap.size (.slice (some ⟨g, 0, none⟩) L L) L zs ∧ M.Wds zs ∧ M.val zs = a ∧ Up w w'

theorem or_up (z X1 s : Nat) (x : Nat) (h1 : X1 = x * 2 ^ s % 18446744073709551616) (h2 : X1 % 2 ^ s = 0) (hz : z < 2 ^ s) (hs : s < 64) :
    bits .or .u64 (z : Int) (IntKind.u64.wrap ((x : Int) * 2 ^ s)) = ((X1 + z : Nat) : Int) := by
  have e1 : (x : Int) * 2 ^ s = ((x * 2 ^ s : Nat) : Int) := by simp
  have h3 : (2 : Nat) ^ s ≤ 2 ^ 64 := Nat.pow_le_pow_right (by omega) (by omega)
  have e2 : IntKind.u64.wrap ((x * 2 ^ s : Nat) : Int) = (X1 : Int) := by
    rw [IntKind.wrap_u64, h1]; omega
  rw [e1, e2, bits_or_u64_nat _ _ (by omega) (by omega), Nat.or_comm, nat_join s _ _ h2 hz]

set_option maxHeartbeats 1000000 in
set_option maxRecDepth 100000 in
theorem shiftUp_any (w : World) (lo : Nat) (A : Option Addr) (n c : Nat) (xs : List Nat) (hx : Wd w lo A n c xs) (N : Nat) (hN : N ≤ 10000000) (hn : n ≤ 1000000000) :
    Calls Tryd.prog 72 #[.slice A n c, .int .i64 N] w (Rw (n + N / 64 + 1) (M.val xs * 2 ^ N) w) := by
  obtain ⟨S, hS⟩ : ∃ S, N / 64 = S := ⟨_, rfl⟩
  obtain ⟨s, hs⟩ : ∃ s, N % 64 = s := ⟨_, rfl⟩
  have hs64 : s < 64 := by omega
  have hSb : S ≤ 1000000 := by omega
  have hNS : N = 64 * S + s := by omega
  have q1 : (N : Int) / 64 = (S : Int) := by omega
  have q2 : (N : Int) % 64 = (s : Int) := by omega
  have q3 : (N : Int).tdiv 64 = (S : Int) := by rw [Int.tdiv_eq_ediv_of_nonneg (by omega)]; exact q1
  have q4 : (N : Int).tmod 64 = (s : Int) := by rw [Int.tmod_eq_emod_of_nonneg (by omega)]; exact q2
  rw [hS]
  have HN := Lib.hid hNS
  clear hS hs hNS
  obtain ⟨L, hL⟩ : ∃ L, n + S + 1 = L := ⟨_, rfl⟩
  have qL : (n : Int) + (S : Int) + 1 = (L : Int) := by omega
  rw [hL]
  have HL := Lib.hid hL
  have hLb : L ≤ 1001000001 := by omega
  clear hL
  have b1 := hx.len
  have b2 := hx.small
  go_enter Tryd.func72, Tryd.ntmps72
  go_wp2_with (at_make; refine wpList_make_wd _ rfl (.tmp 18) (.tmp 18) 23 rfl info_u64 Tryd.underlying23 (L : Int) (L : Int) L rfl rfl (by omega) (by omega) (by omega) ?_; intro w1 hown1 hg1)
  have hu1 : Up w w1 := (Up.refl w).grown hg1 (by simp)
  have hst : Hid (M.ShInv S s n xs 0 (List.replicate L 0)) := by rw [Hid, ← HL.out]; exact M.ShInv.start S s n xs
  go_loopw [22] (fun i wr => ∃ (k : Nat) (zs : List Nat), k ≤ n ∧ i = .int .i64 k ∧ Up w wr ∧ Ow wr w.heap.size (.slice (some ⟨w.heap.size, 0, none⟩) L L) L zs ∧ M.Wds zs ∧ Hid (M.ShInv S s n xs k zs)) (fun i _ => n - (intOf i).toNat)
  case atStart => exact ⟨0, _, by omega, rfl, hu1, hown1, M.Wds.replicate _, hst⟩
  case round =>
    obtain ⟨k, zs, hk, rfl, hu, hown, hwd, HI⟩ := hrel
    have hcA := (hx.up hu).at_
    have hzl := hown.num
    clear hown1 hg1 hu1 hst
    by_cases hlt : k < n
    · obtain ⟨bb, oo, rfl, _, hc⟩ := hcA (by omega)
      have hc1 := (hc k hlt).1
      obtain ⟨x, hxk⟩ : ∃ x, xs.getD k 0 = x := ⟨_, rfl⟩
      have hxb : x < 18446744073709551616 := by rw [← hxk]; exact hx.wds.getD k
      rw [hxk] at hc1
      obtain ⟨P, hP⟩ : ∃ P, S + k = P := ⟨_, rfl⟩
      have qP : (S : Int) + (k : Int) = (P : Int) := by omega
      have hL0 := HL.out
      have hP1 : P + 1 < L := by omega
      clear hL0
      obtain ⟨z, hz⟩ : ∃ z, zs.getD P 0 = z := ⟨_, rfl⟩
      have hzlow : z < 2 ^ s := by have := HI.out.low; rw [hP, hz] at this; exact this
      obtain ⟨X1, X2, f1, f2, f3, f4, f5, f6⟩ := M.shift_word x s hs64
      have hor := or_up z X1 s x f1 f4 hzlow hs64
      have hZb : X1 + z < 18446744073709551616 := by omega
      have hX2 := f6 hxb
      have hX2b : X2 < 18446744073709551616 := by
        have h3 : (2 : Nat) ^ s ≤ 2 ^ 64 := Nat.pow_le_pow_right (by omega) (by omega)
        omega
      obtain ⟨cs, hcs⟩ : ∃ cs, 64 - s = cs := ⟨_, rfl⟩
      have q5 : (64 : Int) - (s : Int) = (cs : Int) := by omega
      have q6 : (x : Int) / 2 ^ cs = (X2 : Int) := by rw [f2, hcs]; rfl
      have HE := Lib.hid (HI.out.step (z := z) (by rw [hzl, HL.out]) hlt hxk (by rw [hP]; exact hz) f3 hX2)
      rw [hP] at HE
      have hcz := hown.cellAt P (by omega)
      rw [cu_get (by omega), hz] at hcz
      have hfz := hown.frozenAt P
      have hfz1 := hown.frozenAt (P + 1)
      obtain ⟨Z, hZ⟩ : ∃ Z, X1 + z = Z := ⟨_, rfl⟩
      rw [hZ] at hor hZb HE
      clear hc hcA hxk f1 f2 f3 f4 f5 f6 hzlow hz hZ hP hX2 hcs
      go_wp2_with fail
      go_region
      obtain ⟨h1, _⟩ := hown.stored P (u64 Z)
      rw [cu_set] at h1
      have hown2 : Ow (wr.setCell ⟨w.heap.size, P, none⟩ (.int .u64 (Z : Int))).drew w.heap.size (.slice (some ⟨w.heap.size, 0, none⟩) L L) L (zs.set P Z) := Ow.up h1 ((Up.refl _).drewN 1)
      have hu2 : Up w (wr.setCell ⟨w.heap.size, P, none⟩ (.int .u64 (Z : Int))).drew := (hu.setCell (Nat.le_refl _) _).drewN 1
      have hwd2 := hwd.set P hZb
      clear hcz hfz hfz1 hown hu h1 hc1 HI hor hwd
      generalize (wr.setCell ⟨w.heap.size, P, none⟩ (.int .u64 (Z : Int))).drew = wr2 at hown2 hu2 ⊢
      have hzl2 := hown2.num
      have hcz2 := hown2.cellAt (P + 1) (by omega)
      rw [cu_get (by omega)] at hcz2
      have hfz2 := hown2.frozenAt (P + 1)
      go_wp2_with fail
      go_roundw
      case rel =>
        obtain ⟨h1, _⟩ := hown2.stored (P + 1) (u64 X2)
        rw [cu_set] at h1
        exact ⟨k + 1, _, by omega, by go_num, hu2.setCell (Nat.le_refl _) _, h1, hwd2.set _ hX2b, HE⟩
      case measure => simp [intOf]; omega
    · have hkn : k = n := by omega
      subst hkn
      go_wp2_with fail
      go_ret
      exact ⟨w.heap.size, zs, rfl, Nat.le_refl _, hown, hwd, HI.out.fin hx.num HN.out, hu⟩
end Go.Proofs.YteeepfhjbemgoaaDoor
namespace Go.Proofs.YteeepfhjbemgoaaDoor
open Go.RowKit Go.Shelf

set_option maxHeartbeats 1000000 in
set_option maxRecDepth 100000 in
theorem shl_any (w : World) (lo s : Nat) (v : Value) (a : Nat) (h : Nw w lo s v a) (hs : s ≤ 100000000) (n : Int) (N : Nat) (hN : max 0 (min n 131072) = (N : Int)) :
    Calls Tryd.prog 27 #[v, .int .i64 n] w (Res (s + N / 64 + 1) (a * 2 ^ N) w) := by
  obtain ⟨A, k, c, xs, rfl, hx, ha, hns⟩ := h
  have HA := Lib.hid ha
  have cl := clamp_any w n 131072
  rw [hN] at cl
  have CL := Lib.hid cl
  have hN1 : N ≤ 131072 := by omega
  have hN2 : N ≤ 10000000 := by omega
  clear ha cl hN hN1
  go_enter Tryd.func27, Tryd.ntmps27
  go_wp2_with fail
  refine (trim_any w lo A k c xs hx).mono ?_
  rintro _ _ ⟨m, ys, rfl, rfl, hy, hny, hv, hmn⟩
  have HV : Hid (M.val ys = a) := hv.trans HA.out
  clear hx hv HA
  go_wp2_with fail
  refine CL.out.mono ?_
  rintro _ _ ⟨rfl, rfl⟩
  go_wp2_with fail
  refine (shiftUp_any w lo A m c ys hy N hN2 (by omega)).mono ?_
  rintro _ w1 ⟨g, zs, rfl, hg, hown, hwd, hval, hu⟩
  have HZ : Hid (M.val zs = a * 2 ^ N) := by rw [Hid, hval, HV.out]
  obtain ⟨L, hL⟩ : ∃ L, m + N / 64 + 1 = L := ⟨_, rfl⟩
  have hLs : L ≤ s + N / 64 + 1 := by omega
  have hLb : L ≤ 1099511627776 := by omega
  rw [hL] at hown ⊢
  have hwd2 := Ow.wd_ hown hwd hLb
  clear hval hown hwd hL CL
  go_wp2_with fail
  refine (trim_any _ _ _ _ _ _ hwd2).mono ?_
  rintro _ _ ⟨m2, zz, rfl, rfl, hd2, hn2, hv2, hm2⟩
  go_wp2_with fail
  go_ret
  exact ⟨_, rfl, ⟨_, m2, _, zz, rfl, hd2, hv2.trans HZ.out, by omega, hn2⟩, hu⟩
end Go.Proofs.YteeepfhjbemgoaaDoor
