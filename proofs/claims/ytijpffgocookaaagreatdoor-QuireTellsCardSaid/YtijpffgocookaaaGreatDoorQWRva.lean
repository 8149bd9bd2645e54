import Derived.Test.YtijpffgocookaaaGreatDoorQWRn
import Derived.Test.YtijpffgocookaaaGreatDoorQWExa
import Derived.Test.YtijpffgocookaaaGreatDoorQWVwa
import Derived.BigQuiet
import Derived.Deep.RegionHeld3
import Derived.Deep.DrawnRows
import Derived.OwnWalk
set_option maxHeartbeats 32000000
set_option linter.unusedVariables false
set_option linter.unusedSimpArgs false
namespace Go.Proofs.YtijpffgocookaaaGreatDoor
open Go.RowKit
def Xr (neg : Bool) (s a : Nat) (t f : Int) (w : World) (e : Ending) (w' : World) : Prop := ∃ v, e = .returned (xv neg v t f) ∧ Nt w' w.heap.size s v a ∧ Up w w'
theorem Nt.nil_iff {w : World} {lo s : Nat} {A : Option Addr} {n c a : Nat} (h : Nt w lo s (.slice A n c) a) : n = 0 ↔ a = 0 := by
 obtain ⟨A', n', c', xs, e, h1, h2, h3, h4⟩ := h
 cases e
 subst h2
 constructor
 ·intro e
  have hx : xs = [] := List.eq_nil_of_length_eq_zero (by rw [h1.num, e])
  rw [hx]; rfl
 ·intro e
  have := M.len_of_lt (k := 0) h4 (by rw [e]; simp)
  rw [h1.num] at this
  omega
set_option maxRecDepth 100000 in
theorem iseven_any (w : World) (k : Nat) (kb : k < 18446744073709551616) (r : Bool) (hr : Hid (decide (k % 2 = 0) = r)) : Calls Tryz.prog 150 #[u64 k] w (Same (.bool r) w) := by
 have e : ((k : Int).tmod 2 == 0) = r := by
  rw [← hr.out, Int.tmod_eq_emod_of_nonneg (by omega)]
  by_cases h : k % 2 = 0
  ·rw [decide_eq_true h, beq_iff_eq]; omega
  ·rw [decide_eq_false h, beq_eq_false_iff_ne]; omega
 clear hr
 go_enter Tryz.func150, Tryz.ntmps150
 go_wp2_with fail
 go_ret
 exact ⟨by first | rfl | exact ret_bool e, rfl⟩
set_option maxRecDepth 100000 in
theorem ismode_any (w : World) (m : Int) (r : Bool) (hr : Hid (decide (m = 1 ∨ m = 2) = r)) : Calls Tryz.prog 71 #[.int .i64 m] w (Same (.bool r) w) := by
 have e := hr.out
 clear hr
 by_cases h1 : m = 1
 ·subst h1
  subst e
  go_enter Tryz.func71, Tryz.ntmps71
  go_wp2_with fail
  go_ret
  exact ⟨by first | rfl | simp, rfl⟩
 ·have d1 : (m == 1) = false := by simpa using h1
  have e2 : (m == 2) = r := by
   rw [← e]
   by_cases h2 : m = 2
   ·simp [h2]
   ·simp [h1, h2]
  clear e h1
  go_enter Tryz.func71, Tryz.ntmps71
  go_wp2_with fail
  go_ret
  exact ⟨by first | rfl | exact ret_bool e2, rfl⟩
set_option maxRecDepth 100000 in
theorem isnought_any (w : World) (lo s : Nat) (neg : Bool) (v : Value) (t g : Int) (a : Nat) (h : Nt w lo s v a) (r : Bool) (hr : Hid (decide (a = 0) = r)) : Calls Tryz.prog 72 #[xv neg v t g] w (Bz r w) := by
 obtain ⟨A, n, c, xs, rfl, h1⟩ := h
 have hi := Nt.nil_iff (w := w) (lo := lo) (s := s) ⟨A, n, c, xs, rfl, h1⟩
 have e : ((n : Int) == 0) = r := by
  rw [← hr.out]
  by_cases h : a = 0
  ·rw [decide_eq_true h, beq_iff_eq]; omega
  ·rw [decide_eq_false h, beq_eq_false_iff_ne]; omega
 clear hr hi h1
 have U := Up.refl w
 go_enter Tryz.func72, Tryz.ntmps72
 go_wp2_with fail
 obtain ⟨V1, hV1, B, uV1⟩ := Ob.nw w 34 #[.bool neg, .slice A n c, .int .i64 t, .int .i64 g]
 have ltB : w.heap.size ≤ w.heap.size := U.size
 rw [hV1]
 clear hV1
 replace U := U.trans uV1
 clear uV1
 obtain ⟨B0, B1, B2, B3, Bf0, Bf1, Bf2, Bf3, Bl⟩ := B.c4
 go_wp2_with fail
 clear B0 Bf0 B1 Bf1 B2 Bf2 B3 Bf3 Bl
 go_ret
 exact ⟨by first | rfl | exact ret_bool e, U⟩
set_option maxRecDepth 100000 in
theorem least_any (w : World) (TF : Hid (TabF w)) (i : Nat) (f : M.Fm) (hf : Hid (M.tb i = f)) (i1 : 1 ≤ i) (i2 : i ≤ 14) (z : Nat) (hz : Hid ((if f.k = 1 then 1 else 0) = z)) : Calls Tryz.prog 151 #[.int .i64 (i : Int)] w (Wz z w) := by
 have CO := Lib.hid (fun W (F : TabF W) => of_in W F i f hf i1 i2)
 have e := hz.out
 clear hf hz i1 i2
 by_cases hk : f.k = 1
 ·
  rw [if_pos hk] at e
  subst e
  have d1 : (f.k == 1) = true := by simpa using hk
  clear hk
  have U := Up.refl w
  go_enter Tryz.func151, Tryz.ntmps151
  go_wp2_with fail
  refine (CO.out _ (TF.out.up U)).mono ?_
  rintro _ w1 ⟨rfl, h1⟩
  replace U := U.trans h1
  clear h1
  go_wp2_with fail
  obtain ⟨V2, hV2, C, uV2⟩ := Bf.nw w1 f 74
  have ltC : w.heap.size ≤ w1.heap.size := U.size
  rw [hV2]
  clear hV2
  replace U := U.trans uV2
  clear uV2
  obtain ⟨C0, C1, C2, C3, C4, C5, C6⟩ := Bf.cs C
  have C7 := Bf.lt C
  simp only [Nat.zero_add] at C0 C1 C2 C3 C4 C5 C6 C7
  go_wp2_with fail
  clear C0 C1 C2 C3 C4 C5 C6 C7
  go_ret
  exact ⟨by first | rfl | simp, U⟩
 ·
  rw [if_neg hk] at e
  subst e
  have d1 : (f.k == 1) = false := by simpa using hk
  clear hk
  have U := Up.refl w
  go_enter Tryz.func151, Tryz.ntmps151
  go_wp2_with fail
  refine (CO.out _ (TF.out.up U)).mono ?_
  rintro _ w1 ⟨rfl, h1⟩
  replace U := U.trans h1
  clear h1
  go_wp2_with fail
  obtain ⟨V2, hV2, C, uV2⟩ := Bf.nw w1 f 74
  have ltC : w.heap.size ≤ w1.heap.size := U.size
  rw [hV2]
  clear hV2
  replace U := U.trans uV2
  clear uV2
  obtain ⟨C0, C1, C2, C3, C4, C5, C6⟩ := Bf.cs C
  have C7 := Bf.lt C
  simp only [Nat.zero_add] at C0 C1 C2 C3 C4 C5 C6 C7
  go_wp2_with fail
  clear C0 C1 C2 C3 C4 C5 C6 C7
  go_ret
  exact ⟨by first | rfl | simp, U⟩
theorem M.pw_of {z : Int} (h : -3000 ≤ z ∧ z ≤ 3000) : M.pw z := by unfold M.pw; omega
set_option maxRecDepth 100000 in
theorem rnd_behind (w : World) (TT : Hid (Tz w)) (TF : Hid (TabF w)) (i : Nat) (f : M.Fm) (hf : Hid (M.tb i = f)) (i1 : 1 ≤ i) (i2 : i ≤ 14) (k : Nat) (kb : k < 18446744073709551616) (hk : (k : Int) ≤ M.tp f) (m : Nat) (z : Int) (hbd : M.Bd f k m z) (mb : m < 18446744073709551616) (zb : -3000 ≤ z ∧ z ≤ 3000) : Calls Tryz.prog 149 #[.int .i64 (i : Int), u64 k] w (Xr false 1 m z 0 w) := by
 have CB := Lib.hid (fun W (T : Tz W) (F : TabF W) => vbetween_any W (Lib.hid T) (Lib.hid F) (i : Int) k kb m z 0 (.inr ⟨i, rfl, i1, i2, .inr ⟨by rw [hf.out]; exact hk, by rw [hf.out]; exact hbd, rfl⟩⟩))
 have CX := Lib.hid (fun W => xof_fin W false m z mb (M.pw_of zb))
 clear hf i1 i2 hk hbd
 have U := Up.refl w
 go_enter Tryz.func149, Tryz.ntmps149
 go_wp2_with fail
 obtain ⟨V1, hV1, R, uV1⟩ := Ob.nw w 34 #[.bool false, .slice none 0 0, .int .i64 0, .int .i64 0]
 have ltR : w.heap.size ≤ w.heap.size := U.size
 rw [hV1]
 clear hV1
 replace U := U.trans uV1
 clear uV1
 refine (CB.out _ (TT.out.up U) (TF.out.up U)).mono ?_
 rintro _ w2 ⟨rfl, h2⟩
 replace U := U.trans h2
 replace R := R.up h2
 clear h2
 go_wp2_with fail
 have gl := R.lt
 refine (CX.out _).mono ?_
 rintro _ w3 ⟨_, rfl, ⟨A1, n1, c1, ys1, rfl, N⟩, h3⟩
 replace U := U.trans h3
 replace R := R.up h3
 clear h3
 replace N : Nt w3 _ 1 (.slice A1 n1 c1) m := ⟨_, _, _, _, rfl, N⟩
 go_wp2_with (first | (refine store_ob rfl 34 (.tmp 8) (.tmp 22) rfl _ #[.bool false, .slice none 0 0, .int .i64 0, .int .i64 0] #[.bool false, .slice A1 n1 c1, .int .i64 z, .int .i64 0] rfl rfl 4 (by kernel_rfl) rfl rfl (by simp [Value.oneCell']) w3 ((Up.refl _).alloc _) (Nat.le_refl _) 34 (Ob.mk_ _ _ _) ?_; intro V4 C uV4; have ltC : w.heap.size ≤ w3.heap.size := U.size; replace U := U.trans uV4; replace R := R.up uV4; replace N := N.up uV4; clear uV4; have C0 := C.get 0; have C1 := C.get 1; have C2 := C.get 2; have C3 := C.get 3; simp only [M.z7, M.z8, M.z9] at C0 C1 C2 C3) | (refine store_ob2 rfl 34 (.tmp 4) (.tmp 24) rfl _ #[.bool false, .slice none 0 0, .int .i64 0, .int .i64 0] #[.bool false, .slice A1 n1 c1, .int .i64 z, .int .i64 0] rfl rfl 4 (by kernel_rfl) rfl rfl (by simp [Value.oneCell']) w (by first | exact U | exact U.alloc _) ltR 34 (by first | exact R | exact R.up ((Up.refl _).alloc _)) ?_; clear U; intro V9 Z9 U ho; replace N := Nt.other (by first | exact N | exact N.up ((Up.refl _).alloc _)) ho (by omega)))
 obtain ⟨Z90, Z91, Z92, Z93⟩ := Z9.g4
 refine bodyPost_ret (v := xv false (.slice A1 n1 c1) z 0) (by simp [results, Tryz.results149, go_sem, Z90, Z91, Z92, Z93]) rfl ?_
 exact ⟨_, rfl, N.lower (by omega), U⟩
theorem M.sz_ov {a : Nat} {t g : Int} : M.ov a t g (-5000) = M.sz a t g := rfl
set_option maxRecDepth 100000 in
theorem rnd_beyond (w : World) (TT : Hid (Tz w)) (TF : Hid (TabF w)) (i : Nat) (f : M.Fm) (hf : Hid (M.tb i = f)) (i1 : 1 ≤ i) (i2 : i ≤ 14) (k : Nat) (kb : k < 18446744073709551616) (hk : (k : Int) ≤ M.tp f) (lo s : Nat) (neg : Bool) (v : Value) (t g : Int) (a : Nat) (h : Nt w lo s v a) (hs : s ≤ 1000000) (bt : -5000 ≤ t ∧ t ≤ 5000) (bg : -5000 ≤ g ∧ g ≤ 5000) (r : Bool) (hr : Hid (r = true ↔ M.Byd f (M.sz a t g) k)) : Calls Tryz.prog 107 #[.int .i64 (i : Int), u64 k, xv neg v t g] w (Bz r w) := by
 have ok := M.ok i i1 i2
 have ok2 := M.ok2 i i1 i2
 have ok3 := M.ok3 i i1 i2
 rw [hf.out] at ok ok2 ok3
 obtain ⟨m, z, hbd⟩ := M.bd_ex ok ok2 hk
 obtain ⟨m0, mb, zb⟩ := M.bd_z ok ok2 ok3 hk hbd
 obtain ⟨c, hc⟩ : ∃ c, M.cmp (M.sz a t g) (M.sz m z 0) = c := ⟨_, rfl⟩
 have CB := Lib.hid (fun W (T : Tz W) (F : TabF W) => rnd_behind W (Lib.hid T) (Lib.hid F) i f hf i1 i2 k kb hk m z hbd mb zb)
 have CC := Lib.hid (fun W (U : Up w W) (lo' : Nat) (v' : Value) (n' : Nt W lo' 1 v' m) => xcmp_ov (-5000) (by omega) W lo lo' s 1 neg false v v' t g z 0 a m (h.nw.up U) n'.nw hs (by omega) ⟨by omega, by omega⟩ ⟨by omega, by omega⟩ ⟨by omega, by omega⟩ ⟨by omega, by omega⟩ c (by rw [M.sz_ov, M.sz_ov]; exact hc))
 have CE := Lib.hid (fun W (e : Bool) (he : Hid (decide (k % 2 = 0) = e)) => iseven_any W k kb e he)
 obtain ⟨ev, hev⟩ : ∃ ev, decide (k % 2 = 0) = ev := ⟨_, rfl⟩
 have hb : M.Byd f (M.sz a t g) k ↔ (c = 1 ∨ (c = 0 ∧ ev = false)) := by
  rw [M.byd_iff ⟨m, z, hbd, rfl⟩, ← hev, ← hc]
  rcases Nat.lt_trichotomy (M.sz a t g) (M.sz m z 0) with e | e | e
  ·rw [M.cmp_lt e]; simp; omega
  ·rw [M.cmp_eq e]; simp [e]
  ·rw [M.cmp_gt e]; simp; omega
 have hr2 := hr.out
 rw [hb] at hr2
 have rc : c = -1 ∨ c = 0 ∨ c = 1 := by
  have := M.cmp_rng (M.sz a t g) (M.sz m z 0)
  omega
 have HEV := Lib.hid hev
 clear hr hb hc hbd hev ok ok2 ok3 hf i1 i2 hk h bt bg zb mb m0 hs
 have U := Up.refl w
 go_enter Tryz.func107, Tryz.ntmps107
 go_wp2_with fail
 obtain ⟨V1, hV1, B, uV1⟩ := Ob.nw w 34 #[.bool neg, v, .int .i64 t, .int .i64 g]
 have ltB : w.heap.size ≤ w.heap.size := U.size
 rw [hV1]
 clear hV1
 replace U := U.trans uV1
 clear uV1
 obtain ⟨W, hW⟩ : ∃ W, V1 = W := ⟨_, rfl⟩
 rw [hW] at B U ⊢
 clear hW
 obtain ⟨B0, B1, B2, B3, Bf0, Bf1, Bf2, Bf3, Bl⟩ := B.c4
 go_region_held3 (fun w' => w'.cell? ⟨w.heap.size, 0, none⟩ = some (.bool neg) ∧ w'.cell? ⟨w.heap.size, 1, none⟩ = some (v) ∧ w'.cell? ⟨w.heap.size, 2, none⟩ = some (.int .i64 t) ∧ w'.cell? ⟨w.heap.size, 3, none⟩ = some (.int .i64 g)) (go_keep) (first
  | (go_at_call 149; (with_reducible refine (CB.out _ ?_ ?_).mono ?_); (first | with_reducible exact TT.out.up U | exact TT.out.up (U.drewN 1)); (first | with_reducible exact TF.out.up U | exact TF.out.up (U.drewN 1)); rintro _ wA ⟨vA, rfl, nA, hua⟩; have uA : Up W wA := Up.trans (by first | with_reducible assumption | exact Up.refl _ | exact (Up.refl W).drewN 1) hua; have A0 := cell_up_ uA B0; have A1 := cell_up_ uA B1; have A2 := cell_up_ uA B2; have A3 := cell_up_ uA B3)
  | (go_at_call 148; (with_reducible refine (CC.out _ (U.trans uA) _ _ nA).mono ?_); rintro _ wC ⟨rfl, huc⟩; have uC : Up W wC := uA.trans huc; have C0 := cell_up_ uC B0; have C1 := cell_up_ uC B1; have C2 := cell_up_ uC B2; have C3 := cell_up_ uC B3))
 replace U := U.trans uC
 clear CB CC A0 C0 B0 A1 C1 B1 A2 C2 B2 A3 C3 B3 nA uA uC hua huc
 rcases rc with rfl | rfl | rfl
 ·
  obtain rfl : r = false := by
   cases r
   ·rfl
   ·have := hr2.1 rfl; omega
  clear hr2
  go_wp2_with fail
  go_ret
  exact ⟨by first | rfl | simp, by first | exact U | exact U.drewN _ | exact U.drew⟩
 ·
  obtain rfl : r = !ev := by
   cases ev
   ·exact hr2.2 (.inr ⟨rfl, rfl⟩)
   ·cases r
    ·rfl
    ·have := hr2.1 rfl; simp at this
  clear hr2
  go_wp2_with fail
  refine (CE.out _ _ HEV).mono ?_
  rintro _ _ ⟨rfl, rfl⟩
  go_wp2_with fail
  go_ret
  exact ⟨by first | rfl | simp, by first | exact U | exact U.drewN _ | exact U.drew⟩
 ·
  obtain rfl : r = true := hr2.2 (.inl rfl)
  clear hr2
  go_wp2_with fail
  go_ret
  exact ⟨by first | rfl | simp, by first | exact U | exact U.drewN _ | exact U.drew⟩
set_option maxRecDepth 100000 in
theorem rnd_search (w : World) (TT : Hid (Tz w)) (TF : Hid (TabF w)) (i : Nat) (f : M.Fm) (hf : Hid (M.tb i = f)) (i1 : 1 ≤ i) (i2 : i ≤ 14) (lo s : Nat) (neg : Bool) (v : Value) (t g : Int) (a : Nat) (h : Nt w lo s v a) (hs : s ≤ 1000000) (bt : -5000 ≤ t ∧ t ≤ 5000) (bg : -5000 ≤ g ∧ g ≤ 5000) (a0 : a ≠ 0) (q : Nat) (qb : q < 18446744073709551616) (hq : (q : Int) ≤ M.tp f) (k : Nat) (hk : M.Nr f q (M.sz a t g) k false) : Calls Tryz.prog 108 #[.int .i64 (i : Int), u64 q, xv neg v t g] w (Wz k w) := by
 have ok := M.ok i i1 i2
 have ok2 := M.ok2 i i1 i2
 have ok3 := M.ok3 i i1 i2
 rw [hf.out] at ok ok2 ok3
 have X0 : M.sz a t g ≠ 0 := fun e => a0 (M.sz_zero.1 e)
 obtain ⟨l, hl⟩ : ∃ l : Nat, (if f.k = 1 then 1 else 0) = l := ⟨_, rfl⟩
 obtain ⟨kq, nb, kn, lb⟩ : k ≤ q ∧ ¬ M.Byd f (M.sz a t g) k ∧ (f.k = 1 → M.sz a t g ≠ 0 → k ≠ 0) ∧ ∀ j, j < k → M.Byd f (M.sz a t g) j ∨ (f.k = 1 ∧ M.sz a t g ≠ 0 ∧ j = 0) := by
  rcases hk with ⟨h, _⟩ | ⟨_, h⟩
  ·cases h
  ·exact h
 have lk : l ≤ k := by
  rw [← hl]
  split
  ·rename_i e
   have := kn e X0
   omega
  ·omega
 have HB : Hid (∀ j, l ≤ j → j ≤ q → (M.Byd f (M.sz a t g) j ↔ j < k)) := fun j h1 h2 => by
  constructor
  ·intro h3
   rcases Nat.lt_or_ge j k with e | e
   ·exact e
   ·exact absurd (M.byd_down ok ok2 ok3 (by omega) e h3) nb
  ·intro h3
   rcases lb j h3 with e | ⟨e1, _, e3⟩
   ·exact e
   ·rw [if_pos e1] at hl
    omega
 have CL := Lib.hid (fun W (F : TabF W) => least_any W (Lib.hid F) i f hf i1 i2 l (Lib.hid hl))
 have CB := Lib.hid (fun W (T : Tz W) (F : TabF W) (U : Up w W) (j : Nat) (hj : j ≤ q) (r : Bool) (hr : Hid (r = true ↔ M.Byd f (M.sz a t g) j)) => rnd_beyond W (Lib.hid T) (Lib.hid F) i f hf i1 i2 j (by omega) (by omega) lo s neg v t g a (h.up U) hs bt bg r hr)
 clear hf i1 i2 h hs bt bg a0 hq hk X0 hl nb kn lb ok ok2 ok3
 have U := Up.refl w
 go_enter Tryz.func108, Tryz.ntmps108
 go_wp2_with fail
 obtain ⟨V1, hV1, B, uV1⟩ := Ob.nw w 34 #[.bool neg, v, .int .i64 t, .int .i64 g]
 have ltB : w.heap.size ≤ w.heap.size := U.size
 rw [hV1]
 clear hV1
 replace U := U.trans uV1
 clear uV1
 refine (CL.out _ (TF.out.up U)).mono ?_
 rintro _ w2 ⟨rfl, h2⟩
 replace U := U.trans h2
 replace B := B.up h2
 clear h2
 go_wp2_with fail
 go_loopw [7, 8] (fun lv hv wr => ∃ l1 h1 : Nat, lv = u64 l1 ∧ hv = u64 h1 ∧ l ≤ l1 ∧ l1 ≤ k ∧ k ≤ h1 ∧ h1 ≤ q ∧ Up w wr ∧ Ob wr w.heap.size 34 #[.bool neg, v, .int .i64 t, .int .i64 g]) (fun lv hv _ => (intOf hv).toNat - (intOf lv).toNat)
 case atStart => exact ⟨l, q, rfl, rfl, Nat.le_refl _, lk, kq, Nat.le_refl _, U, B⟩
 case round =>
  obtain ⟨l1, h1, rfl, rfl, b1, b2, b3, b4, U, B⟩ := hrel
  by_cases c : l1 = h1
  ·subst c
   obtain rfl : k = l1 := by omega
   clear HB b1 b2 b3 b4
   go_wp2_with fail
   go_ret
   exact ⟨rfl, U⟩
  ·have hlt : l1 < h1 := by omega
   have d1 : decide ((l1 : Int) < (h1 : Int)) = true := decide_eq_true (by omega)
   obtain ⟨D, hD⟩ : ∃ D, h1 - l1 = D := ⟨_, rfl⟩
   obtain ⟨E, hE⟩ : ∃ E, D / 2 = E := ⟨_, rfl⟩
   obtain ⟨md, hmd⟩ : ∃ md, l1 + E = md := ⟨_, rfl⟩
   have e1 : IntKind.u64.wrap ((h1 : Int) - (l1 : Int)) = (D : Int) := wrap_u64 (by omega) (by omega)
   have e2 : (D : Int).tdiv 2 = (E : Int) := by rw [Int.tdiv_eq_ediv_of_nonneg (by omega)]; omega
   have e5 : IntKind.u64.wrap (E : Int) = (E : Int) := wrap_u64 rfl (by omega)
   have e3 : IntKind.u64.wrap ((l1 : Int) + (E : Int)) = (md : Int) := wrap_u64 (by omega) (by omega)
   have e4 : IntKind.u64.wrap ((md : Int) + 1) = ((md + 1 : Nat) : Int) := wrap_u64 (by omega) (by omega)
   have m1 : l1 ≤ md ∧ md < h1 := by omega
   have mb : md < 18446744073709551616 := by omega
   obtain ⟨r, hr⟩ : ∃ r, decide (md < k) = r := ⟨_, rfl⟩
   have CB1 := Lib.hid (fun W (T : Tz W) (F : TabF W) (U : Up w W) => CB.out W T F U md (by omega) r (by show _ ↔ _; rw [HB.out md (by omega) (by omega), ← hr, decide_eq_true_iff]))
   have b1' : l ≤ md := by omega
   clear hD hE hmd c
   obtain ⟨B0, B1, B2, B3, Bf0, Bf1, Bf2, Bf3, Bl⟩ := B.c4
   go_wp2_with fail
   clear B0 Bf0 B1 Bf1 B2 Bf2 B3 Bf3 Bl
   refine (CB1.out _ (TT.out.up U) (TF.out.up U) U).mono ?_
   rintro _ w3 ⟨rfl, h3⟩
   replace U := U.trans h3
   replace B := B.up h3
   clear h3
   cases r
   ·
    have hr2 : ¬ md < k := of_decide_eq_false hr
    clear hr CB1
    go_wp2_with fail
    go_roundw
    case rel => exact ⟨l1, md, rfl, rfl, by omega, by omega, by omega, by omega, U, B⟩
    case measure => simp [intOf]; omega
   ·
    have hr2 : md < k := of_decide_eq_true hr
    clear hr CB1
    go_wp2_with fail
    go_roundw
    case rel => exact ⟨md + 1, h1, by first | rfl | (rw [e4]), rfl, by omega, by omega, by omega, by omega, U, B⟩
    case measure => simp [intOf]; omega
namespace M
def st (f : Fm) (mode : Int) : Prop := mode = 1 ∨ f.k = 1 ∨ (f.n = 0 ∧ f.x = 0)
def tl (f : Fm) (neg : Bool) : Int := if f.n = 0 then f.x else if neg = true then f.n + half f else f.n
def Nc (ii : Int) (neg : Bool) (X k : Nat) (o : Bool) (x : Int) : Prop :=
 ((ii < 1 ∨ 15 ≤ ii) ∧ k = 0 ∧ o = false ∧ x = 3) ∨
 ∃ i : Nat, ii = i ∧ 1 ≤ i ∧ i ≤ 14 ∧ (((tb i).k = 4 ∧ neg = true ∧ k = 0 ∧ o = false ∧ x = 5) ∨ (¬ ((tb i).k = 4 ∧ neg = true) ∧ ∃ q : Nat, mst (tb i) neg = q ∧ Nr (tb i) q X k o ∧ x = 0))
def Rv (f : Fm) (mode : Int) (neg : Bool) (X : Nat) (p : Int) : Prop :=
 (f.k = 4 ∧ (neg = true ∨ X = 0) ∧ p = f.x) ∨
 (¬ (f.k = 4 ∧ (neg = true ∨ X = 0)) ∧ ∃ q k o, mst f neg = (q : Nat) ∧ Nr f q X k o ∧ ((o = true ∧ ¬ st f mode ∧ p = tl f neg) ∨ (¬ (o = true ∧ ¬ st f mode) ∧ p = pat f neg k)))
def Rc (ii mode : Int) (neg : Bool) (X : Nat) (p x : Int) : Prop :=
 ((ii < 1 ∨ 15 ≤ ii) ∧ p = 0 ∧ x = 3) ∨
 ∃ i : Nat, ii = i ∧ 1 ≤ i ∧ i ≤ 14 ∧ ((¬ (mode = 1 ∨ mode = 2) ∧ p = 0 ∧ x = 1) ∨ ((mode = 1 ∨ mode = 2) ∧ Rv (tb i) mode neg X p ∧ x = 0))
theorem mst_rng {f : Fm} (ok : Ok f) (ok2 : Ok2 f) (ok3 : Ok3 f) (neg : Bool) : ∃ q : Nat, mst f neg = q ∧ 3 ≤ q ∧ q < 18446744073709551616 ∧ (q : Int) ≤ tp f := by
 have hb := ok3.big
 have o1 := ok2.one
 have o3 := ok2.tri
 have o4 := ok2.four
 have o2 := ok.two
 have hm := ok.hm
 have ht := ok.t
 unfold mst tp
 refine ⟨(mst f neg).toNat, ?_, ?_, ?_, ?_⟩ <;> unfold mst <;> rcases ok.k with e | e | e | e <;> by_cases c : f.k = 3 ∧ neg = true <;> (try rw [if_pos c]) <;> (try rw [if_neg c]) <;> (try split) <;> omega
theorem rv_ex {f : Fm} (ok : Ok f) (ok2 : Ok2 f) (ok3 : Ok3 f) (mode : Int) (neg : Bool) (X : Nat) : ∃ p, Rv f mode neg X p := by
 classical
 by_cases c : f.k = 4 ∧ (neg = true ∨ X = 0)
 ·exact ⟨_, .inl ⟨c.1, c.2, rfl⟩⟩
 ·obtain ⟨q, hq, q3, _, ht⟩ := mst_rng ok ok2 ok3 neg
  obtain ⟨k, o, hn⟩ := nr_ex ok ok2 ok3 (q := q) (X := X) ht (fun _ => by omega)
  by_cases d : o = true ∧ ¬ st f mode
  ·exact ⟨_, .inr ⟨c, q, k, o, hq, hn, .inl ⟨d.1, d.2, rfl⟩⟩⟩
  ·exact ⟨_, .inr ⟨c, q, k, o, hq, hn, .inr ⟨d, rfl⟩⟩⟩
theorem or_inf {f : Fm} (ok : Ok f) (ok3 : Ok3 f) (h : f.n ≠ 0) : Go.bits BinOp.or IntKind.u64 f.n (half f) = f.n + half f := by
 obtain ⟨n, hn, _, hh, hm⟩ := ok_pow ok
 have hn0 := ok.n
 have hlt := (ok3.most h).2.2
 obtain ⟨p, hp⟩ := Int.eq_ofNat_of_zero_le hn0.1
 obtain ⟨a, b⟩ := pow_le64 hn
 rw [hh] at hlt ⊢
 rw [hp] at hlt ⊢
 rw [bits_or_u64_nat p (2 ^ n) (by omega) (by omega), Nat.or_comm, or_top (by omega)]
 push_cast
 omega
end M
def Nx (k : Nat) (o : Bool) (x : Int) (w : World) (e : Ending) (w' : World) : Prop := e = .returned (.tuple #[u64 k, .bool o, .int .i64 x]) ∧ Up w w'
set_option maxRecDepth 100000 in
theorem rnd_stays (w : World) (f : M.Fm) (mode : Int) (r : Bool) (hr : Hid (r = true ↔ M.st f mode)) : Calls Tryz.prog 74 #[fv f, .int .i64 mode] w (Bz r w) := by
 have e := hr.out
 unfold M.st at e
 clear hr
 rcases (show (f.n = 0 ∧ f.x = 0) ∨ (f.n = 0 ∧ f.x ≠ 0) ∨ f.n ≠ 0 by omega) with c | c | c
 ·
  have n1 : (f.n == 0) = true := by simpa using c.1
  have n2 : (f.x == 0) = true := by simpa using c.2
  rcases (show mode = 1 ∨ (mode ≠ 1 ∧ f.k = 1) ∨ (mode ≠ 1 ∧ f.k ≠ 1) by omega) with d | d | d
  ·
   have d1 : (mode == 1) = true := by simpa using d
   obtain rfl : r = true := by
    exact e.2 (by omega)
   clear e c d
   have U := Up.refl w
   go_enter Tryz.func74, Tryz.ntmps74
   go_wp2_with fail
   obtain ⟨V1, hV1, C, uV1⟩ := Bf.nw w f 74
   have ltC : w.heap.size ≤ w.heap.size := U.size
   rw [hV1]
   clear hV1
   replace U := U.trans uV1
   clear uV1
   obtain ⟨C0, C1, C2, C3, C4, C5, C6⟩ := Bf.cs C
   have C7 := Bf.lt C
   simp only [Nat.zero_add] at C0 C1 C2 C3 C4 C5 C6 C7
   go_wp2_with fail
   clear C0 C1 C2 C3 C4 C5 C6 C7
   go_ret
   exact ⟨by first | rfl | simp, U⟩
  ·
   have d1 : (mode == 1) = false := by simpa using d.1
   have d2 : (f.k == 1) = true := by simpa using d.2
   obtain rfl : r = true := by
    exact e.2 (by omega)
   clear e c d
   have U := Up.refl w
   go_enter Tryz.func74, Tryz.ntmps74
   go_wp2_with fail
   obtain ⟨V1, hV1, C, uV1⟩ := Bf.nw w f 74
   have ltC : w.heap.size ≤ w.heap.size := U.size
   rw [hV1]
   clear hV1
   replace U := U.trans uV1
   clear uV1
   obtain ⟨C0, C1, C2, C3, C4, C5, C6⟩ := Bf.cs C
   have C7 := Bf.lt C
   simp only [Nat.zero_add] at C0 C1 C2 C3 C4 C5 C6 C7
   go_wp2_with fail
   clear C0 C1 C2 C3 C4 C5 C6 C7
   go_ret
   exact ⟨by first | rfl | simp, U⟩
  ·
   have d1 : (mode == 1) = false := by simpa using d.1
   have d2 : (f.k == 1) = false := by simpa using d.2
   obtain rfl : r = true := by
    exact e.2 (by omega)
   clear e c d
   have U := Up.refl w
   go_enter Tryz.func74, Tryz.ntmps74
   go_wp2_with fail
   obtain ⟨V1, hV1, C, uV1⟩ := Bf.nw w f 74
   have ltC : w.heap.size ≤ w.heap.size := U.size
   rw [hV1]
   clear hV1
   replace U := U.trans uV1
   clear uV1
   obtain ⟨C0, C1, C2, C3, C4, C5, C6⟩ := Bf.cs C
   have C7 := Bf.lt C
   simp only [Nat.zero_add] at C0 C1 C2 C3 C4 C5 C6 C7
   go_wp2_with fail
   clear C0 C1 C2 C3 C4 C5 C6 C7
   go_ret
   exact ⟨by first | rfl | simp, U⟩
 ·
  have n1 : (f.n == 0) = true := by simpa using c.1
  have n2 : (f.x == 0) = false := by simpa using c.2
  rcases (show mode = 1 ∨ (mode ≠ 1 ∧ f.k = 1) ∨ (mode ≠ 1 ∧ f.k ≠ 1) by omega) with d | d | d
  ·
   have d1 : (mode == 1) = true := by simpa using d
   obtain rfl : r = true := by
    exact e.2 (by omega)
   clear e c d
   have U := Up.refl w
   go_enter Tryz.func74, Tryz.ntmps74
   go_wp2_with fail
   obtain ⟨V1, hV1, C, uV1⟩ := Bf.nw w f 74
   have ltC : w.heap.size ≤ w.heap.size := U.size
   rw [hV1]
   clear hV1
   replace U := U.trans uV1
   clear uV1
   obtain ⟨C0, C1, C2, C3, C4, C5, C6⟩ := Bf.cs C
   have C7 := Bf.lt C
   simp only [Nat.zero_add] at C0 C1 C2 C3 C4 C5 C6 C7
   go_wp2_with fail
   clear C0 C1 C2 C3 C4 C5 C6 C7
   go_ret
   exact ⟨by first | rfl | simp, U⟩
  ·
   have d1 : (mode == 1) = false := by simpa using d.1
   have d2 : (f.k == 1) = true := by simpa using d.2
   obtain rfl : r = true := by
    exact e.2 (by omega)
   clear e c d
   have U := Up.refl w
   go_enter Tryz.func74, Tryz.ntmps74
   go_wp2_with fail
   obtain ⟨V1, hV1, C, uV1⟩ := Bf.nw w f 74
   have ltC : w.heap.size ≤ w.heap.size := U.size
   rw [hV1]
   clear hV1
   replace U := U.trans uV1
   clear uV1
   obtain ⟨C0, C1, C2, C3, C4, C5, C6⟩ := Bf.cs C
   have C7 := Bf.lt C
   simp only [Nat.zero_add] at C0 C1 C2 C3 C4 C5 C6 C7
   go_wp2_with fail
   clear C0 C1 C2 C3 C4 C5 C6 C7
   go_ret
   exact ⟨by first | rfl | simp, U⟩
  ·
   have d1 : (mode == 1) = false := by simpa using d.1
   have d2 : (f.k == 1) = false := by simpa using d.2
   obtain rfl : r = false := by
    cases r
    ·rfl
    ·have := e.1 rfl; omega
   clear e c d
   have U := Up.refl w
   go_enter Tryz.func74, Tryz.ntmps74
   go_wp2_with fail
   obtain ⟨V1, hV1, C, uV1⟩ := Bf.nw w f 74
   have ltC : w.heap.size ≤ w.heap.size := U.size
   rw [hV1]
   clear hV1
   replace U := U.trans uV1
   clear uV1
   obtain ⟨C0, C1, C2, C3, C4, C5, C6⟩ := Bf.cs C
   have C7 := Bf.lt C
   simp only [Nat.zero_add] at C0 C1 C2 C3 C4 C5 C6 C7
   go_wp2_with fail
   clear C0 C1 C2 C3 C4 C5 C6 C7
   go_ret
   exact ⟨by first | rfl | simp, U⟩
 ·
  have n1 : (f.n == 0) = false := by simpa using c
  rcases (show mode = 1 ∨ (mode ≠ 1 ∧ f.k = 1) ∨ (mode ≠ 1 ∧ f.k ≠ 1) by omega) with d | d | d
  ·
   have d1 : (mode == 1) = true := by simpa using d
   obtain rfl : r = true := by
    exact e.2 (by omega)
   clear e c d
   have U := Up.refl w
   go_enter Tryz.func74, Tryz.ntmps74
   go_wp2_with fail
   obtain ⟨V1, hV1, C, uV1⟩ := Bf.nw w f 74
   have ltC : w.heap.size ≤ w.heap.size := U.size
   rw [hV1]
   clear hV1
   replace U := U.trans uV1
   clear uV1
   obtain ⟨C0, C1, C2, C3, C4, C5, C6⟩ := Bf.cs C
   have C7 := Bf.lt C
   simp only [Nat.zero_add] at C0 C1 C2 C3 C4 C5 C6 C7
   go_wp2_with fail
   clear C0 C1 C2 C3 C4 C5 C6 C7
   go_ret
   exact ⟨by first | rfl | simp, U⟩
  ·
   have d1 : (mode == 1) = false := by simpa using d.1
   have d2 : (f.k == 1) = true := by simpa using d.2
   obtain rfl : r = true := by
    exact e.2 (by omega)
   clear e c d
   have U := Up.refl w
   go_enter Tryz.func74, Tryz.ntmps74
   go_wp2_with fail
   obtain ⟨V1, hV1, C, uV1⟩ := Bf.nw w f 74
   have ltC : w.heap.size ≤ w.heap.size := U.size
   rw [hV1]
   clear hV1
   replace U := U.trans uV1
   clear uV1
   obtain ⟨C0, C1, C2, C3, C4, C5, C6⟩ := Bf.cs C
   have C7 := Bf.lt C
   simp only [Nat.zero_add] at C0 C1 C2 C3 C4 C5 C6 C7
   go_wp2_with fail
   clear C0 C1 C2 C3 C4 C5 C6 C7
   go_ret
   exact ⟨by first | rfl | simp, U⟩
  ·
   have d1 : (mode == 1) = false := by simpa using d.1
   have d2 : (f.k == 1) = false := by simpa using d.2
   obtain rfl : r = false := by
    cases r
    ·rfl
    ·have := e.1 rfl; omega
   clear e c d
   have U := Up.refl w
   go_enter Tryz.func74, Tryz.ntmps74
   go_wp2_with fail
   obtain ⟨V1, hV1, C, uV1⟩ := Bf.nw w f 74
   have ltC : w.heap.size ≤ w.heap.size := U.size
   rw [hV1]
   clear hV1
   replace U := U.trans uV1
   clear uV1
   obtain ⟨C0, C1, C2, C3, C4, C5, C6⟩ := Bf.cs C
   have C7 := Bf.lt C
   simp only [Nat.zero_add] at C0 C1 C2 C3 C4 C5 C6 C7
   go_wp2_with fail
   clear C0 C1 C2 C3 C4 C5 C6 C7
   go_ret
   exact ⟨by first | rfl | simp, U⟩
set_option maxRecDepth 100000 in
theorem rnd_large (w : World) (f : M.Fm) (ok : M.Ok f) (ok3 : M.Ok3 f) (neg : Bool) (p : Int) (hp : Hid (M.tl f neg = p)) : Calls Tryz.prog 75 #[fv f, .bool neg] w (Wz p w) := by
 have e := hp.out
 unfold M.tl at e
 clear hp
 by_cases c : f.n = 0
 ·
  rw [if_pos c] at e
  subst e
  have d1 : (f.n == 0) = true := by simpa using c
  clear c ok ok3
  have U := Up.refl w
  go_enter Tryz.func75, Tryz.ntmps75
  go_wp2_with fail
  obtain ⟨V1, hV1, C, uV1⟩ := Bf.nw w f 74
  have ltC : w.heap.size ≤ w.heap.size := U.size
  rw [hV1]
  clear hV1
  replace U := U.trans uV1
  clear uV1
  obtain ⟨C0, C1, C2, C3, C4, C5, C6⟩ := Bf.cs C
  have C7 := Bf.lt C
  simp only [Nat.zero_add] at C0 C1 C2 C3 C4 C5 C6 C7
  go_wp2_with fail
  clear C0 C1 C2 C3 C4 C5 C6 C7
  go_ret
  exact ⟨rfl, U⟩
 have d1 : (f.n == 0) = false := by simpa using c
 rw [if_neg c] at e
 cases neg
 ·
  rw [if_neg (by simp)] at e
  subst e
  clear c ok ok3
  have U := Up.refl w
  go_enter Tryz.func75, Tryz.ntmps75
  go_wp2_with fail
  obtain ⟨V1, hV1, C, uV1⟩ := Bf.nw w f 74
  have ltC : w.heap.size ≤ w.heap.size := U.size
  rw [hV1]
  clear hV1
  replace U := U.trans uV1
  clear uV1
  obtain ⟨C0, C1, C2, C3, C4, C5, C6⟩ := Bf.cs C
  have C7 := Bf.lt C
  simp only [Nat.zero_add] at C0 C1 C2 C3 C4 C5 C6 C7
  go_wp2_with fail
  clear C0 C1 C2 C3 C4 C5 C6 C7
  go_ret
  exact ⟨rfl, U⟩
 ·
  rw [if_pos rfl, ← M.or_inf ok ok3 c] at e
  have hk : f.k ≠ 4 := by have := (ok3.most c).1; omega
  have hs := ((M.sgn_ok ok).2 hk).1
  obtain ⟨S, hS⟩ : ∃ z, M.sgn f = z := ⟨_, rfl⟩
  rw [← hs, hS] at e
  have CS := Lib.hid (fun W => sign_any W f ok S (Lib.hid hS))
  clear c ok ok3 hk hs hS
  have U := Up.refl w
  go_enter Tryz.func75, Tryz.ntmps75
  go_wp2_with fail
  obtain ⟨V1, hV1, C, uV1⟩ := Bf.nw w f 74
  have ltC : w.heap.size ≤ w.heap.size := U.size
  rw [hV1]
  clear hV1
  replace U := U.trans uV1
  clear uV1
  obtain ⟨C0, C1, C2, C3, C4, C5, C6⟩ := Bf.cs C
  have C7 := Bf.lt C
  simp only [Nat.zero_add] at C0 C1 C2 C3 C4 C5 C6 C7
  go_upto_region 4 with fail
  go_region_held3 (fun w' => w'.cell? ⟨w.heap.size, 0, none⟩ = some (.int .i64 f.k) ∧ w'.cell? ⟨w.heap.size, 1, none⟩ = some (.int .i64 f.W) ∧ w'.cell? ⟨w.heap.size, 2, none⟩ = some (.int .i64 f.m) ∧ w'.cell? ⟨w.heap.size, 3, none⟩ = some (.int .i64 f.b) ∧ w'.cell? ⟨w.heap.size, 4, none⟩ = some (.int .u64 f.t) ∧ w'.cell? ⟨w.heap.size, 5, none⟩ = some (.int .u64 f.n) ∧ w'.cell? ⟨w.heap.size, 6, none⟩ = some (.int .u64 f.x)) (go_keep) ((go_at_call 109; (with_reducible refine (CS.out _).mono ?_); rintro _ w30 ⟨rfl, h30⟩; have uw30 : Up V1 w30 := Up.trans (by first | with_reducible assumption | exact (Up.refl V1).drewN 1) h30; have cc0 := cell_up_ uw30 C0; have cc1 := cell_up_ uw30 C1; have cc2 := cell_up_ uw30 C2; have cc3 := cell_up_ uw30 C3; have cc4 := cell_up_ uw30 C4; have cc5 := cell_up_ uw30 C5; have cc6 := cell_up_ uw30 C6))
  clear C0 cc0 C1 cc1 C2 cc2 C3 cc3 C4 cc4 C5 cc5 C6 cc6
  go_wp2_with fail
  go_ret
  exact ⟨by first | rfl | exact ret_int e, U.trans uw30⟩
set_option maxRecDepth 100000 in
theorem rnd_nearest (w : World) (TT : Hid (Tz w)) (TF : Hid (TabF w)) (ii : Int) (sg : Bool) (lo s : Nat) (neg : Bool) (v : Value) (t g : Int) (a : Nat) (h : Nt w lo s v a) (hs : s ≤ 1000000) (bt : -5000 ≤ t ∧ t ≤ 5000) (bg : -5000 ≤ g ∧ g ≤ 5000) (h128 : a < 18446744073709551616 ^ 128) (k : Nat) (o : Bool) (x : Int) (hn : M.Nc ii sg (M.sz a t g) k o x) : Calls Tryz.prog 73 #[.int .i64 ii, .bool sg, xv neg v t g] w (Nx k o x w) := by
 have CR := Lib.hid (fun W (U : Up w W) => right_nt W lo s neg v a t g (h.up U) true (decide_eq_true ⟨h128, by unfold M.pw; omega, by unfold M.pw; omega⟩))
 clear h128
 rcases hn with ⟨e, rfl, rfl, rfl⟩ | ⟨i, rfl, i1, i2, ⟨h4, hs4, rfl, rfl, rfl⟩ | ⟨h4, q, hq, hr, rfl⟩⟩
 ·
  have CM := Lib.hid (fun W (F : TabF W) => vmost_any W (Lib.hid F) ii sg 0 3 (.inl ⟨e, rfl, rfl⟩))
  clear h hs bt bg e
  have U := Up.refl w
  go_enter Tryz.func73, Tryz.ntmps73
  go_wp2_with fail
  obtain ⟨V1, hV1, B, uV1⟩ := Ob.nw w 34 #[.bool neg, v, .int .i64 t, .int .i64 g]
  have ltB : w.heap.size ≤ w.heap.size := U.size
  rw [hV1]
  clear hV1
  replace U := U.trans uV1
  clear uV1
  obtain ⟨B0, B1, B2, B3, Bf0, Bf1, Bf2, Bf3, Bl⟩ := B.c4
  go_wp2_with fail
  clear B0 Bf0 B1 Bf1 B2 Bf2 B3 Bf3 Bl
  refine (CR.out _ U).mono ?_
  rintro _ w2 ⟨rfl, h2⟩
  replace U := U.trans h2
  replace B := B.up h2
  clear h2
  obtain ⟨B0, B1, B2, B3, Bf0, Bf1, Bf2, Bf3, Bl⟩ := B.c4
  go_wp2_with fail
  clear B0 Bf0 B1 Bf1 B2 Bf2 B3 Bf3 Bl
  refine (CM.out _ (TF.out.up U)).mono ?_
  rintro _ w3 ⟨rfl, h3⟩
  replace U := U.trans h3
  replace B := B.up h3
  clear h3
  obtain ⟨B0, B1, B2, B3, Bf0, Bf1, Bf2, Bf3, Bl⟩ := B.c4
  go_wp2_with fail
  clear B0 Bf0 B1 Bf1 B2 Bf2 B3 Bf3 Bl
  go_ret3
  exact ⟨rfl, U⟩
 ·
  have CM := Lib.hid (fun W (F : TabF W) => vmost_any W (Lib.hid F) (i : Int) sg 0 5 (.inr ⟨i, rfl, i1, i2, .inl ⟨h4, hs4, rfl, rfl⟩⟩))
  clear h hs bt bg h4 hs4
  have U := Up.refl w
  go_enter Tryz.func73, Tryz.ntmps73
  go_wp2_with fail
  obtain ⟨V1, hV1, B, uV1⟩ := Ob.nw w 34 #[.bool neg, v, .int .i64 t, .int .i64 g]
  have ltB : w.heap.size ≤ w.heap.size := U.size
  rw [hV1]
  clear hV1
  replace U := U.trans uV1
  clear uV1
  obtain ⟨B0, B1, B2, B3, Bf0, Bf1, Bf2, Bf3, Bl⟩ := B.c4
  go_wp2_with fail
  clear B0 Bf0 B1 Bf1 B2 Bf2 B3 Bf3 Bl
  refine (CR.out _ U).mono ?_
  rintro _ w2 ⟨rfl, h2⟩
  replace U := U.trans h2
  replace B := B.up h2
  clear h2
  obtain ⟨B0, B1, B2, B3, Bf0, Bf1, Bf2, Bf3, Bl⟩ := B.c4
  go_wp2_with fail
  clear B0 Bf0 B1 Bf1 B2 Bf2 B3 Bf3 Bl
  refine (CM.out _ (TF.out.up U)).mono ?_
  rintro _ w3 ⟨rfl, h3⟩
  replace U := U.trans h3
  replace B := B.up h3
  clear h3
  obtain ⟨B0, B1, B2, B3, Bf0, Bf1, Bf2, Bf3, Bl⟩ := B.c4
  go_wp2_with fail
  clear B0 Bf0 B1 Bf1 B2 Bf2 B3 Bf3 Bl
  go_ret3
  exact ⟨rfl, U⟩
 ·
  have ok := M.ok i i1 i2
  have ok2 := M.ok2 i i1 i2
  have ok3 := M.ok3 i i1 i2
  have CM := Lib.hid (fun W (F : TabF W) => vmost_any W (Lib.hid F) (i : Int) sg (q : Int) 0 (.inr ⟨i, rfl, i1, i2, .inr ⟨h4, hq.symm, rfl⟩⟩))
  obtain ⟨f, hf⟩ : ∃ f, M.tb i = f := ⟨_, rfl⟩
  rw [hf] at ok ok2 ok3 hq hr h4
  obtain ⟨q', hq', q3, qb, qt⟩ := M.mst_rng ok ok2 ok3 sg
  obtain rfl : q = q' := by omega
  clear hq hq' h4
  by_cases a0 : a = 0
  ·
   subst a0
   have hz : M.sz 0 t g = 0 := M.sz_zero.2 rfl
   rw [hz] at hr
   obtain ⟨rfl, rfl⟩ := M.nr_uniq ok ok2 ok3 qt hr M.nr_zero
   have CZ := Lib.hid (fun W (U : Up w W) => isnought_any W lo s neg v t g 0 (h.up U) true (decide_eq_true rfl))
   clear h hs bt bg ok ok2 ok3 hf hz hr
   have U := Up.refl w
   go_enter Tryz.func73, Tryz.ntmps73
   go_wp2_with fail
   obtain ⟨V1, hV1, B, uV1⟩ := Ob.nw w 34 #[.bool neg, v, .int .i64 t, .int .i64 g]
   have ltB : w.heap.size ≤ w.heap.size := U.size
   rw [hV1]
   clear hV1
   replace U := U.trans uV1
   clear uV1
   obtain ⟨B0, B1, B2, B3, Bf0, Bf1, Bf2, Bf3, Bl⟩ := B.c4
   go_wp2_with fail
   clear B0 Bf0 B1 Bf1 B2 Bf2 B3 Bf3 Bl
   refine (CR.out _ U).mono ?_
   rintro _ w2 ⟨rfl, h2⟩
   replace U := U.trans h2
   replace B := B.up h2
   clear h2
   obtain ⟨B0, B1, B2, B3, Bf0, Bf1, Bf2, Bf3, Bl⟩ := B.c4
   go_wp2_with fail
   clear B0 Bf0 B1 Bf1 B2 Bf2 B3 Bf3 Bl
   refine (CM.out _ (TF.out.up U)).mono ?_
   rintro _ w3 ⟨rfl, h3⟩
   replace U := U.trans h3
   replace B := B.up h3
   clear h3
   obtain ⟨B0, B1, B2, B3, Bf0, Bf1, Bf2, Bf3, Bl⟩ := B.c4
   go_wp2_with fail
   clear B0 Bf0 B1 Bf1 B2 Bf2 B3 Bf3 Bl
   refine (CZ.out _ U).mono ?_
   rintro _ w4 ⟨rfl, h4⟩
   replace U := U.trans h4
   replace B := B.up h4
   clear h4
   obtain ⟨B0, B1, B2, B3, Bf0, Bf1, Bf2, Bf3, Bl⟩ := B.c4
   go_wp2_with fail
   clear B0 Bf0 B1 Bf1 B2 Bf2 B3 Bf3 Bl
   go_ret3
   exact ⟨rfl, U⟩
  ·
   have CZ := Lib.hid (fun W (U : Up w W) => isnought_any W lo s neg v t g a (h.up U) false (decide_eq_false a0))
   have CY := Lib.hid (fun W (T : Tz W) (F : TabF W) (U : Up w W) (r : Bool) (hr : Hid (r = true ↔ M.Byd f (M.sz a t g) q)) => rnd_beyond W (Lib.hid T) (Lib.hid F) i f (Lib.hid hf) i1 i2 q qb qt lo s neg v t g a (h.up U) hs bt bg r hr)
   rcases hr with ⟨rfl, rfl, hb⟩ | ⟨rfl, hr⟩
   ·
    have CY1 := Lib.hid (fun W T F (U : Up w W) => CY.out W T F U true ⟨fun _ => hb, fun _ => rfl⟩)
    clear h hs bt bg ok ok2 ok3 hf hb a0 CY
    have U := Up.refl w
    go_enter Tryz.func73, Tryz.ntmps73
    go_wp2_with fail
    obtain ⟨V1, hV1, B, uV1⟩ := Ob.nw w 34 #[.bool neg, v, .int .i64 t, .int .i64 g]
    have ltB : w.heap.size ≤ w.heap.size := U.size
    rw [hV1]
    clear hV1
    replace U := U.trans uV1
    clear uV1
    obtain ⟨B0, B1, B2, B3, Bf0, Bf1, Bf2, Bf3, Bl⟩ := B.c4
    go_wp2_with fail
    clear B0 Bf0 B1 Bf1 B2 Bf2 B3 Bf3 Bl
    refine (CR.out _ U).mono ?_
    rintro _ w2 ⟨rfl, h2⟩
    replace U := U.trans h2
    replace B := B.up h2
    clear h2
    obtain ⟨B0, B1, B2, B3, Bf0, Bf1, Bf2, Bf3, Bl⟩ := B.c4
    go_wp2_with fail
    clear B0 Bf0 B1 Bf1 B2 Bf2 B3 Bf3 Bl
    refine (CM.out _ (TF.out.up U)).mono ?_
    rintro _ w3 ⟨rfl, h3⟩
    replace U := U.trans h3
    replace B := B.up h3
    clear h3
    obtain ⟨B0, B1, B2, B3, Bf0, Bf1, Bf2, Bf3, Bl⟩ := B.c4
    go_wp2_with fail
    clear B0 Bf0 B1 Bf1 B2 Bf2 B3 Bf3 Bl
    refine (CZ.out _ U).mono ?_
    rintro _ w4 ⟨rfl, h4⟩
    replace U := U.trans h4
    replace B := B.up h4
    clear h4
    obtain ⟨B0, B1, B2, B3, Bf0, Bf1, Bf2, Bf3, Bl⟩ := B.c4
    go_wp2_with fail
    clear B0 Bf0 B1 Bf1 B2 Bf2 B3 Bf3 Bl
    refine (CY1.out _ (TT.out.up U) (TF.out.up U) U).mono ?_
    rintro _ w5 ⟨rfl, h5⟩
    replace U := U.trans h5
    replace B := B.up h5
    clear h5
    obtain ⟨B0, B1, B2, B3, Bf0, Bf1, Bf2, Bf3, Bl⟩ := B.c4
    go_wp2_with fail
    clear B0 Bf0 B1 Bf1 B2 Bf2 B3 Bf3 Bl
    go_ret3
    exact ⟨rfl, U⟩
   ·
    have nb : ¬ M.Byd f (M.sz a t g) q := fun hb => hr.2.1 (M.byd_down ok ok2 ok3 qt hr.1 hb)
    have CY1 := Lib.hid (fun W T F (U : Up w W) => CY.out W T F U false ⟨fun e => (by cases e), fun e => absurd e nb⟩)
    have CS := Lib.hid (fun W (T : Tz W) (F : TabF W) (U : Up w W) => rnd_search W (Lib.hid T) (Lib.hid F) i f (Lib.hid hf) i1 i2 lo s neg v t g a (h.up U) hs bt bg a0 q qb qt k (.inr ⟨rfl, hr⟩))
    clear h hs bt bg ok ok2 ok3 hf hr nb a0 CY
    have U := Up.refl w
    go_enter Tryz.func73, Tryz.ntmps73
    go_wp2_with fail
    obtain ⟨V1, hV1, B, uV1⟩ := Ob.nw w 34 #[.bool neg, v, .int .i64 t, .int .i64 g]
    have ltB : w.heap.size ≤ w.heap.size := U.size
    rw [hV1]
    clear hV1
    replace U := U.trans uV1
    clear uV1
    obtain ⟨B0, B1, B2, B3, Bf0, Bf1, Bf2, Bf3, Bl⟩ := B.c4
    go_wp2_with fail
    clear B0 Bf0 B1 Bf1 B2 Bf2 B3 Bf3 Bl
    refine (CR.out _ U).mono ?_
    rintro _ w2 ⟨rfl, h2⟩
    replace U := U.trans h2
    replace B := B.up h2
    clear h2
    obtain ⟨B0, B1, B2, B3, Bf0, Bf1, Bf2, Bf3, Bl⟩ := B.c4
    go_wp2_with fail
    clear B0 Bf0 B1 Bf1 B2 Bf2 B3 Bf3 Bl
    refine (CM.out _ (TF.out.up U)).mono ?_
    rintro _ w3 ⟨rfl, h3⟩
    replace U := U.trans h3
    replace B := B.up h3
    clear h3
    obtain ⟨B0, B1, B2, B3, Bf0, Bf1, Bf2, Bf3, Bl⟩ := B.c4
    go_wp2_with fail
    clear B0 Bf0 B1 Bf1 B2 Bf2 B3 Bf3 Bl
    refine (CZ.out _ U).mono ?_
    rintro _ w4 ⟨rfl, h4⟩
    replace U := U.trans h4
    replace B := B.up h4
    clear h4
    obtain ⟨B0, B1, B2, B3, Bf0, Bf1, Bf2, Bf3, Bl⟩ := B.c4
    go_wp2_with fail
    clear B0 Bf0 B1 Bf1 B2 Bf2 B3 Bf3 Bl
    refine (CY1.out _ (TT.out.up U) (TF.out.up U) U).mono ?_
    rintro _ w5 ⟨rfl, h5⟩
    replace U := U.trans h5
    replace B := B.up h5
    clear h5
    obtain ⟨B0, B1, B2, B3, Bf0, Bf1, Bf2, Bf3, Bl⟩ := B.c4
    go_wp2_with fail
    clear B0 Bf0 B1 Bf1 B2 Bf2 B3 Bf3 Bl
    refine (CS.out _ (TT.out.up U) (TF.out.up U) U).mono ?_
    rintro _ w6 ⟨rfl, h6⟩
    replace U := U.trans h6
    replace B := B.up h6
    clear h6
    obtain ⟨B0, B1, B2, B3, Bf0, Bf1, Bf2, Bf3, Bl⟩ := B.c4
    go_wp2_with fail
    clear B0 Bf0 B1 Bf1 B2 Bf2 B3 Bf3 Bl
    go_ret3
    exact ⟨rfl, U⟩
set_option maxRecDepth 100000 in
theorem rnd_round (w : World) (TT : Hid (Tz w)) (TF : Hid (TabF w)) (ii mode : Int) (lo s : Nat) (neg : Bool) (v : Value) (t g : Int) (a : Nat) (h : Nt w lo s v a) (hs : s ≤ 1000000) (bt : -5000 ≤ t ∧ t ≤ 5000) (bg : -5000 ≤ g ∧ g ≤ 5000) (h128 : a < 18446744073709551616 ^ 128) (p x : Int) (hr : M.Rc ii mode neg (M.sz a t g) p x) : Calls Tryz.prog 43 #[.int .i64 ii, .int .i64 mode, xv neg v t g] w (Wn p x w) := by
 rcases hr with ⟨e, rfl, rfl⟩ | ⟨i, rfl, i1, i2, ⟨hm, rfl, rfl⟩ | ⟨hm, hr, rfl⟩⟩
 ·
  have CO := Lib.hid (fun W => of_out W ii e)
  clear h hs bt bg h128 e
  have U := Up.refl w
  go_enter Tryz.func43, Tryz.ntmps43
  go_wp2_with fail
  obtain ⟨V1, hV1, B, uV1⟩ := Ob.nw w 34 #[.bool neg, v, .int .i64 t, .int .i64 g]
  have ltB : w.heap.size ≤ w.heap.size := U.size
  rw [hV1]
  clear hV1
  replace U := U.trans uV1
  clear uV1
  refine (CO.out _).mono ?_
  rintro _ w2 ⟨rfl, h2⟩
  replace U := U.trans h2
  replace B := B.up h2
  clear h2
  go_wp2_with fail
  obtain ⟨V3, hV3⟩ : ∃ V3, w2.alloc (.cells #[.int .i64 0, .int .i64 0, .int .i64 0, .int .i64 0, .int .u64 0, .int .u64 0, .int .u64 0] 74) = V3 := ⟨_, rfl⟩
  have C : Bf V3 w2.heap.size 74 ⟨0, 0, 0, 0, 0, 0, 0⟩ := by rw [← hV3]; exact Bf.mk_ w2 ⟨0, 0, 0, 0, 0, 0, 0⟩ 74
  have ltC : w.heap.size ≤ w2.heap.size := U.size
  have uV3 : Up w2 V3 := Up.al hV3
  rw [hV3]
  clear hV3
  replace U := U.trans uV3
  replace B := B.up uV3
  clear uV3
  go_wp2_with fail
  go_ret2
  exact ⟨rfl, U⟩
 ·
  obtain ⟨f, hf⟩ : ∃ f, M.tb i = f := ⟨_, rfl⟩
  have CO := Lib.hid (fun W (F : TabF W) => of_in W F i f (Lib.hid hf) i1 i2)
  have CI := Lib.hid (fun W => ismode_any W mode false (decide_eq_false hm))
  clear h hs bt bg h128 hm hf
  have U := Up.refl w
  go_enter Tryz.func43, Tryz.ntmps43
  go_wp2_with fail
  obtain ⟨V1, hV1, B, uV1⟩ := Ob.nw w 34 #[.bool neg, v, .int .i64 t, .int .i64 g]
  have ltB : w.heap.size ≤ w.heap.size := U.size
  rw [hV1]
  clear hV1
  replace U := U.trans uV1
  clear uV1
  refine (CO.out _ (TF.out.up U)).mono ?_
  rintro _ w2 ⟨rfl, h2⟩
  replace U := U.trans h2
  replace B := B.up h2
  clear h2
  go_wp2_with fail
  obtain ⟨V3, hV3, C, uV3⟩ := Bf.nw w2 f 74
  have ltC : w.heap.size ≤ w2.heap.size := U.size
  rw [hV3]
  clear hV3
  replace U := U.trans uV3
  replace B := B.up uV3
  clear uV3
  refine (CI.out _).mono ?_
  rintro _ _ ⟨rfl, rfl⟩
  go_wp2_with fail
  go_ret2
  exact ⟨rfl, U⟩
 ·
  have ok := M.ok i i1 i2
  have ok2 := M.ok2 i i1 i2
  have ok3 := M.ok3 i i1 i2
  have CI := Lib.hid (fun W => ismode_any W mode true (decide_eq_true hm))
  have CR := Lib.hid (fun W (U : Up w W) => right_nt W lo s neg v a t g (h.up U) true (decide_eq_true ⟨h128, by unfold M.pw; omega, by unfold M.pw; omega⟩))
  have CZ := Lib.hid (fun W (U : Up w W) (r : Bool) (hr : Hid (decide (a = 0) = r)) => isnought_any W lo s neg v t g a (h.up U) r hr)
  have CN := Lib.hid (fun W (T : Tz W) (F : TabF W) (U : Up w W) (k : Nat) (o : Bool) (x : Int) (hn : M.Nc (i : Int) neg (M.sz a t g) k o x) => rnd_nearest W (Lib.hid T) (Lib.hid F) (i : Int) neg lo s neg v t g a (h.up U) hs bt bg h128 k o x hn)
  have CP := Lib.hid (fun W (F : TabF W) (k : Nat) (kb : k < 18446744073709551616) (q x : Int) (h : M.Pc (i : Int) neg k q x) => vpattern_any W (Lib.hid F) (i : Int) neg k kb q x h)
  have X0 : M.sz a t g = 0 ↔ a = 0 := M.sz_zero
  obtain ⟨X, hX⟩ : ∃ X, M.sz a t g = X := ⟨_, rfl⟩
  rw [hX] at hr CN X0
  clear hX
  obtain ⟨f, hf⟩ : ∃ f, M.tb i = f := ⟨_, rfl⟩
  have CO := Lib.hid (fun W (F : TabF W) => of_in W F i f (Lib.hid hf) i1 i2)
  have HF := Lib.hid hf
  rw [hf] at ok ok2 ok3 hr
  clear h hs bt bg h128 hm hf
  rcases hr with ⟨h4, hnx, rfl⟩ | ⟨h4, q, k, o, hq, hn, hp⟩
  ·
   have d1 : (f.k == 4) = true := by simpa using h4
   cases neg
   ·
    have a0 : a = 0 := X0.1 (by simpa using hnx)
    have CZ1 := Lib.hid (fun W (U : Up w W) => CZ.out W U true (decide_eq_true a0))
    clear CZ CN CP X0 ok ok2 ok3 hnx a0 h4
    have U := Up.refl w
    go_enter Tryz.func43, Tryz.ntmps43
    go_wp2_with fail
    obtain ⟨V1, hV1, B, uV1⟩ := Ob.nw w 34 #[.bool false, v, .int .i64 t, .int .i64 g]
    have ltB : w.heap.size ≤ w.heap.size := U.size
    rw [hV1]
    clear hV1
    replace U := U.trans uV1
    clear uV1
    refine (CO.out _ (TF.out.up U)).mono ?_
    rintro _ w2 ⟨rfl, h2⟩
    replace U := U.trans h2
    replace B := B.up h2
    clear h2
    go_wp2_with fail
    obtain ⟨V3, hV3, C, uV3⟩ := Bf.nw w2 f 74
    have ltC : w.heap.size ≤ w2.heap.size := U.size
    rw [hV3]
    clear hV3
    replace U := U.trans uV3
    replace B := B.up uV3
    clear uV3
    refine (CI.out _).mono ?_
    rintro _ _ ⟨rfl, rfl⟩
    obtain ⟨B0, B1, B2, B3, Bf0, Bf1, Bf2, Bf3, Bl⟩ := B.c4
    go_wp2_with fail
    clear B0 Bf0 B1 Bf1 B2 Bf2 B3 Bf3 Bl
    refine (CR.out _ U).mono ?_
    rintro _ w4 ⟨rfl, h4⟩
    replace U := U.trans h4
    replace C := C.up h4
    replace B := B.up h4
    clear h4
    obtain ⟨C0, C1, C2, C3, C4, C5, C6⟩ := Bf.cs C
    have C7 := Bf.lt C
    simp only [Nat.zero_add] at C0 C1 C2 C3 C4 C5 C6 C7
    obtain ⟨B0, B1, B2, B3, Bf0, Bf1, Bf2, Bf3, Bl⟩ := B.c4
    go_wp2_with fail
    clear C0 C1 C2 C3 C4 C5 C6 C7
    clear B0 Bf0 B1 Bf1 B2 Bf2 B3 Bf3 Bl
    refine (CZ1.out _ U).mono ?_
    rintro _ w5 ⟨rfl, h5⟩
    replace U := U.trans h5
    replace C := C.up h5
    replace B := B.up h5
    clear h5
    obtain ⟨C0, C1, C2, C3, C4, C5, C6⟩ := Bf.cs C
    have C7 := Bf.lt C
    simp only [Nat.zero_add] at C0 C1 C2 C3 C4 C5 C6 C7
    obtain ⟨B0, B1, B2, B3, Bf0, Bf1, Bf2, Bf3, Bl⟩ := B.c4
    go_wp2_with fail
    clear C0 C1 C2 C3 C4 C5 C6 C7
    clear B0 Bf0 B1 Bf1 B2 Bf2 B3 Bf3 Bl
    go_ret2
    exact ⟨rfl, U⟩
   ·
    clear CZ CN CP X0 ok ok2 ok3 hnx h4
    have U := Up.refl w
    go_enter Tryz.func43, Tryz.ntmps43
    go_wp2_with fail
    obtain ⟨V1, hV1, B, uV1⟩ := Ob.nw w 34 #[.bool true, v, .int .i64 t, .int .i64 g]
    have ltB : w.heap.size ≤ w.heap.size := U.size
    rw [hV1]
    clear hV1
    replace U := U.trans uV1
    clear uV1
    refine (CO.out _ (TF.out.up U)).mono ?_
    rintro _ w2 ⟨rfl, h2⟩
    replace U := U.trans h2
    replace B := B.up h2
    clear h2
    go_wp2_with fail
    obtain ⟨V3, hV3, C, uV3⟩ := Bf.nw w2 f 74
    have ltC : w.heap.size ≤ w2.heap.size := U.size
    rw [hV3]
    clear hV3
    replace U := U.trans uV3
    replace B := B.up uV3
    clear uV3
    refine (CI.out _).mono ?_
    rintro _ _ ⟨rfl, rfl⟩
    obtain ⟨B0, B1, B2, B3, Bf0, Bf1, Bf2, Bf3, Bl⟩ := B.c4
    go_wp2_with fail
    clear B0 Bf0 B1 Bf1 B2 Bf2 B3 Bf3 Bl
    refine (CR.out _ U).mono ?_
    rintro _ w4 ⟨rfl, h4⟩
    replace U := U.trans h4
    replace C := C.up h4
    replace B := B.up h4
    clear h4
    obtain ⟨C0, C1, C2, C3, C4, C5, C6⟩ := Bf.cs C
    have C7 := Bf.lt C
    simp only [Nat.zero_add] at C0 C1 C2 C3 C4 C5 C6 C7
    obtain ⟨B0, B1, B2, B3, Bf0, Bf1, Bf2, Bf3, Bl⟩ := B.c4
    go_wp2_with fail
    clear C0 C1 C2 C3 C4 C5 C6 C7
    clear B0 Bf0 B1 Bf1 B2 Bf2 B3 Bf3 Bl
    go_ret2
    exact ⟨rfl, U⟩
  ·
   obtain ⟨q', hq', q3, qb, qt⟩ := M.mst_rng ok ok2 ok3 neg
   obtain rfl : q = q' := by omega
   have kq : k ≤ q := by
    rcases hn with ⟨_, rfl, _⟩ | ⟨_, h, _⟩
    ·exact Nat.le_refl _
    ·exact h
   have h4' : ¬ (f.k = 4 ∧ neg = true) := fun e => h4 ⟨e.1, .inl e.2⟩
   have CN1 := Lib.hid (fun W T F (U : Up w W) => CN.out W T F U k o 0 (.inr ⟨i, rfl, i1, i2, .inr ⟨by rw [HF.out]; exact h4', q, by rw [HF.out]; exact hq, by rw [HF.out]; exact hn, rfl⟩⟩))
   have CP1 : Hid (∀ W, TabF W → Calls Tryz.prog 39 #[.int .i64 (i : Int), .bool neg, u64 k] W (Wn (M.pat f neg k) 0 W)) := fun W F => CP.out W F k (by omega) _ 0 (.inr ⟨i, rfl, i1, i2, .inr ⟨by rw [HF.out]; exact h4', .inr ⟨by rw [HF.out, hq]; omega, by rw [HF.out], rfl⟩⟩⟩)
   have CS := Lib.hid (fun W (r : Bool) (hr : Hid (r = true ↔ M.st f mode)) => rnd_stays W f mode r hr)
   have CL := Lib.hid (fun W => rnd_large W f ok ok3 neg _ rfl)
   obtain ⟨y, hy⟩ : ∃ y, M.pat f neg k = y := ⟨_, rfl⟩
   obtain ⟨l, hl⟩ : ∃ l, M.tl f neg = l := ⟨_, rfl⟩
   rw [hy] at CP1 hp
   rw [hl] at CL hp
   have kb : k < 18446744073709551616 := by omega
   have K4 : ((f.k == 4) = false) ∨ ((f.k == 4) = true ∧ neg = false ∧ a ≠ 0) := by
    by_cases e : f.k = 4
    ·refine .inr ⟨by simpa using e, ?_, fun a0 => h4 ⟨e, .inr (X0.2 a0)⟩⟩
     cases neg
     ·rfl
     ·exact absurd ⟨e, .inl rfl⟩ h4
    ·exact .inl (by simpa using e)
   clear hy hl hn hq hq' h4 h4' q3 qt kq CN CP ok ok2 ok3 X0 HF
   rcases hp with ⟨rfl, hs, rfl⟩ | ⟨hs, rfl⟩
   ·
    have CS1 := Lib.hid (fun W => CS.out W false ⟨fun e => (by cases e), fun e => absurd e hs⟩)
    clear CS hs CP1
    rcases K4 with d1 | ⟨d1, rfl, a0⟩
    ·
     clear CZ
     have U := Up.refl w
     go_enter Tryz.func43, Tryz.ntmps43
     go_wp2_with fail
     obtain ⟨V1, hV1, B, uV1⟩ := Ob.nw w 34 #[.bool neg, v, .int .i64 t, .int .i64 g]
     have ltB : w.heap.size ≤ w.heap.size := U.size
     rw [hV1]
     clear hV1
     replace U := U.trans uV1
     clear uV1
     refine (CO.out _ (TF.out.up U)).mono ?_
     rintro _ w2 ⟨rfl, h2⟩
     replace U := U.trans h2
     replace B := B.up h2
     clear h2
     go_wp2_with fail
     obtain ⟨V3, hV3, C, uV3⟩ := Bf.nw w2 f 74
     have ltC : w.heap.size ≤ w2.heap.size := U.size
     rw [hV3]
     clear hV3
     replace U := U.trans uV3
     replace B := B.up uV3
     clear uV3
     refine (CI.out _).mono ?_
     rintro _ _ ⟨rfl, rfl⟩
     obtain ⟨B0, B1, B2, B3, Bf0, Bf1, Bf2, Bf3, Bl⟩ := B.c4
     go_wp2_with fail
     clear B0 Bf0 B1 Bf1 B2 Bf2 B3 Bf3 Bl
     refine (CR.out _ U).mono ?_
     rintro _ w4 ⟨rfl, h4⟩
     replace U := U.trans h4
     replace C := C.up h4
     replace B := B.up h4
     clear h4
     obtain ⟨C0, C1, C2, C3, C4, C5, C6⟩ := Bf.cs C
     have C7 := Bf.lt C
     simp only [Nat.zero_add] at C0 C1 C2 C3 C4 C5 C6 C7
     obtain ⟨B0, B1, B2, B3, Bf0, Bf1, Bf2, Bf3, Bl⟩ := B.c4
     go_wp2_with fail
     clear C0 C1 C2 C3 C4 C5 C6 C7
     clear B0 Bf0 B1 Bf1 B2 Bf2 B3 Bf3 Bl
     refine (CN1.out _ (TT.out.up U) (TF.out.up U) U).mono ?_
     rintro _ w5 ⟨rfl, h5⟩
     replace U := U.trans h5
     replace C := C.up h5
     replace B := B.up h5
     clear h5
     obtain ⟨C0, C1, C2, C3, C4, C5, C6⟩ := Bf.cs C
     have C7 := Bf.lt C
     simp only [Nat.zero_add] at C0 C1 C2 C3 C4 C5 C6 C7
     obtain ⟨B0, B1, B2, B3, Bf0, Bf1, Bf2, Bf3, Bl⟩ := B.c4
     go_wp2_with fail
     clear C0 C1 C2 C3 C4 C5 C6 C7
     clear B0 Bf0 B1 Bf1 B2 Bf2 B3 Bf3 Bl
     refine (CS1.out _).mono ?_
     rintro _ w6 ⟨rfl, h6⟩
     replace U := U.trans h6
     replace C := C.up h6
     replace B := B.up h6
     clear h6
     obtain ⟨C0, C1, C2, C3, C4, C5, C6⟩ := Bf.cs C
     have C7 := Bf.lt C
     simp only [Nat.zero_add] at C0 C1 C2 C3 C4 C5 C6 C7
     obtain ⟨B0, B1, B2, B3, Bf0, Bf1, Bf2, Bf3, Bl⟩ := B.c4
     go_wp2_with fail
     clear C0 C1 C2 C3 C4 C5 C6 C7
     clear B0 Bf0 B1 Bf1 B2 Bf2 B3 Bf3 Bl
     refine (CL.out _).mono ?_
     rintro _ w7 ⟨rfl, h7⟩
     replace U := U.trans h7
     replace C := C.up h7
     replace B := B.up h7
     clear h7
     obtain ⟨C0, C1, C2, C3, C4, C5, C6⟩ := Bf.cs C
     have C7 := Bf.lt C
     simp only [Nat.zero_add] at C0 C1 C2 C3 C4 C5 C6 C7
     obtain ⟨B0, B1, B2, B3, Bf0, Bf1, Bf2, Bf3, Bl⟩ := B.c4
     go_wp2_with fail
     clear C0 C1 C2 C3 C4 C5 C6 C7
     clear B0 Bf0 B1 Bf1 B2 Bf2 B3 Bf3 Bl
     go_ret2
     exact ⟨rfl, U⟩
    ·
     have CZ1 := Lib.hid (fun W (U : Up w W) => CZ.out W U false (decide_eq_false a0))
     clear CZ a0
     have U := Up.refl w
     go_enter Tryz.func43, Tryz.ntmps43
     go_wp2_with fail
     obtain ⟨V1, hV1, B, uV1⟩ := Ob.nw w 34 #[.bool false, v, .int .i64 t, .int .i64 g]
     have ltB : w.heap.size ≤ w.heap.size := U.size
     rw [hV1]
     clear hV1
     replace U := U.trans uV1
     clear uV1
     refine (CO.out _ (TF.out.up U)).mono ?_
     rintro _ w2 ⟨rfl, h2⟩
     replace U := U.trans h2
     replace B := B.up h2
     clear h2
     go_wp2_with fail
     obtain ⟨V3, hV3, C, uV3⟩ := Bf.nw w2 f 74
     have ltC : w.heap.size ≤ w2.heap.size := U.size
     rw [hV3]
     clear hV3
     replace U := U.trans uV3
     replace B := B.up uV3
     clear uV3
     refine (CI.out _).mono ?_
     rintro _ _ ⟨rfl, rfl⟩
     obtain ⟨B0, B1, B2, B3, Bf0, Bf1, Bf2, Bf3, Bl⟩ := B.c4
     go_wp2_with fail
     clear B0 Bf0 B1 Bf1 B2 Bf2 B3 Bf3 Bl
     refine (CR.out _ U).mono ?_
     rintro _ w4 ⟨rfl, h4⟩
     replace U := U.trans h4
     replace C := C.up h4
     replace B := B.up h4
     clear h4
     obtain ⟨C0, C1, C2, C3, C4, C5, C6⟩ := Bf.cs C
     have C7 := Bf.lt C
     simp only [Nat.zero_add] at C0 C1 C2 C3 C4 C5 C6 C7
     obtain ⟨B0, B1, B2, B3, Bf0, Bf1, Bf2, Bf3, Bl⟩ := B.c4
     go_wp2_with fail
     clear C0 C1 C2 C3 C4 C5 C6 C7
     clear B0 Bf0 B1 Bf1 B2 Bf2 B3 Bf3 Bl
     refine (CZ1.out _ U).mono ?_
     rintro _ w5 ⟨rfl, h5⟩
     replace U := U.trans h5
     replace C := C.up h5
     replace B := B.up h5
     clear h5
     obtain ⟨C0, C1, C2, C3, C4, C5, C6⟩ := Bf.cs C
     have C7 := Bf.lt C
     simp only [Nat.zero_add] at C0 C1 C2 C3 C4 C5 C6 C7
     obtain ⟨B0, B1, B2, B3, Bf0, Bf1, Bf2, Bf3, Bl⟩ := B.c4
     go_wp2_with fail
     clear C0 C1 C2 C3 C4 C5 C6 C7
     clear B0 Bf0 B1 Bf1 B2 Bf2 B3 Bf3 Bl
     refine (CN1.out _ (TT.out.up U) (TF.out.up U) U).mono ?_
     rintro _ w6 ⟨rfl, h6⟩
     replace U := U.trans h6
     replace C := C.up h6
     replace B := B.up h6
     clear h6
     obtain ⟨C0, C1, C2, C3, C4, C5, C6⟩ := Bf.cs C
     have C7 := Bf.lt C
     simp only [Nat.zero_add] at C0 C1 C2 C3 C4 C5 C6 C7
     obtain ⟨B0, B1, B2, B3, Bf0, Bf1, Bf2, Bf3, Bl⟩ := B.c4
     go_wp2_with fail
     clear C0 C1 C2 C3 C4 C5 C6 C7
     clear B0 Bf0 B1 Bf1 B2 Bf2 B3 Bf3 Bl
     refine (CS1.out _).mono ?_
     rintro _ w7 ⟨rfl, h7⟩
     replace U := U.trans h7
     replace C := C.up h7
     replace B := B.up h7
     clear h7
     obtain ⟨C0, C1, C2, C3, C4, C5, C6⟩ := Bf.cs C
     have C7 := Bf.lt C
     simp only [Nat.zero_add] at C0 C1 C2 C3 C4 C5 C6 C7
     obtain ⟨B0, B1, B2, B3, Bf0, Bf1, Bf2, Bf3, Bl⟩ := B.c4
     go_wp2_with fail
     clear C0 C1 C2 C3 C4 C5 C6 C7
     clear B0 Bf0 B1 Bf1 B2 Bf2 B3 Bf3 Bl
     refine (CL.out _).mono ?_
     rintro _ w8 ⟨rfl, h8⟩
     replace U := U.trans h8
     replace C := C.up h8
     replace B := B.up h8
     clear h8
     obtain ⟨C0, C1, C2, C3, C4, C5, C6⟩ := Bf.cs C
     have C7 := Bf.lt C
     simp only [Nat.zero_add] at C0 C1 C2 C3 C4 C5 C6 C7
     obtain ⟨B0, B1, B2, B3, Bf0, Bf1, Bf2, Bf3, Bl⟩ := B.c4
     go_wp2_with fail
     clear C0 C1 C2 C3 C4 C5 C6 C7
     clear B0 Bf0 B1 Bf1 B2 Bf2 B3 Bf3 Bl
     go_ret2
     exact ⟨rfl, U⟩
   ·
    clear CL
    cases o
    ·
     clear CS hs
     rcases K4 with d1 | ⟨d1, rfl, a0⟩
     ·
      clear CZ
      have U := Up.refl w
      go_enter Tryz.func43, Tryz.ntmps43
      go_wp2_with fail
      obtain ⟨V1, hV1, B, uV1⟩ := Ob.nw w 34 #[.bool neg, v, .int .i64 t, .int .i64 g]
      have ltB : w.heap.size ≤ w.heap.size := U.size
      rw [hV1]
      clear hV1
      replace U := U.trans uV1
      clear uV1
      refine (CO.out _ (TF.out.up U)).mono ?_
      rintro _ w2 ⟨rfl, h2⟩
      replace U := U.trans h2
      replace B := B.up h2
      clear h2
      go_wp2_with fail
      obtain ⟨V3, hV3, C, uV3⟩ := Bf.nw w2 f 74
      have ltC : w.heap.size ≤ w2.heap.size := U.size
      rw [hV3]
      clear hV3
      replace U := U.trans uV3
      replace B := B.up uV3
      clear uV3
      refine (CI.out _).mono ?_
      rintro _ _ ⟨rfl, rfl⟩
      obtain ⟨B0, B1, B2, B3, Bf0, Bf1, Bf2, Bf3, Bl⟩ := B.c4
      go_wp2_with fail
      clear B0 Bf0 B1 Bf1 B2 Bf2 B3 Bf3 Bl
      refine (CR.out _ U).mono ?_
      rintro _ w4 ⟨rfl, h4⟩
      replace U := U.trans h4
      replace C := C.up h4
      replace B := B.up h4
      clear h4
      obtain ⟨C0, C1, C2, C3, C4, C5, C6⟩ := Bf.cs C
      have C7 := Bf.lt C
      simp only [Nat.zero_add] at C0 C1 C2 C3 C4 C5 C6 C7
      obtain ⟨B0, B1, B2, B3, Bf0, Bf1, Bf2, Bf3, Bl⟩ := B.c4
      go_wp2_with fail
      clear C0 C1 C2 C3 C4 C5 C6 C7
      clear B0 Bf0 B1 Bf1 B2 Bf2 B3 Bf3 Bl
      refine (CN1.out _ (TT.out.up U) (TF.out.up U) U).mono ?_
      rintro _ w5 ⟨rfl, h5⟩
      replace U := U.trans h5
      replace C := C.up h5
      replace B := B.up h5
      clear h5
      obtain ⟨C0, C1, C2, C3, C4, C5, C6⟩ := Bf.cs C
      have C7 := Bf.lt C
      simp only [Nat.zero_add] at C0 C1 C2 C3 C4 C5 C6 C7
      obtain ⟨B0, B1, B2, B3, Bf0, Bf1, Bf2, Bf3, Bl⟩ := B.c4
      go_wp2_with fail
      clear C0 C1 C2 C3 C4 C5 C6 C7
      clear B0 Bf0 B1 Bf1 B2 Bf2 B3 Bf3 Bl
      refine (CP1.out _ (TF.out.up U)).mono ?_
      rintro _ w6 ⟨rfl, h6⟩
      replace U := U.trans h6
      replace C := C.up h6
      replace B := B.up h6
      clear h6
      obtain ⟨C0, C1, C2, C3, C4, C5, C6⟩ := Bf.cs C
      have C7 := Bf.lt C
      simp only [Nat.zero_add] at C0 C1 C2 C3 C4 C5 C6 C7
      obtain ⟨B0, B1, B2, B3, Bf0, Bf1, Bf2, Bf3, Bl⟩ := B.c4
      go_wp2_with fail
      clear C0 C1 C2 C3 C4 C5 C6 C7
      clear B0 Bf0 B1 Bf1 B2 Bf2 B3 Bf3 Bl
      go_ret2
      exact ⟨rfl, U⟩
     ·
      have CZ1 := Lib.hid (fun W (U : Up w W) => CZ.out W U false (decide_eq_false a0))
      clear CZ a0
      have U := Up.refl w
      go_enter Tryz.func43, Tryz.ntmps43
      go_wp2_with fail
      obtain ⟨V1, hV1, B, uV1⟩ := Ob.nw w 34 #[.bool false, v, .int .i64 t, .int .i64 g]
      have ltB : w.heap.size ≤ w.heap.size := U.size
      rw [hV1]
      clear hV1
      replace U := U.trans uV1
      clear uV1
      refine (CO.out _ (TF.out.up U)).mono ?_
      rintro _ w2 ⟨rfl, h2⟩
      replace U := U.trans h2
      replace B := B.up h2
      clear h2
      go_wp2_with fail
      obtain ⟨V3, hV3, C, uV3⟩ := Bf.nw w2 f 74
      have ltC : w.heap.size ≤ w2.heap.size := U.size
      rw [hV3]
      clear hV3
      replace U := U.trans uV3
      replace B := B.up uV3
      clear uV3
      refine (CI.out _).mono ?_
      rintro _ _ ⟨rfl, rfl⟩
      obtain ⟨B0, B1, B2, B3, Bf0, Bf1, Bf2, Bf3, Bl⟩ := B.c4
      go_wp2_with fail
      clear B0 Bf0 B1 Bf1 B2 Bf2 B3 Bf3 Bl
      refine (CR.out _ U).mono ?_
      rintro _ w4 ⟨rfl, h4⟩
      replace U := U.trans h4
      replace C := C.up h4
      replace B := B.up h4
      clear h4
      obtain ⟨C0, C1, C2, C3, C4, C5, C6⟩ := Bf.cs C
      have C7 := Bf.lt C
      simp only [Nat.zero_add] at C0 C1 C2 C3 C4 C5 C6 C7
      obtain ⟨B0, B1, B2, B3, Bf0, Bf1, Bf2, Bf3, Bl⟩ := B.c4
      go_wp2_with fail
      clear C0 C1 C2 C3 C4 C5 C6 C7
      clear B0 Bf0 B1 Bf1 B2 Bf2 B3 Bf3 Bl
      refine (CZ1.out _ U).mono ?_
      rintro _ w5 ⟨rfl, h5⟩
      replace U := U.trans h5
      replace C := C.up h5
      replace B := B.up h5
      clear h5
      obtain ⟨C0, C1, C2, C3, C4, C5, C6⟩ := Bf.cs C
      have C7 := Bf.lt C
      simp only [Nat.zero_add] at C0 C1 C2 C3 C4 C5 C6 C7
      obtain ⟨B0, B1, B2, B3, Bf0, Bf1, Bf2, Bf3, Bl⟩ := B.c4
      go_wp2_with fail
      clear C0 C1 C2 C3 C4 C5 C6 C7
      clear B0 Bf0 B1 Bf1 B2 Bf2 B3 Bf3 Bl
      refine (CN1.out _ (TT.out.up U) (TF.out.up U) U).mono ?_
      rintro _ w6 ⟨rfl, h6⟩
      replace U := U.trans h6
      replace C := C.up h6
      replace B := B.up h6
      clear h6
      obtain ⟨C0, C1, C2, C3, C4, C5, C6⟩ := Bf.cs C
      have C7 := Bf.lt C
      simp only [Nat.zero_add] at C0 C1 C2 C3 C4 C5 C6 C7
      obtain ⟨B0, B1, B2, B3, Bf0, Bf1, Bf2, Bf3, Bl⟩ := B.c4
      go_wp2_with fail
      clear C0 C1 C2 C3 C4 C5 C6 C7
      clear B0 Bf0 B1 Bf1 B2 Bf2 B3 Bf3 Bl
      refine (CP1.out _ (TF.out.up U)).mono ?_
      rintro _ w7 ⟨rfl, h7⟩
      replace U := U.trans h7
      replace C := C.up h7
      replace B := B.up h7
      clear h7
      obtain ⟨C0, C1, C2, C3, C4, C5, C6⟩ := Bf.cs C
      have C7 := Bf.lt C
      simp only [Nat.zero_add] at C0 C1 C2 C3 C4 C5 C6 C7
      obtain ⟨B0, B1, B2, B3, Bf0, Bf1, Bf2, Bf3, Bl⟩ := B.c4
      go_wp2_with fail
      clear C0 C1 C2 C3 C4 C5 C6 C7
      clear B0 Bf0 B1 Bf1 B2 Bf2 B3 Bf3 Bl
      go_ret2
      exact ⟨rfl, U⟩
    ·
     have hs2 : M.st f mode := Classical.byContradiction (fun e => hs ⟨rfl, e⟩)
     have CS1 := Lib.hid (fun W => CS.out W true ⟨fun _ => hs2, fun _ => rfl⟩)
     clear CS hs hs2
     rcases K4 with d1 | ⟨d1, rfl, a0⟩
     ·
      clear CZ
      have U := Up.refl w
      go_enter Tryz.func43, Tryz.ntmps43
      go_wp2_with fail
      obtain ⟨V1, hV1, B, uV1⟩ := Ob.nw w 34 #[.bool neg, v, .int .i64 t, .int .i64 g]
      have ltB : w.heap.size ≤ w.heap.size := U.size
      rw [hV1]
      clear hV1
      replace U := U.trans uV1
      clear uV1
      refine (CO.out _ (TF.out.up U)).mono ?_
      rintro _ w2 ⟨rfl, h2⟩
      replace U := U.trans h2
      replace B := B.up h2
      clear h2
      go_wp2_with fail
      obtain ⟨V3, hV3, C, uV3⟩ := Bf.nw w2 f 74
      have ltC : w.heap.size ≤ w2.heap.size := U.size
      rw [hV3]
      clear hV3
      replace U := U.trans uV3
      replace B := B.up uV3
      clear uV3
      refine (CI.out _).mono ?_
      rintro _ _ ⟨rfl, rfl⟩
      obtain ⟨B0, B1, B2, B3, Bf0, Bf1, Bf2, Bf3, Bl⟩ := B.c4
      go_wp2_with fail
      clear B0 Bf0 B1 Bf1 B2 Bf2 B3 Bf3 Bl
      refine (CR.out _ U).mono ?_
      rintro _ w4 ⟨rfl, h4⟩
      replace U := U.trans h4
      replace C := C.up h4
      replace B := B.up h4
      clear h4
      obtain ⟨C0, C1, C2, C3, C4, C5, C6⟩ := Bf.cs C
      have C7 := Bf.lt C
      simp only [Nat.zero_add] at C0 C1 C2 C3 C4 C5 C6 C7
      obtain ⟨B0, B1, B2, B3, Bf0, Bf1, Bf2, Bf3, Bl⟩ := B.c4
      go_wp2_with fail
      clear C0 C1 C2 C3 C4 C5 C6 C7
      clear B0 Bf0 B1 Bf1 B2 Bf2 B3 Bf3 Bl
      refine (CN1.out _ (TT.out.up U) (TF.out.up U) U).mono ?_
      rintro _ w5 ⟨rfl, h5⟩
      replace U := U.trans h5
      replace C := C.up h5
      replace B := B.up h5
      clear h5
      obtain ⟨C0, C1, C2, C3, C4, C5, C6⟩ := Bf.cs C
      have C7 := Bf.lt C
      simp only [Nat.zero_add] at C0 C1 C2 C3 C4 C5 C6 C7
      obtain ⟨B0, B1, B2, B3, Bf0, Bf1, Bf2, Bf3, Bl⟩ := B.c4
      go_wp2_with fail
      clear C0 C1 C2 C3 C4 C5 C6 C7
      clear B0 Bf0 B1 Bf1 B2 Bf2 B3 Bf3 Bl
      refine (CS1.out _).mono ?_
      rintro _ w6 ⟨rfl, h6⟩
      replace U := U.trans h6
      replace C := C.up h6
      replace B := B.up h6
      clear h6
      obtain ⟨C0, C1, C2, C3, C4, C5, C6⟩ := Bf.cs C
      have C7 := Bf.lt C
      simp only [Nat.zero_add] at C0 C1 C2 C3 C4 C5 C6 C7
      obtain ⟨B0, B1, B2, B3, Bf0, Bf1, Bf2, Bf3, Bl⟩ := B.c4
      go_wp2_with fail
      clear C0 C1 C2 C3 C4 C5 C6 C7
      clear B0 Bf0 B1 Bf1 B2 Bf2 B3 Bf3 Bl
      refine (CP1.out _ (TF.out.up U)).mono ?_
      rintro _ w7 ⟨rfl, h7⟩
      replace U := U.trans h7
      replace C := C.up h7
      replace B := B.up h7
      clear h7
      obtain ⟨C0, C1, C2, C3, C4, C5, C6⟩ := Bf.cs C
      have C7 := Bf.lt C
      simp only [Nat.zero_add] at C0 C1 C2 C3 C4 C5 C6 C7
      obtain ⟨B0, B1, B2, B3, Bf0, Bf1, Bf2, Bf3, Bl⟩ := B.c4
      go_wp2_with fail
      clear C0 C1 C2 C3 C4 C5 C6 C7
      clear B0 Bf0 B1 Bf1 B2 Bf2 B3 Bf3 Bl
      go_ret2
      exact ⟨rfl, U⟩
     ·
      have CZ1 := Lib.hid (fun W (U : Up w W) => CZ.out W U false (decide_eq_false a0))
      clear CZ a0
      have U := Up.refl w
      go_enter Tryz.func43, Tryz.ntmps43
      go_wp2_with fail
      obtain ⟨V1, hV1, B, uV1⟩ := Ob.nw w 34 #[.bool false, v, .int .i64 t, .int .i64 g]
      have ltB : w.heap.size ≤ w.heap.size := U.size
      rw [hV1]
      clear hV1
      replace U := U.trans uV1
      clear uV1
      refine (CO.out _ (TF.out.up U)).mono ?_
      rintro _ w2 ⟨rfl, h2⟩
      replace U := U.trans h2
      replace B := B.up h2
      clear h2
      go_wp2_with fail
      obtain ⟨V3, hV3, C, uV3⟩ := Bf.nw w2 f 74
      have ltC : w.heap.size ≤ w2.heap.size := U.size
      rw [hV3]
      clear hV3
      replace U := U.trans uV3
      replace B := B.up uV3
      clear uV3
      refine (CI.out _).mono ?_
      rintro _ _ ⟨rfl, rfl⟩
      obtain ⟨B0, B1, B2, B3, Bf0, Bf1, Bf2, Bf3, Bl⟩ := B.c4
      go_wp2_with fail
      clear B0 Bf0 B1 Bf1 B2 Bf2 B3 Bf3 Bl
      refine (CR.out _ U).mono ?_
      rintro _ w4 ⟨rfl, h4⟩
      replace U := U.trans h4
      replace C := C.up h4
      replace B := B.up h4
      clear h4
      obtain ⟨C0, C1, C2, C3, C4, C5, C6⟩ := Bf.cs C
      have C7 := Bf.lt C
      simp only [Nat.zero_add] at C0 C1 C2 C3 C4 C5 C6 C7
      obtain ⟨B0, B1, B2, B3, Bf0, Bf1, Bf2, Bf3, Bl⟩ := B.c4
      go_wp2_with fail
      clear C0 C1 C2 C3 C4 C5 C6 C7
      clear B0 Bf0 B1 Bf1 B2 Bf2 B3 Bf3 Bl
      refine (CZ1.out _ U).mono ?_
      rintro _ w5 ⟨rfl, h5⟩
      replace U := U.trans h5
      replace C := C.up h5
      replace B := B.up h5
      clear h5
      obtain ⟨C0, C1, C2, C3, C4, C5, C6⟩ := Bf.cs C
      have C7 := Bf.lt C
      simp only [Nat.zero_add] at C0 C1 C2 C3 C4 C5 C6 C7
      obtain ⟨B0, B1, B2, B3, Bf0, Bf1, Bf2, Bf3, Bl⟩ := B.c4
      go_wp2_with fail
      clear C0 C1 C2 C3 C4 C5 C6 C7
      clear B0 Bf0 B1 Bf1 B2 Bf2 B3 Bf3 Bl
      refine (CN1.out _ (TT.out.up U) (TF.out.up U) U).mono ?_
      rintro _ w6 ⟨rfl, h6⟩
      replace U := U.trans h6
      replace C := C.up h6
      replace B := B.up h6
      clear h6
      obtain ⟨C0, C1, C2, C3, C4, C5, C6⟩ := Bf.cs C
      have C7 := Bf.lt C
      simp only [Nat.zero_add] at C0 C1 C2 C3 C4 C5 C6 C7
      obtain ⟨B0, B1, B2, B3, Bf0, Bf1, Bf2, Bf3, Bl⟩ := B.c4
      go_wp2_with fail
      clear C0 C1 C2 C3 C4 C5 C6 C7
      clear B0 Bf0 B1 Bf1 B2 Bf2 B3 Bf3 Bl
      refine (CS1.out _).mono ?_
      rintro _ w7 ⟨rfl, h7⟩
      replace U := U.trans h7
      replace C := C.up h7
      replace B := B.up h7
      clear h7
      obtain ⟨C0, C1, C2, C3, C4, C5, C6⟩ := Bf.cs C
      have C7 := Bf.lt C
      simp only [Nat.zero_add] at C0 C1 C2 C3 C4 C5 C6 C7
      obtain ⟨B0, B1, B2, B3, Bf0, Bf1, Bf2, Bf3, Bl⟩ := B.c4
      go_wp2_with fail
      clear C0 C1 C2 C3 C4 C5 C6 C7
      clear B0 Bf0 B1 Bf1 B2 Bf2 B3 Bf3 Bl
      refine (CP1.out _ (TF.out.up U)).mono ?_
      rintro _ w8 ⟨rfl, h8⟩
      replace U := U.trans h8
      replace C := C.up h8
      replace B := B.up h8
      clear h8
      obtain ⟨C0, C1, C2, C3, C4, C5, C6⟩ := Bf.cs C
      have C7 := Bf.lt C
      simp only [Nat.zero_add] at C0 C1 C2 C3 C4 C5 C6 C7
      obtain ⟨B0, B1, B2, B3, Bf0, Bf1, Bf2, Bf3, Bl⟩ := B.c4
      go_wp2_with fail
      clear C0 C1 C2 C3 C4 C5 C6 C7
      clear B0 Bf0 B1 Bf1 B2 Bf2 B3 Bf3 Bl
      go_ret2
      exact ⟨rfl, U⟩
namespace M
def lst (f : Fm) : Nat := if f.k = 1 then 1 else 0
def Lm (f : Fm) (g : Bool) (k m1 : Nat) (z1 : Int) (m2 : Nat) (z2 : Int) : Prop :=
 ((k ≤ lst f ∧ m1 = 0 ∧ z1 = 0) ∨ (lst f < k ∧ Bd f (k - 1) m1 z1)) ∧
 (((mst f g = k ∧ st f 2) ∧ m2 = 0 ∧ z2 = 0) ∨ (¬ (mst f g = k ∧ st f 2) ∧ Bd f k m2 z2))
end M
end Go.Proofs.YtijpffgocookaaaGreatDoor
