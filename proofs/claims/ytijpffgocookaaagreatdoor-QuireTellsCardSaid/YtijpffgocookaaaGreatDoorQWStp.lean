import Derived.Test.YtijpffgocookaaaGreatDoorQWObm
import Derived.Test.YtijpffgocookaaaGreatDoorQWYb
import Derived.OwnWalk
import Derived.LoopTactic
import Derived.BigQuiet
import Derived.Test.YtijpffgocookaaaGreatDoorQWYe
set_option maxHeartbeats 32000000
set_option linter.unusedVariables false
set_option linter.unusedSimpArgs false
namespace Go.Proofs.YtijpffgocookaaaGreatDoor
open Go.RowKit Go.Shelf
set_option maxRecDepth 100000 in
theorem bits15_any (w : World) (lo lo' s s' : Nat) (A A' : Option Addr) (n c n' c' : Nat) (a a' : Nat) (N : Nt w lo s (.slice A n c) a) (N' : Nt w lo' s' (.slice A' n' c') a') (hs : s ≤ 1000000) (hs' : s' ≤ 1000000) (r : Bool) (hr : decide (a = a') = r) :
  Calls Tryz.prog 29 #[.slice A n c, .slice A' n' c'] w (Bz r w) := by
 obtain ⟨A9, n9, c9, xs, e9, h1, h2, h3, h4⟩ := N
 cases e9
 obtain ⟨A9, n9, c9, ys, e9, g1, g2, g3, g4⟩ := N'
 cases e9
 have nb : n ≤ 1000000 := by omega
 have nb' : n' ≤ 1000000 := by omega
 have K1 := Lib.hid h1.at_
 have K2 := Lib.hid g1.at_
 have hx := h1.num
 have hy := g1.num
 have HR : Hid ((xs = ys → r = true) ∧ (¬ xs = ys → r = false)) := by
  show _ ∧ _
  rw [← hr, ← h2, ← g2]
  exact ⟨fun e => by rw [e]; simp, fun e => decide_eq_false (fun k => e (M.val_inj h1.wds g1.wds h4 g4 k))⟩
 clear hr h1 g1 h2 g2 h3 g3 h4 g4 hs hs'
 have U := Up.refl w
 by_cases hn : n = n'
 ·subst hn
  have HX := Lib.hid hx
  have HY := Lib.hid hy
  clear hx hy
  have d2 : ((n : Int) != (n : Int)) = false := by simp
  go_enter Tryz.func29, Tryz.ntmps29
  go_wp2_with fail
  go_loopw [5] (fun iv wr => ∃ j : Nat, iv = .int .i64 (j : Int) ∧ j ≤ n ∧ Up w wr ∧ Hid (∀ k, k < j → xs.getD k 0 = ys.getD k 0)) (fun iv _ => n - (intOf iv).toNat)
  case atStart => exact ⟨0, rfl, Nat.zero_le _, U, fun k hk => by omega⟩
  case round =>
   clear U
   obtain ⟨j, rfl, hj, U, HE⟩ := hrel
   by_cases hjn : j = n
   ·obtain rfl : r = true := HR.out.1 (List.ext_getElem? fun k => by
     by_cases hk : k < n
     ·have := HE.out k (by omega)
      rw [List.getD_eq_getElem?_getD, List.getD_eq_getElem?_getD, List.getElem?_eq_getElem (by have := HX.out; omega), List.getElem?_eq_getElem (by have := HY.out; omega)] at this
      rw [List.getElem?_eq_getElem (by have := HX.out; omega), List.getElem?_eq_getElem (by have := HY.out; omega)]
      exact congrArg some this
     ·rw [List.getElem?_eq_none (by have := HX.out; omega), List.getElem?_eq_none (by have := HY.out; omega)])
    have e1 : decide ((j : Int) < (n : Int)) = false := decide_eq_false (by omega)
    have e2 : decide (j < n) = false := decide_eq_false (by omega)
    clear hjn HE HR
    go_wp2_with fail
    go_ret
    exact ⟨rfl, U⟩
   ·have hlt : j < n := by omega
    have hli : (j : Int) < (n : Int) := by omega
    have e1 : decide ((j : Int) < (n : Int)) = true := decide_eq_true hli
    have e2 : decide (j < n) = true := decide_eq_true hlt
    obtain ⟨b, o, rfl, _, hc⟩ := K1.out (by omega)
    obtain ⟨b', o', rfl, _, hc'⟩ := K2.out (by omega)
    obtain ⟨x, hx⟩ : ∃ x, xs.getD j 0 = x := ⟨_, rfl⟩
    obtain ⟨y, hy⟩ : ∃ y, ys.getD j 0 = y := ⟨_, rfl⟩
    have w1 := cell_up_ U (hc j hlt).1
    have w2 := cell_up_ U (hc' j hlt).1
    rw [hx] at w1
    rw [hy] at w2
    have wj : IntKind.i64.wrap ((j : Int) + 1) = (j : Int) + 1 := by simp [IntKind.wrap, IntKind.bits, IntKind.signed]; omega
    have HX1 := Lib.hid hx
    have HY1 := Lib.hid hy
    clear hx hy hc hc' hjn K1 K2
    by_cases hxy : x = y
    ·subst hxy
     have d3 : ((x : Int) != (x : Int)) = false := by simp
     have HN : Hid (∀ k, k < j + 1 → xs.getD k 0 = ys.getD k 0) := fun k hk => by
      rcases Nat.lt_or_eq_of_le (Nat.le_of_lt_succ hk) with e | rfl
      ·exact HE.out k e
      ·rw [HX1.out, HY1.out]
     clear HE HX1 HY1 HR
     go_wp2_with fail
     go_quiet (fail)
     go_wp2_with fail
     go_roundw
     case rel => exact ⟨j + 1, by go_num, by omega, by first | exact U | exact U.drew | exact U.drewN _, HN⟩
     case measure => simp [intOf]; omega
    ·have d3 : ((x : Int) != (y : Int)) = true := by
      have : (x : Int) ≠ (y : Int) := by omega
      simpa using this
     obtain rfl : r = false := HR.out.2 (fun e => hxy (by rw [← HX1.out, ← HY1.out, e]))
     clear HE HX1 HY1 HR hxy
     go_wp2_with fail
     go_quiet (fail)
     go_wp2_with fail
     go_ret
     exact ⟨rfl, by first | exact U | exact U.drew | exact U.drewN _⟩
 ·have d2 : ((n : Int) != (n' : Int)) = true := by
   have : (n : Int) ≠ (n' : Int) := by omega
   simpa using this
  obtain rfl : r = false := HR.out.2 (fun e => hn (by rw [← hx, ← hy, e]))
  clear HR hx hy K1 K2 hn
  go_enter Tryz.func29, Tryz.ntmps29
  go_wp2_with fail
  go_ret
  exact ⟨rfl, by first | exact U | exact U.drew | exact U.drewN _⟩
set_option maxRecDepth 100000 in
theorem same15_any (w : World) (lo lo' s s' : Nat) (ng : Bool) (A A' : Option Addr) (n c n' c' : Nat) (K G : Int) (a : Nat) (N : Nt w lo s (.slice A n c) a) (N' : Nt w lo' s' (.slice A' n' c') a) (hs : s ≤ 1000000) : Calls Tryz.prog 35 #[.agg #[.bool ng, .slice A n c, .int .i64 K, .int .i64 G], .agg #[.bool ng, .slice A' n' c', .int .i64 K, .int .i64 G]] w (Bz true w) := by
 obtain ⟨A9, n9, c9, xs, e9, h1, h2, h3, h4⟩ := N
 cases e9
 obtain ⟨A9, n9, c9, xs', e9, g1, g2, g3, g4⟩ := N'
 cases e9
 have e : xs = xs' := M.val_inj h1.wds g1.wds h4 g4 (h2.trans g2.symm)
 subst e
 have en : n = n' := h1.num.symm.trans g1.num
 subst en
 have nb : n ≤ 1000000 := by omega
 have d1 : (K != K) = false := by simp
 have d5 : (G != G) = false := by simp
 have d2 : ((n : Int) != (n : Int)) = false := by simp
 have d0 : (ng != ng) = false := by simp
 have K1 := Lib.hid h1.at_
 have K2 := Lib.hid g1.at_
 clear h1 g1 h2 g2 h4 g4 g3 h3 hs
 have U := Up.refl w
 go_enter Tryz.func35, Tryz.ntmps35
 go_wp2_with fail
 obtain ⟨V1, hV1, B1, uV1⟩ := Ob.nw w 34 #[.bool ng, .slice A n c, .int .i64 K, .int .i64 G]
 have sV1 : V1.heap.size = w.heap.size + 1 := by rw [← hV1]; exact (Array.size_push _)
 have ltB1 : w.heap.size ≤ w.heap.size := by have := U.size; omega
 rw [hV1]
 clear hV1
 replace U := U.trans uV1
 clear uV1
 obtain ⟨V2, hV2⟩ : ∃ V2, V1.alloc (.cells #[.bool ng, .slice A' n c', .int .i64 K, .int .i64 G] 34) = V2 := ⟨_, rfl⟩
 have B2 : Ob V2 (w.heap.size + 1) 34 #[.bool ng, .slice A' n c', .int .i64 K, .int .i64 G] := by rw [← sV1, ← hV2]; exact Ob.mk_ _ _ _
 have sV2 : V2.heap.size = w.heap.size + 1 + 1 := by rw [← hV2]; exact (Array.size_push _).trans (congrArg (· + 1) sV1)
 have uV2 : Up V1 V2 := Up.al hV2
 have ltB2 : w.heap.size ≤ w.heap.size + 1 := Nat.le_succ_of_le ltB1
 rw [hV2]
 clear hV2
 replace B1 := B1.up uV2
 replace U := U.trans uV2
 clear uV2
 clear sV2 sV1
 have glB1 := B1.lt
 have glB2 := B2.lt
 obtain ⟨B10, B11, B12, B13, B1f0, B1f1, B1f2, B1f3, B1l⟩ := B1.c4
 obtain ⟨B20, B21, B22, B23, B2f0, B2f1, B2f2, B2f3, B2l⟩ := B2.c4
 go_wp2_with fail
 clear B10 B1f0 B11 B1f1 B12 B1f2 B13 B1f3 B1l
 clear B20 B2f0 B21 B2f1 B22 B2f2 B23 B2f3 B2l
 go_loopw [5] (fun iv wr => ∃ j : Nat, iv = .int .i64 (j : Int) ∧ j ≤ n ∧ Up w wr ∧ Ob wr (w.heap.size) 34 #[.bool ng, .slice A n c, .int .i64 K, .int .i64 G] ∧ Ob wr (w.heap.size + 1) 34 #[.bool ng, .slice A' n c', .int .i64 K, .int .i64 G]) (fun iv _ => ((n : Int) - intOf iv).toNat)
 case atStart => exact ⟨0, rfl, Nat.zero_le _, U, B1, B2⟩
 case round =>
  clear U B1 B2
  obtain ⟨j, rfl, hj, U, B1, B2⟩ := hrel
  by_cases hjn : j = n
  ·
   have e1 : decide ((j : Int) < (n : Int)) = false := decide_eq_false (by omega)
   have e2 : decide (j < n) = false := decide_eq_false (by omega)
   clear hjn
   obtain ⟨B10, B11, B12, B13, B1f0, B1f1, B1f2, B1f3, B1l⟩ := B1.c4
   obtain ⟨B20, B21, B22, B23, B2f0, B2f1, B2f2, B2f3, B2l⟩ := B2.c4
   go_wp2_with fail
   clear B10 B1f0 B11 B1f1 B12 B1f2 B13 B1f3 B1l
   clear B20 B2f0 B21 B2f1 B22 B2f2 B23 B2f3 B2l
   go_ret
   exact ⟨rfl, U⟩
  ·
   have hlt : j < n := by omega
   have hli : (j : Int) < (n : Int) := by omega
   have e1 : decide ((j : Int) < (n : Int)) = true := decide_eq_true hli
   have e2 : decide (j < n) = true := decide_eq_true hlt
   obtain ⟨b, o, rfl, _, hc⟩ := K1.out (by omega)
   obtain ⟨b', o', rfl, _, hc'⟩ := K2.out (by omega)
   obtain ⟨x, hx⟩ : ∃ x, xs.getD j 0 = x := ⟨_, rfl⟩
   have w1 := cell_up_ U (hc j hlt).1
   have w2 := cell_up_ U (hc' j hlt).1
   rw [hx] at w1 w2
   have d3 : ((x : Int) != (x : Int)) = false := by simp
   have wj : IntKind.i64.wrap ((j : Int) + 1) = (j : Int) + 1 := by simp [IntKind.wrap, IntKind.bits, IntKind.signed]; omega
   clear hx hc hc' hjn K1 K2
   obtain ⟨B10, B11, B12, B13, B1f0, B1f1, B1f2, B1f3, B1l⟩ := B1.c4
   obtain ⟨B20, B21, B22, B23, B2f0, B2f1, B2f2, B2f3, B2l⟩ := B2.c4
   go_wp2_with fail
   go_quiet (fail)
   go_wp2_with fail
   go_roundw
   case rel => exact ⟨j + 1, by go_num, by omega, U.drewN _, B1.up ((Up.refl _).drewN _), B2.up ((Up.refl _).drewN _)⟩
   case measure => simp [intOf]; omega
set_option maxRecDepth 100000 in
theorem small15_walk (w : World) (neg : Bool) (A : Option Addr) (n c : Nat) (t g : Int) (k m : Nat) (ys : List Nat) (hk : min (n : Int) 20 = (k : Int)) (hkn : k ≤ n) (hnc : n ≤ c) (hwd : Wd w 0 A k c ys) (hm : m ≤ k) (h1 : 0 < m → ys.getD (m - 1) 0 ≠ 0) (h2 : ∀ j, m ≤ j → j < k → ys.getD j 0 = 0) (T G t1 g1 : Int) (e1 : min t 600 = t1) (e2 : max t1 (-600) = T) (e3 : min g 60 = g1) (e4 : max g1 (-60) = G) : Calls Tryz.prog 23 #[xv neg (.slice A n c) t g] w (Xe (xv neg (.slice A m c) T G) w) := by
 have H1 := Lib.hid h1
 have H2 := Lib.hid h2
 have HA := Lib.hid hwd.at_
 have k20 : k ≤ 20 := by omega
 clear h1 h2
 have U := Up.refl w
 go_enter Tryz.func23, Tryz.ntmps23
 go_wp2_with fail
 obtain ⟨V1, hV1, B, uV1⟩ := Ob.nw w 34 #[.bool neg, .slice A n c, .int .i64 t, .int .i64 g]
 have sV1 : V1.heap.size = w.heap.size + 1 := by rw [← hV1]; exact Array.size_push _
 have ltB : w.heap.size ≤ w.heap.size := U.size
 have ltR : w.heap.size ≤ w.heap.size + 1 := Nat.le_succ_of_le U.size
 rw [hV1]
 clear hV1
 obtain ⟨V2, hV2⟩ : ∃ V2, V1.alloc (.cells #[.bool false, .slice none 0 0, .int .i64 0, .int .i64 0] 34) = V2 := ⟨_, rfl⟩
 have R : Ob V2 (w.heap.size + 1) 34 #[.bool false, .slice none 0 0, .int .i64 0, .int .i64 0] := by rw [← sV1, ← hV2]; exact Ob.mk_ _ _ _
 have uV2 : Up V1 V2 := Up.al hV2
 rw [hV2]
 clear hV2 sV1
 replace B := B.up uV2
 replace uV2 := uV1.trans uV2
 clear uV1
 replace U := U.trans uV2
 clear uV2
 have HW : Hid (∀ p v, w.cell? p = some v → V2.cell? p = some v) := fun p v h => cell_up_ U h
 obtain ⟨B0, B1, B2, B3, Bf0, Bf1, Bf2, Bf3, Bl⟩ := B.c4
 go_wp2_with fail
 go_loop [3] (fun s => ∃ j : Nat, m ≤ j ∧ j ≤ k ∧ s = .slice A j c) (fun s => lenOf s)
 case atStart => exact ⟨k, hm, Nat.le_refl _, rfl⟩
 case round =>
  obtain ⟨j, j1, j2, rfl⟩ := hrel
  by_cases e : j = m
  ·
   have e := e.symm
   subst e
   clear j1 hm
   by_cases e0 : m = 0
   ·
    subst e0
    go_wp2_with (refine store_ob2 rfl 34 (.tmp 2) (.tmp 39) rfl _ #[.bool false, .slice none 0 0, .int .i64 0, .int .i64 0] #[.bool neg, .slice A 0 c, .int .i64 T, .int .i64 G] rfl rfl 4 (by kernel_rfl) rfl rfl (by simp [Value.oneCell']) w U ltR 34 R ?_; clear U; intro V9 Z9 U ho; clear ho R; have R := Z9; clear Z9)
    obtain ⟨zz0, zz1, zz2, zz3⟩ := R.g4
    refine bodyPost_ret (v := xv neg (.slice A 0 c) T G) (by simp [results, Tryz.results23, go_sem, zz0, zz1, zz2, zz3]) rfl ?_
    exact ⟨rfl, U⟩
   ·
    obtain ⟨b, o, rfl, _, hc⟩ := HA.out (by omega)
    obtain ⟨x, hx⟩ : ∃ x, ys.getD (m - 1) 0 = x := ⟨_, rfl⟩
    have hc1 := HW.out _ _ (hc (m - 1) (by omega)).1
    have x0 := H1.out (by omega)
    rw [hx] at hc1 x0
    have d1 : ((x : Int) == 0) = false := by rw [beq_eq_false_iff_ne]; omega
    have hp : 0 < m := by omega
    clear hc hx x0 e0
    go_wp2_with (refine store_ob2 rfl 34 (.tmp 2) (.tmp 39) rfl _ #[.bool false, .slice none 0 0, .int .i64 0, .int .i64 0] #[.bool neg, .slice (some ⟨b, o, none⟩) m c, .int .i64 T, .int .i64 G] rfl rfl 4 (by kernel_rfl) rfl rfl (by simp [Value.oneCell']) w U ltR 34 R ?_; clear U; intro V9 Z9 U ho; clear ho R; have R := Z9; clear Z9)
    obtain ⟨zz0, zz1, zz2, zz3⟩ := R.g4
    refine bodyPost_ret (v := xv neg (.slice (some ⟨b, o, none⟩) m c) T G) (by simp [results, Tryz.results23, go_sem, zz0, zz1, zz2, zz3]) rfl ?_
    exact ⟨rfl, U⟩
  ·
   obtain ⟨b, o, rfl, _, hc⟩ := HA.out (by omega)
   have hc1 := HW.out _ _ (hc (j - 1) (by omega)).1
   rw [H2.out (j - 1) (by omega) (by omega)] at hc1
   have hp : 0 < j := by omega
   have hjm : m ≤ j - 1 := by omega
   clear hc e j1
   go_wp2_with fail
   go_round
   case rel => exact ⟨j - 1, hjm, by omega, by congr 1⟩
   case measure => simp [lenOf]; omega
theorem small15_ex (w : World) (neg : Bool) (A : Option Addr) (n c : Nat) (xs : List Nat) (t g : Int) (h : Src w A n c xs) (hz : Fz w A n) (T G : Int) (hT : max (min t 600) (-600) = T) (hG : max (min g 60) (-60) = G) :
  ∃ m a, Nt w 0 20 (.slice A m c) a ∧ Hid (∀ W, Up w W → Calls Tryz.prog 23 #[xv neg (.slice A n c) t g] W (Xe (xv neg (.slice A m c) T G) W)) := by
 obtain ⟨k, hk⟩ : ∃ k : Nat, min (n : Int) 20 = (k : Int) := ⟨min n 20, by omega⟩
 have hwd := (h.take (m := k) (by omega)).wd0 (fun ad e j hj => hz ad e j (by omega)) (by omega)
 have hnc := h.len
 obtain ⟨ys, hys⟩ : ∃ ys, xs.take k = ys := ⟨_, rfl⟩
 rw [hys] at hwd
 obtain ⟨m, h1, h2, h3⟩ := M.trimmed ys k
 have hl := hwd.num
 refine ⟨m, _, ⟨A, m, c, ys.take m, rfl, hwd.take h1, rfl, by omega, M.Nrm.take (by omega) h2⟩, fun W U => ?_⟩
 exact small15_walk W neg A n c t g k m ys hk (by omega) hnc (hwd.up U) h1 h2 h3 T G _ _ rfl hT rfl hG
structure Stps (w : World) (A : Option Addr) (n c : Nat) (K : Nat → Int) (P R : Nat → Nat) : Prop where
 len : n ≤ c
 at_ : 0 < n → ∃ b o, A = some ⟨b, o, none⟩ ∧ ∀ j, j < n → w.cell? ⟨b, o + j * 8, none⟩ = some (.int .i64 (K j)) ∧ w.cell? ⟨b, o + j * 8 + 1, none⟩ = some (u64 (P j)) ∧ w.cell? ⟨b, o + j * 8 + 2, none⟩ = some (u64 (R j)) ∧ P j < 18446744073709551616 ∧ R j < 18446744073709551616
theorem Nt.sl {w : World} {lo s : Nat} {v : Value} {a : Nat} (h : Nt w lo s v a) : ∃ A n c, v = .slice A n c := by
 obtain ⟨A, n, c, xs, e, _⟩ := h
 exact ⟨A, n, c, e⟩
namespace M
end M
structure Stpf (w : World) (A : Option Addr) (n c : Nat) (K : Nat → Int) (P R : Nat → Nat) (NG : Nat → Bool) (XA : Nat → Option Addr) (Xn Xc : Nat → Nat) (Xs : Nat → List Nat) (T V : Nat → Int) (BA : Nat → Option Addr) (Bn Bc : Nat → Nat) (Bs : Nat → List Nat) : Prop where
 len : n ≤ c
 at_ : 0 < n → ∃ b o, A = some ⟨b, o, none⟩ ∧ ∀ j, j < n → (w.cell? ⟨b, o + j * 8, none⟩ = some (.int .i64 (K j)) ∧ w.cell? ⟨b, o + j * 8 + 1, none⟩ = some (.int .u64 (P j : Int)) ∧ w.cell? ⟨b, o + j * 8 + 2, none⟩ = some (.int .u64 (R j : Int)) ∧
  w.cell? ⟨b, o + j * 8 + 3, none⟩ = some (.bool (NG j)) ∧ w.cell? ⟨b, o + j * 8 + 4, none⟩ = some (.slice (XA j) (Xn j) (Xc j)) ∧ w.cell? ⟨b, o + j * 8 + 5, none⟩ = some (.int .i64 (T j)) ∧ w.cell? ⟨b, o + j * 8 + 6, none⟩ = some (.int .i64 (V j)) ∧ w.cell? ⟨b, o + j * 8 + 7, none⟩ = some (.slice (BA j) (Bn j) (Bc j))) ∧
  (P j < 18446744073709551616 ∧ R j < 18446744073709551616) ∧ (Src w (XA j) (Xn j) (Xc j) (Xs j) ∧ Fz w (XA j) (Xn j)) ∧ (Src w (BA j) (Bn j) (Bc j) (Bs j) ∧ Fz w (BA j) (Bn j))
end Go.Proofs.YtijpffgocookaaaGreatDoor
