/-
  Package trans.
-/
import Derived.Test.YtadgoeplhichmaaGreatDoorIk
import Derived.Test.YtadgoeplhichmaaGreatDoorId
import Derived.Test.YtadgoeplhichmaaGreatDoorVwa
import Derived.Test.YtadgoeplhichmaaGreatDoorRva
import Derived.Test.YtadgoeplhichmaaGreatDoorLab
namespace Go.Proofs.YtadgoeplhichmaaGreatDoor
open Go.RowKit Go.Shelf
set_option linter.unusedVariables false
set_option linter.unusedSimpArgs false

set_option maxHeartbeats 4000000 in
set_option maxRecDepth 100000 in
theorem isnum14_any (w : World) (c : Int) (g : Bool) (m : Nat) (z : Int) (b : Bool) (hb : (c = 1 ∧ b = true) ∨ (c = 2 ∧ b = true) ∨ ((c == 1) = false ∧ (c == 2) = false ∧ b = false)) : Calls Tryz.prog 16 #[.agg #[.int .i64 c, .bool g, u64 m, .int .i64 z]] w (Bz b w) := by
  have U := Up.refl w
  rcases hb with ⟨rfl, rfl⟩ | ⟨rfl, rfl⟩ | ⟨d1, d2, rfl⟩
  · go_enter Tryz.func16, Tryz.ntmps16
    go_upto_region 1 with fail
    obtain ⟨VX, hVX⟩ : ∃ VX, w.alloc (.cells #[.int .i64 1, .bool g, u64 m, .int .i64 z] 31) = VX := ⟨_, rfl⟩
    have X : Ob VX w.heap.size 31 #[.int .i64 1, .bool g, u64 m, .int .i64 z] := by rw [← hVX]; exact Ob.mk_ _ _ _
    have uVX : Up w VX := by rw [← hVX]; exact (Up.refl _).alloc _
    rw [hVX]
    clear hVX
    replace U := U.trans uVX
    have X0 := X.get 0
    have X1 := X.get 1
    have X2 := X.get 2
    have X3 := X.get 3
    simp only [List.getElem?_toArray, List.getElem?_cons_zero, List.getElem?_cons_succ] at X0 X1 X2 X3
    go_wp2_with fail
    clear X0 X1 X2 X3
    go_ret
    exact ⟨rfl, by first | exact U | exact U.drew | exact U.drewN _⟩
  · go_enter Tryz.func16, Tryz.ntmps16
    go_upto_region 1 with fail
    obtain ⟨VX, hVX⟩ : ∃ VX, w.alloc (.cells #[.int .i64 2, .bool g, u64 m, .int .i64 z] 31) = VX := ⟨_, rfl⟩
    have X : Ob VX w.heap.size 31 #[.int .i64 2, .bool g, u64 m, .int .i64 z] := by rw [← hVX]; exact Ob.mk_ _ _ _
    have uVX : Up w VX := by rw [← hVX]; exact (Up.refl _).alloc _
    rw [hVX]
    clear hVX
    replace U := U.trans uVX
    have X0 := X.get 0
    have X1 := X.get 1
    have X2 := X.get 2
    have X3 := X.get 3
    simp only [List.getElem?_toArray, List.getElem?_cons_zero, List.getElem?_cons_succ] at X0 X1 X2 X3
    go_wp2_with fail
    clear X0 X1 X2 X3
    go_ret
    exact ⟨rfl, by first | exact U | exact U.drew | exact U.drewN _⟩
  · go_enter Tryz.func16, Tryz.ntmps16
    go_upto_region 1 with fail
    obtain ⟨VX, hVX⟩ : ∃ VX, w.alloc (.cells #[.int .i64 c, .bool g, u64 m, .int .i64 z] 31) = VX := ⟨_, rfl⟩
    have X : Ob VX w.heap.size 31 #[.int .i64 c, .bool g, u64 m, .int .i64 z] := by rw [← hVX]; exact Ob.mk_ _ _ _
    have uVX : Up w VX := by rw [← hVX]; exact (Up.refl _).alloc _
    rw [hVX]
    clear hVX
    replace U := U.trans uVX
    have X0 := X.get 0
    have X1 := X.get 1
    have X2 := X.get 2
    have X3 := X.get 3
    simp only [List.getElem?_toArray, List.getElem?_cons_zero, List.getElem?_cons_succ] at X0 X1 X2 X3
    go_wp2_with fail
    clear X0 X1 X2 X3
    go_ret
    exact ⟨rfl, by first | exact U | exact U.drew | exact U.drewN _⟩
set_option maxHeartbeats 4000000 in
set_option maxRecDepth 100000 in
theorem large14_any (w : World) (g : Bool) : Calls Tryz.prog 20 #[.bool g] w (fun e w' => e = .returned (.agg #[.int .i64 2, .bool g, u64 1, .int .i64 5000]) ∧ Up w w') := by
  have U := Up.refl w
  go_enter Tryz.func20, Tryz.ntmps20
  go_wp2_with fail
  exact bodyPost_ret (v := .agg #[.int .i64 2, .bool g, u64 1, .int .i64 5000]) (by simp [results, Tryz.results20, go_sem]) rfl ⟨rfl, (Up.refl w).alloc _⟩
set_option maxHeartbeats 4000000 in
set_option maxRecDepth 100000 in
theorem rounded14_any (w : World) (TT : Hid (Tz w)) (TF : Hid (TabF w)) (f : M.Fm) (j : Nat) (mode c : Int) (g : Bool) (m : Nat) (z : Int) (hc : c = 1 ∨ c = 2) (hm : m < 18446744073709551616) (h0 : c = 1 → m = 0 ∧ z = 0) (hz : -5000 ≤ z ∧ z ≤ 5000) (q x : Int) (hr : M.Rc j mode g (M.sz m z 0) q x) : Calls Tryz.prog 19 #[.agg #[.int .i64 f.k, .int .i64 f.W, .int .i64 f.m, .int .i64 f.b, .int .u64 f.t, .int .u64 f.n, .int .u64 f.x, .int .i64 (j : Int), .int .i64 mode], .agg #[.int .i64 c, .bool g, u64 m, .int .i64 z]] w (Wn q x w) := by
  have CX : Hid (∀ W : World, Calls Tryz.prog 34 #[vv c g m z] W (Xo g 1 m z 0 true W)) := by
    rcases hc with rfl | rfl
    · obtain ⟨rfl, rfl⟩ := h0 rfl
      exact fun W => (xof_zero W g 0 0).mono fun _ _ ⟨v, h1, h2, h3⟩ => ⟨v, h1, h2.more (by omega), h3⟩
    · exact fun W => xof_fin W g m z hm (by unfold M.pw; omega)
  have CR := Lib.hid (fun W (u : Up w W) lo v (N : Nt W lo 1 v m) => rnd_round W (Lib.hid (TT.out.up u)) (Lib.hid (TF.out.up u)) (j : Int) mode lo 1 g v z 0 m N (by omega) (by omega) (by omega) (lt_w128 hm) q x hr)
  clear hc hm h0 hz hr TT TF
  have U := Up.refl w
  go_enter Tryz.func19, Tryz.ntmps19
  go_upto_region 1 with fail
  obtain ⟨VT, hVT⟩ : ∃ VT, w.alloc (.cells #[.int .i64 f.k, .int .i64 f.W, .int .i64 f.m, .int .i64 f.b, .int .u64 f.t, .int .u64 f.n, .int .u64 f.x, .int .i64 (j : Int), .int .i64 mode] 37) = VT := ⟨_, rfl⟩
  have T : Ob VT w.heap.size 37 #[.int .i64 f.k, .int .i64 f.W, .int .i64 f.m, .int .i64 f.b, .int .u64 f.t, .int .u64 f.n, .int .u64 f.x, .int .i64 (j : Int), .int .i64 mode] := by rw [← hVT]; exact Ob.mk_ _ _ _
  have uVT : Up w VT := by rw [← hVT]; exact (Up.refl _).alloc _
  rw [hVT]
  replace U := U.trans uVT
  have sVT : VT.heap.size = w.heap.size + 1 := by rw [← hVT]; exact Array.size_push _
  clear hVT
  obtain ⟨VX, hVX⟩ : ∃ VX, VT.alloc (.cells #[.int .i64 c, .bool g, u64 m, .int .i64 z] 31) = VX := ⟨_, rfl⟩
  have X : Ob VX VT.heap.size 31 #[.int .i64 c, .bool g, u64 m, .int .i64 z] := by rw [← hVX]; exact Ob.mk_ _ _ _
  have uVX : Up VT VX := by rw [← hVX]; exact (Up.refl _).alloc _
  rw [hVX]
  clear hVX
  replace U := U.trans uVX
  replace T := T.up uVX
  rw [sVT] at X
  have T0 := T.get 0
  have T1 := T.get 1
  have T2 := T.get 2
  have T3 := T.get 3
  have T4 := T.get 4
  have T5 := T.get 5
  have T6 := T.get 6
  have T7 := T.get 7
  have T8 := T.get 8
  simp only [List.getElem?_toArray, List.getElem?_cons_zero, List.getElem?_cons_succ] at T0 T1 T2 T3 T4 T5 T6 T7 T8
  have X0 := X.get 0
  have X1 := X.get 1
  have X2 := X.get 2
  have X3 := X.get 3
  simp only [List.getElem?_toArray, List.getElem?_cons_zero, List.getElem?_cons_succ] at X0 X1 X2 X3
  go_wp2_with fail
  clear T0 T1 T2 T3 T4 T5 T6 T7 T8 X0 X1 X2 X3
  refine (CX.out _).mono ?_
  rintro _ w1 ⟨v, rfl, N, h1⟩
  replace U := Up.trans (by first | exact U | exact U.drew | exact U.drewN _) h1
  obtain ⟨A, n1, c1, rfl, N⟩ := N.sl4
  replace T := T.up (Up.trans (by first | exact Up.refl _ | exact (Up.refl _).drew | exact (Up.refl _).drewN _) h1)
  clear h1 X CX
  have T0 := T.get 0
  have T1 := T.get 1
  have T2 := T.get 2
  have T3 := T.get 3
  have T4 := T.get 4
  have T5 := T.get 5
  have T6 := T.get 6
  have T7 := T.get 7
  have T8 := T.get 8
  simp only [List.getElem?_toArray, List.getElem?_cons_zero, List.getElem?_cons_succ] at T0 T1 T2 T3 T4 T5 T6 T7 T8
  go_upto_region 2 with fail
  clear T0 T1 T2 T3 T4 T5 T6 T7 T8
  obtain ⟨VY, hVY⟩ : ∃ VY, w1.alloc (.cells #[.bool g, .slice A n1 c1, .int .i64 z, .int .i64 0] 48) = VY := ⟨_, rfl⟩
  have Y : Ob VY w1.heap.size 48 #[.bool g, .slice A n1 c1, .int .i64 z, .int .i64 0] := by rw [← hVY]; exact Ob.mk_ _ _ _
  have uVY : Up w1 VY := by rw [← hVY]; exact (Up.refl _).alloc _
  rw [hVY]
  clear hVY
  replace U := U.trans uVY
  replace T := T.up uVY
  replace N := N.up uVY
  have T0 := T.get 0
  have T1 := T.get 1
  have T2 := T.get 2
  have T3 := T.get 3
  have T4 := T.get 4
  have T5 := T.get 5
  have T6 := T.get 6
  have T7 := T.get 7
  have T8 := T.get 8
  simp only [List.getElem?_toArray, List.getElem?_cons_zero, List.getElem?_cons_succ] at T0 T1 T2 T3 T4 T5 T6 T7 T8
  have Y0 := Y.get 0
  have Y1 := Y.get 1
  have Y2 := Y.get 2
  have Y3 := Y.get 3
  simp only [List.getElem?_toArray, List.getElem?_cons_zero, List.getElem?_cons_succ] at Y0 Y1 Y2 Y3
  go_wp2_with fail
  clear T0 T1 T2 T3 T4 T5 T6 T7 T8 Y0 Y1 Y2 Y3
  refine (CR.out _ (by first | exact U | exact U.drew | exact U.drewN _) _ _ N).mono ?_
  rintro _ w2 ⟨rfl, h2⟩
  replace U := Up.trans (by first | exact U | exact U.drew | exact U.drewN _) h2
  replace T := T.up (Up.trans (by first | exact Up.refl _ | exact (Up.refl _).drew | exact (Up.refl _).drewN _) h2)
  replace Y := Y.up (Up.trans (by first | exact Up.refl _ | exact (Up.refl _).drew | exact (Up.refl _).drewN _) h2)
  clear h2
  clear CR
  have T0 := T.get 0
  have T1 := T.get 1
  have T2 := T.get 2
  have T3 := T.get 3
  have T4 := T.get 4
  have T5 := T.get 5
  have T6 := T.get 6
  have T7 := T.get 7
  have T8 := T.get 8
  simp only [List.getElem?_toArray, List.getElem?_cons_zero, List.getElem?_cons_succ] at T0 T1 T2 T3 T4 T5 T6 T7 T8
  have Y0 := Y.get 0
  have Y1 := Y.get 1
  have Y2 := Y.get 2
  have Y3 := Y.get 3
  simp only [List.getElem?_toArray, List.getElem?_cons_zero, List.getElem?_cons_succ] at Y0 Y1 Y2 Y3
  go_wp2_with fail
  clear T0 T1 T2 T3 T4 T5 T6 T7 T8 Y0 Y1 Y2 Y3
  go_ret2
  exact ⟨rfl, by first | exact U | exact U.drew | exact U.drewN _⟩
set_option maxHeartbeats 4000000 in
set_option maxRecDepth 100000 in
theorem turn14_any (w : World) (TT : Hid (Tz w)) (TF : Hid (TabF w)) (f : M.Fm) (j : Nat) (hf : M.tb j = f) (j1 : 1 ≤ j) (j2 : j ≤ 14) (mode c : Int) (md : mode = 1 ∨ mode = 2) (g : Bool) (m : Nat) (z : Int) (hm : m < 18446744073709551616) (h0 : c = 1 → m = 0 ∧ z = 0) (hz : c = 1 ∨ c = 2 → -5000 ≤ z ∧ z ≤ 5000) (q : Int) (hr : M.Tv f mode c g m z q) : Calls Tryz.prog 11 #[.agg #[.int .i64 f.k, .int .i64 f.W, .int .i64 f.m, .int .i64 f.b, .int .u64 f.t, .int .u64 f.n, .int .u64 f.x, .int .i64 (j : Int), .int .i64 mode], .agg #[.int .i64 c, .bool g, u64 m, .int .i64 z]] w (Wn q 0 w) := by
  have U := Up.refl w
  have hrc : ∀ X, M.Rv f mode g X q → M.Rc (j : Int) mode g X q 0 := fun X h => .inr ⟨j, rfl, j1, j2, .inr ⟨md, by rw [hf]; exact h, rfl⟩⟩
  rcases hr with ⟨rfl, rfl⟩ | ⟨rfl, hk, rfl⟩ | ⟨rfl, hk, hr⟩ | ⟨hc, hr⟩
  · have CI := Lib.hid (fun W => isnum14_any W 4 g m z false (.inr (.inr ⟨rfl, rfl, rfl⟩)))
    clear hm h0 hz hrc TT TF hf j1 j2 md
    go_enter Tryz.func11, Tryz.ntmps11
    go_upto_region 1 with fail
    obtain ⟨VT, hVT⟩ : ∃ VT, w.alloc (.cells #[.int .i64 f.k, .int .i64 f.W, .int .i64 f.m, .int .i64 f.b, .int .u64 f.t, .int .u64 f.n, .int .u64 f.x, .int .i64 (j : Int), .int .i64 mode] 37) = VT := ⟨_, rfl⟩
    have T : Ob VT w.heap.size 37 #[.int .i64 f.k, .int .i64 f.W, .int .i64 f.m, .int .i64 f.b, .int .u64 f.t, .int .u64 f.n, .int .u64 f.x, .int .i64 (j : Int), .int .i64 mode] := by rw [← hVT]; exact Ob.mk_ _ _ _
    have uVT : Up w VT := by rw [← hVT]; exact (Up.refl _).alloc _
    rw [hVT]
    replace U := U.trans uVT
    have sVT : VT.heap.size = w.heap.size + 1 := by rw [← hVT]; exact Array.size_push _
    clear hVT
    obtain ⟨VX, hVX⟩ : ∃ VX, VT.alloc (.cells #[.int .i64 4, .bool g, u64 m, .int .i64 z] 31) = VX := ⟨_, rfl⟩
    have X : Ob VX VT.heap.size 31 #[.int .i64 4, .bool g, u64 m, .int .i64 z] := by rw [← hVX]; exact Ob.mk_ _ _ _
    have uVX : Up VT VX := by rw [← hVX]; exact (Up.refl _).alloc _
    rw [hVX]
    clear hVX
    replace U := U.trans uVX
    replace T := T.up uVX
    rw [sVT] at X
    have T0 := T.get 0
    have T1 := T.get 1
    have T2 := T.get 2
    have T3 := T.get 3
    have T4 := T.get 4
    have T5 := T.get 5
    have T6 := T.get 6
    have T7 := T.get 7
    have T8 := T.get 8
    simp only [List.getElem?_toArray, List.getElem?_cons_zero, List.getElem?_cons_succ] at T0 T1 T2 T3 T4 T5 T6 T7 T8
    have X0 := X.get 0
    have X1 := X.get 1
    have X2 := X.get 2
    have X3 := X.get 3
    simp only [List.getElem?_toArray, List.getElem?_cons_zero, List.getElem?_cons_succ] at X0 X1 X2 X3
    go_wp2_with fail
    clear T0 T1 T2 T3 T4 T5 T6 T7 T8 X0 X1 X2 X3
    refine (CI.out _).mono ?_
    rintro _ w1 ⟨rfl, h1⟩
    replace U := Up.trans (by first | exact U | exact U.drew | exact U.drewN _) h1
    replace T := T.up (Up.trans (by first | exact Up.refl _ | exact (Up.refl _).drew | exact (Up.refl _).drewN _) h1)
    replace X := X.up (Up.trans (by first | exact Up.refl _ | exact (Up.refl _).drew | exact (Up.refl _).drewN _) h1)
    clear h1 CI
    have T0 := T.get 0
    have T1 := T.get 1
    have T2 := T.get 2
    have T3 := T.get 3
    have T4 := T.get 4
    have T5 := T.get 5
    have T6 := T.get 6
    have T7 := T.get 7
    have T8 := T.get 8
    simp only [List.getElem?_toArray, List.getElem?_cons_zero, List.getElem?_cons_succ] at T0 T1 T2 T3 T4 T5 T6 T7 T8
    have X0 := X.get 0
    have X1 := X.get 1
    have X2 := X.get 2
    have X3 := X.get 3
    simp only [List.getElem?_toArray, List.getElem?_cons_zero, List.getElem?_cons_succ] at X0 X1 X2 X3
    go_wp2_with fail
    clear T0 T1 T2 T3 T4 T5 T6 T7 T8 X0 X1 X2 X3
    go_ret2
    exact ⟨rfl, by first | exact U | exact U.drew | exact U.drewN _⟩
  · have CI := Lib.hid (fun W => isnum14_any W 3 g m z false (.inr (.inr ⟨rfl, rfl, rfl⟩)))
    by_cases k1 : f.k = 1
    · have d1 : (f.k != 1) = false := by simpa using k1
      clear hm h0 hz hrc TT TF hf j1 j2 md hk k1
      go_enter Tryz.func11, Tryz.ntmps11
      go_upto_region 1 with fail
      obtain ⟨VT, hVT⟩ : ∃ VT, w.alloc (.cells #[.int .i64 f.k, .int .i64 f.W, .int .i64 f.m, .int .i64 f.b, .int .u64 f.t, .int .u64 f.n, .int .u64 f.x, .int .i64 (j : Int), .int .i64 mode] 37) = VT := ⟨_, rfl⟩
      have T : Ob VT w.heap.size 37 #[.int .i64 f.k, .int .i64 f.W, .int .i64 f.m, .int .i64 f.b, .int .u64 f.t, .int .u64 f.n, .int .u64 f.x, .int .i64 (j : Int), .int .i64 mode] := by rw [← hVT]; exact Ob.mk_ _ _ _
      have uVT : Up w VT := by rw [← hVT]; exact (Up.refl _).alloc _
      rw [hVT]
      replace U := U.trans uVT
      have sVT : VT.heap.size = w.heap.size + 1 := by rw [← hVT]; exact Array.size_push _
      clear hVT
      obtain ⟨VX, hVX⟩ : ∃ VX, VT.alloc (.cells #[.int .i64 3, .bool g, u64 m, .int .i64 z] 31) = VX := ⟨_, rfl⟩
      have X : Ob VX VT.heap.size 31 #[.int .i64 3, .bool g, u64 m, .int .i64 z] := by rw [← hVX]; exact Ob.mk_ _ _ _
      have uVX : Up VT VX := by rw [← hVX]; exact (Up.refl _).alloc _
      rw [hVX]
      clear hVX
      replace U := U.trans uVX
      replace T := T.up uVX
      rw [sVT] at X
      have T0 := T.get 0
      have T1 := T.get 1
      have T2 := T.get 2
      have T3 := T.get 3
      have T4 := T.get 4
      have T5 := T.get 5
      have T6 := T.get 6
      have T7 := T.get 7
      have T8 := T.get 8
      simp only [List.getElem?_toArray, List.getElem?_cons_zero, List.getElem?_cons_succ] at T0 T1 T2 T3 T4 T5 T6 T7 T8
      have X0 := X.get 0
      have X1 := X.get 1
      have X2 := X.get 2
      have X3 := X.get 3
      simp only [List.getElem?_toArray, List.getElem?_cons_zero, List.getElem?_cons_succ] at X0 X1 X2 X3
      go_wp2_with fail
      clear T0 T1 T2 T3 T4 T5 T6 T7 T8 X0 X1 X2 X3
      refine (CI.out _).mono ?_
      rintro _ w1 ⟨rfl, h1⟩
      replace U := Up.trans (by first | exact U | exact U.drew | exact U.drewN _) h1
      replace T := T.up (Up.trans (by first | exact Up.refl _ | exact (Up.refl _).drew | exact (Up.refl _).drewN _) h1)
      replace X := X.up (Up.trans (by first | exact Up.refl _ | exact (Up.refl _).drew | exact (Up.refl _).drewN _) h1)
      clear h1 CI
      have T0 := T.get 0
      have T1 := T.get 1
      have T2 := T.get 2
      have T3 := T.get 3
      have T4 := T.get 4
      have T5 := T.get 5
      have T6 := T.get 6
      have T7 := T.get 7
      have T8 := T.get 8
      simp only [List.getElem?_toArray, List.getElem?_cons_zero, List.getElem?_cons_succ] at T0 T1 T2 T3 T4 T5 T6 T7 T8
      have X0 := X.get 0
      have X1 := X.get 1
      have X2 := X.get 2
      have X3 := X.get 3
      simp only [List.getElem?_toArray, List.getElem?_cons_zero, List.getElem?_cons_succ] at X0 X1 X2 X3
      go_wp2_with fail
      clear T0 T1 T2 T3 T4 T5 T6 T7 T8 X0 X1 X2 X3
      go_ret2
      exact ⟨rfl, by first | exact U | exact U.drew | exact U.drewN _⟩
    · have d1 : (f.k != 1) = true := by simpa using k1
      have HR : M.Rv f mode g (M.sz 1 5000 0) f.x := by
        rcases hk with e | ⟨e, rfl⟩
        · exact absurd e k1
        · exact .inl ⟨e, .inl rfl, rfl⟩
      have CL := Lib.hid (fun W => large14_any W g)
      have CR := Lib.hid (fun W (u : Up w W) => rounded14_any W (Lib.hid (TT.out.up u)) (Lib.hid (TF.out.up u)) f j mode 2 g 1 5000 (.inr rfl) (by decide) (fun e => absurd e (by decide)) (by omega) f.x 0 (hrc _ HR))
      clear hrc HR TT TF hm h0 hz hf j1 j2 hk k1
      go_enter Tryz.func11, Tryz.ntmps11
      go_upto_region 1 with fail
      obtain ⟨VT, hVT⟩ : ∃ VT, w.alloc (.cells #[.int .i64 f.k, .int .i64 f.W, .int .i64 f.m, .int .i64 f.b, .int .u64 f.t, .int .u64 f.n, .int .u64 f.x, .int .i64 (j : Int), .int .i64 mode] 37) = VT := ⟨_, rfl⟩
      have T : Ob VT w.heap.size 37 #[.int .i64 f.k, .int .i64 f.W, .int .i64 f.m, .int .i64 f.b, .int .u64 f.t, .int .u64 f.n, .int .u64 f.x, .int .i64 (j : Int), .int .i64 mode] := by rw [← hVT]; exact Ob.mk_ _ _ _
      have uVT : Up w VT := by rw [← hVT]; exact (Up.refl _).alloc _
      rw [hVT]
      replace U := U.trans uVT
      have sVT : VT.heap.size = w.heap.size + 1 := by rw [← hVT]; exact Array.size_push _
      clear hVT
      obtain ⟨VX, hVX⟩ : ∃ VX, VT.alloc (.cells #[.int .i64 3, .bool g, u64 m, .int .i64 z] 31) = VX := ⟨_, rfl⟩
      have X : Ob VX VT.heap.size 31 #[.int .i64 3, .bool g, u64 m, .int .i64 z] := by rw [← hVX]; exact Ob.mk_ _ _ _
      have uVX : Up VT VX := by rw [← hVX]; exact (Up.refl _).alloc _
      rw [hVX]
      clear hVX
      replace U := U.trans uVX
      replace T := T.up uVX
      rw [sVT] at X
      have T0 := T.get 0
      have T1 := T.get 1
      have T2 := T.get 2
      have T3 := T.get 3
      have T4 := T.get 4
      have T5 := T.get 5
      have T6 := T.get 6
      have T7 := T.get 7
      have T8 := T.get 8
      simp only [List.getElem?_toArray, List.getElem?_cons_zero, List.getElem?_cons_succ] at T0 T1 T2 T3 T4 T5 T6 T7 T8
      have X0 := X.get 0
      have X1 := X.get 1
      have X2 := X.get 2
      have X3 := X.get 3
      simp only [List.getElem?_toArray, List.getElem?_cons_zero, List.getElem?_cons_succ] at X0 X1 X2 X3
      go_wp2_with fail
      clear T0 T1 T2 T3 T4 T5 T6 T7 T8 X0 X1 X2 X3
      refine (CI.out _).mono ?_
      rintro _ w1 ⟨rfl, h1⟩
      replace U := Up.trans (by first | exact U | exact U.drew | exact U.drewN _) h1
      replace T := T.up (Up.trans (by first | exact Up.refl _ | exact (Up.refl _).drew | exact (Up.refl _).drewN _) h1)
      replace X := X.up (Up.trans (by first | exact Up.refl _ | exact (Up.refl _).drew | exact (Up.refl _).drewN _) h1)
      clear h1 CI
      have T0 := T.get 0
      have T1 := T.get 1
      have T2 := T.get 2
      have T3 := T.get 3
      have T4 := T.get 4
      have T5 := T.get 5
      have T6 := T.get 6
      have T7 := T.get 7
      have T8 := T.get 8
      simp only [List.getElem?_toArray, List.getElem?_cons_zero, List.getElem?_cons_succ] at T0 T1 T2 T3 T4 T5 T6 T7 T8
      have X0 := X.get 0
      have X1 := X.get 1
      have X2 := X.get 2
      have X3 := X.get 3
      simp only [List.getElem?_toArray, List.getElem?_cons_zero, List.getElem?_cons_succ] at X0 X1 X2 X3
      have V := Up.refl w1
      go_wp2_with fail
      go_region_held3 (fun w' => w'.cell? ⟨w.heap.size, 0, none⟩ = some (.int .i64 f.k) ∧ w'.cell? ⟨w.heap.size, 1, none⟩ = some (.int .i64 f.W) ∧ w'.cell? ⟨w.heap.size, 2, none⟩ = some (.int .i64 f.m) ∧ w'.cell? ⟨w.heap.size, 3, none⟩ = some (.int .i64 f.b) ∧ w'.cell? ⟨w.heap.size, 4, none⟩ = some (.int .u64 f.t) ∧ w'.cell? ⟨w.heap.size, 5, none⟩ = some (.int .u64 f.n) ∧ w'.cell? ⟨w.heap.size, 6, none⟩ = some (.int .u64 f.x) ∧ w'.cell? ⟨w.heap.size, 7, none⟩ = some (.int .i64 (j : Int)) ∧ w'.cell? ⟨w.heap.size, 8, none⟩ = some (.int .i64 mode) ∧ w'.cell? ⟨w.heap.size + 1, 0, none⟩ = some (.int .i64 3) ∧ w'.cell? ⟨w.heap.size + 1, 1, none⟩ = some (.bool g) ∧ w'.cell? ⟨w.heap.size + 1, 2, none⟩ = some (u64 m) ∧ w'.cell? ⟨w.heap.size + 1, 3, none⟩ = some (.int .i64 z)) (go_keep) (first
        | (go_at_call 20; (with_reducible refine (CL.out _).mono ?_); rintro _ wA ⟨rfl, hA⟩; have uA : Up w wA := Up.trans (by first | with_reducible assumption | exact U.drewN _ | exact uA.drewN _ | exact uB.drewN _) hA; have vA : Up w1 wA := Up.trans (by first | with_reducible assumption | exact V.drewN _ | exact vA.drewN _ | exact vB.drewN _) hA; have T0A := cell_up vA T0; have T1A := cell_up vA T1; have T2A := cell_up vA T2; have T3A := cell_up vA T3; have T4A := cell_up vA T4; have T5A := cell_up vA T5; have T6A := cell_up vA T6; have T7A := cell_up vA T7; have T8A := cell_up vA T8; have X0A := cell_up vA X0; have X1A := cell_up vA X1; have X2A := cell_up vA X2; have X3A := cell_up vA X3)
        | (go_at_call 19; (with_reducible refine (CR.out _ (by first | with_reducible assumption | exact U.drewN _ | exact uA.drewN _ | exact uB.drewN _)).mono ?_); rintro _ wB ⟨rfl, hB⟩; have uB : Up w wB := Up.trans (by first | with_reducible assumption | exact U.drewN _ | exact uA.drewN _ | exact uB.drewN _) hB; have vB : Up w1 wB := Up.trans (by first | with_reducible assumption | exact V.drewN _ | exact vA.drewN _ | exact vB.drewN _) hB; have T0B := cell_up vB T0; have T1B := cell_up vB T1; have T2B := cell_up vB T2; have T3B := cell_up vB T3; have T4B := cell_up vB T4; have T5B := cell_up vB T5; have T6B := cell_up vB T6; have T7B := cell_up vB T7; have T8B := cell_up vB T8; have X0B := cell_up vB X0; have X1B := cell_up vB X1; have X2B := cell_up vB X2; have X3B := cell_up vB X3))
      go_wp2_with fail
      go_ret2
      exact ⟨rfl, by first | exact uB | exact uB.drew | exact uB.drewN _⟩
  · have CI := Lib.hid (fun W => isnum14_any W 3 g m z false (.inr (.inr ⟨rfl, rfl, rfl⟩)))
    have k1 : f.k ≠ 1 := fun e => hk (.inl e)
    have d1 : (f.k != 1) = true := by simpa using k1
    have HR : M.Rv f mode g (M.sz 1 5000 0) q := by
      have h1 := M.ok j j1 j2
      have h2 := M.ok2 j j1 j2
      have h3 := M.ok3 j j1 j2
      rw [hf] at h1 h2 h3
      exact M.rv_over h1 h2 h3 (M.big_two (by decide)) (M.big_two (by decide)) hr
    have CL := Lib.hid (fun W => large14_any W g)
    have CR := Lib.hid (fun W (u : Up w W) => rounded14_any W (Lib.hid (TT.out.up u)) (Lib.hid (TF.out.up u)) f j mode 2 g 1 5000 (.inr rfl) (by decide) (fun e => absurd e (by decide)) (by omega) q 0 (hrc _ HR))
    clear hrc HR TT TF hm h0 hz hf j1 j2 hk k1 md hr
    go_enter Tryz.func11, Tryz.ntmps11
    go_upto_region 1 with fail
    obtain ⟨VT, hVT⟩ : ∃ VT, w.alloc (.cells #[.int .i64 f.k, .int .i64 f.W, .int .i64 f.m, .int .i64 f.b, .int .u64 f.t, .int .u64 f.n, .int .u64 f.x, .int .i64 (j : Int), .int .i64 mode] 37) = VT := ⟨_, rfl⟩
    have T : Ob VT w.heap.size 37 #[.int .i64 f.k, .int .i64 f.W, .int .i64 f.m, .int .i64 f.b, .int .u64 f.t, .int .u64 f.n, .int .u64 f.x, .int .i64 (j : Int), .int .i64 mode] := by rw [← hVT]; exact Ob.mk_ _ _ _
    have uVT : Up w VT := by rw [← hVT]; exact (Up.refl _).alloc _
    rw [hVT]
    replace U := U.trans uVT
    have sVT : VT.heap.size = w.heap.size + 1 := by rw [← hVT]; exact Array.size_push _
    clear hVT
    obtain ⟨VX, hVX⟩ : ∃ VX, VT.alloc (.cells #[.int .i64 3, .bool g, u64 m, .int .i64 z] 31) = VX := ⟨_, rfl⟩
    have X : Ob VX VT.heap.size 31 #[.int .i64 3, .bool g, u64 m, .int .i64 z] := by rw [← hVX]; exact Ob.mk_ _ _ _
    have uVX : Up VT VX := by rw [← hVX]; exact (Up.refl _).alloc _
    rw [hVX]
    clear hVX
    replace U := U.trans uVX
    replace T := T.up uVX
    rw [sVT] at X
    have T0 := T.get 0
    have T1 := T.get 1
    have T2 := T.get 2
    have T3 := T.get 3
    have T4 := T.get 4
    have T5 := T.get 5
    have T6 := T.get 6
    have T7 := T.get 7
    have T8 := T.get 8
    simp only [List.getElem?_toArray, List.getElem?_cons_zero, List.getElem?_cons_succ] at T0 T1 T2 T3 T4 T5 T6 T7 T8
    have X0 := X.get 0
    have X1 := X.get 1
    have X2 := X.get 2
    have X3 := X.get 3
    simp only [List.getElem?_toArray, List.getElem?_cons_zero, List.getElem?_cons_succ] at X0 X1 X2 X3
    go_wp2_with fail
    clear T0 T1 T2 T3 T4 T5 T6 T7 T8 X0 X1 X2 X3
    refine (CI.out _).mono ?_
    rintro _ w1 ⟨rfl, h1⟩
    replace U := Up.trans (by first | exact U | exact U.drew | exact U.drewN _) h1
    replace T := T.up (Up.trans (by first | exact Up.refl _ | exact (Up.refl _).drew | exact (Up.refl _).drewN _) h1)
    replace X := X.up (Up.trans (by first | exact Up.refl _ | exact (Up.refl _).drew | exact (Up.refl _).drewN _) h1)
    clear h1 CI
    have T0 := T.get 0
    have T1 := T.get 1
    have T2 := T.get 2
    have T3 := T.get 3
    have T4 := T.get 4
    have T5 := T.get 5
    have T6 := T.get 6
    have T7 := T.get 7
    have T8 := T.get 8
    simp only [List.getElem?_toArray, List.getElem?_cons_zero, List.getElem?_cons_succ] at T0 T1 T2 T3 T4 T5 T6 T7 T8
    have X0 := X.get 0
    have X1 := X.get 1
    have X2 := X.get 2
    have X3 := X.get 3
    simp only [List.getElem?_toArray, List.getElem?_cons_zero, List.getElem?_cons_succ] at X0 X1 X2 X3
    have V := Up.refl w1
    go_wp2_with fail
    go_region_held3 (fun w' => w'.cell? ⟨w.heap.size, 0, none⟩ = some (.int .i64 f.k) ∧ w'.cell? ⟨w.heap.size, 1, none⟩ = some (.int .i64 f.W) ∧ w'.cell? ⟨w.heap.size, 2, none⟩ = some (.int .i64 f.m) ∧ w'.cell? ⟨w.heap.size, 3, none⟩ = some (.int .i64 f.b) ∧ w'.cell? ⟨w.heap.size, 4, none⟩ = some (.int .u64 f.t) ∧ w'.cell? ⟨w.heap.size, 5, none⟩ = some (.int .u64 f.n) ∧ w'.cell? ⟨w.heap.size, 6, none⟩ = some (.int .u64 f.x) ∧ w'.cell? ⟨w.heap.size, 7, none⟩ = some (.int .i64 (j : Int)) ∧ w'.cell? ⟨w.heap.size, 8, none⟩ = some (.int .i64 mode) ∧ w'.cell? ⟨w.heap.size + 1, 0, none⟩ = some (.int .i64 3) ∧ w'.cell? ⟨w.heap.size + 1, 1, none⟩ = some (.bool g) ∧ w'.cell? ⟨w.heap.size + 1, 2, none⟩ = some (u64 m) ∧ w'.cell? ⟨w.heap.size + 1, 3, none⟩ = some (.int .i64 z)) (go_keep) (first
      | (go_at_call 20; (with_reducible refine (CL.out _).mono ?_); rintro _ wA ⟨rfl, hA⟩; have uA : Up w wA := Up.trans (by first | with_reducible assumption | exact U.drewN _ | exact uA.drewN _ | exact uB.drewN _) hA; have vA : Up w1 wA := Up.trans (by first | with_reducible assumption | exact V.drewN _ | exact vA.drewN _ | exact vB.drewN _) hA; have T0A := cell_up vA T0; have T1A := cell_up vA T1; have T2A := cell_up vA T2; have T3A := cell_up vA T3; have T4A := cell_up vA T4; have T5A := cell_up vA T5; have T6A := cell_up vA T6; have T7A := cell_up vA T7; have T8A := cell_up vA T8; have X0A := cell_up vA X0; have X1A := cell_up vA X1; have X2A := cell_up vA X2; have X3A := cell_up vA X3)
      | (go_at_call 19; (with_reducible refine (CR.out _ (by first | with_reducible assumption | exact U.drewN _ | exact uA.drewN _ | exact uB.drewN _)).mono ?_); rintro _ wB ⟨rfl, hB⟩; have uB : Up w wB := Up.trans (by first | with_reducible assumption | exact U.drewN _ | exact uA.drewN _ | exact uB.drewN _) hB; have vB : Up w1 wB := Up.trans (by first | with_reducible assumption | exact V.drewN _ | exact vA.drewN _ | exact vB.drewN _) hB; have T0B := cell_up vB T0; have T1B := cell_up vB T1; have T2B := cell_up vB T2; have T3B := cell_up vB T3; have T4B := cell_up vB T4; have T5B := cell_up vB T5; have T6B := cell_up vB T6; have T7B := cell_up vB T7; have T8B := cell_up vB T8; have X0B := cell_up vB X0; have X1B := cell_up vB X1; have X2B := cell_up vB X2; have X3B := cell_up vB X3))
    go_wp2_with fail
    go_ret2
    exact ⟨rfl, by first | exact uB | exact uB.drew | exact uB.drewN _⟩
  · have CI := Lib.hid (fun W => isnum14_any W c g m z true (by rcases hc with e | e; exact .inl ⟨e, rfl⟩; exact .inr (.inl ⟨e, rfl⟩)))
    have CR := Lib.hid (fun W (u : Up w W) => rounded14_any W (Lib.hid (TT.out.up u)) (Lib.hid (TF.out.up u)) f j mode c g m z hc hm h0 (hz hc) q 0 (hrc _ hr))
    clear hrc TT TF hm h0 hz hf j1 j2 md hr hc
    go_enter Tryz.func11, Tryz.ntmps11
    go_upto_region 1 with fail
    obtain ⟨VT, hVT⟩ : ∃ VT, w.alloc (.cells #[.int .i64 f.k, .int .i64 f.W, .int .i64 f.m, .int .i64 f.b, .int .u64 f.t, .int .u64 f.n, .int .u64 f.x, .int .i64 (j : Int), .int .i64 mode] 37) = VT := ⟨_, rfl⟩
    have T : Ob VT w.heap.size 37 #[.int .i64 f.k, .int .i64 f.W, .int .i64 f.m, .int .i64 f.b, .int .u64 f.t, .int .u64 f.n, .int .u64 f.x, .int .i64 (j : Int), .int .i64 mode] := by rw [← hVT]; exact Ob.mk_ _ _ _
    have uVT : Up w VT := by rw [← hVT]; exact (Up.refl _).alloc _
    rw [hVT]
    replace U := U.trans uVT
    have sVT : VT.heap.size = w.heap.size + 1 := by rw [← hVT]; exact Array.size_push _
    clear hVT
    obtain ⟨VX, hVX⟩ : ∃ VX, VT.alloc (.cells #[.int .i64 c, .bool g, u64 m, .int .i64 z] 31) = VX := ⟨_, rfl⟩
    have X : Ob VX VT.heap.size 31 #[.int .i64 c, .bool g, u64 m, .int .i64 z] := by rw [← hVX]; exact Ob.mk_ _ _ _
    have uVX : Up VT VX := by rw [← hVX]; exact (Up.refl _).alloc _
    rw [hVX]
    clear hVX
    replace U := U.trans uVX
    replace T := T.up uVX
    rw [sVT] at X
    have T0 := T.get 0
    have T1 := T.get 1
    have T2 := T.get 2
    have T3 := T.get 3
    have T4 := T.get 4
    have T5 := T.get 5
    have T6 := T.get 6
    have T7 := T.get 7
    have T8 := T.get 8
    simp only [List.getElem?_toArray, List.getElem?_cons_zero, List.getElem?_cons_succ] at T0 T1 T2 T3 T4 T5 T6 T7 T8
    have X0 := X.get 0
    have X1 := X.get 1
    have X2 := X.get 2
    have X3 := X.get 3
    simp only [List.getElem?_toArray, List.getElem?_cons_zero, List.getElem?_cons_succ] at X0 X1 X2 X3
    go_wp2_with fail
    clear T0 T1 T2 T3 T4 T5 T6 T7 T8 X0 X1 X2 X3
    refine (CI.out _).mono ?_
    rintro _ w1 ⟨rfl, h1⟩
    replace U := Up.trans (by first | exact U | exact U.drew | exact U.drewN _) h1
    replace T := T.up (Up.trans (by first | exact Up.refl _ | exact (Up.refl _).drew | exact (Up.refl _).drewN _) h1)
    replace X := X.up (Up.trans (by first | exact Up.refl _ | exact (Up.refl _).drew | exact (Up.refl _).drewN _) h1)
    clear h1 CI
    have T0 := T.get 0
    have T1 := T.get 1
    have T2 := T.get 2
    have T3 := T.get 3
    have T4 := T.get 4
    have T5 := T.get 5
    have T6 := T.get 6
    have T7 := T.get 7
    have T8 := T.get 8
    simp only [List.getElem?_toArray, List.getElem?_cons_zero, List.getElem?_cons_succ] at T0 T1 T2 T3 T4 T5 T6 T7 T8
    have X0 := X.get 0
    have X1 := X.get 1
    have X2 := X.get 2
    have X3 := X.get 3
    simp only [List.getElem?_toArray, List.getElem?_cons_zero, List.getElem?_cons_succ] at X0 X1 X2 X3
    go_wp2_with fail
    clear T0 T1 T2 T3 T4 T5 T6 T7 T8 X0 X1 X2 X3
    refine (CR.out _ (by first | exact U | exact U.drew | exact U.drewN _)).mono ?_
    rintro _ w2 ⟨rfl, h2⟩
    replace U := Up.trans (by first | exact U | exact U.drew | exact U.drewN _) h2
    replace T := T.up (Up.trans (by first | exact Up.refl _ | exact (Up.refl _).drew | exact (Up.refl _).drewN _) h2)
    replace X := X.up (Up.trans (by first | exact Up.refl _ | exact (Up.refl _).drew | exact (Up.refl _).drewN _) h2)
    clear h2
    clear CR
    have T0 := T.get 0
    have T1 := T.get 1
    have T2 := T.get 2
    have T3 := T.get 3
    have T4 := T.get 4
    have T5 := T.get 5
    have T6 := T.get 6
    have T7 := T.get 7
    have T8 := T.get 8
    simp only [List.getElem?_toArray, List.getElem?_cons_zero, List.getElem?_cons_succ] at T0 T1 T2 T3 T4 T5 T6 T7 T8
    have X0 := X.get 0
    have X1 := X.get 1
    have X2 := X.get 2
    have X3 := X.get 3
    simp only [List.getElem?_toArray, List.getElem?_cons_zero, List.getElem?_cons_succ] at X0 X1 X2 X3
    go_wp2_with fail
    clear T0 T1 T2 T3 T4 T5 T6 T7 T8 X0 X1 X2 X3
    go_ret2
    exact ⟨rfl, by first | exact U | exact U.drew | exact U.drewN _⟩
def Tnr (cs : Array Value) (x : Int) (w : World) (e : Ending) (w' : World) : Prop := e = .returned (.tuple #[.agg cs, .int .i64 x]) ∧ Up w w'
set_option maxHeartbeats 4000000 in
set_option maxRecDepth 100000 in
theorem turnerTo_out (w : World) (jj mode : Int) (h : jj < 1 ∨ 15 ≤ jj) : Calls Tryz.prog 10 #[.int .i64 jj, .int .i64 mode] w (Tnr #[.int .i64 0, .int .i64 0, .int .i64 0, .int .i64 0, .int .u64 0, .int .u64 0, .int .u64 0, .int .i64 0, .int .i64 0] 3 w) := by
  have CO := Lib.hid (fun W => of_out W jj h)
  clear h
  have U := Up.refl w
  go_enter Tryz.func10, Tryz.ntmps10
  go_upto_region 1 with fail
  obtain ⟨VT, hVT⟩ : ∃ VT, w.alloc (.cells #[.int .i64 0, .int .i64 0, .int .i64 0, .int .i64 0, .int .u64 0, .int .u64 0, .int .u64 0, .int .i64 0, .int .i64 0] 37) = VT := ⟨_, rfl⟩
  have T : Ob VT w.heap.size 37 #[.int .i64 0, .int .i64 0, .int .i64 0, .int .i64 0, .int .u64 0, .int .u64 0, .int .u64 0, .int .i64 0, .int .i64 0] := by rw [← hVT]; exact Ob.mk_ _ _ _
  have uVT : Up w VT := by rw [← hVT]; exact (Up.refl _).alloc _
  rw [hVT]
  replace U := U.trans uVT
  clear hVT uVT
  go_wp2_with fail
  refine (CO.out _).mono ?_
  rintro _ w1 ⟨rfl, h1⟩
  replace U := Up.trans (by first | exact U | exact U.drew | exact U.drewN _) h1
  replace T := T.up (Up.trans (by first | exact Up.refl _ | exact (Up.refl _).drew | exact (Up.refl _).drewN _) h1)
  clear h1 CO
  go_upto_region 2 with fail
  obtain ⟨VF, hVF⟩ : ∃ VF, w1.alloc (.cells #[.int .i64 0, .int .i64 0, .int .i64 0, .int .i64 0, .int .u64 0, .int .u64 0, .int .u64 0] 35) = VF := ⟨_, rfl⟩
  have F : Ob VF w1.heap.size 35 #[.int .i64 0, .int .i64 0, .int .i64 0, .int .i64 0, .int .u64 0, .int .u64 0, .int .u64 0] := by rw [← hVF]; exact Ob.mk_ _ _ _
  have uVF : Up w1 VF := by rw [← hVF]; exact (Up.refl _).alloc _
  rw [hVF]
  clear hVF
  replace U := U.trans uVF
  replace T := T.up uVF
  go_wp2_with (refine store_ob2 rfl 37 _ _ rfl _ #[.int .i64 0, .int .i64 0, .int .i64 0, .int .i64 0, .int .u64 0, .int .u64 0, .int .u64 0, .int .i64 0, .int .i64 0] #[.int .i64 0, .int .i64 0, .int .i64 0, .int .i64 0, .int .u64 0, .int .u64 0, .int .u64 0, .int .i64 0, .int .i64 0] rfl rfl 9 (by kernel_rfl) rfl rfl (by simp [Value.oneCell']) w U (Nat.le_refl _) 37 T ?_; clear U T; intro V9 T U ho; clear ho)
  have T0 := T.get 0
  have T1 := T.get 1
  have T2 := T.get 2
  have T3 := T.get 3
  have T4 := T.get 4
  have T5 := T.get 5
  have T6 := T.get 6
  have T7 := T.get 7
  have T8 := T.get 8
  simp only [List.getElem?_toArray, List.getElem?_cons_zero, List.getElem?_cons_succ] at T0 T1 T2 T3 T4 T5 T6 T7 T8
  exact bodyPost_ret (v := .tuple #[.agg #[.int .i64 0, .int .i64 0, .int .i64 0, .int .i64 0, .int .u64 0, .int .u64 0, .int .u64 0, .int .i64 0, .int .i64 0], .int .i64 3]) (by simp [results, Tryz.results10, go_sem, T0, T1, T2, T3, T4, T5, T6, T7, T8]) rfl ⟨rfl, by first | exact U | exact U.drew | exact U.drewN _⟩
set_option maxHeartbeats 4000000 in
set_option maxRecDepth 100000 in
theorem turnerTo_in (w : World) (TF : Hid (TabF w)) (j : Nat) (f : M.Fm) (hf : M.tb j = f) (j1 : 1 ≤ j) (j2 : j ≤ 14) (mode : Int) (cs : Array Value) (x : Int) (hx : (mode = 1 ∧ cs = #[.int .i64 f.k, .int .i64 f.W, .int .i64 f.m, .int .i64 f.b, .int .u64 f.t, .int .u64 f.n, .int .u64 f.x, .int .i64 (j : Int), .int .i64 mode] ∧ x = 0) ∨ (mode = 2 ∧ cs = #[.int .i64 f.k, .int .i64 f.W, .int .i64 f.m, .int .i64 f.b, .int .u64 f.t, .int .u64 f.n, .int .u64 f.x, .int .i64 (j : Int), .int .i64 mode] ∧ x = 0) ∨ ((mode != 1) = true ∧ (mode != 2) = true ∧ cs = #[.int .i64 0, .int .i64 0, .int .i64 0, .int .i64 0, .int .u64 0, .int .u64 0, .int .u64 0, .int .i64 0, .int .i64 0] ∧ x = 1)) : Calls Tryz.prog 10 #[.int .i64 (j : Int), .int .i64 mode] w (Tnr cs x w) := by
  have CO := Lib.hid (fun W (u : Up w W) => of_in W (TF.out.up u) j f (Lib.hid hf) j1 j2)
  clear hf j1 j2 TF
  have U := Up.refl w
  rcases hx with ⟨rfl, rfl, rfl⟩ | ⟨rfl, rfl, rfl⟩ | ⟨d1, d2, rfl, rfl⟩
  · go_enter Tryz.func10, Tryz.ntmps10
    go_upto_region 1 with fail
    obtain ⟨VT, hVT⟩ : ∃ VT, w.alloc (.cells #[.int .i64 0, .int .i64 0, .int .i64 0, .int .i64 0, .int .u64 0, .int .u64 0, .int .u64 0, .int .i64 0, .int .i64 0] 37) = VT := ⟨_, rfl⟩
    have T : Ob VT w.heap.size 37 #[.int .i64 0, .int .i64 0, .int .i64 0, .int .i64 0, .int .u64 0, .int .u64 0, .int .u64 0, .int .i64 0, .int .i64 0] := by rw [← hVT]; exact Ob.mk_ _ _ _
    have uVT : Up w VT := by rw [← hVT]; exact (Up.refl _).alloc _
    rw [hVT]
    replace U := U.trans uVT
    clear hVT uVT
    go_wp2_with fail
    refine (CO.out _ (by first | exact U | exact U.drew | exact U.drewN _)).mono ?_
    rintro _ w1 ⟨rfl, h1⟩
    replace U := Up.trans (by first | exact U | exact U.drew | exact U.drewN _) h1
    replace T := T.up (Up.trans (by first | exact Up.refl _ | exact (Up.refl _).drew | exact (Up.refl _).drewN _) h1)
    clear h1 CO
    go_upto_region 2 with fail
    obtain ⟨VF, hVF⟩ : ∃ VF, w1.alloc (.cells #[.int .i64 f.k, .int .i64 f.W, .int .i64 f.m, .int .i64 f.b, .int .u64 f.t, .int .u64 f.n, .int .u64 f.x] 35) = VF := ⟨_, rfl⟩
    have F : Bf VF w1.heap.size 35 f := by rw [← hVF]; exact Bf.mk_ _ _ _
    have uVF : Up w1 VF := by rw [← hVF]; exact (Up.refl _).alloc _
    rw [hVF]
    clear hVF
    replace U := U.trans uVF
    replace T := T.up uVF
    obtain ⟨F0, F1, F2, F3, F4, F5, F6⟩ := Bf.cs F
    try simp only [Nat.zero_add] at F1 F2 F3 F4 F5 F6
    go_wp2_with (refine store_ob2 rfl 37 _ _ rfl _ #[.int .i64 0, .int .i64 0, .int .i64 0, .int .i64 0, .int .u64 0, .int .u64 0, .int .u64 0, .int .i64 0, .int .i64 0] #[.int .i64 f.k, .int .i64 f.W, .int .i64 f.m, .int .i64 f.b, .int .u64 f.t, .int .u64 f.n, .int .u64 f.x, .int .i64 (j : Int), .int .i64 1] rfl rfl 9 (by kernel_rfl) rfl rfl (by simp [Value.oneCell']) w U (Nat.le_refl _) 37 T ?_; clear U T; intro V9 T U ho; clear ho)
    have T0 := T.get 0
    have T1 := T.get 1
    have T2 := T.get 2
    have T3 := T.get 3
    have T4 := T.get 4
    have T5 := T.get 5
    have T6 := T.get 6
    have T7 := T.get 7
    have T8 := T.get 8
    simp only [List.getElem?_toArray, List.getElem?_cons_zero, List.getElem?_cons_succ] at T0 T1 T2 T3 T4 T5 T6 T7 T8
    exact bodyPost_ret (v := .tuple #[.agg #[.int .i64 f.k, .int .i64 f.W, .int .i64 f.m, .int .i64 f.b, .int .u64 f.t, .int .u64 f.n, .int .u64 f.x, .int .i64 (j : Int), .int .i64 1], .int .i64 0]) (by simp [results, Tryz.results10, go_sem, T0, T1, T2, T3, T4, T5, T6, T7, T8]) rfl ⟨rfl, by first | exact U | exact U.drew | exact U.drewN _⟩
  · go_enter Tryz.func10, Tryz.ntmps10
    go_upto_region 1 with fail
    obtain ⟨VT, hVT⟩ : ∃ VT, w.alloc (.cells #[.int .i64 0, .int .i64 0, .int .i64 0, .int .i64 0, .int .u64 0, .int .u64 0, .int .u64 0, .int .i64 0, .int .i64 0] 37) = VT := ⟨_, rfl⟩
    have T : Ob VT w.heap.size 37 #[.int .i64 0, .int .i64 0, .int .i64 0, .int .i64 0, .int .u64 0, .int .u64 0, .int .u64 0, .int .i64 0, .int .i64 0] := by rw [← hVT]; exact Ob.mk_ _ _ _
    have uVT : Up w VT := by rw [← hVT]; exact (Up.refl _).alloc _
    rw [hVT]
    replace U := U.trans uVT
    clear hVT uVT
    go_wp2_with fail
    refine (CO.out _ (by first | exact U | exact U.drew | exact U.drewN _)).mono ?_
    rintro _ w1 ⟨rfl, h1⟩
    replace U := Up.trans (by first | exact U | exact U.drew | exact U.drewN _) h1
    replace T := T.up (Up.trans (by first | exact Up.refl _ | exact (Up.refl _).drew | exact (Up.refl _).drewN _) h1)
    clear h1 CO
    go_upto_region 2 with fail
    obtain ⟨VF, hVF⟩ : ∃ VF, w1.alloc (.cells #[.int .i64 f.k, .int .i64 f.W, .int .i64 f.m, .int .i64 f.b, .int .u64 f.t, .int .u64 f.n, .int .u64 f.x] 35) = VF := ⟨_, rfl⟩
    have F : Bf VF w1.heap.size 35 f := by rw [← hVF]; exact Bf.mk_ _ _ _
    have uVF : Up w1 VF := by rw [← hVF]; exact (Up.refl _).alloc _
    rw [hVF]
    clear hVF
    replace U := U.trans uVF
    replace T := T.up uVF
    obtain ⟨F0, F1, F2, F3, F4, F5, F6⟩ := Bf.cs F
    try simp only [Nat.zero_add] at F1 F2 F3 F4 F5 F6
    go_wp2_with (refine store_ob2 rfl 37 _ _ rfl _ #[.int .i64 0, .int .i64 0, .int .i64 0, .int .i64 0, .int .u64 0, .int .u64 0, .int .u64 0, .int .i64 0, .int .i64 0] #[.int .i64 f.k, .int .i64 f.W, .int .i64 f.m, .int .i64 f.b, .int .u64 f.t, .int .u64 f.n, .int .u64 f.x, .int .i64 (j : Int), .int .i64 2] rfl rfl 9 (by kernel_rfl) rfl rfl (by simp [Value.oneCell']) w U (Nat.le_refl _) 37 T ?_; clear U T; intro V9 T U ho; clear ho)
    have T0 := T.get 0
    have T1 := T.get 1
    have T2 := T.get 2
    have T3 := T.get 3
    have T4 := T.get 4
    have T5 := T.get 5
    have T6 := T.get 6
    have T7 := T.get 7
    have T8 := T.get 8
    simp only [List.getElem?_toArray, List.getElem?_cons_zero, List.getElem?_cons_succ] at T0 T1 T2 T3 T4 T5 T6 T7 T8
    exact bodyPost_ret (v := .tuple #[.agg #[.int .i64 f.k, .int .i64 f.W, .int .i64 f.m, .int .i64 f.b, .int .u64 f.t, .int .u64 f.n, .int .u64 f.x, .int .i64 (j : Int), .int .i64 2], .int .i64 0]) (by simp [results, Tryz.results10, go_sem, T0, T1, T2, T3, T4, T5, T6, T7, T8]) rfl ⟨rfl, by first | exact U | exact U.drew | exact U.drewN _⟩
  · go_enter Tryz.func10, Tryz.ntmps10
    go_upto_region 1 with fail
    obtain ⟨VT, hVT⟩ : ∃ VT, w.alloc (.cells #[.int .i64 0, .int .i64 0, .int .i64 0, .int .i64 0, .int .u64 0, .int .u64 0, .int .u64 0, .int .i64 0, .int .i64 0] 37) = VT := ⟨_, rfl⟩
    have T : Ob VT w.heap.size 37 #[.int .i64 0, .int .i64 0, .int .i64 0, .int .i64 0, .int .u64 0, .int .u64 0, .int .u64 0, .int .i64 0, .int .i64 0] := by rw [← hVT]; exact Ob.mk_ _ _ _
    have uVT : Up w VT := by rw [← hVT]; exact (Up.refl _).alloc _
    rw [hVT]
    replace U := U.trans uVT
    clear hVT uVT
    go_wp2_with fail
    refine (CO.out _ (by first | exact U | exact U.drew | exact U.drewN _)).mono ?_
    rintro _ w1 ⟨rfl, h1⟩
    replace U := Up.trans (by first | exact U | exact U.drew | exact U.drewN _) h1
    replace T := T.up (Up.trans (by first | exact Up.refl _ | exact (Up.refl _).drew | exact (Up.refl _).drewN _) h1)
    clear h1 CO
    go_upto_region 2 with fail
    obtain ⟨VF, hVF⟩ : ∃ VF, w1.alloc (.cells #[.int .i64 f.k, .int .i64 f.W, .int .i64 f.m, .int .i64 f.b, .int .u64 f.t, .int .u64 f.n, .int .u64 f.x] 35) = VF := ⟨_, rfl⟩
    have F : Bf VF w1.heap.size 35 f := by rw [← hVF]; exact Bf.mk_ _ _ _
    have uVF : Up w1 VF := by rw [← hVF]; exact (Up.refl _).alloc _
    rw [hVF]
    clear hVF
    replace U := U.trans uVF
    replace T := T.up uVF
    obtain ⟨F0, F1, F2, F3, F4, F5, F6⟩ := Bf.cs F
    try simp only [Nat.zero_add] at F1 F2 F3 F4 F5 F6
    go_wp2_with (refine store_ob2 rfl 37 _ _ rfl _ #[.int .i64 0, .int .i64 0, .int .i64 0, .int .i64 0, .int .u64 0, .int .u64 0, .int .u64 0, .int .i64 0, .int .i64 0] #[.int .i64 0, .int .i64 0, .int .i64 0, .int .i64 0, .int .u64 0, .int .u64 0, .int .u64 0, .int .i64 0, .int .i64 0] rfl rfl 9 (by kernel_rfl) rfl rfl (by simp [Value.oneCell']) w U (Nat.le_refl _) 37 T ?_; clear U T; intro V9 T U ho; clear ho)
    have T0 := T.get 0
    have T1 := T.get 1
    have T2 := T.get 2
    have T3 := T.get 3
    have T4 := T.get 4
    have T5 := T.get 5
    have T6 := T.get 6
    have T7 := T.get 7
    have T8 := T.get 8
    simp only [List.getElem?_toArray, List.getElem?_cons_zero, List.getElem?_cons_succ] at T0 T1 T2 T3 T4 T5 T6 T7 T8
    exact bodyPost_ret (v := .tuple #[.agg #[.int .i64 0, .int .i64 0, .int .i64 0, .int .i64 0, .int .u64 0, .int .u64 0, .int .u64 0, .int .i64 0, .int .i64 0], .int .i64 1]) (by simp [results, Tryz.results10, go_sem, T0, T1, T2, T3, T4, T5, T6, T7, T8]) rfl ⟨rfl, by first | exact U | exact U.drew | exact U.drewN _⟩
set_option maxHeartbeats 4000000 in
set_option maxRecDepth 100000 in
theorem tturn14_any (w : World) (TT : Hid (Tz w)) (TF : Hid (TabF w)) (ii jj mode : Int) (p q : Nat) (pb : p < 18446744073709551616) (x : Int) (h : M.Tc ii jj mode p q x) : Calls Tryz.prog 5 #[.int .i64 ii, .int .i64 jj, .int .i64 mode, u64 p] w (Pqx q x w) := by
  obtain ⟨c, g, m, z, e, hd, hr⟩ := h
  have CD := Lib.hid (fun W (u : Up w W) => vdecode_any W (Lib.hid (TT.out.up u)) (Lib.hid (TF.out.up u)) ii p pb c g m z e hd)
  have U := Up.refl w
  rcases hr with ⟨e0, rfl, rfl⟩ | ⟨rfl, ho, rfl, rfl⟩ | ⟨rfl, j, rfl, j1, j2, hr⟩
  · have d1 := M.nx14 e0
    clear e0 hd TT TF
    go_enter Tryz.func5, Tryz.ntmps5
    go_wp2_with fail
    refine (CD.out _ (by first | exact U | exact U.drew | exact U.drewN _)).mono ?_
    rintro _ w1 ⟨rfl, h1⟩
    replace U := Up.trans (by first | exact U | exact U.drew | exact U.drewN _) h1
    clear h1
    clear CD
    go_upto_region 2 with fail
    obtain ⟨VX, hVX⟩ : ∃ VX, w1.alloc (.cells #[.int .i64 c, .bool g, u64 m, .int .i64 z] 31) = VX := ⟨_, rfl⟩
    have X : Ob VX w1.heap.size 31 #[.int .i64 c, .bool g, u64 m, .int .i64 z] := by rw [← hVX]; exact Ob.mk_ _ _ _
    have uVX : Up w1 VX := by rw [← hVX]; exact (Up.refl _).alloc _
    rw [hVX]
    clear hVX
    replace U := U.trans uVX
    have X0 := X.get 0
    have X1 := X.get 1
    have X2 := X.get 2
    have X3 := X.get 3
    simp only [List.getElem?_toArray, List.getElem?_cons_zero, List.getElem?_cons_succ] at X0 X1 X2 X3
    go_wp2_with fail
    clear X0 X1 X2 X3
    go_ret2
    exact ⟨rfl, by first | exact U | exact U.drew | exact U.drewN _⟩
  · have CO := Lib.hid (fun W (u : Up w W) => turnerTo_out W jj mode ho)
    clear ho hd TT TF
    go_enter Tryz.func5, Tryz.ntmps5
    go_wp2_with fail
    refine (CD.out _ (by first | exact U | exact U.drew | exact U.drewN _)).mono ?_
    rintro _ w1 ⟨rfl, h1⟩
    replace U := Up.trans (by first | exact U | exact U.drew | exact U.drewN _) h1
    clear h1
    clear CD
    go_upto_region 2 with fail
    obtain ⟨VX, hVX⟩ : ∃ VX, w1.alloc (.cells #[.int .i64 c, .bool g, u64 m, .int .i64 z] 31) = VX := ⟨_, rfl⟩
    have X : Ob VX w1.heap.size 31 #[.int .i64 c, .bool g, u64 m, .int .i64 z] := by rw [← hVX]; exact Ob.mk_ _ _ _
    have uVX : Up w1 VX := by rw [← hVX]; exact (Up.refl _).alloc _
    rw [hVX]
    clear hVX
    replace U := U.trans uVX
    have X0 := X.get 0
    have X1 := X.get 1
    have X2 := X.get 2
    have X3 := X.get 3
    simp only [List.getElem?_toArray, List.getElem?_cons_zero, List.getElem?_cons_succ] at X0 X1 X2 X3
    go_wp2_with fail
    clear X0 X1 X2 X3
    refine (CO.out _ (by first | exact U | exact U.drew | exact U.drewN _)).mono ?_
    rintro _ w2 ⟨rfl, h2⟩
    replace U := Up.trans (by first | exact U | exact U.drew | exact U.drewN _) h2
    replace X := X.up (Up.trans (by first | exact Up.refl _ | exact (Up.refl _).drew | exact (Up.refl _).drewN _) h2)
    clear h2
    clear CO
    have X0 := X.get 0
    have X1 := X.get 1
    have X2 := X.get 2
    have X3 := X.get 3
    simp only [List.getElem?_toArray, List.getElem?_cons_zero, List.getElem?_cons_succ] at X0 X1 X2 X3
    go_upto_region 5 with fail
    clear X0 X1 X2 X3
    obtain ⟨VT, hVT⟩ : ∃ VT, w2.alloc (.cells #[.int .i64 0, .int .i64 0, .int .i64 0, .int .i64 0, .int .u64 0, .int .u64 0, .int .u64 0, .int .i64 0, .int .i64 0] 37) = VT := ⟨_, rfl⟩
    have T : Ob VT w2.heap.size 37 #[.int .i64 0, .int .i64 0, .int .i64 0, .int .i64 0, .int .u64 0, .int .u64 0, .int .u64 0, .int .i64 0, .int .i64 0] := by rw [← hVT]; exact Ob.mk_ _ _ _
    have uVT : Up w2 VT := by rw [← hVT]; exact (Up.refl _).alloc _
    rw [hVT]
    clear hVT
    replace U := U.trans uVT
    replace X := X.up uVT
    have X0 := X.get 0
    have X1 := X.get 1
    have X2 := X.get 2
    have X3 := X.get 3
    simp only [List.getElem?_toArray, List.getElem?_cons_zero, List.getElem?_cons_succ] at X0 X1 X2 X3
    have T0 := T.get 0
    have T1 := T.get 1
    have T2 := T.get 2
    have T3 := T.get 3
    have T4 := T.get 4
    have T5 := T.get 5
    have T6 := T.get 6
    have T7 := T.get 7
    have T8 := T.get 8
    simp only [List.getElem?_toArray, List.getElem?_cons_zero, List.getElem?_cons_succ] at T0 T1 T2 T3 T4 T5 T6 T7 T8
    go_wp2_with fail
    clear X0 X1 X2 X3 T0 T1 T2 T3 T4 T5 T6 T7 T8
    go_ret2
    exact ⟨rfl, by first | exact U | exact U.drew | exact U.drewN _⟩
  · have mb : m < 18446744073709551616 ∧ (c = 1 ∨ c = 2 → -5000 ≤ z ∧ z ≤ 5000) ∧ (c = 1 → m = 0 ∧ z = 0) := by
      obtain ⟨i, rfl, i1, i2, hp, hv⟩ := M.dc_have hd
      by_cases hc : c = 1 ∨ c = 2
      · obtain ⟨_, a, b⟩ := M.has_rv (M.ok i i1 i2) (M.ok2 i i1 i2) (M.ok3 i i1 i2) hp hv hc 1
        refine ⟨a, fun _ => by omega, fun e => ?_⟩
        rcases hv with ⟨_, h, _⟩ | ⟨_, h, _⟩ | ⟨_, _, _, h⟩ | ⟨_, h, _⟩
        · omega
        · omega
        · exact h
        · omega
      · refine ⟨?_, fun e => absurd e hc, fun e => absurd (.inl e) hc⟩
        rcases hv with ⟨_, _, _, rfl, _⟩ | ⟨_, _, _, rfl, _⟩ | ⟨_, h, _⟩ | ⟨_, h, _⟩
        · decide
        · decide
        · exact absurd (.inl h) hc
        · exact absurd (.inr h) hc
    obtain ⟨f, hf⟩ : ∃ f, M.tb j = f := ⟨_, rfl⟩
    rw [hf] at hr
    rcases hr with ⟨hm, rfl, rfl⟩ | ⟨hm, hr, rfl⟩
    · have d1 := M.nx14' (fun e => hm (.inl e))
      have d2 := M.nx14' (fun e => hm (.inr e))
      have CO := Lib.hid (fun W (u : Up w W) => turnerTo_in W (TF.out.up u) j f hf j1 j2 mode _ _ (.inr (.inr ⟨d1, d2, rfl, rfl⟩)))
      clear hm mb d1 d2 hd hf j1 j2 TT TF pb
      go_enter Tryz.func5, Tryz.ntmps5
      go_wp2_with fail
      refine (CD.out _ (by first | exact U | exact U.drew | exact U.drewN _)).mono ?_
      rintro _ w1 ⟨rfl, h1⟩
      replace U := Up.trans (by first | exact U | exact U.drew | exact U.drewN _) h1
      clear h1
      clear CD
      go_upto_region 2 with fail
      obtain ⟨VX, hVX⟩ : ∃ VX, w1.alloc (.cells #[.int .i64 c, .bool g, u64 m, .int .i64 z] 31) = VX := ⟨_, rfl⟩
      have X : Ob VX w1.heap.size 31 #[.int .i64 c, .bool g, u64 m, .int .i64 z] := by rw [← hVX]; exact Ob.mk_ _ _ _
      have uVX : Up w1 VX := by rw [← hVX]; exact (Up.refl _).alloc _
      rw [hVX]
      clear hVX
      replace U := U.trans uVX
      have X0 := X.get 0
      have X1 := X.get 1
      have X2 := X.get 2
      have X3 := X.get 3
      simp only [List.getElem?_toArray, List.getElem?_cons_zero, List.getElem?_cons_succ] at X0 X1 X2 X3
      go_wp2_with fail
      clear X0 X1 X2 X3
      refine (CO.out _ (by first | exact U | exact U.drew | exact U.drewN _)).mono ?_
      rintro _ w2 ⟨rfl, h2⟩
      replace U := Up.trans (by first | exact U | exact U.drew | exact U.drewN _) h2
      replace X := X.up (Up.trans (by first | exact Up.refl _ | exact (Up.refl _).drew | exact (Up.refl _).drewN _) h2)
      clear h2
      clear CO
      have X0 := X.get 0
      have X1 := X.get 1
      have X2 := X.get 2
      have X3 := X.get 3
      simp only [List.getElem?_toArray, List.getElem?_cons_zero, List.getElem?_cons_succ] at X0 X1 X2 X3
      go_upto_region 5 with fail
      clear X0 X1 X2 X3
      obtain ⟨VT, hVT⟩ : ∃ VT, w2.alloc (.cells #[.int .i64 0, .int .i64 0, .int .i64 0, .int .i64 0, .int .u64 0, .int .u64 0, .int .u64 0, .int .i64 0, .int .i64 0] 37) = VT := ⟨_, rfl⟩
      have T : Ob VT w2.heap.size 37 #[.int .i64 0, .int .i64 0, .int .i64 0, .int .i64 0, .int .u64 0, .int .u64 0, .int .u64 0, .int .i64 0, .int .i64 0] := by rw [← hVT]; exact Ob.mk_ _ _ _
      have uVT : Up w2 VT := by rw [← hVT]; exact (Up.refl _).alloc _
      rw [hVT]
      clear hVT
      replace U := U.trans uVT
      replace X := X.up uVT
      have X0 := X.get 0
      have X1 := X.get 1
      have X2 := X.get 2
      have X3 := X.get 3
      simp only [List.getElem?_toArray, List.getElem?_cons_zero, List.getElem?_cons_succ] at X0 X1 X2 X3
      have T0 := T.get 0
      have T1 := T.get 1
      have T2 := T.get 2
      have T3 := T.get 3
      have T4 := T.get 4
      have T5 := T.get 5
      have T6 := T.get 6
      have T7 := T.get 7
      have T8 := T.get 8
      simp only [List.getElem?_toArray, List.getElem?_cons_zero, List.getElem?_cons_succ] at T0 T1 T2 T3 T4 T5 T6 T7 T8
      go_wp2_with fail
      clear X0 X1 X2 X3 T0 T1 T2 T3 T4 T5 T6 T7 T8
      go_ret2
      exact ⟨rfl, by first | exact U | exact U.drew | exact U.drewN _⟩
    · have CO := Lib.hid (fun W (u : Up w W) => turnerTo_in W (TF.out.up u) j f hf j1 j2 mode #[.int .i64 f.k, .int .i64 f.W, .int .i64 f.m, .int .i64 f.b, .int .u64 f.t, .int .u64 f.n, .int .u64 f.x, .int .i64 (j : Int), .int .i64 mode] 0 (by rcases hm with e | e; exact .inl ⟨e, rfl, rfl⟩; exact .inr (.inl ⟨e, rfl, rfl⟩)))
      have CT := Lib.hid (fun W (u : Up w W) => turn14_any W (Lib.hid (TT.out.up u)) (Lib.hid (TF.out.up u)) f j hf j1 j2 mode c hm g m z mb.1 mb.2.2 mb.2.1 q hr)
      clear hm hr mb hd hf j1 j2 TT TF pb
      go_enter Tryz.func5, Tryz.ntmps5
      go_wp2_with fail
      refine (CD.out _ (by first | exact U | exact U.drew | exact U.drewN _)).mono ?_
      rintro _ w1 ⟨rfl, h1⟩
      replace U := Up.trans (by first | exact U | exact U.drew | exact U.drewN _) h1
      clear h1
      clear CD
      go_upto_region 2 with fail
      obtain ⟨VX, hVX⟩ : ∃ VX, w1.alloc (.cells #[.int .i64 c, .bool g, u64 m, .int .i64 z] 31) = VX := ⟨_, rfl⟩
      have X : Ob VX w1.heap.size 31 #[.int .i64 c, .bool g, u64 m, .int .i64 z] := by rw [← hVX]; exact Ob.mk_ _ _ _
      have uVX : Up w1 VX := by rw [← hVX]; exact (Up.refl _).alloc _
      rw [hVX]
      clear hVX
      replace U := U.trans uVX
      have X0 := X.get 0
      have X1 := X.get 1
      have X2 := X.get 2
      have X3 := X.get 3
      simp only [List.getElem?_toArray, List.getElem?_cons_zero, List.getElem?_cons_succ] at X0 X1 X2 X3
      go_wp2_with fail
      clear X0 X1 X2 X3
      refine (CO.out _ (by first | exact U | exact U.drew | exact U.drewN _)).mono ?_
      rintro _ w2 ⟨rfl, h2⟩
      replace U := Up.trans (by first | exact U | exact U.drew | exact U.drewN _) h2
      replace X := X.up (Up.trans (by first | exact Up.refl _ | exact (Up.refl _).drew | exact (Up.refl _).drewN _) h2)
      clear h2
      clear CO
      have X0 := X.get 0
      have X1 := X.get 1
      have X2 := X.get 2
      have X3 := X.get 3
      simp only [List.getElem?_toArray, List.getElem?_cons_zero, List.getElem?_cons_succ] at X0 X1 X2 X3
      go_upto_region 5 with fail
      clear X0 X1 X2 X3
      obtain ⟨VT, hVT⟩ : ∃ VT, w2.alloc (.cells #[.int .i64 f.k, .int .i64 f.W, .int .i64 f.m, .int .i64 f.b, .int .u64 f.t, .int .u64 f.n, .int .u64 f.x, .int .i64 (j : Int), .int .i64 mode] 37) = VT := ⟨_, rfl⟩
      have T : Ob VT w2.heap.size 37 #[.int .i64 f.k, .int .i64 f.W, .int .i64 f.m, .int .i64 f.b, .int .u64 f.t, .int .u64 f.n, .int .u64 f.x, .int .i64 (j : Int), .int .i64 mode] := by rw [← hVT]; exact Ob.mk_ _ _ _
      have uVT : Up w2 VT := by rw [← hVT]; exact (Up.refl _).alloc _
      rw [hVT]
      clear hVT
      replace U := U.trans uVT
      replace X := X.up uVT
      have X0 := X.get 0
      have X1 := X.get 1
      have X2 := X.get 2
      have X3 := X.get 3
      simp only [List.getElem?_toArray, List.getElem?_cons_zero, List.getElem?_cons_succ] at X0 X1 X2 X3
      have T0 := T.get 0
      have T1 := T.get 1
      have T2 := T.get 2
      have T3 := T.get 3
      have T4 := T.get 4
      have T5 := T.get 5
      have T6 := T.get 6
      have T7 := T.get 7
      have T8 := T.get 8
      simp only [List.getElem?_toArray, List.getElem?_cons_zero, List.getElem?_cons_succ] at T0 T1 T2 T3 T4 T5 T6 T7 T8
      go_wp2_with fail
      clear X0 X1 X2 X3 T0 T1 T2 T3 T4 T5 T6 T7 T8
      refine (CT.out _ (by first | exact U | exact U.drew | exact U.drewN _)).mono ?_
      rintro _ w3 ⟨rfl, h3⟩
      replace U := Up.trans (by first | exact U | exact U.drew | exact U.drewN _) h3
      replace X := X.up (Up.trans (by first | exact Up.refl _ | exact (Up.refl _).drew | exact (Up.refl _).drewN _) h3)
      replace T := T.up (Up.trans (by first | exact Up.refl _ | exact (Up.refl _).drew | exact (Up.refl _).drewN _) h3)
      clear h3
      clear CT
      have X0 := X.get 0
      have X1 := X.get 1
      have X2 := X.get 2
      have X3 := X.get 3
      simp only [List.getElem?_toArray, List.getElem?_cons_zero, List.getElem?_cons_succ] at X0 X1 X2 X3
      have T0 := T.get 0
      have T1 := T.get 1
      have T2 := T.get 2
      have T3 := T.get 3
      have T4 := T.get 4
      have T5 := T.get 5
      have T6 := T.get 6
      have T7 := T.get 7
      have T8 := T.get 8
      simp only [List.getElem?_toArray, List.getElem?_cons_zero, List.getElem?_cons_succ] at T0 T1 T2 T3 T4 T5 T6 T7 T8
      go_wp2_with fail
      clear X0 X1 X2 X3 T0 T1 T2 T3 T4 T5 T6 T7 T8
      go_ret2
      exact ⟨rfl, by first | exact U | exact U.drew | exact U.drewN _⟩
set_option maxHeartbeats 4000000 in
set_option maxRecDepth 100000 in
theorem tjust14_any (w : World) (TT : Hid (Tz w)) (TF : Hid (TabF w)) (ii jj : Int) (p : Nat) (b : Bool) (pb : p < 18446744073709551616) (x : Int) (h : M.Jus ii jj p b x) : Calls Tryz.prog 7 #[.int .i64 ii, .int .i64 jj, u64 p] w (Pbx b x w) := by
  obtain ⟨q, ht, hr⟩ := h
  obtain ⟨q', x', h', qb⟩ := M.tc_ex ii jj 2 p
  obtain ⟨rfl, rfl⟩ := M.tc_one ht h'
  have CT := Lib.hid (fun W (u : Up w W) => tturn14_any W (Lib.hid (TT.out.up u)) (Lib.hid (TF.out.up u)) ii jj 2 p q pb x ht)
  have U := Up.refl w
  clear ht h'
  rcases hr with ⟨x0, rfl⟩ | ⟨rfl, c, g, m, z, c', g', m', z', hd, hd', he⟩
  · have d1 := M.nx14 x0
    clear x0 TT TF
    go_enter Tryz.func7, Tryz.ntmps7
    go_wp2_with fail
    refine (CT.out _ (by first | exact U | exact U.drew | exact U.drewN _)).mono ?_
    rintro _ w1 ⟨rfl, h1⟩
    replace U := Up.trans (by first | exact U | exact U.drew | exact U.drewN _) h1
    clear h1
    clear CT
    go_wp2_with fail
    go_ret2
    exact ⟨rfl, by first | exact U | exact U.drew | exact U.drewN _⟩
  · have C1 := Lib.hid (fun W (u : Up w W) => vdecode_any W (Lib.hid (TT.out.up u)) (Lib.hid (TF.out.up u)) ii p pb c g m z 0 hd)
    have C2 := Lib.hid (fun W (u : Up w W) => vdecode_any W (Lib.hid (TT.out.up u)) (Lib.hid (TF.out.up u)) jj q qb c' g' m' z' 0 hd')
    clear hd hd' pb qb TT TF
    by_cases hc : c = 1 ∨ c = 2
    · have HE := Lib.hid he
      have CI := Lib.hid (fun W (u : Up w W) => isnum14_any W c g m z true (by rcases hc with e | e; exact .inl ⟨e, rfl⟩; exact .inr (.inl ⟨e, rfl⟩)))
      clear he
      go_enter Tryz.func7, Tryz.ntmps7
      go_wp2_with fail
      refine (CT.out _ (by first | exact U | exact U.drew | exact U.drewN _)).mono ?_
      rintro _ w1 ⟨rfl, h1⟩
      replace U := Up.trans (by first | exact U | exact U.drew | exact U.drewN _) h1
      clear h1
      clear CT
      go_wp2_with fail
      refine (C1.out _ (by first | exact U | exact U.drew | exact U.drewN _)).mono ?_
      rintro _ w2 ⟨rfl, h2⟩
      replace U := Up.trans (by first | exact U | exact U.drew | exact U.drewN _) h2
      clear h2
      clear C1
      go_upto_region 5 with fail
      obtain ⟨VX, hVX⟩ : ∃ VX, w2.alloc (.cells #[.int .i64 c, .bool g, u64 m, .int .i64 z] 31) = VX := ⟨_, rfl⟩
      have X : Ob VX w2.heap.size 31 #[.int .i64 c, .bool g, u64 m, .int .i64 z] := by rw [← hVX]; exact Ob.mk_ _ _ _
      have uVX : Up w2 VX := by rw [← hVX]; exact (Up.refl _).alloc _
      rw [hVX]
      clear hVX
      replace U := U.trans uVX
      have X0 := X.get 0
      have X1 := X.get 1
      have X2 := X.get 2
      have X3 := X.get 3
      simp only [List.getElem?_toArray, List.getElem?_cons_zero, List.getElem?_cons_succ] at X0 X1 X2 X3
      go_wp2_with fail
      clear X0 X1 X2 X3
      refine (C2.out _ (by first | exact U | exact U.drew | exact U.drewN _)).mono ?_
      rintro _ w3 ⟨rfl, h3⟩
      replace U := Up.trans (by first | exact U | exact U.drew | exact U.drewN _) h3
      replace X := X.up (Up.trans (by first | exact Up.refl _ | exact (Up.refl _).drew | exact (Up.refl _).drewN _) h3)
      clear h3
      clear C2
      have X0 := X.get 0
      have X1 := X.get 1
      have X2 := X.get 2
      have X3 := X.get 3
      simp only [List.getElem?_toArray, List.getElem?_cons_zero, List.getElem?_cons_succ] at X0 X1 X2 X3
      go_upto_region 6 with fail
      clear X0 X1 X2 X3
      obtain ⟨VY, hVY⟩ : ∃ VY, w3.alloc (.cells #[.int .i64 c', .bool g', u64 m', .int .i64 z'] 31) = VY := ⟨_, rfl⟩
      have Y : Ob VY w3.heap.size 31 #[.int .i64 c', .bool g', u64 m', .int .i64 z'] := by rw [← hVY]; exact Ob.mk_ _ _ _
      have uVY : Up w3 VY := by rw [← hVY]; exact (Up.refl _).alloc _
      rw [hVY]
      clear hVY
      replace U := U.trans uVY
      replace X := X.up uVY
      have X0 := X.get 0
      have X1 := X.get 1
      have X2 := X.get 2
      have X3 := X.get 3
      simp only [List.getElem?_toArray, List.getElem?_cons_zero, List.getElem?_cons_succ] at X0 X1 X2 X3
      have Y0 := Y.get 0
      have Y1 := Y.get 1
      have Y2 := Y.get 2
      have Y3 := Y.get 3
      simp only [List.getElem?_toArray, List.getElem?_cons_zero, List.getElem?_cons_succ] at Y0 Y1 Y2 Y3
      go_wp2_with fail
      clear X0 X1 X2 X3 Y0 Y1 Y2 Y3
      refine (CI.out _ (by first | exact U | exact U.drew | exact U.drewN _)).mono ?_
      rintro _ w4 ⟨rfl, h4⟩
      replace U := Up.trans (by first | exact U | exact U.drew | exact U.drewN _) h4
      replace X := X.up (Up.trans (by first | exact Up.refl _ | exact (Up.refl _).drew | exact (Up.refl _).drewN _) h4)
      replace Y := Y.up (Up.trans (by first | exact Up.refl _ | exact (Up.refl _).drew | exact (Up.refl _).drewN _) h4)
      clear h4
      clear CI
      have X0 := X.get 0
      have X1 := X.get 1
      have X2 := X.get 2
      have X3 := X.get 3
      simp only [List.getElem?_toArray, List.getElem?_cons_zero, List.getElem?_cons_succ] at X0 X1 X2 X3
      have Y0 := Y.get 0
      have Y1 := Y.get 1
      have Y2 := Y.get 2
      have Y3 := Y.get 3
      simp only [List.getElem?_toArray, List.getElem?_cons_zero, List.getElem?_cons_succ] at Y0 Y1 Y2 Y3
      go_wp2_with fail
      clear X0 X1 X2 X3 Y0 Y1 Y2 Y3
      all_goals
        go_ret2
        refine ⟨?_, by first | exact U | exact U.drew | exact U.drewN _⟩
        have e := HE.out
        clear HE
        unfold M.eqv at e
        rcases (show b = true ∨ b = false by cases b <;> simp) with rfl | rfl
        · have e1 := e.1 rfl
          obtain ⟨_, e1, e2, e3, e4⟩ := e1
          first | rfl | (exfalso; simp_all)
        · have e1 : ¬ _ := fun e1 => by cases e.2 e1
          first | rfl | (exfalso; apply e1; refine ⟨?_, ?_, ?_, ?_, ?_⟩ <;> first | rfl | assumption | omega | simp_all)
    · have d1 : (c == 2) = false := by
        have : c ≠ 2 := fun e => hc (.inr e)
        simpa using this
      have d2 : (c == 1) = false := by
        have : c ≠ 1 := fun e => hc (.inl e)
        simpa using this
      obtain rfl : b = false := by
        cases b
        · rfl
        · exact absurd (he.1 rfl).1 hc
      have CI := Lib.hid (fun W (u : Up w W) => isnum14_any W c g m z false (.inr (.inr ⟨d2, d1, rfl⟩)))
      clear he hc
      go_enter Tryz.func7, Tryz.ntmps7
      go_wp2_with fail
      refine (CT.out _ (by first | exact U | exact U.drew | exact U.drewN _)).mono ?_
      rintro _ w1 ⟨rfl, h1⟩
      replace U := Up.trans (by first | exact U | exact U.drew | exact U.drewN _) h1
      clear h1
      clear CT
      go_wp2_with fail
      refine (C1.out _ (by first | exact U | exact U.drew | exact U.drewN _)).mono ?_
      rintro _ w2 ⟨rfl, h2⟩
      replace U := Up.trans (by first | exact U | exact U.drew | exact U.drewN _) h2
      clear h2
      clear C1
      go_upto_region 5 with fail
      obtain ⟨VX, hVX⟩ : ∃ VX, w2.alloc (.cells #[.int .i64 c, .bool g, u64 m, .int .i64 z] 31) = VX := ⟨_, rfl⟩
      have X : Ob VX w2.heap.size 31 #[.int .i64 c, .bool g, u64 m, .int .i64 z] := by rw [← hVX]; exact Ob.mk_ _ _ _
      have uVX : Up w2 VX := by rw [← hVX]; exact (Up.refl _).alloc _
      rw [hVX]
      clear hVX
      replace U := U.trans uVX
      have X0 := X.get 0
      have X1 := X.get 1
      have X2 := X.get 2
      have X3 := X.get 3
      simp only [List.getElem?_toArray, List.getElem?_cons_zero, List.getElem?_cons_succ] at X0 X1 X2 X3
      go_wp2_with fail
      clear X0 X1 X2 X3
      refine (C2.out _ (by first | exact U | exact U.drew | exact U.drewN _)).mono ?_
      rintro _ w3 ⟨rfl, h3⟩
      replace U := Up.trans (by first | exact U | exact U.drew | exact U.drewN _) h3
      replace X := X.up (Up.trans (by first | exact Up.refl _ | exact (Up.refl _).drew | exact (Up.refl _).drewN _) h3)
      clear h3
      clear C2
      have X0 := X.get 0
      have X1 := X.get 1
      have X2 := X.get 2
      have X3 := X.get 3
      simp only [List.getElem?_toArray, List.getElem?_cons_zero, List.getElem?_cons_succ] at X0 X1 X2 X3
      go_upto_region 6 with fail
      clear X0 X1 X2 X3
      obtain ⟨VY, hVY⟩ : ∃ VY, w3.alloc (.cells #[.int .i64 c', .bool g', u64 m', .int .i64 z'] 31) = VY := ⟨_, rfl⟩
      have Y : Ob VY w3.heap.size 31 #[.int .i64 c', .bool g', u64 m', .int .i64 z'] := by rw [← hVY]; exact Ob.mk_ _ _ _
      have uVY : Up w3 VY := by rw [← hVY]; exact (Up.refl _).alloc _
      rw [hVY]
      clear hVY
      replace U := U.trans uVY
      replace X := X.up uVY
      have X0 := X.get 0
      have X1 := X.get 1
      have X2 := X.get 2
      have X3 := X.get 3
      simp only [List.getElem?_toArray, List.getElem?_cons_zero, List.getElem?_cons_succ] at X0 X1 X2 X3
      have Y0 := Y.get 0
      have Y1 := Y.get 1
      have Y2 := Y.get 2
      have Y3 := Y.get 3
      simp only [List.getElem?_toArray, List.getElem?_cons_zero, List.getElem?_cons_succ] at Y0 Y1 Y2 Y3
      go_wp2_with fail
      clear X0 X1 X2 X3 Y0 Y1 Y2 Y3
      refine (CI.out _ (by first | exact U | exact U.drew | exact U.drewN _)).mono ?_
      rintro _ w4 ⟨rfl, h4⟩
      replace U := Up.trans (by first | exact U | exact U.drew | exact U.drewN _) h4
      replace X := X.up (Up.trans (by first | exact Up.refl _ | exact (Up.refl _).drew | exact (Up.refl _).drewN _) h4)
      replace Y := Y.up (Up.trans (by first | exact Up.refl _ | exact (Up.refl _).drew | exact (Up.refl _).drewN _) h4)
      clear h4
      clear CI
      have X0 := X.get 0
      have X1 := X.get 1
      have X2 := X.get 2
      have X3 := X.get 3
      simp only [List.getElem?_toArray, List.getElem?_cons_zero, List.getElem?_cons_succ] at X0 X1 X2 X3
      have Y0 := Y.get 0
      have Y1 := Y.get 1
      have Y2 := Y.get 2
      have Y3 := Y.get 3
      simp only [List.getElem?_toArray, List.getElem?_cons_zero, List.getElem?_cons_succ] at Y0 Y1 Y2 Y3
      go_wp2_with fail
      clear X0 X1 X2 X3 Y0 Y1 Y2 Y3
      go_ret2
      exact ⟨rfl, by first | exact U | exact U.drew | exact U.drewN _⟩
theorem trn_face : Trn := ⟨fun w ii jj mode p q x TT TF pb h => tturn14_any w (Lib.hid TT) (Lib.hid TF) ii jj mode p q pb x h, fun w ii jj p b x TT TF pb h => tjust14_any w (Lib.hid TT) (Lib.hid TF) ii jj p b pb x h⟩
end Go.Proofs.YtadgoeplhichmaaGreatDoor
