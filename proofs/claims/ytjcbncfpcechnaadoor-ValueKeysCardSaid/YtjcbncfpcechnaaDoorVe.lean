/-
  The reference of layer 7: Decode and Key.
-/
import Derived.Test.YtjcbncfpcechnaaDoorVc
import Derived.Test.YtjcbncfpcechnaaDoorVc3
namespace Go.Proofs.YtjcbncfpcechnaaDoor
open Go.RowKit
set_option linter.unusedSimpArgs false
set_option linter.unusedVariables false

set_option maxHeartbeats 4000000 in
set_option maxRecDepth 100000 in
theorem rdecode_any (w : World) (ii : Int) (p : Nat) (pb : p < 18446744073709551616) (c : Int) (g : Bool) (m : Nat) (z x : Int) (h : M.Dc ii p c g m z x) : Calls Tryd.prog 13 #[.int .i64 ii, u64 p] w (Vd c g m z x w) := by
  rcases h with ⟨h, rfl, rfl, rfl, rfl, rfl⟩ | ⟨i, rfl, a, b, ⟨h, rfl, rfl, rfl, rfl, rfl⟩ | ⟨hp, h, rfl⟩⟩
  ·
    have U := Up.refl w
    go_enter Tryd.func13, Tryd.ntmps13
    go_wp2_with fail
    obtain ⟨V1, hV1⟩ : ∃ V1, w.alloc (.cells #[.int .i64 0, .bool false, .int .u64 0, .int .i64 0] 25) = V1 := ⟨_, rfl⟩
    have R : Ob V1 w.heap.size 25 #[.int .i64 0, .bool false, .int .u64 0, .int .i64 0] := by rw [← hV1]; exact Ob.mk_ _ _ _
    have uV1 : Up w V1 := by rw [← hV1]; exact (Up.refl _).alloc _
    have ltR : w.heap.size ≤ w.heap.size := U.size
    rw [hV1]
    clear hV1
    replace U := U.trans uV1
    clear uV1
    refine (rfits_out _ ii p h).mono ?_
    rintro _ w2 ⟨rfl, h2⟩
    replace U := U.trans h2
    replace R := R.up h2
    clear h2
    clear h
    go_wp2_with (refine store_ob rfl 25 (.tmp 4) (.tmp 17) rfl _ #[.int .i64 0, .bool false, .int .u64 0, .int .i64 0] #[.int .i64 0, .bool false, .int .u64 0, .int .i64 0] rfl rfl 4 (by kernel_rfl) rfl rfl (by simp [Value.oneCell']) w (by first | exact U | exact U.alloc _) ltR 25 (by first | exact R | exact R.up ((Up.refl _).alloc _)) ?_; clear U; intro V9 z U)
    have z0 := z.get 0
    have z1 := z.get 1
    have z2 := z.get 2
    have z3 := z.get 3
    simp only [List.getElem?_toArray, List.getElem?_cons_zero, List.getElem?_cons_succ] at z0 z1 z2 z3
    refine bodyPost_ret (v := .tuple #[.agg #[.int .i64 0, .bool false, .int .u64 0, .int .i64 0], .int .i64 3]) (by simp [results, Tryd.results13, go_sem, z0, z1, z2, z3]) rfl ?_
    exact ⟨rfl, U⟩
  ·
    have CF := Lib.hid (fun W => rfits_in W i a b p 1 (Lib.hid (by unfold M.er; rw [if_neg (by omega)])))
    clear h
    have U := Up.refl w
    go_enter Tryd.func13, Tryd.ntmps13
    go_wp2_with fail
    obtain ⟨V1, hV1⟩ : ∃ V1, w.alloc (.cells #[.int .i64 0, .bool false, .int .u64 0, .int .i64 0] 25) = V1 := ⟨_, rfl⟩
    have R : Ob V1 w.heap.size 25 #[.int .i64 0, .bool false, .int .u64 0, .int .i64 0] := by rw [← hV1]; exact Ob.mk_ _ _ _
    have uV1 : Up w V1 := by rw [← hV1]; exact (Up.refl _).alloc _
    have ltR : w.heap.size ≤ w.heap.size := U.size
    rw [hV1]
    clear hV1
    replace U := U.trans uV1
    clear uV1
    refine (CF.out _).mono ?_
    rintro _ w2 ⟨rfl, h2⟩
    replace U := U.trans h2
    replace R := R.up h2
    clear h2
    go_wp2_with (refine store_ob rfl 25 (.tmp 4) (.tmp 17) rfl _ #[.int .i64 0, .bool false, .int .u64 0, .int .i64 0] #[.int .i64 0, .bool false, .int .u64 0, .int .i64 0] rfl rfl 4 (by kernel_rfl) rfl rfl (by simp [Value.oneCell']) w (by first | exact U | exact U.alloc _) ltR 25 (by first | exact R | exact R.up ((Up.refl _).alloc _)) ?_; clear U; intro V9 z U)
    have z0 := z.get 0
    have z1 := z.get 1
    have z2 := z.get 2
    have z3 := z.get 3
    simp only [List.getElem?_toArray, List.getElem?_cons_zero, List.getElem?_cons_succ] at z0 z1 z2 z3
    refine bodyPost_ret (v := .tuple #[.agg #[.int .i64 0, .bool false, .int .u64 0, .int .i64 0], .int .i64 1]) (by simp [results, Tryd.results13, go_sem, z0, z1, z2, z3]) rfl ?_
    exact ⟨rfl, U⟩
  ·
    have CI := Lib.hid (fun W => rfits_in W i a b p 0 (Lib.hid (by unfold M.er; rw [if_pos hp])))
    obtain ⟨f, hf⟩ : ∃ f, M.tb i = f := ⟨_, rfl⟩
    have ok := M.ok i a b
    have ok2 := M.ok2 i a b
    rw [hf] at h hp ok ok2
    obtain ⟨t, ht⟩ : ∃ t, M.ngs f p = t := ⟨_, rfl⟩
    obtain ⟨key, hk⟩ : ∃ key, M.kyf f p = key := ⟨_, rfl⟩
    have CP := Lib.hid (fun W => rparts_any W f ok p (by omega) hp t key (Lib.hid ht) (Lib.hid hk))
    have CO := Lib.hid (fun W => rof_in W i f (Lib.hid hf) a b)
    rcases h with ⟨hcl, rfl, rfl, rfl, rfl⟩ | ⟨hcl, rfl, rfl, rfl, rfl⟩ | ⟨hcl, rfl, rfl, rfl, rfl⟩ | ⟨hcl, rfl, rfl, k, hkk, hm⟩
    ·
      have CC := Lib.hid (fun W => rclass_any W i f (Lib.hid hf) a b p (by omega) hp 4 (Lib.hid hcl))
      clear hcl ht hk hf ok ok2 hp a b
      have U := Up.refl w
      go_enter Tryd.func13, Tryd.ntmps13
      go_wp2_with fail
      obtain ⟨V1, hV1⟩ : ∃ V1, w.alloc (.cells #[.int .i64 0, .bool false, .int .u64 0, .int .i64 0] 25) = V1 := ⟨_, rfl⟩
      have R : Ob V1 w.heap.size 25 #[.int .i64 0, .bool false, .int .u64 0, .int .i64 0] := by rw [← hV1]; exact Ob.mk_ _ _ _
      have uV1 : Up w V1 := by rw [← hV1]; exact (Up.refl _).alloc _
      have ltR : w.heap.size ≤ w.heap.size := U.size
      rw [hV1]
      clear hV1
      replace U := U.trans uV1
      clear uV1
      refine (CI.out _).mono ?_
      rintro _ w2 ⟨rfl, h2⟩
      replace U := U.trans h2
      replace R := R.up h2
      clear h2
      go_wp2_with fail
      refine (CO.out _).mono ?_
      rintro _ w3 ⟨rfl, h3⟩
      replace U := U.trans h3
      replace R := R.up h3
      clear h3
      go_wp2_with fail
      obtain ⟨V4, hV4⟩ : ∃ V4, w3.alloc (.cells #[.int .i64 f.k, .int .i64 f.W, .int .i64 f.m, .int .i64 f.b, .int .u64 f.t, .int .u64 f.n, .int .u64 f.x] 58) = V4 := ⟨_, rfl⟩
      have C : Bf V4 w3.heap.size 58 f := by rw [← hV4]; exact Bf.mk_ w3 f 58
      have ltC : w.heap.size ≤ w3.heap.size := U.size
      have uV4 : Up w3 V4 := by rw [← hV4]; exact (Up.refl _).alloc _
      rw [hV4]
      clear hV4
      replace U := U.trans uV4
      replace R := R.up uV4
      clear uV4
      refine (CP.out _).mono ?_
      rintro _ w5 ⟨rfl, h5⟩
      replace U := U.trans h5
      replace C := C.up h5
      replace R := R.up h5
      clear h5
      go_wp2_with fail
      refine (CC.out _).mono ?_
      rintro _ w6 ⟨rfl, h6⟩
      replace U := U.trans h6
      replace C := C.up h6
      replace R := R.up h6
      clear h6
      have nY := Nat.ne_of_lt R.lt
      go_wp2_with (first | (refine store_ob rfl 25 (.tmp 11) (.tmp 33) rfl _ #[.int .i64 0, .bool false, .int .u64 0, .int .i64 0] #[.int .i64 4, .bool false, .int .u64 0, .int .i64 0] rfl rfl 4 (by kernel_rfl) rfl rfl (by simp [Value.oneCell']) w6 ((Up.refl _).alloc _) (Nat.le_refl _) 25 (Ob.mk_ _ _ _) ?_; intro V7 Y uV7; have ltY : w.heap.size ≤ w6.heap.size := U.size; replace U := U.trans uV7; replace C := C.up uV7; replace R := R.up uV7; clear uV7; have Y0 := Y.get 0; have Y1 := Y.get 1; have Y2 := Y.get 2; have Y3 := Y.get 3; simp only [List.getElem?_toArray, List.getElem?_cons_zero, List.getElem?_cons_succ] at Y0 Y1 Y2 Y3; have Yf0 := Y.fr 0; have Yf1 := Y.fr 1; have Yf2 := Y.fr 2; have Yf3 := Y.fr 3; obtain ⟨C0, C1, C2, C3, C4, C5, C6⟩ := Bf.cs C; simp only [Nat.zero_add] at C0 C1 C2 C3 C4 C5 C6) | (refine store_ob rfl 25 (.tmp 4) (.tmp 58) rfl _ #[.int .i64 0, .bool false, .int .u64 0, .int .i64 0] #[.int .i64 4, .bool false, .int .u64 0, .int .i64 0] rfl rfl 4 (by kernel_rfl) rfl rfl (by simp [Value.oneCell']) w (by first | exact U | exact U.alloc _) ltR 25 (by first | exact R | exact R.up ((Up.refl _).alloc _)) ?_; clear U; intro V9 z U))
      have z0 := z.get 0
      have z1 := z.get 1
      have z2 := z.get 2
      have z3 := z.get 3
      simp only [List.getElem?_toArray, List.getElem?_cons_zero, List.getElem?_cons_succ] at z0 z1 z2 z3
      refine bodyPost_ret (v := .tuple #[.agg #[.int .i64 4, .bool false, .int .u64 0, .int .i64 0], .int .i64 0]) (by simp [results, Tryd.results13, go_sem, z0, z1, z2, z3]) rfl ?_
      exact ⟨rfl, U⟩
    ·
      have h2 : f.k = 2 := by
        have h1 := hcl
        unfold M.cls at h1
        split at h1
        · omega
        · split at h1
          · omega
          · split at h1 <;> omega
      have d2 : (f.k == 2) = true := by simpa using h2
      clear h2
      have CC := Lib.hid (fun W => rclass_any W i f (Lib.hid hf) a b p (by omega) hp 3 (Lib.hid hcl))
      rw [ht]
      clear hcl ht hk hf ok ok2 hp a b
      cases t
      ·
        skip
        have U := Up.refl w
        go_enter Tryd.func13, Tryd.ntmps13
        go_wp2_with fail
        obtain ⟨V1, hV1⟩ : ∃ V1, w.alloc (.cells #[.int .i64 0, .bool false, .int .u64 0, .int .i64 0] 25) = V1 := ⟨_, rfl⟩
        have R : Ob V1 w.heap.size 25 #[.int .i64 0, .bool false, .int .u64 0, .int .i64 0] := by rw [← hV1]; exact Ob.mk_ _ _ _
        have uV1 : Up w V1 := by rw [← hV1]; exact (Up.refl _).alloc _
        have ltR : w.heap.size ≤ w.heap.size := U.size
        rw [hV1]
        clear hV1
        replace U := U.trans uV1
        clear uV1
        refine (CI.out _).mono ?_
        rintro _ w2 ⟨rfl, h2⟩
        replace U := U.trans h2
        replace R := R.up h2
        clear h2
        go_wp2_with fail
        refine (CO.out _).mono ?_
        rintro _ w3 ⟨rfl, h3⟩
        replace U := U.trans h3
        replace R := R.up h3
        clear h3
        go_wp2_with fail
        obtain ⟨V4, hV4⟩ : ∃ V4, w3.alloc (.cells #[.int .i64 f.k, .int .i64 f.W, .int .i64 f.m, .int .i64 f.b, .int .u64 f.t, .int .u64 f.n, .int .u64 f.x] 58) = V4 := ⟨_, rfl⟩
        have C : Bf V4 w3.heap.size 58 f := by rw [← hV4]; exact Bf.mk_ w3 f 58
        have ltC : w.heap.size ≤ w3.heap.size := U.size
        have uV4 : Up w3 V4 := by rw [← hV4]; exact (Up.refl _).alloc _
        rw [hV4]
        clear hV4
        replace U := U.trans uV4
        replace R := R.up uV4
        clear uV4
        refine (CP.out _).mono ?_
        rintro _ w5 ⟨rfl, h5⟩
        replace U := U.trans h5
        replace C := C.up h5
        replace R := R.up h5
        clear h5
        go_wp2_with fail
        refine (CC.out _).mono ?_
        rintro _ w6 ⟨rfl, h6⟩
        replace U := U.trans h6
        replace C := C.up h6
        replace R := R.up h6
        clear h6
        have nY := Nat.ne_of_lt R.lt
        go_wp2_with (first | (refine store_ob rfl 25 (.tmp 11) (.tmp 33) rfl _ #[.int .i64 0, .bool false, .int .u64 0, .int .i64 0] #[.int .i64 3, .bool false, .int .u64 0, .int .i64 0] rfl rfl 4 (by kernel_rfl) rfl rfl (by simp [Value.oneCell']) w6 ((Up.refl _).alloc _) (Nat.le_refl _) 25 (Ob.mk_ _ _ _) ?_; intro V7 Y uV7; have ltY : w.heap.size ≤ w6.heap.size := U.size; replace U := U.trans uV7; replace C := C.up uV7; replace R := R.up uV7; clear uV7; have Y0 := Y.get 0; have Y1 := Y.get 1; have Y2 := Y.get 2; have Y3 := Y.get 3; simp only [List.getElem?_toArray, List.getElem?_cons_zero, List.getElem?_cons_succ] at Y0 Y1 Y2 Y3; have Yf0 := Y.fr 0; have Yf1 := Y.fr 1; have Yf2 := Y.fr 2; have Yf3 := Y.fr 3; obtain ⟨C0, C1, C2, C3, C4, C5, C6⟩ := Bf.cs C; simp only [Nat.zero_add] at C0 C1 C2 C3 C4 C5 C6) | (refine store_ob rfl 25 (.tmp 4) (.tmp 58) rfl _ #[.int .i64 0, .bool false, .int .u64 0, .int .i64 0] #[.int .i64 3, .bool false, .int .u64 0, .int .i64 0] rfl rfl 4 (by kernel_rfl) rfl rfl (by simp [Value.oneCell']) w (U.setCell (p := ⟨_, 1, none⟩) ltY _) ltR 25 (R.other nY _) ?_; clear U; intro V9 z U))
        have z0 := z.get 0
        have z1 := z.get 1
        have z2 := z.get 2
        have z3 := z.get 3
        simp only [List.getElem?_toArray, List.getElem?_cons_zero, List.getElem?_cons_succ] at z0 z1 z2 z3
        refine bodyPost_ret (v := .tuple #[.agg #[.int .i64 3, .bool false, .int .u64 0, .int .i64 0], .int .i64 0]) (by simp [results, Tryd.results13, go_sem, z0, z1, z2, z3]) rfl ?_
        exact ⟨rfl, U⟩
      ·
        skip
        have U := Up.refl w
        go_enter Tryd.func13, Tryd.ntmps13
        go_wp2_with fail
        obtain ⟨V1, hV1⟩ : ∃ V1, w.alloc (.cells #[.int .i64 0, .bool false, .int .u64 0, .int .i64 0] 25) = V1 := ⟨_, rfl⟩
        have R : Ob V1 w.heap.size 25 #[.int .i64 0, .bool false, .int .u64 0, .int .i64 0] := by rw [← hV1]; exact Ob.mk_ _ _ _
        have uV1 : Up w V1 := by rw [← hV1]; exact (Up.refl _).alloc _
        have ltR : w.heap.size ≤ w.heap.size := U.size
        rw [hV1]
        clear hV1
        replace U := U.trans uV1
        clear uV1
        refine (CI.out _).mono ?_
        rintro _ w2 ⟨rfl, h2⟩
        replace U := U.trans h2
        replace R := R.up h2
        clear h2
        go_wp2_with fail
        refine (CO.out _).mono ?_
        rintro _ w3 ⟨rfl, h3⟩
        replace U := U.trans h3
        replace R := R.up h3
        clear h3
        go_wp2_with fail
        obtain ⟨V4, hV4⟩ : ∃ V4, w3.alloc (.cells #[.int .i64 f.k, .int .i64 f.W, .int .i64 f.m, .int .i64 f.b, .int .u64 f.t, .int .u64 f.n, .int .u64 f.x] 58) = V4 := ⟨_, rfl⟩
        have C : Bf V4 w3.heap.size 58 f := by rw [← hV4]; exact Bf.mk_ w3 f 58
        have ltC : w.heap.size ≤ w3.heap.size := U.size
        have uV4 : Up w3 V4 := by rw [← hV4]; exact (Up.refl _).alloc _
        rw [hV4]
        clear hV4
        replace U := U.trans uV4
        replace R := R.up uV4
        clear uV4
        refine (CP.out _).mono ?_
        rintro _ w5 ⟨rfl, h5⟩
        replace U := U.trans h5
        replace C := C.up h5
        replace R := R.up h5
        clear h5
        go_wp2_with fail
        refine (CC.out _).mono ?_
        rintro _ w6 ⟨rfl, h6⟩
        replace U := U.trans h6
        replace C := C.up h6
        replace R := R.up h6
        clear h6
        have nY := Nat.ne_of_lt R.lt
        go_wp2_with (first | (refine store_ob rfl 25 (.tmp 11) (.tmp 33) rfl _ #[.int .i64 0, .bool false, .int .u64 0, .int .i64 0] #[.int .i64 3, .bool false, .int .u64 0, .int .i64 0] rfl rfl 4 (by kernel_rfl) rfl rfl (by simp [Value.oneCell']) w6 ((Up.refl _).alloc _) (Nat.le_refl _) 25 (Ob.mk_ _ _ _) ?_; intro V7 Y uV7; have ltY : w.heap.size ≤ w6.heap.size := U.size; replace U := U.trans uV7; replace C := C.up uV7; replace R := R.up uV7; clear uV7; have Y0 := Y.get 0; have Y1 := Y.get 1; have Y2 := Y.get 2; have Y3 := Y.get 3; simp only [List.getElem?_toArray, List.getElem?_cons_zero, List.getElem?_cons_succ] at Y0 Y1 Y2 Y3; have Yf0 := Y.fr 0; have Yf1 := Y.fr 1; have Yf2 := Y.fr 2; have Yf3 := Y.fr 3; obtain ⟨C0, C1, C2, C3, C4, C5, C6⟩ := Bf.cs C; simp only [Nat.zero_add] at C0 C1 C2 C3 C4 C5 C6) | (refine store_ob rfl 25 (.tmp 4) (.tmp 58) rfl _ #[.int .i64 0, .bool false, .int .u64 0, .int .i64 0] #[.int .i64 3, .bool true, .int .u64 0, .int .i64 0] rfl rfl 4 (by kernel_rfl) rfl rfl (by simp [Value.oneCell']) w (U.setCell (p := ⟨_, 1, none⟩) ltY _) ltR 25 (R.other nY _) ?_; clear U; intro V9 z U))
        have z0 := z.get 0
        have z1 := z.get 1
        have z2 := z.get 2
        have z3 := z.get 3
        simp only [List.getElem?_toArray, List.getElem?_cons_zero, List.getElem?_cons_succ] at z0 z1 z2 z3
        refine bodyPost_ret (v := .tuple #[.agg #[.int .i64 3, .bool true, .int .u64 0, .int .i64 0], .int .i64 0]) (by simp [results, Tryd.results13, go_sem, z0, z1, z2, z3]) rfl ?_
        exact ⟨rfl, U⟩
    ·
      have CC := Lib.hid (fun W => rclass_any W i f (Lib.hid hf) a b p (by omega) hp 1 (Lib.hid hcl))
      rw [ht]
      clear hcl ht hk hf ok ok2 hp a b
      cases t
      ·
        show Calls _ _ _ _ (Vd 1 false 0 0 0 w)
        have U := Up.refl w
        go_enter Tryd.func13, Tryd.ntmps13
        go_wp2_with fail
        obtain ⟨V1, hV1⟩ : ∃ V1, w.alloc (.cells #[.int .i64 0, .bool false, .int .u64 0, .int .i64 0] 25) = V1 := ⟨_, rfl⟩
        have R : Ob V1 w.heap.size 25 #[.int .i64 0, .bool false, .int .u64 0, .int .i64 0] := by rw [← hV1]; exact Ob.mk_ _ _ _
        have uV1 : Up w V1 := by rw [← hV1]; exact (Up.refl _).alloc _
        have ltR : w.heap.size ≤ w.heap.size := U.size
        rw [hV1]
        clear hV1
        replace U := U.trans uV1
        clear uV1
        refine (CI.out _).mono ?_
        rintro _ w2 ⟨rfl, h2⟩
        replace U := U.trans h2
        replace R := R.up h2
        clear h2
        go_wp2_with fail
        refine (CO.out _).mono ?_
        rintro _ w3 ⟨rfl, h3⟩
        replace U := U.trans h3
        replace R := R.up h3
        clear h3
        go_wp2_with fail
        obtain ⟨V4, hV4⟩ : ∃ V4, w3.alloc (.cells #[.int .i64 f.k, .int .i64 f.W, .int .i64 f.m, .int .i64 f.b, .int .u64 f.t, .int .u64 f.n, .int .u64 f.x] 58) = V4 := ⟨_, rfl⟩
        have C : Bf V4 w3.heap.size 58 f := by rw [← hV4]; exact Bf.mk_ w3 f 58
        have ltC : w.heap.size ≤ w3.heap.size := U.size
        have uV4 : Up w3 V4 := by rw [← hV4]; exact (Up.refl _).alloc _
        rw [hV4]
        clear hV4
        replace U := U.trans uV4
        replace R := R.up uV4
        clear uV4
        refine (CP.out _).mono ?_
        rintro _ w5 ⟨rfl, h5⟩
        replace U := U.trans h5
        replace C := C.up h5
        replace R := R.up h5
        clear h5
        go_wp2_with fail
        refine (CC.out _).mono ?_
        rintro _ w6 ⟨rfl, h6⟩
        replace U := U.trans h6
        replace C := C.up h6
        replace R := R.up h6
        clear h6
        have nY := Nat.ne_of_lt R.lt
        go_wp2_with (first | (refine store_ob rfl 25 (.tmp 11) (.tmp 33) rfl _ #[.int .i64 0, .bool false, .int .u64 0, .int .i64 0] #[.int .i64 1, .bool false, .int .u64 0, .int .i64 0] rfl rfl 4 (by kernel_rfl) rfl rfl (by simp [Value.oneCell']) w6 ((Up.refl _).alloc _) (Nat.le_refl _) 25 (Ob.mk_ _ _ _) ?_; intro V7 Y uV7; have ltY : w.heap.size ≤ w6.heap.size := U.size; replace U := U.trans uV7; replace C := C.up uV7; replace R := R.up uV7; clear uV7; have Y0 := Y.get 0; have Y1 := Y.get 1; have Y2 := Y.get 2; have Y3 := Y.get 3; simp only [List.getElem?_toArray, List.getElem?_cons_zero, List.getElem?_cons_succ] at Y0 Y1 Y2 Y3; have Yf0 := Y.fr 0; have Yf1 := Y.fr 1; have Yf2 := Y.fr 2; have Yf3 := Y.fr 3; obtain ⟨C0, C1, C2, C3, C4, C5, C6⟩ := Bf.cs C; simp only [Nat.zero_add] at C0 C1 C2 C3 C4 C5 C6) | (refine store_ob rfl 25 (.tmp 4) (.tmp 58) rfl _ #[.int .i64 0, .bool false, .int .u64 0, .int .i64 0] #[.int .i64 1, .bool false, .int .u64 0, .int .i64 0] rfl rfl 4 (by kernel_rfl) rfl rfl (by simp [Value.oneCell']) w (U.setCell (p := ⟨_, 1, none⟩) ltY _) ltR 25 (R.other nY _) ?_; clear U; intro V9 z U))
        have z0 := z.get 0
        have z1 := z.get 1
        have z2 := z.get 2
        have z3 := z.get 3
        simp only [List.getElem?_toArray, List.getElem?_cons_zero, List.getElem?_cons_succ] at z0 z1 z2 z3
        refine bodyPost_ret (v := .tuple #[.agg #[.int .i64 1, .bool false, .int .u64 0, .int .i64 0], .int .i64 0]) (by simp [results, Tryd.results13, go_sem, z0, z1, z2, z3]) rfl ?_
        exact ⟨rfl, U⟩
      ·
        by_cases h2 : f.k = 2
        ·
          have d2 : (f.k == 2) = true := by simpa using h2
          rw [decide_eq_true h2]
          clear h2
          show Calls _ _ _ _ (Vd 1 true 0 0 0 w)
          have U := Up.refl w
          go_enter Tryd.func13, Tryd.ntmps13
          go_wp2_with fail
          obtain ⟨V1, hV1⟩ : ∃ V1, w.alloc (.cells #[.int .i64 0, .bool false, .int .u64 0, .int .i64 0] 25) = V1 := ⟨_, rfl⟩
          have R : Ob V1 w.heap.size 25 #[.int .i64 0, .bool false, .int .u64 0, .int .i64 0] := by rw [← hV1]; exact Ob.mk_ _ _ _
          have uV1 : Up w V1 := by rw [← hV1]; exact (Up.refl _).alloc _
          have ltR : w.heap.size ≤ w.heap.size := U.size
          rw [hV1]
          clear hV1
          replace U := U.trans uV1
          clear uV1
          refine (CI.out _).mono ?_
          rintro _ w2 ⟨rfl, h2⟩
          replace U := U.trans h2
          replace R := R.up h2
          clear h2
          go_wp2_with fail
          refine (CO.out _).mono ?_
          rintro _ w3 ⟨rfl, h3⟩
          replace U := U.trans h3
          replace R := R.up h3
          clear h3
          go_wp2_with fail
          obtain ⟨V4, hV4⟩ : ∃ V4, w3.alloc (.cells #[.int .i64 f.k, .int .i64 f.W, .int .i64 f.m, .int .i64 f.b, .int .u64 f.t, .int .u64 f.n, .int .u64 f.x] 58) = V4 := ⟨_, rfl⟩
          have C : Bf V4 w3.heap.size 58 f := by rw [← hV4]; exact Bf.mk_ w3 f 58
          have ltC : w.heap.size ≤ w3.heap.size := U.size
          have uV4 : Up w3 V4 := by rw [← hV4]; exact (Up.refl _).alloc _
          rw [hV4]
          clear hV4
          replace U := U.trans uV4
          replace R := R.up uV4
          clear uV4
          refine (CP.out _).mono ?_
          rintro _ w5 ⟨rfl, h5⟩
          replace U := U.trans h5
          replace C := C.up h5
          replace R := R.up h5
          clear h5
          go_wp2_with fail
          refine (CC.out _).mono ?_
          rintro _ w6 ⟨rfl, h6⟩
          replace U := U.trans h6
          replace C := C.up h6
          replace R := R.up h6
          clear h6
          have nY := Nat.ne_of_lt R.lt
          go_wp2_with (first | (refine store_ob rfl 25 (.tmp 11) (.tmp 33) rfl _ #[.int .i64 0, .bool false, .int .u64 0, .int .i64 0] #[.int .i64 1, .bool false, .int .u64 0, .int .i64 0] rfl rfl 4 (by kernel_rfl) rfl rfl (by simp [Value.oneCell']) w6 ((Up.refl _).alloc _) (Nat.le_refl _) 25 (Ob.mk_ _ _ _) ?_; intro V7 Y uV7; have ltY : w.heap.size ≤ w6.heap.size := U.size; replace U := U.trans uV7; replace C := C.up uV7; replace R := R.up uV7; clear uV7; have Y0 := Y.get 0; have Y1 := Y.get 1; have Y2 := Y.get 2; have Y3 := Y.get 3; simp only [List.getElem?_toArray, List.getElem?_cons_zero, List.getElem?_cons_succ] at Y0 Y1 Y2 Y3; have Yf0 := Y.fr 0; have Yf1 := Y.fr 1; have Yf2 := Y.fr 2; have Yf3 := Y.fr 3; obtain ⟨C0, C1, C2, C3, C4, C5, C6⟩ := Bf.cs C; simp only [Nat.zero_add] at C0 C1 C2 C3 C4 C5 C6) | (refine store_ob rfl 25 (.tmp 4) (.tmp 58) rfl _ #[.int .i64 0, .bool false, .int .u64 0, .int .i64 0] #[.int .i64 1, .bool true, .int .u64 0, .int .i64 0] rfl rfl 4 (by kernel_rfl) rfl rfl (by simp [Value.oneCell']) w (U.setCell (p := ⟨_, 1, none⟩) ltY _) ltR 25 (R.other nY _) ?_; clear U; intro V9 z U))
          have z0 := z.get 0
          have z1 := z.get 1
          have z2 := z.get 2
          have z3 := z.get 3
          simp only [List.getElem?_toArray, List.getElem?_cons_zero, List.getElem?_cons_succ] at z0 z1 z2 z3
          refine bodyPost_ret (v := .tuple #[.agg #[.int .i64 1, .bool true, .int .u64 0, .int .i64 0], .int .i64 0]) (by simp [results, Tryd.results13, go_sem, z0, z1, z2, z3]) rfl ?_
          exact ⟨rfl, U⟩
        ·
          have d2 : (f.k == 2) = false := by simpa using h2
          rw [decide_eq_false h2]
          clear h2
          show Calls _ _ _ _ (Vd 1 false 0 0 0 w)
          have U := Up.refl w
          go_enter Tryd.func13, Tryd.ntmps13
          go_wp2_with fail
          obtain ⟨V1, hV1⟩ : ∃ V1, w.alloc (.cells #[.int .i64 0, .bool false, .int .u64 0, .int .i64 0] 25) = V1 := ⟨_, rfl⟩
          have R : Ob V1 w.heap.size 25 #[.int .i64 0, .bool false, .int .u64 0, .int .i64 0] := by rw [← hV1]; exact Ob.mk_ _ _ _
          have uV1 : Up w V1 := by rw [← hV1]; exact (Up.refl _).alloc _
          have ltR : w.heap.size ≤ w.heap.size := U.size
          rw [hV1]
          clear hV1
          replace U := U.trans uV1
          clear uV1
          refine (CI.out _).mono ?_
          rintro _ w2 ⟨rfl, h2⟩
          replace U := U.trans h2
          replace R := R.up h2
          clear h2
          go_wp2_with fail
          refine (CO.out _).mono ?_
          rintro _ w3 ⟨rfl, h3⟩
          replace U := U.trans h3
          replace R := R.up h3
          clear h3
          go_wp2_with fail
          obtain ⟨V4, hV4⟩ : ∃ V4, w3.alloc (.cells #[.int .i64 f.k, .int .i64 f.W, .int .i64 f.m, .int .i64 f.b, .int .u64 f.t, .int .u64 f.n, .int .u64 f.x] 58) = V4 := ⟨_, rfl⟩
          have C : Bf V4 w3.heap.size 58 f := by rw [← hV4]; exact Bf.mk_ w3 f 58
          have ltC : w.heap.size ≤ w3.heap.size := U.size
          have uV4 : Up w3 V4 := by rw [← hV4]; exact (Up.refl _).alloc _
          rw [hV4]
          clear hV4
          replace U := U.trans uV4
          replace R := R.up uV4
          clear uV4
          refine (CP.out _).mono ?_
          rintro _ w5 ⟨rfl, h5⟩
          replace U := U.trans h5
          replace C := C.up h5
          replace R := R.up h5
          clear h5
          go_wp2_with fail
          refine (CC.out _).mono ?_
          rintro _ w6 ⟨rfl, h6⟩
          replace U := U.trans h6
          replace C := C.up h6
          replace R := R.up h6
          clear h6
          have nY := Nat.ne_of_lt R.lt
          go_wp2_with (first | (refine store_ob rfl 25 (.tmp 11) (.tmp 33) rfl _ #[.int .i64 0, .bool false, .int .u64 0, .int .i64 0] #[.int .i64 1, .bool false, .int .u64 0, .int .i64 0] rfl rfl 4 (by kernel_rfl) rfl rfl (by simp [Value.oneCell']) w6 ((Up.refl _).alloc _) (Nat.le_refl _) 25 (Ob.mk_ _ _ _) ?_; intro V7 Y uV7; have ltY : w.heap.size ≤ w6.heap.size := U.size; replace U := U.trans uV7; replace C := C.up uV7; replace R := R.up uV7; clear uV7; have Y0 := Y.get 0; have Y1 := Y.get 1; have Y2 := Y.get 2; have Y3 := Y.get 3; simp only [List.getElem?_toArray, List.getElem?_cons_zero, List.getElem?_cons_succ] at Y0 Y1 Y2 Y3; have Yf0 := Y.fr 0; have Yf1 := Y.fr 1; have Yf2 := Y.fr 2; have Yf3 := Y.fr 3; obtain ⟨C0, C1, C2, C3, C4, C5, C6⟩ := Bf.cs C; simp only [Nat.zero_add] at C0 C1 C2 C3 C4 C5 C6) | (refine store_ob rfl 25 (.tmp 4) (.tmp 58) rfl _ #[.int .i64 0, .bool false, .int .u64 0, .int .i64 0] #[.int .i64 1, .bool false, .int .u64 0, .int .i64 0] rfl rfl 4 (by kernel_rfl) rfl rfl (by simp [Value.oneCell']) w (U.setCell (p := ⟨_, 1, none⟩) ltY _) ltR 25 (R.other nY _) ?_; clear U; intro V9 z U))
          have z0 := z.get 0
          have z1 := z.get 1
          have z2 := z.get 2
          have z3 := z.get 3
          simp only [List.getElem?_toArray, List.getElem?_cons_zero, List.getElem?_cons_succ] at z0 z1 z2 z3
          refine bodyPost_ret (v := .tuple #[.agg #[.int .i64 1, .bool false, .int .u64 0, .int .i64 0], .int .i64 0]) (by simp [results, Tryd.results13, go_sem, z0, z1, z2, z3]) rfl ?_
          exact ⟨rfl, U⟩
    ·
      have CC := Lib.hid (fun W => rclass_any W i f (Lib.hid hf) a b p (by omega) hp 2 (Lib.hid hcl))
      rw [ht]
      obtain rfl : (k : Int) = key := by rw [← hkk, hk]
      have kb : k < 18446744073709551616 := by have := (M.kyf_rng ok (p := p) (by omega) hp).2.1; have := ok.hm; omega
      have CM := Lib.hid (fun W => rmag_any W f k m z kb hm)
      clear hkk hm
      clear hcl ht hk hf ok ok2 hp a b
      have U := Up.refl w
      go_enter Tryd.func13, Tryd.ntmps13
      go_wp2_with fail
      obtain ⟨V1, hV1⟩ : ∃ V1, w.alloc (.cells #[.int .i64 0, .bool false, .int .u64 0, .int .i64 0] 25) = V1 := ⟨_, rfl⟩
      have R : Ob V1 w.heap.size 25 #[.int .i64 0, .bool false, .int .u64 0, .int .i64 0] := by rw [← hV1]; exact Ob.mk_ _ _ _
      have uV1 : Up w V1 := by rw [← hV1]; exact (Up.refl _).alloc _
      have ltR : w.heap.size ≤ w.heap.size := U.size
      rw [hV1]
      clear hV1
      replace U := U.trans uV1
      clear uV1
      refine (CI.out _).mono ?_
      rintro _ w2 ⟨rfl, h2⟩
      replace U := U.trans h2
      replace R := R.up h2
      clear h2
      go_wp2_with fail
      refine (CO.out _).mono ?_
      rintro _ w3 ⟨rfl, h3⟩
      replace U := U.trans h3
      replace R := R.up h3
      clear h3
      go_wp2_with fail
      obtain ⟨V4, hV4⟩ : ∃ V4, w3.alloc (.cells #[.int .i64 f.k, .int .i64 f.W, .int .i64 f.m, .int .i64 f.b, .int .u64 f.t, .int .u64 f.n, .int .u64 f.x] 58) = V4 := ⟨_, rfl⟩
      have C : Bf V4 w3.heap.size 58 f := by rw [← hV4]; exact Bf.mk_ w3 f 58
      have ltC : w.heap.size ≤ w3.heap.size := U.size
      have uV4 : Up w3 V4 := by rw [← hV4]; exact (Up.refl _).alloc _
      rw [hV4]
      clear hV4
      replace U := U.trans uV4
      replace R := R.up uV4
      clear uV4
      refine (CP.out _).mono ?_
      rintro _ w5 ⟨rfl, h5⟩
      replace U := U.trans h5
      replace C := C.up h5
      replace R := R.up h5
      clear h5
      go_wp2_with fail
      refine (CC.out _).mono ?_
      rintro _ w6 ⟨rfl, h6⟩
      replace U := U.trans h6
      replace C := C.up h6
      replace R := R.up h6
      clear h6
      have nY := Nat.ne_of_lt R.lt
      have nC := Nat.ne_of_lt C.lt
      go_wp2_with (refine store_ob rfl 25 (.tmp 11) (.tmp 33) rfl _ #[.int .i64 0, .bool false, .int .u64 0, .int .i64 0] #[.int .i64 2, .bool false, .int .u64 0, .int .i64 0] rfl rfl 4 (by kernel_rfl) rfl rfl (by simp [Value.oneCell']) w6 ((Up.refl _).alloc _) (Nat.le_refl _) 25 (Ob.mk_ _ _ _) ?_; intro V7 Y uV7; have ltY : w.heap.size ≤ w6.heap.size := U.size; replace U := U.trans uV7; replace C := C.up uV7; replace R := R.up uV7; clear uV7; have Y0 := Y.get 0; have Y1 := Y.get 1; have Y2 := Y.get 2; have Y3 := Y.get 3; simp only [List.getElem?_toArray, List.getElem?_cons_zero, List.getElem?_cons_succ] at Y0 Y1 Y2 Y3; have Yf0 := Y.fr 0; have Yf1 := Y.fr 1; have Yf2 := Y.fr 2; have Yf3 := Y.fr 3; obtain ⟨C0, C1, C2, C3, C4, C5, C6⟩ := Bf.cs C; simp only [Nat.zero_add] at C0 C1 C2 C3 C4 C5 C6)
      replace U : Up w (V7.setCell ⟨w6.heap.size, 1, none⟩ (.bool t)) := U.setCell (p := ⟨w6.heap.size, 1, none⟩) ltY (.bool t)
      replace R := R.other nY (i := 1) (.bool t)
      replace Y := Y.put 1 (.bool t)
      obtain ⟨V20, hV20⟩ : ∃ V20, V7.setCell ⟨w6.heap.size, 1, none⟩ (.bool t) = V20 := ⟨_, rfl⟩
      rw [hV20] at U R Y ⊢
      clear hV20 C
      clear Y0 Yf0 Y1 Yf1 Y2 Yf2 Y3 Yf3 C0 C1 C2 C3 C4 C5 C6
      have Y : Ob V20 _ _ #[.int .i64 2, .bool t, .int .u64 0, .int .i64 0] := Y
      refine (CM.out _).mono ?_
      rintro _ w8 ⟨rfl, h8⟩
      replace U := U.trans h8
      replace R := R.up h8
      replace Y := Y.up h8
      clear h8
      have Y0 := Y.get 0
      have Y1 := Y.get 1
      have Y2 := Y.get 2
      have Y3 := Y.get 3
      have Yf0 := Y.fr 0
      have Yf1 := Y.fr 1
      have Yf2 := Y.fr 2
      have Yf3 := Y.fr 3
      have Yl := Y.lt
      simp only [List.getElem?_toArray, List.getElem?_cons_zero, List.getElem?_cons_succ] at Y0 Y1 Y2 Y3
      go_wp2_with (refine store_ob rfl 25 (.tmp 4) (.tmp 58) rfl _ #[.int .i64 0, .bool false, .int .u64 0, .int .i64 0] #[.int .i64 2, .bool t, u64 m, .int .i64 z] rfl rfl 4 (by kernel_rfl) rfl rfl (by simp [Value.oneCell']) w ((U.setCell (p := ⟨_, 2, none⟩) ltY _).setCell (p := ⟨_, 3, none⟩) ltY _) ltR 25 ((R.other nY _).other nY _) ?_; clear U; intro V9 z9 U)
      have z90 := z9.get 0
      have z91 := z9.get 1
      have z92 := z9.get 2
      have z93 := z9.get 3
      simp only [List.getElem?_toArray, List.getElem?_cons_zero, List.getElem?_cons_succ] at z90 z91 z92 z93
      refine bodyPost_ret (v := .tuple #[.agg #[.int .i64 2, .bool t, u64 m, .int .i64 z], .int .i64 0]) (by simp [results, Tryd.results13, go_sem, z90, z91, z92, z93]) rfl ?_
      exact ⟨rfl, U⟩
end Go.Proofs.YtjcbncfpcechnaaDoor
