/-
  ValueTurned.
-/
import Derived.Test.YtjcbncfpcechnaaDoorVh
import Derived.Test.YtjcbncfpcechnaaDoorVo
namespace Go.Proofs.YtjcbncfpcechnaaDoor
open Go.RowKit
set_option linter.unusedSimpArgs false
set_option linter.unusedVariables false

set_option maxHeartbeats 4000000 in
set_option maxRecDepth 100000 in
theorem vturned_walk (w : World) (TT : Hid (Tz w)) (TF : Hid (TabF w)) (x0 : Int) (_wx0 : (Lit.int .i64 x0).wf = true) (x1 : Int) (wx1 : (Lit.int .u64 x1).wf = true) : Calls Tryd.prog 9 #[.int .i64 x0, .int .u64 x1] w (True7 w) := by
  obtain ⟨p, rfl, hp⟩ := nat_u6 wx1
  clear wx1
  obtain ⟨gg, k, x, h⟩ := M.kc_ex x0 p
  have CK := Lib.hid (fun W (T : Tz W) (F : TabF W) => vkey_any W (Lib.hid T) (Lib.hid F) x0 p hp gg k x h)
  have hx : (x ≠ 0 ∧ gg = false ∧ k = 0) ∨ (x = 0 ∧ ∃ i : Nat, x0 = i ∧ 1 ≤ i ∧ i ≤ 14 ∧ (p : Int) ≤ M.msk (M.tb i) ∧ M.Kv (M.tb i) p gg k 0) := by
    rcases h with ⟨h, rfl, rfl, rfl⟩ | ⟨i, rfl, a, b, ⟨h, rfl, rfl, rfl⟩ | ⟨h1, h⟩⟩
    · exact .inl ⟨by decide, rfl, rfl⟩
    · exact .inl ⟨by decide, rfl, rfl⟩
    · rcases h with ⟨h, rfl, rfl, rfl⟩ | ⟨h, e1, e2, rfl⟩ | ⟨h, e1, e2, rfl⟩
      · exact .inl ⟨by decide, rfl, rfl⟩
      · exact .inr ⟨rfl, i, rfl, a, b, h1, .inr (.inl ⟨h, e1, e2, rfl⟩)⟩
      · exact .inr ⟨rfl, i, rfl, a, b, h1, .inr (.inr ⟨h, e1, e2, rfl⟩)⟩
  clear h
  rcases hx with ⟨hx, rfl, rfl⟩ | ⟨rfl, i, rfl, a, b, h1, h⟩
  ·
    have d1 : (x != 0) = true := by simpa using hx
    clear hx
    have U := Up.refl w
    go_enter Tryd.func9, Tryd.ntmps9
    go_wp2_with fail
    refine (vshown_any _ (Lib.hid (TT.out.up U)) (Lib.hid (TF.out.up U))).mono ?_
    rintro _ w1 ⟨rfl, h1⟩
    replace U := U.trans h1
    clear h1
    go_wp2_with fail
    refine (CK.out _ (TT.out.up U) (TF.out.up U)).mono ?_
    rintro _ w2 ⟨rfl, h2⟩
    replace U := U.trans h2
    clear h2
    go_wp2_with fail
    go_ret
    exact ⟨by first | rfl | simp, by first | exact U | exact U.alloc _⟩
  ·
    have ok := M.ok i a b
    have ok2 := M.ok2 i a b
    have b4 := (M.kv_back ok ok2 h1 h).2.2.2.1
    have hk : k < 18446744073709551616 := by have := (tp_le ok ok2 b4).1; omega
    have HT := M.kv_turn ok ok2 h1 h
    have CPx := fun (q x : Int) (hq : M.Pc (i : Int) (!gg) k q x) => Lib.hid (fun W (F : TabF W) => vpattern_any W (Lib.hid F) (i : Int) (!gg) k hk q x hq)
    have CDx := fun (p : Nat) (hp : p < 18446744073709551616) (h1 : (p : Int) ≤ M.msk (M.tb i)) (c : Int) (g2 : Bool) (m : Nat) (z : Int) (hd : M.Dv (M.tb i) p c g2 m z) => Lib.hid (fun W (T : Tz W) (F : TabF W) => vdecode_any W (Lib.hid T) (Lib.hid F) (i : Int) p hp c g2 m z 0 (.inr ⟨i, rfl, a, b, .inr ⟨h1, hd, rfl⟩⟩))
    have CO := Lib.hid (fun W (F : TabF W) => of_in W F i (M.tb i) (Lib.hid rfl) a b)
    have mb : M.msk (M.tb i) < 18446744073709551616 := by have := ok.hm; omega
    clear h ok ok2 b4
    rcases HT with ⟨h4, rfl⟩ | ⟨h3, rfl, ht, hm⟩ | ⟨h4, hn, hm, q, c, m, z, g2, hq, hqm, hd, hd2, hc, hg⟩
    ·
      have CP := CPx 0 5 (.inr ⟨i, rfl, a, b, .inl ⟨h4, rfl, rfl, rfl⟩⟩)
      obtain ⟨f, hf⟩ : ∃ f, M.tb i = f := ⟨_, rfl⟩
      rw [hf] at h4 CO
      have d4 : (f.k == 4) = true := by simpa using h4
      clear CPx CDx h4 hf h1 mb
      have U := Up.refl w
      go_enter Tryd.func9, Tryd.ntmps9
      go_wp2_with fail
      refine (vshown_any _ (Lib.hid (TT.out.up U)) (Lib.hid (TF.out.up U))).mono ?_
      rintro _ w1 ⟨rfl, h1⟩
      replace U := U.trans h1
      clear h1
      go_wp2_with fail
      refine (CK.out _ (TT.out.up U) (TF.out.up U)).mono ?_
      rintro _ w2 ⟨rfl, h2⟩
      replace U := U.trans h2
      clear h2
      go_wp2_with fail
      refine (CO.out _ (TF.out.up U)).mono ?_
      rintro _ w3 ⟨rfl, h3⟩
      replace U := U.trans h3
      clear h3
      go_wp2_with fail
      obtain ⟨V4, hV4⟩ : ∃ V4, w3.alloc (.cells #[.int .i64 f.k, .int .i64 f.W, .int .i64 f.m, .int .i64 f.b, .int .u64 f.t, .int .u64 f.n, .int .u64 f.x] 40) = V4 := ⟨_, rfl⟩
      have C : Bf V4 w3.heap.size 40 f := by rw [← hV4]; exact Bf.mk_ w3 f 40
      have ltC : w.heap.size ≤ w3.heap.size := U.size
      have uV4 : Up w3 V4 := by rw [← hV4]; exact (Up.refl _).alloc _
      rw [hV4]
      clear hV4
      replace U := U.trans uV4
      clear uV4
      refine (CP.out _ (TF.out.up U)).mono ?_
      rintro _ w5 ⟨rfl, h5⟩
      replace U := U.trans h5
      replace C := C.up h5
      clear h5
      obtain ⟨C0, C1, C2, C3, C4, C5, C6⟩ := Bf.cs C
      have C7 := Bf.lt C
      simp only [Nat.zero_add] at C0 C1 C2 C3 C4 C5 C6 C7
      go_wp2_with fail
      clear C0 C1 C2 C3 C4 C5 C6 C7
      go_ret
      exact ⟨by first | rfl | simp, by first | exact U | exact U.alloc _⟩
    ·
      have CP := CPx 0 4 (.inr ⟨i, rfl, a, b, .inr ⟨by simp, .inl ⟨hm, rfl, rfl⟩⟩⟩)
      obtain ⟨f, hf⟩ : ∃ f, M.tb i = f := ⟨_, rfl⟩
      rw [hf] at h3 CO ht
      have d4 : (f.k == 4) = false := by simp [h3]
      have d3 : (f.k == 3) = true := by simpa using h3
      have d5 : decide (f.t < (k : Int)) = true := decide_eq_true ht
      clear CPx CDx h3 hf h1 mb ht hm
      have U := Up.refl w
      go_enter Tryd.func9, Tryd.ntmps9
      go_wp2_with fail
      refine (vshown_any _ (Lib.hid (TT.out.up U)) (Lib.hid (TF.out.up U))).mono ?_
      rintro _ w1 ⟨rfl, h1⟩
      replace U := U.trans h1
      clear h1
      go_wp2_with fail
      refine (CK.out _ (TT.out.up U) (TF.out.up U)).mono ?_
      rintro _ w2 ⟨rfl, h2⟩
      replace U := U.trans h2
      clear h2
      go_wp2_with fail
      refine (CO.out _ (TF.out.up U)).mono ?_
      rintro _ w3 ⟨rfl, h3⟩
      replace U := U.trans h3
      clear h3
      go_wp2_with fail
      obtain ⟨V4, hV4⟩ : ∃ V4, w3.alloc (.cells #[.int .i64 f.k, .int .i64 f.W, .int .i64 f.m, .int .i64 f.b, .int .u64 f.t, .int .u64 f.n, .int .u64 f.x] 40) = V4 := ⟨_, rfl⟩
      have C : Bf V4 w3.heap.size 40 f := by rw [← hV4]; exact Bf.mk_ w3 f 40
      have ltC : w.heap.size ≤ w3.heap.size := U.size
      have uV4 : Up w3 V4 := by rw [← hV4]; exact (Up.refl _).alloc _
      rw [hV4]
      clear hV4
      replace U := U.trans uV4
      clear uV4
      refine (CP.out _ (TF.out.up U)).mono ?_
      rintro _ w5 ⟨rfl, h5⟩
      replace U := U.trans h5
      replace C := C.up h5
      clear h5
      obtain ⟨C0, C1, C2, C3, C4, C5, C6⟩ := Bf.cs C
      have C7 := Bf.lt C
      simp only [Nat.zero_add] at C0 C1 C2 C3 C4 C5 C6 C7
      go_wp2_with fail
      clear C0 C1 C2 C3 C4 C5 C6 C7
      go_ret
      exact ⟨by first | rfl | simp, by first | exact U | exact U.alloc _⟩
    ·
      have CP := CPx (q : Int) 0 (.inr ⟨i, rfl, a, b, .inr ⟨fun e => h4 e.1, .inr ⟨hm, hq.symm, rfl⟩⟩⟩)
      have C1 := CDx p hp h1 c gg m z hd
      have C2 := CDx q (by omega) hqm c g2 m z hd2
      obtain ⟨f, hf⟩ : ∃ f, M.tb i = f := ⟨_, rfl⟩
      rw [hf] at h4 CO hn hg
      have d4 : (f.k == 4) = false := by simpa using h4
      have r1 : ((m : Int) == (m : Int)) = true := by simp
      have r2 : (z == z) = true := by simp
      have r3 : (c == c) = true := by simp
      clear CPx CDx hf h1 mb hm hd hd2 hqm hq h4 hp
      have hg' : (g2 != gg) = true ∨ ((g2 != gg) = false ∧ c = 1 ∧ (f.k != 2) = true) := by
        rcases hg with h | ⟨h, h2⟩
        · left; rw [h]; cases gg <;> rfl
        · cases e : (g2 != gg)
          · exact .inr ⟨rfl, h, by simpa using h2⟩
          · exact .inl rfl
      clear hg hc
      by_cases h3 : f.k = 3
      ·
        have d3 : (f.k == 3) = true := by simpa using h3
        cases gg
        ·
          clear hn h3
          rcases hg' with hg1 | ⟨hg1, rfl, hk2⟩
          ·
            obtain rfl : g2 = true := by
              cases g2 with
              | true => rfl
              | false => exact absurd hg1 (by decide)
            clear hg1
            have U := Up.refl w
            go_enter Tryd.func9, Tryd.ntmps9
            go_wp2_with fail
            refine (vshown_any _ (Lib.hid (TT.out.up U)) (Lib.hid (TF.out.up U))).mono ?_
            rintro _ w1 ⟨rfl, h1⟩
            replace U := U.trans h1
            clear h1
            go_wp2_with fail
            refine (CK.out _ (TT.out.up U) (TF.out.up U)).mono ?_
            rintro _ w2 ⟨rfl, h2⟩
            replace U := U.trans h2
            clear h2
            go_wp2_with fail
            refine (CO.out _ (TF.out.up U)).mono ?_
            rintro _ w3 ⟨rfl, h3⟩
            replace U := U.trans h3
            clear h3
            go_wp2_with fail
            obtain ⟨V4, hV4⟩ : ∃ V4, w3.alloc (.cells #[.int .i64 f.k, .int .i64 f.W, .int .i64 f.m, .int .i64 f.b, .int .u64 f.t, .int .u64 f.n, .int .u64 f.x] 40) = V4 := ⟨_, rfl⟩
            have C : Bf V4 w3.heap.size 40 f := by rw [← hV4]; exact Bf.mk_ w3 f 40
            have ltC : w.heap.size ≤ w3.heap.size := U.size
            have uV4 : Up w3 V4 := by rw [← hV4]; exact (Up.refl _).alloc _
            rw [hV4]
            clear hV4
            replace U := U.trans uV4
            clear uV4
            refine (CP.out _ (TF.out.up U)).mono ?_
            rintro _ w5 ⟨rfl, h5⟩
            replace U := U.trans h5
            replace C := C.up h5
            clear h5
            obtain ⟨C0, C1, C2, C3, C4, C5, C6⟩ := Bf.cs C
            have C7 := Bf.lt C
            simp only [Nat.zero_add] at C0 C1 C2 C3 C4 C5 C6 C7
            go_wp2_with fail
            clear C0 C1 C2 C3 C4 C5 C6 C7
            refine (C1.out _ (TT.out.up U) (TF.out.up U)).mono ?_
            rintro _ w6 ⟨rfl, h6⟩
            replace U := U.trans h6
            replace C := C.up h6
            clear h6
            go_wp2_with fail
            obtain ⟨V7, hV7⟩ : ∃ V7, w6.alloc (.cells #[.int .i64 c, .bool false, .int .u64 (m : Int), .int .i64 z] 25) = V7 := ⟨_, rfl⟩
            have Y : Ob V7 w6.heap.size 25 #[.int .i64 c, .bool false, .int .u64 (m : Int), .int .i64 z] := by rw [← hV7]; exact Ob.mk_ _ _ _
            have uV7 : Up w6 V7 := by rw [← hV7]; exact (Up.refl _).alloc _
            have ltY : w.heap.size ≤ w6.heap.size := U.size
            rw [hV7]
            clear hV7
            replace U := U.trans uV7
            replace C := C.up uV7
            clear uV7
            refine (C2.out _ (TT.out.up U) (TF.out.up U)).mono ?_
            rintro _ w8 ⟨rfl, h8⟩
            replace U := U.trans h8
            replace C := C.up h8
            replace Y := Y.up h8
            clear h8
            go_upto_region 12 with (refine store_ob rfl 25 (.tmp 16) (.tmp 79) rfl _ #[.int .i64 0, .bool false, .int .u64 0, .int .i64 0] #[.int .i64 c, .bool true, .int .u64 (m : Int), .int .i64 z] rfl rfl 4 (by kernel_rfl) rfl rfl (by simp [Value.oneCell']) w8 ((Up.refl _).alloc _) (Nat.le_refl _) 25 (Ob.mk_ _ _ _) ?_; intro V9 Z uV9; have ltZ : w.heap.size ≤ w8.heap.size := U.size; replace U := U.trans uV9; replace C := C.up uV9; replace Y := Y.up uV9; clear uV9; have Z0 := Z.get 0; have Z1 := Z.get 1; have Z2 := Z.get 2; have Z3 := Z.get 3; simp only [List.getElem?_toArray, List.getElem?_cons_zero, List.getElem?_cons_succ] at Z0 Z1 Z2 Z3; have Y0 := Y.get 0; have Y1 := Y.get 1; have Y2 := Y.get 2; have Y3 := Y.get 3; simp only [List.getElem?_toArray, List.getElem?_cons_zero, List.getElem?_cons_succ] at Y0 Y1 Y2 Y3; obtain ⟨C0, C1, C2, C3, C4, C5, C6⟩ := Bf.cs C; simp only [Nat.zero_add] at C0 C1 C2 C3 C4 C5 C6)
            go_wp2_with fail
            go_ret
            exact ⟨by first | rfl | simp, by first | exact U | exact U.alloc _⟩
          ·
            obtain rfl : g2 = false := by
              cases g2 with
              | false => rfl
              | true => exact absurd hg1 (by decide)
            clear hg1
            have U := Up.refl w
            go_enter Tryd.func9, Tryd.ntmps9
            go_wp2_with fail
            refine (vshown_any _ (Lib.hid (TT.out.up U)) (Lib.hid (TF.out.up U))).mono ?_
            rintro _ w1 ⟨rfl, h1⟩
            replace U := U.trans h1
            clear h1
            go_wp2_with fail
            refine (CK.out _ (TT.out.up U) (TF.out.up U)).mono ?_
            rintro _ w2 ⟨rfl, h2⟩
            replace U := U.trans h2
            clear h2
            go_wp2_with fail
            refine (CO.out _ (TF.out.up U)).mono ?_
            rintro _ w3 ⟨rfl, h3⟩
            replace U := U.trans h3
            clear h3
            go_wp2_with fail
            obtain ⟨V4, hV4⟩ : ∃ V4, w3.alloc (.cells #[.int .i64 f.k, .int .i64 f.W, .int .i64 f.m, .int .i64 f.b, .int .u64 f.t, .int .u64 f.n, .int .u64 f.x] 40) = V4 := ⟨_, rfl⟩
            have C : Bf V4 w3.heap.size 40 f := by rw [← hV4]; exact Bf.mk_ w3 f 40
            have ltC : w.heap.size ≤ w3.heap.size := U.size
            have uV4 : Up w3 V4 := by rw [← hV4]; exact (Up.refl _).alloc _
            rw [hV4]
            clear hV4
            replace U := U.trans uV4
            clear uV4
            refine (CP.out _ (TF.out.up U)).mono ?_
            rintro _ w5 ⟨rfl, h5⟩
            replace U := U.trans h5
            replace C := C.up h5
            clear h5
            obtain ⟨C0, C1, C2, C3, C4, C5, C6⟩ := Bf.cs C
            have C7 := Bf.lt C
            simp only [Nat.zero_add] at C0 C1 C2 C3 C4 C5 C6 C7
            go_wp2_with fail
            clear C0 C1 C2 C3 C4 C5 C6 C7
            refine (C1.out _ (TT.out.up U) (TF.out.up U)).mono ?_
            rintro _ w6 ⟨rfl, h6⟩
            replace U := U.trans h6
            replace C := C.up h6
            clear h6
            go_wp2_with fail
            obtain ⟨V7, hV7⟩ : ∃ V7, w6.alloc (.cells #[.int .i64 1, .bool false, .int .u64 (m : Int), .int .i64 z] 25) = V7 := ⟨_, rfl⟩
            have Y : Ob V7 w6.heap.size 25 #[.int .i64 1, .bool false, .int .u64 (m : Int), .int .i64 z] := by rw [← hV7]; exact Ob.mk_ _ _ _
            have uV7 : Up w6 V7 := by rw [← hV7]; exact (Up.refl _).alloc _
            have ltY : w.heap.size ≤ w6.heap.size := U.size
            rw [hV7]
            clear hV7
            replace U := U.trans uV7
            replace C := C.up uV7
            clear uV7
            refine (C2.out _ (TT.out.up U) (TF.out.up U)).mono ?_
            rintro _ w8 ⟨rfl, h8⟩
            replace U := U.trans h8
            replace C := C.up h8
            replace Y := Y.up h8
            clear h8
            go_upto_region 12 with (refine store_ob rfl 25 (.tmp 16) (.tmp 79) rfl _ #[.int .i64 0, .bool false, .int .u64 0, .int .i64 0] #[.int .i64 1, .bool false, .int .u64 (m : Int), .int .i64 z] rfl rfl 4 (by kernel_rfl) rfl rfl (by simp [Value.oneCell']) w8 ((Up.refl _).alloc _) (Nat.le_refl _) 25 (Ob.mk_ _ _ _) ?_; intro V9 Z uV9; have ltZ : w.heap.size ≤ w8.heap.size := U.size; replace U := U.trans uV9; replace C := C.up uV9; replace Y := Y.up uV9; clear uV9; have Z0 := Z.get 0; have Z1 := Z.get 1; have Z2 := Z.get 2; have Z3 := Z.get 3; simp only [List.getElem?_toArray, List.getElem?_cons_zero, List.getElem?_cons_succ] at Z0 Z1 Z2 Z3; have Y0 := Y.get 0; have Y1 := Y.get 1; have Y2 := Y.get 2; have Y3 := Y.get 3; simp only [List.getElem?_toArray, List.getElem?_cons_zero, List.getElem?_cons_succ] at Y0 Y1 Y2 Y3; obtain ⟨C0, C1, C2, C3, C4, C5, C6⟩ := Bf.cs C; simp only [Nat.zero_add] at C0 C1 C2 C3 C4 C5 C6)
            go_wp2_with fail
            go_ret
            exact ⟨by first | rfl | simp, by first | exact U | exact U.alloc _⟩
        ·
          have d5 : decide (f.t < (k : Int)) = false := decide_eq_false (fun e => hn ⟨h3, rfl, e⟩)
          clear hn h3
          rcases hg' with hg1 | ⟨hg1, rfl, hk2⟩
          ·
            obtain rfl : g2 = false := by
              cases g2 with
              | false => rfl
              | true => exact absurd hg1 (by decide)
            clear hg1
            have U := Up.refl w
            go_enter Tryd.func9, Tryd.ntmps9
            go_wp2_with fail
            refine (vshown_any _ (Lib.hid (TT.out.up U)) (Lib.hid (TF.out.up U))).mono ?_
            rintro _ w1 ⟨rfl, h1⟩
            replace U := U.trans h1
            clear h1
            go_wp2_with fail
            refine (CK.out _ (TT.out.up U) (TF.out.up U)).mono ?_
            rintro _ w2 ⟨rfl, h2⟩
            replace U := U.trans h2
            clear h2
            go_wp2_with fail
            refine (CO.out _ (TF.out.up U)).mono ?_
            rintro _ w3 ⟨rfl, h3⟩
            replace U := U.trans h3
            clear h3
            go_wp2_with fail
            obtain ⟨V4, hV4⟩ : ∃ V4, w3.alloc (.cells #[.int .i64 f.k, .int .i64 f.W, .int .i64 f.m, .int .i64 f.b, .int .u64 f.t, .int .u64 f.n, .int .u64 f.x] 40) = V4 := ⟨_, rfl⟩
            have C : Bf V4 w3.heap.size 40 f := by rw [← hV4]; exact Bf.mk_ w3 f 40
            have ltC : w.heap.size ≤ w3.heap.size := U.size
            have uV4 : Up w3 V4 := by rw [← hV4]; exact (Up.refl _).alloc _
            rw [hV4]
            clear hV4
            replace U := U.trans uV4
            clear uV4
            refine (CP.out _ (TF.out.up U)).mono ?_
            rintro _ w5 ⟨rfl, h5⟩
            replace U := U.trans h5
            replace C := C.up h5
            clear h5
            obtain ⟨C0, C1, C2, C3, C4, C5, C6⟩ := Bf.cs C
            have C7 := Bf.lt C
            simp only [Nat.zero_add] at C0 C1 C2 C3 C4 C5 C6 C7
            go_wp2_with fail
            clear C0 C1 C2 C3 C4 C5 C6 C7
            refine (C1.out _ (TT.out.up U) (TF.out.up U)).mono ?_
            rintro _ w6 ⟨rfl, h6⟩
            replace U := U.trans h6
            replace C := C.up h6
            clear h6
            go_wp2_with fail
            obtain ⟨V7, hV7⟩ : ∃ V7, w6.alloc (.cells #[.int .i64 c, .bool true, .int .u64 (m : Int), .int .i64 z] 25) = V7 := ⟨_, rfl⟩
            have Y : Ob V7 w6.heap.size 25 #[.int .i64 c, .bool true, .int .u64 (m : Int), .int .i64 z] := by rw [← hV7]; exact Ob.mk_ _ _ _
            have uV7 : Up w6 V7 := by rw [← hV7]; exact (Up.refl _).alloc _
            have ltY : w.heap.size ≤ w6.heap.size := U.size
            rw [hV7]
            clear hV7
            replace U := U.trans uV7
            replace C := C.up uV7
            clear uV7
            refine (C2.out _ (TT.out.up U) (TF.out.up U)).mono ?_
            rintro _ w8 ⟨rfl, h8⟩
            replace U := U.trans h8
            replace C := C.up h8
            replace Y := Y.up h8
            clear h8
            go_upto_region 12 with (refine store_ob rfl 25 (.tmp 16) (.tmp 79) rfl _ #[.int .i64 0, .bool false, .int .u64 0, .int .i64 0] #[.int .i64 c, .bool false, .int .u64 (m : Int), .int .i64 z] rfl rfl 4 (by kernel_rfl) rfl rfl (by simp [Value.oneCell']) w8 ((Up.refl _).alloc _) (Nat.le_refl _) 25 (Ob.mk_ _ _ _) ?_; intro V9 Z uV9; have ltZ : w.heap.size ≤ w8.heap.size := U.size; replace U := U.trans uV9; replace C := C.up uV9; replace Y := Y.up uV9; clear uV9; have Z0 := Z.get 0; have Z1 := Z.get 1; have Z2 := Z.get 2; have Z3 := Z.get 3; simp only [List.getElem?_toArray, List.getElem?_cons_zero, List.getElem?_cons_succ] at Z0 Z1 Z2 Z3; have Y0 := Y.get 0; have Y1 := Y.get 1; have Y2 := Y.get 2; have Y3 := Y.get 3; simp only [List.getElem?_toArray, List.getElem?_cons_zero, List.getElem?_cons_succ] at Y0 Y1 Y2 Y3; obtain ⟨C0, C1, C2, C3, C4, C5, C6⟩ := Bf.cs C; simp only [Nat.zero_add] at C0 C1 C2 C3 C4 C5 C6)
            go_wp2_with fail
            go_ret
            exact ⟨by first | rfl | simp, by first | exact U | exact U.alloc _⟩
          ·
            obtain rfl : g2 = true := by
              cases g2 with
              | true => rfl
              | false => exact absurd hg1 (by decide)
            clear hg1
            have U := Up.refl w
            go_enter Tryd.func9, Tryd.ntmps9
            go_wp2_with fail
            refine (vshown_any _ (Lib.hid (TT.out.up U)) (Lib.hid (TF.out.up U))).mono ?_
            rintro _ w1 ⟨rfl, h1⟩
            replace U := U.trans h1
            clear h1
            go_wp2_with fail
            refine (CK.out _ (TT.out.up U) (TF.out.up U)).mono ?_
            rintro _ w2 ⟨rfl, h2⟩
            replace U := U.trans h2
            clear h2
            go_wp2_with fail
            refine (CO.out _ (TF.out.up U)).mono ?_
            rintro _ w3 ⟨rfl, h3⟩
            replace U := U.trans h3
            clear h3
            go_wp2_with fail
            obtain ⟨V4, hV4⟩ : ∃ V4, w3.alloc (.cells #[.int .i64 f.k, .int .i64 f.W, .int .i64 f.m, .int .i64 f.b, .int .u64 f.t, .int .u64 f.n, .int .u64 f.x] 40) = V4 := ⟨_, rfl⟩
            have C : Bf V4 w3.heap.size 40 f := by rw [← hV4]; exact Bf.mk_ w3 f 40
            have ltC : w.heap.size ≤ w3.heap.size := U.size
            have uV4 : Up w3 V4 := by rw [← hV4]; exact (Up.refl _).alloc _
            rw [hV4]
            clear hV4
            replace U := U.trans uV4
            clear uV4
            refine (CP.out _ (TF.out.up U)).mono ?_
            rintro _ w5 ⟨rfl, h5⟩
            replace U := U.trans h5
            replace C := C.up h5
            clear h5
            obtain ⟨C0, C1, C2, C3, C4, C5, C6⟩ := Bf.cs C
            have C7 := Bf.lt C
            simp only [Nat.zero_add] at C0 C1 C2 C3 C4 C5 C6 C7
            go_wp2_with fail
            clear C0 C1 C2 C3 C4 C5 C6 C7
            refine (C1.out _ (TT.out.up U) (TF.out.up U)).mono ?_
            rintro _ w6 ⟨rfl, h6⟩
            replace U := U.trans h6
            replace C := C.up h6
            clear h6
            go_wp2_with fail
            obtain ⟨V7, hV7⟩ : ∃ V7, w6.alloc (.cells #[.int .i64 1, .bool true, .int .u64 (m : Int), .int .i64 z] 25) = V7 := ⟨_, rfl⟩
            have Y : Ob V7 w6.heap.size 25 #[.int .i64 1, .bool true, .int .u64 (m : Int), .int .i64 z] := by rw [← hV7]; exact Ob.mk_ _ _ _
            have uV7 : Up w6 V7 := by rw [← hV7]; exact (Up.refl _).alloc _
            have ltY : w.heap.size ≤ w6.heap.size := U.size
            rw [hV7]
            clear hV7
            replace U := U.trans uV7
            replace C := C.up uV7
            clear uV7
            refine (C2.out _ (TT.out.up U) (TF.out.up U)).mono ?_
            rintro _ w8 ⟨rfl, h8⟩
            replace U := U.trans h8
            replace C := C.up h8
            replace Y := Y.up h8
            clear h8
            go_upto_region 12 with (refine store_ob rfl 25 (.tmp 16) (.tmp 79) rfl _ #[.int .i64 0, .bool false, .int .u64 0, .int .i64 0] #[.int .i64 1, .bool true, .int .u64 (m : Int), .int .i64 z] rfl rfl 4 (by kernel_rfl) rfl rfl (by simp [Value.oneCell']) w8 ((Up.refl _).alloc _) (Nat.le_refl _) 25 (Ob.mk_ _ _ _) ?_; intro V9 Z uV9; have ltZ : w.heap.size ≤ w8.heap.size := U.size; replace U := U.trans uV9; replace C := C.up uV9; replace Y := Y.up uV9; clear uV9; have Z0 := Z.get 0; have Z1 := Z.get 1; have Z2 := Z.get 2; have Z3 := Z.get 3; simp only [List.getElem?_toArray, List.getElem?_cons_zero, List.getElem?_cons_succ] at Z0 Z1 Z2 Z3; have Y0 := Y.get 0; have Y1 := Y.get 1; have Y2 := Y.get 2; have Y3 := Y.get 3; simp only [List.getElem?_toArray, List.getElem?_cons_zero, List.getElem?_cons_succ] at Y0 Y1 Y2 Y3; obtain ⟨C0, C1, C2, C3, C4, C5, C6⟩ := Bf.cs C; simp only [Nat.zero_add] at C0 C1 C2 C3 C4 C5 C6)
            go_wp2_with fail
            go_ret
            exact ⟨by first | rfl | simp, by first | exact U | exact U.alloc _⟩
      ·
        have d3 : (f.k == 3) = false := by simpa using h3
        clear hn h3
        cases gg
        ·
          skip
          rcases hg' with hg1 | ⟨hg1, rfl, hk2⟩
          ·
            obtain rfl : g2 = true := by
              cases g2 with
              | true => rfl
              | false => exact absurd hg1 (by decide)
            clear hg1
            have U := Up.refl w
            go_enter Tryd.func9, Tryd.ntmps9
            go_wp2_with fail
            refine (vshown_any _ (Lib.hid (TT.out.up U)) (Lib.hid (TF.out.up U))).mono ?_
            rintro _ w1 ⟨rfl, h1⟩
            replace U := U.trans h1
            clear h1
            go_wp2_with fail
            refine (CK.out _ (TT.out.up U) (TF.out.up U)).mono ?_
            rintro _ w2 ⟨rfl, h2⟩
            replace U := U.trans h2
            clear h2
            go_wp2_with fail
            refine (CO.out _ (TF.out.up U)).mono ?_
            rintro _ w3 ⟨rfl, h3⟩
            replace U := U.trans h3
            clear h3
            go_wp2_with fail
            obtain ⟨V4, hV4⟩ : ∃ V4, w3.alloc (.cells #[.int .i64 f.k, .int .i64 f.W, .int .i64 f.m, .int .i64 f.b, .int .u64 f.t, .int .u64 f.n, .int .u64 f.x] 40) = V4 := ⟨_, rfl⟩
            have C : Bf V4 w3.heap.size 40 f := by rw [← hV4]; exact Bf.mk_ w3 f 40
            have ltC : w.heap.size ≤ w3.heap.size := U.size
            have uV4 : Up w3 V4 := by rw [← hV4]; exact (Up.refl _).alloc _
            rw [hV4]
            clear hV4
            replace U := U.trans uV4
            clear uV4
            refine (CP.out _ (TF.out.up U)).mono ?_
            rintro _ w5 ⟨rfl, h5⟩
            replace U := U.trans h5
            replace C := C.up h5
            clear h5
            obtain ⟨C0, C1, C2, C3, C4, C5, C6⟩ := Bf.cs C
            have C7 := Bf.lt C
            simp only [Nat.zero_add] at C0 C1 C2 C3 C4 C5 C6 C7
            go_wp2_with fail
            clear C0 C1 C2 C3 C4 C5 C6 C7
            refine (C1.out _ (TT.out.up U) (TF.out.up U)).mono ?_
            rintro _ w6 ⟨rfl, h6⟩
            replace U := U.trans h6
            replace C := C.up h6
            clear h6
            go_wp2_with fail
            obtain ⟨V7, hV7⟩ : ∃ V7, w6.alloc (.cells #[.int .i64 c, .bool false, .int .u64 (m : Int), .int .i64 z] 25) = V7 := ⟨_, rfl⟩
            have Y : Ob V7 w6.heap.size 25 #[.int .i64 c, .bool false, .int .u64 (m : Int), .int .i64 z] := by rw [← hV7]; exact Ob.mk_ _ _ _
            have uV7 : Up w6 V7 := by rw [← hV7]; exact (Up.refl _).alloc _
            have ltY : w.heap.size ≤ w6.heap.size := U.size
            rw [hV7]
            clear hV7
            replace U := U.trans uV7
            replace C := C.up uV7
            clear uV7
            refine (C2.out _ (TT.out.up U) (TF.out.up U)).mono ?_
            rintro _ w8 ⟨rfl, h8⟩
            replace U := U.trans h8
            replace C := C.up h8
            replace Y := Y.up h8
            clear h8
            go_upto_region 12 with (refine store_ob rfl 25 (.tmp 16) (.tmp 79) rfl _ #[.int .i64 0, .bool false, .int .u64 0, .int .i64 0] #[.int .i64 c, .bool true, .int .u64 (m : Int), .int .i64 z] rfl rfl 4 (by kernel_rfl) rfl rfl (by simp [Value.oneCell']) w8 ((Up.refl _).alloc _) (Nat.le_refl _) 25 (Ob.mk_ _ _ _) ?_; intro V9 Z uV9; have ltZ : w.heap.size ≤ w8.heap.size := U.size; replace U := U.trans uV9; replace C := C.up uV9; replace Y := Y.up uV9; clear uV9; have Z0 := Z.get 0; have Z1 := Z.get 1; have Z2 := Z.get 2; have Z3 := Z.get 3; simp only [List.getElem?_toArray, List.getElem?_cons_zero, List.getElem?_cons_succ] at Z0 Z1 Z2 Z3; have Y0 := Y.get 0; have Y1 := Y.get 1; have Y2 := Y.get 2; have Y3 := Y.get 3; simp only [List.getElem?_toArray, List.getElem?_cons_zero, List.getElem?_cons_succ] at Y0 Y1 Y2 Y3; obtain ⟨C0, C1, C2, C3, C4, C5, C6⟩ := Bf.cs C; simp only [Nat.zero_add] at C0 C1 C2 C3 C4 C5 C6)
            go_wp2_with fail
            go_ret
            exact ⟨by first | rfl | simp, by first | exact U | exact U.alloc _⟩
          ·
            obtain rfl : g2 = false := by
              cases g2 with
              | false => rfl
              | true => exact absurd hg1 (by decide)
            clear hg1
            have U := Up.refl w
            go_enter Tryd.func9, Tryd.ntmps9
            go_wp2_with fail
            refine (vshown_any _ (Lib.hid (TT.out.up U)) (Lib.hid (TF.out.up U))).mono ?_
            rintro _ w1 ⟨rfl, h1⟩
            replace U := U.trans h1
            clear h1
            go_wp2_with fail
            refine (CK.out _ (TT.out.up U) (TF.out.up U)).mono ?_
            rintro _ w2 ⟨rfl, h2⟩
            replace U := U.trans h2
            clear h2
            go_wp2_with fail
            refine (CO.out _ (TF.out.up U)).mono ?_
            rintro _ w3 ⟨rfl, h3⟩
            replace U := U.trans h3
            clear h3
            go_wp2_with fail
            obtain ⟨V4, hV4⟩ : ∃ V4, w3.alloc (.cells #[.int .i64 f.k, .int .i64 f.W, .int .i64 f.m, .int .i64 f.b, .int .u64 f.t, .int .u64 f.n, .int .u64 f.x] 40) = V4 := ⟨_, rfl⟩
            have C : Bf V4 w3.heap.size 40 f := by rw [← hV4]; exact Bf.mk_ w3 f 40
            have ltC : w.heap.size ≤ w3.heap.size := U.size
            have uV4 : Up w3 V4 := by rw [← hV4]; exact (Up.refl _).alloc _
            rw [hV4]
            clear hV4
            replace U := U.trans uV4
            clear uV4
            refine (CP.out _ (TF.out.up U)).mono ?_
            rintro _ w5 ⟨rfl, h5⟩
            replace U := U.trans h5
            replace C := C.up h5
            clear h5
            obtain ⟨C0, C1, C2, C3, C4, C5, C6⟩ := Bf.cs C
            have C7 := Bf.lt C
            simp only [Nat.zero_add] at C0 C1 C2 C3 C4 C5 C6 C7
            go_wp2_with fail
            clear C0 C1 C2 C3 C4 C5 C6 C7
            refine (C1.out _ (TT.out.up U) (TF.out.up U)).mono ?_
            rintro _ w6 ⟨rfl, h6⟩
            replace U := U.trans h6
            replace C := C.up h6
            clear h6
            go_wp2_with fail
            obtain ⟨V7, hV7⟩ : ∃ V7, w6.alloc (.cells #[.int .i64 1, .bool false, .int .u64 (m : Int), .int .i64 z] 25) = V7 := ⟨_, rfl⟩
            have Y : Ob V7 w6.heap.size 25 #[.int .i64 1, .bool false, .int .u64 (m : Int), .int .i64 z] := by rw [← hV7]; exact Ob.mk_ _ _ _
            have uV7 : Up w6 V7 := by rw [← hV7]; exact (Up.refl _).alloc _
            have ltY : w.heap.size ≤ w6.heap.size := U.size
            rw [hV7]
            clear hV7
            replace U := U.trans uV7
            replace C := C.up uV7
            clear uV7
            refine (C2.out _ (TT.out.up U) (TF.out.up U)).mono ?_
            rintro _ w8 ⟨rfl, h8⟩
            replace U := U.trans h8
            replace C := C.up h8
            replace Y := Y.up h8
            clear h8
            go_upto_region 12 with (refine store_ob rfl 25 (.tmp 16) (.tmp 79) rfl _ #[.int .i64 0, .bool false, .int .u64 0, .int .i64 0] #[.int .i64 1, .bool false, .int .u64 (m : Int), .int .i64 z] rfl rfl 4 (by kernel_rfl) rfl rfl (by simp [Value.oneCell']) w8 ((Up.refl _).alloc _) (Nat.le_refl _) 25 (Ob.mk_ _ _ _) ?_; intro V9 Z uV9; have ltZ : w.heap.size ≤ w8.heap.size := U.size; replace U := U.trans uV9; replace C := C.up uV9; replace Y := Y.up uV9; clear uV9; have Z0 := Z.get 0; have Z1 := Z.get 1; have Z2 := Z.get 2; have Z3 := Z.get 3; simp only [List.getElem?_toArray, List.getElem?_cons_zero, List.getElem?_cons_succ] at Z0 Z1 Z2 Z3; have Y0 := Y.get 0; have Y1 := Y.get 1; have Y2 := Y.get 2; have Y3 := Y.get 3; simp only [List.getElem?_toArray, List.getElem?_cons_zero, List.getElem?_cons_succ] at Y0 Y1 Y2 Y3; obtain ⟨C0, C1, C2, C3, C4, C5, C6⟩ := Bf.cs C; simp only [Nat.zero_add] at C0 C1 C2 C3 C4 C5 C6)
            go_wp2_with fail
            go_ret
            exact ⟨by first | rfl | simp, by first | exact U | exact U.alloc _⟩
        ·
          skip
          rcases hg' with hg1 | ⟨hg1, rfl, hk2⟩
          ·
            obtain rfl : g2 = false := by
              cases g2 with
              | false => rfl
              | true => exact absurd hg1 (by decide)
            clear hg1
            have U := Up.refl w
            go_enter Tryd.func9, Tryd.ntmps9
            go_wp2_with fail
            refine (vshown_any _ (Lib.hid (TT.out.up U)) (Lib.hid (TF.out.up U))).mono ?_
            rintro _ w1 ⟨rfl, h1⟩
            replace U := U.trans h1
            clear h1
            go_wp2_with fail
            refine (CK.out _ (TT.out.up U) (TF.out.up U)).mono ?_
            rintro _ w2 ⟨rfl, h2⟩
            replace U := U.trans h2
            clear h2
            go_wp2_with fail
            refine (CO.out _ (TF.out.up U)).mono ?_
            rintro _ w3 ⟨rfl, h3⟩
            replace U := U.trans h3
            clear h3
            go_wp2_with fail
            obtain ⟨V4, hV4⟩ : ∃ V4, w3.alloc (.cells #[.int .i64 f.k, .int .i64 f.W, .int .i64 f.m, .int .i64 f.b, .int .u64 f.t, .int .u64 f.n, .int .u64 f.x] 40) = V4 := ⟨_, rfl⟩
            have C : Bf V4 w3.heap.size 40 f := by rw [← hV4]; exact Bf.mk_ w3 f 40
            have ltC : w.heap.size ≤ w3.heap.size := U.size
            have uV4 : Up w3 V4 := by rw [← hV4]; exact (Up.refl _).alloc _
            rw [hV4]
            clear hV4
            replace U := U.trans uV4
            clear uV4
            refine (CP.out _ (TF.out.up U)).mono ?_
            rintro _ w5 ⟨rfl, h5⟩
            replace U := U.trans h5
            replace C := C.up h5
            clear h5
            obtain ⟨C0, C1, C2, C3, C4, C5, C6⟩ := Bf.cs C
            have C7 := Bf.lt C
            simp only [Nat.zero_add] at C0 C1 C2 C3 C4 C5 C6 C7
            go_wp2_with fail
            clear C0 C1 C2 C3 C4 C5 C6 C7
            refine (C1.out _ (TT.out.up U) (TF.out.up U)).mono ?_
            rintro _ w6 ⟨rfl, h6⟩
            replace U := U.trans h6
            replace C := C.up h6
            clear h6
            go_wp2_with fail
            obtain ⟨V7, hV7⟩ : ∃ V7, w6.alloc (.cells #[.int .i64 c, .bool true, .int .u64 (m : Int), .int .i64 z] 25) = V7 := ⟨_, rfl⟩
            have Y : Ob V7 w6.heap.size 25 #[.int .i64 c, .bool true, .int .u64 (m : Int), .int .i64 z] := by rw [← hV7]; exact Ob.mk_ _ _ _
            have uV7 : Up w6 V7 := by rw [← hV7]; exact (Up.refl _).alloc _
            have ltY : w.heap.size ≤ w6.heap.size := U.size
            rw [hV7]
            clear hV7
            replace U := U.trans uV7
            replace C := C.up uV7
            clear uV7
            refine (C2.out _ (TT.out.up U) (TF.out.up U)).mono ?_
            rintro _ w8 ⟨rfl, h8⟩
            replace U := U.trans h8
            replace C := C.up h8
            replace Y := Y.up h8
            clear h8
            go_upto_region 12 with (refine store_ob rfl 25 (.tmp 16) (.tmp 79) rfl _ #[.int .i64 0, .bool false, .int .u64 0, .int .i64 0] #[.int .i64 c, .bool false, .int .u64 (m : Int), .int .i64 z] rfl rfl 4 (by kernel_rfl) rfl rfl (by simp [Value.oneCell']) w8 ((Up.refl _).alloc _) (Nat.le_refl _) 25 (Ob.mk_ _ _ _) ?_; intro V9 Z uV9; have ltZ : w.heap.size ≤ w8.heap.size := U.size; replace U := U.trans uV9; replace C := C.up uV9; replace Y := Y.up uV9; clear uV9; have Z0 := Z.get 0; have Z1 := Z.get 1; have Z2 := Z.get 2; have Z3 := Z.get 3; simp only [List.getElem?_toArray, List.getElem?_cons_zero, List.getElem?_cons_succ] at Z0 Z1 Z2 Z3; have Y0 := Y.get 0; have Y1 := Y.get 1; have Y2 := Y.get 2; have Y3 := Y.get 3; simp only [List.getElem?_toArray, List.getElem?_cons_zero, List.getElem?_cons_succ] at Y0 Y1 Y2 Y3; obtain ⟨C0, C1, C2, C3, C4, C5, C6⟩ := Bf.cs C; simp only [Nat.zero_add] at C0 C1 C2 C3 C4 C5 C6)
            go_wp2_with fail
            go_ret
            exact ⟨by first | rfl | simp, by first | exact U | exact U.alloc _⟩
          ·
            obtain rfl : g2 = true := by
              cases g2 with
              | true => rfl
              | false => exact absurd hg1 (by decide)
            clear hg1
            have U := Up.refl w
            go_enter Tryd.func9, Tryd.ntmps9
            go_wp2_with fail
            refine (vshown_any _ (Lib.hid (TT.out.up U)) (Lib.hid (TF.out.up U))).mono ?_
            rintro _ w1 ⟨rfl, h1⟩
            replace U := U.trans h1
            clear h1
            go_wp2_with fail
            refine (CK.out _ (TT.out.up U) (TF.out.up U)).mono ?_
            rintro _ w2 ⟨rfl, h2⟩
            replace U := U.trans h2
            clear h2
            go_wp2_with fail
            refine (CO.out _ (TF.out.up U)).mono ?_
            rintro _ w3 ⟨rfl, h3⟩
            replace U := U.trans h3
            clear h3
            go_wp2_with fail
            obtain ⟨V4, hV4⟩ : ∃ V4, w3.alloc (.cells #[.int .i64 f.k, .int .i64 f.W, .int .i64 f.m, .int .i64 f.b, .int .u64 f.t, .int .u64 f.n, .int .u64 f.x] 40) = V4 := ⟨_, rfl⟩
            have C : Bf V4 w3.heap.size 40 f := by rw [← hV4]; exact Bf.mk_ w3 f 40
            have ltC : w.heap.size ≤ w3.heap.size := U.size
            have uV4 : Up w3 V4 := by rw [← hV4]; exact (Up.refl _).alloc _
            rw [hV4]
            clear hV4
            replace U := U.trans uV4
            clear uV4
            refine (CP.out _ (TF.out.up U)).mono ?_
            rintro _ w5 ⟨rfl, h5⟩
            replace U := U.trans h5
            replace C := C.up h5
            clear h5
            obtain ⟨C0, C1, C2, C3, C4, C5, C6⟩ := Bf.cs C
            have C7 := Bf.lt C
            simp only [Nat.zero_add] at C0 C1 C2 C3 C4 C5 C6 C7
            go_wp2_with fail
            clear C0 C1 C2 C3 C4 C5 C6 C7
            refine (C1.out _ (TT.out.up U) (TF.out.up U)).mono ?_
            rintro _ w6 ⟨rfl, h6⟩
            replace U := U.trans h6
            replace C := C.up h6
            clear h6
            go_wp2_with fail
            obtain ⟨V7, hV7⟩ : ∃ V7, w6.alloc (.cells #[.int .i64 1, .bool true, .int .u64 (m : Int), .int .i64 z] 25) = V7 := ⟨_, rfl⟩
            have Y : Ob V7 w6.heap.size 25 #[.int .i64 1, .bool true, .int .u64 (m : Int), .int .i64 z] := by rw [← hV7]; exact Ob.mk_ _ _ _
            have uV7 : Up w6 V7 := by rw [← hV7]; exact (Up.refl _).alloc _
            have ltY : w.heap.size ≤ w6.heap.size := U.size
            rw [hV7]
            clear hV7
            replace U := U.trans uV7
            replace C := C.up uV7
            clear uV7
            refine (C2.out _ (TT.out.up U) (TF.out.up U)).mono ?_
            rintro _ w8 ⟨rfl, h8⟩
            replace U := U.trans h8
            replace C := C.up h8
            replace Y := Y.up h8
            clear h8
            go_upto_region 12 with (refine store_ob rfl 25 (.tmp 16) (.tmp 79) rfl _ #[.int .i64 0, .bool false, .int .u64 0, .int .i64 0] #[.int .i64 1, .bool true, .int .u64 (m : Int), .int .i64 z] rfl rfl 4 (by kernel_rfl) rfl rfl (by simp [Value.oneCell']) w8 ((Up.refl _).alloc _) (Nat.le_refl _) 25 (Ob.mk_ _ _ _) ?_; intro V9 Z uV9; have ltZ : w.heap.size ≤ w8.heap.size := U.size; replace U := U.trans uV9; replace C := C.up uV9; replace Y := Y.up uV9; clear uV9; have Z0 := Z.get 0; have Z1 := Z.get 1; have Z2 := Z.get 2; have Z3 := Z.get 3; simp only [List.getElem?_toArray, List.getElem?_cons_zero, List.getElem?_cons_succ] at Z0 Z1 Z2 Z3; have Y0 := Y.get 0; have Y1 := Y.get 1; have Y2 := Y.get 2; have Y3 := Y.get 3; simp only [List.getElem?_toArray, List.getElem?_cons_zero, List.getElem?_cons_succ] at Y0 Y1 Y2 Y3; obtain ⟨C0, C1, C2, C3, C4, C5, C6⟩ := Bf.cs C; simp only [Nat.zero_add] at C0 C1 C2 C3 C4 C5 C6)
            go_wp2_with fail
            go_ret
            exact ⟨by first | rfl | simp, by first | exact U | exact U.alloc _⟩
end Go.Proofs.YtjcbncfpcechnaaDoor
