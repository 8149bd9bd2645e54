/-
  RoundTies.
-/
import Derived.Test.YtlogglhonlannaaDoorLb
namespace Go.Proofs.YtlogglhonlannaaDoor
open Go.RowKit
set_option linter.unusedSimpArgs false
set_option linter.unusedVariables false

set_option maxHeartbeats 1000000 in
set_option maxRecDepth 100000 in
theorem rties_walk (w : World) (TT : Hid (Tz w)) (TF : Hid (TabF w)) (x0 : Int) (_wx0 : (Lit.int .i64 x0).wf = true) (x1 : Int) (wx1 : (Lit.int .u64 x1).wf = true) : Calls Tryd.prog 6 #[.int .i64 x0, .int .u64 x1] w (True8 w) := by
  obtain ⟨k, rfl, kb⟩ := wf_u64 wx1
  clear wx1
  obtain ⟨m, z, x, h⟩ := M.bc_ex x0 k
  have CB := Lib.hid (fun W (T : Tz W) (F : TabF W) => vbetween_any W (Lib.hid T) (Lib.hid F) x0 k kb m z x h)
  have hx : (x ≠ 0) ∨ (x = 0 ∧ ∃ i : Nat, x0 = i ∧ 1 ≤ i ∧ i ≤ 14 ∧ (k : Int) ≤ M.tp (M.tb i) ∧ M.Bd (M.tb i) k m z) := by
    rcases h with ⟨h, rfl, rfl, rfl⟩ | ⟨i, rfl, a, b, ⟨h, rfl, rfl, rfl⟩ | ⟨h1, h, rfl⟩⟩
    · exact .inl (by decide)
    · exact .inl (by decide)
    · exact .inr ⟨rfl, i, rfl, a, b, h1, h⟩
  clear h
  rcases hx with hx | ⟨rfl, i, rfl, i1, i2, hk, hb⟩
  ·
    have d1 : (x != 0) = true := by simpa using hx
    clear hx
    have U := Up.refl w
    go_enter Tryd.func6, Tryd.ntmps6
    go_wp2_with fail
    refine (shown8_any _ (Lib.hid (TT.out.up U)) (Lib.hid (TF.out.up U))).mono ?_
    rintro _ w1 ⟨rfl, h1⟩
    replace U := U.trans h1
    clear h1
    go_wp2_with fail
    refine (CB.out _ (TT.out.up U) (TF.out.up U)).mono ?_
    rintro _ w2 ⟨rfl, h2⟩
    replace U := U.trans h2
    clear h2
    go_wp2_with fail
    first | go_ret | refine bodyPost_ret (v := .bool true) (by simp [results, Tryd.results6, go_sem]) rfl ?_
    exact ⟨by first | rfl | simp, by first | exact U | exact U.drewN _ | exact U.drew⟩
  ·
    have ok := M.ok i i1 i2
    have ok2 := M.ok2 i i1 i2
    have ok3 := M.ok3 i i1 i2
    obtain ⟨m0, mb, zb⟩ := M.bd_z ok ok2 ok3 hk hb
    obtain ⟨q, hq, q3, qb, qt⟩ := M.mst_rng ok ok2 ok3 false
    have h4 : ¬ ((M.tb i).k = 4 ∧ false = true) := fun e => by cases e.2
    have CO := Lib.hid (fun W => xof_fin W false m z mb (M.pw_of zb))
    have CM := Lib.hid (fun W (F : TabF W) => vmost_any W (Lib.hid F) (i : Int) false (q : Int) 0 (.inr ⟨i, rfl, i1, i2, .inr ⟨h4, hq.symm, rfl⟩⟩))
    rcases Nat.lt_or_ge q k with kq | kq
    ·
      clear hb hk ok ok2 ok3 hq h4 qt
      have U := Up.refl w
      go_enter Tryd.func6, Tryd.ntmps6
      go_wp2_with fail
      refine (shown8_any _ (Lib.hid (TT.out.up U)) (Lib.hid (TF.out.up U))).mono ?_
      rintro _ w1 ⟨rfl, h1⟩
      replace U := U.trans h1
      clear h1
      go_wp2_with fail
      refine (CB.out _ (TT.out.up U) (TF.out.up U)).mono ?_
      rintro _ w2 ⟨rfl, h2⟩
      replace U := U.trans h2
      clear h2
      go_wp2_with fail
      refine (CO.out _).mono ?_
      rintro _ w3 ⟨_, rfl, ⟨A1, n1, k1, ys1, rfl, N⟩, h3⟩
      replace U := U.trans h3
      clear h3
      replace N : Nt w3 _ 1 (.slice A1 n1 k1) m := ⟨_, _, _, _, rfl, N⟩
      go_wp2_with (refine store_ob rfl 32 (.tmp 9) (.tmp 35) rfl _ #[.bool false, .slice none 0 0, .int .i64 0, .int .i64 0] #[.bool false, .slice A1 n1 k1, .int .i64 z, .int .i64 0] rfl rfl 4 (by kernel_rfl) rfl rfl (by simp [Value.oneCell']) w3 ((Up.refl _).alloc _) (Nat.le_refl _) 32 (Ob.mk_ _ _ _) ?_; intro V4 E uV4; have ltE : w.heap.size ≤ w3.heap.size := U.size; replace U := U.trans uV4; replace N := N.up uV4; clear uV4; have E0 := E.get 0; have E1 := E.get 1; have E2 := E.get 2; have E3 := E.get 3; simp only [List.getElem?_toArray, List.getElem?_cons_zero, List.getElem?_cons_succ] at E0 E1 E2 E3)
      clear E0 E1 E2 E3
      refine (CM.out _ (TF.out.up U)).mono ?_
      rintro _ w5 ⟨rfl, h5⟩
      replace U := U.trans h5
      replace E := E.up h5
      replace N := N.up h5
      clear h5
      have E0 := E.get 0
      have E1 := E.get 1
      have E2 := E.get 2
      have E3 := E.get 3
      have Ef0 := E.fr 0
      have Ef1 := E.fr 1
      have Ef2 := E.fr 2
      have Ef3 := E.fr 3
      have El := E.lt
      simp only [List.getElem?_toArray, List.getElem?_cons_zero, List.getElem?_cons_succ] at E0 E1 E2 E3
      go_wp2_with fail
      clear E0 Ef0 E1 Ef1 E2 Ef2 E3 Ef3 El
      first | go_ret | refine bodyPost_ret (v := .bool true) (by simp [results, Tryd.results6, go_sem]) rfl ?_
      exact ⟨by first | rfl | simp, by first | exact U | exact U.drewN _ | exact U.drew⟩
    ·
      obtain ⟨k', o, hn, hc⟩ := M.ties ok ok2 ok3 qt (by omega) kq hb
      have CN := Lib.hid (fun W (T : Tz W) (F : TabF W) (lo : Nat) (v : Value) (N : Nt W lo 1 v m) => rnd_nearest W (Lib.hid T) (Lib.hid F) (i : Int) false lo 1 false v z 0 m N (by decide) (by omega) (by decide) (lt_w128 mb) k' o 0 (.inr ⟨i, rfl, i1, i2, .inr ⟨h4, q, hq, hn, rfl⟩⟩))
      obtain ⟨f, hf⟩ : ∃ f, M.tb i = f := ⟨_, rfl⟩
      have CF := Lib.hid (fun W (F : TabF W) => of_in W F i f (Lib.hid hf) i1 i2)
      rw [hf] at hc
      have nlt : ¬ q < k := by omega
      have kb' : k' ≤ q ∨ k' = k + 1 := by
        rcases hc with ⟨_, _, h⟩ | ⟨_, _, _, h⟩ | ⟨_, _, _, h⟩
        · split at h <;> omega
        · omega
        · omega
      clear hb hk ok ok2 ok3 hq h4 qt hn hf
      rcases hc with ⟨he, rfl, hk'⟩ | ⟨he, hkq, rfl, hk'⟩ | ⟨he, hkq, rfl, hk'⟩
      ·
        have em : (k : Int).tmod 2 = 0 := by rw [Int.tmod_eq_emod_of_nonneg (by omega)]; omega
        by_cases c0 : k = 0
        ·
          subst c0
          by_cases c1 : f.k = 1
          ·
            obtain rfl : k' = 1 := by rw [hk', if_pos ⟨rfl, c1⟩]
            have d1 : (f.k == 1) = true := by simpa using c1
            clear hk' he c1 kb'
            have U := Up.refl w
            go_enter Tryd.func6, Tryd.ntmps6
            go_wp2_with fail
            refine (shown8_any _ (Lib.hid (TT.out.up U)) (Lib.hid (TF.out.up U))).mono ?_
            rintro _ w1 ⟨rfl, h1⟩
            replace U := U.trans h1
            clear h1
            go_wp2_with fail
            refine (CB.out _ (TT.out.up U) (TF.out.up U)).mono ?_
            rintro _ w2 ⟨rfl, h2⟩
            replace U := U.trans h2
            clear h2
            go_wp2_with fail
            refine (CO.out _).mono ?_
            rintro _ w3 ⟨_, rfl, ⟨A1, n1, k1, ys1, rfl, N⟩, h3⟩
            replace U := U.trans h3
            clear h3
            replace N : Nt w3 _ 1 (.slice A1 n1 k1) m := ⟨_, _, _, _, rfl, N⟩
            go_wp2_with (refine store_ob rfl 32 (.tmp 9) (.tmp 35) rfl _ #[.bool false, .slice none 0 0, .int .i64 0, .int .i64 0] #[.bool false, .slice A1 n1 k1, .int .i64 z, .int .i64 0] rfl rfl 4 (by kernel_rfl) rfl rfl (by simp [Value.oneCell']) w3 ((Up.refl _).alloc _) (Nat.le_refl _) 32 (Ob.mk_ _ _ _) ?_; intro V4 E uV4; have ltE : w.heap.size ≤ w3.heap.size := U.size; replace U := U.trans uV4; replace N := N.up uV4; clear uV4; have E0 := E.get 0; have E1 := E.get 1; have E2 := E.get 2; have E3 := E.get 3; simp only [List.getElem?_toArray, List.getElem?_cons_zero, List.getElem?_cons_succ] at E0 E1 E2 E3)
            clear E0 E1 E2 E3
            refine (CM.out _ (TF.out.up U)).mono ?_
            rintro _ w5 ⟨rfl, h5⟩
            replace U := U.trans h5
            replace E := E.up h5
            replace N := N.up h5
            clear h5
            have E0 := E.get 0
            have E1 := E.get 1
            have E2 := E.get 2
            have E3 := E.get 3
            have Ef0 := E.fr 0
            have Ef1 := E.fr 1
            have Ef2 := E.fr 2
            have Ef3 := E.fr 3
            have El := E.lt
            simp only [List.getElem?_toArray, List.getElem?_cons_zero, List.getElem?_cons_succ] at E0 E1 E2 E3
            go_wp2_with fail
            clear E0 Ef0 E1 Ef1 E2 Ef2 E3 Ef3 El
            refine (CN.out _ (TT.out.up U) (TF.out.up U) _ _ N).mono ?_
            rintro _ w6 ⟨rfl, h6⟩
            replace U := U.trans h6
            replace E := E.up h6
            replace N := N.up h6
            clear h6
            go_wp2_with fail
            refine (CF.out _ (TF.out.up U)).mono ?_
            rintro _ w7 ⟨rfl, h7⟩
            replace U := U.trans h7
            replace E := E.up h7
            replace N := N.up h7
            clear h7
            go_wp2_with fail
            obtain ⟨V8, hV8⟩ : ∃ V8, w7.alloc (.cells #[.int .i64 f.k, .int .i64 f.W, .int .i64 f.m, .int .i64 f.b, .int .u64 f.t, .int .u64 f.n, .int .u64 f.x] 50) = V8 := ⟨_, rfl⟩
            have C : Bf V8 w7.heap.size 50 f := by rw [← hV8]; exact Bf.mk_ w7 f 50
            have ltC : w.heap.size ≤ w7.heap.size := U.size
            have uV8 : Up w7 V8 := by rw [← hV8]; exact (Up.refl _).alloc _
            rw [hV8]
            clear hV8
            replace U := U.trans uV8
            replace E := E.up uV8
            replace N := N.up uV8
            clear uV8
            obtain ⟨C0, C1, C2, C3, C4, C5, C6⟩ := Bf.cs C
            have C7 := Bf.lt C
            simp only [Nat.zero_add] at C0 C1 C2 C3 C4 C5 C6 C7
            go_wp2_with fail
            clear C0 C1 C2 C3 C4 C5 C6 C7
            first | go_ret | refine bodyPost_ret (v := .bool true) (by simp [results, Tryd.results6, go_sem]) rfl ?_
            exact ⟨by first | rfl | simp, by first | exact U | exact U.drewN _ | exact U.drew⟩
          ·
            obtain rfl : k' = 0 := by rw [hk', if_neg (fun e => c1 e.2)]
            have d1 : (f.k == 1) = false := by simpa using c1
            clear hk' he c1 kb'
            have U := Up.refl w
            go_enter Tryd.func6, Tryd.ntmps6
            go_wp2_with fail
            refine (shown8_any _ (Lib.hid (TT.out.up U)) (Lib.hid (TF.out.up U))).mono ?_
            rintro _ w1 ⟨rfl, h1⟩
            replace U := U.trans h1
            clear h1
            go_wp2_with fail
            refine (CB.out _ (TT.out.up U) (TF.out.up U)).mono ?_
            rintro _ w2 ⟨rfl, h2⟩
            replace U := U.trans h2
            clear h2
            go_wp2_with fail
            refine (CO.out _).mono ?_
            rintro _ w3 ⟨_, rfl, ⟨A1, n1, k1, ys1, rfl, N⟩, h3⟩
            replace U := U.trans h3
            clear h3
            replace N : Nt w3 _ 1 (.slice A1 n1 k1) m := ⟨_, _, _, _, rfl, N⟩
            go_wp2_with (refine store_ob rfl 32 (.tmp 9) (.tmp 35) rfl _ #[.bool false, .slice none 0 0, .int .i64 0, .int .i64 0] #[.bool false, .slice A1 n1 k1, .int .i64 z, .int .i64 0] rfl rfl 4 (by kernel_rfl) rfl rfl (by simp [Value.oneCell']) w3 ((Up.refl _).alloc _) (Nat.le_refl _) 32 (Ob.mk_ _ _ _) ?_; intro V4 E uV4; have ltE : w.heap.size ≤ w3.heap.size := U.size; replace U := U.trans uV4; replace N := N.up uV4; clear uV4; have E0 := E.get 0; have E1 := E.get 1; have E2 := E.get 2; have E3 := E.get 3; simp only [List.getElem?_toArray, List.getElem?_cons_zero, List.getElem?_cons_succ] at E0 E1 E2 E3)
            clear E0 E1 E2 E3
            refine (CM.out _ (TF.out.up U)).mono ?_
            rintro _ w5 ⟨rfl, h5⟩
            replace U := U.trans h5
            replace E := E.up h5
            replace N := N.up h5
            clear h5
            have E0 := E.get 0
            have E1 := E.get 1
            have E2 := E.get 2
            have E3 := E.get 3
            have Ef0 := E.fr 0
            have Ef1 := E.fr 1
            have Ef2 := E.fr 2
            have Ef3 := E.fr 3
            have El := E.lt
            simp only [List.getElem?_toArray, List.getElem?_cons_zero, List.getElem?_cons_succ] at E0 E1 E2 E3
            go_wp2_with fail
            clear E0 Ef0 E1 Ef1 E2 Ef2 E3 Ef3 El
            refine (CN.out _ (TT.out.up U) (TF.out.up U) _ _ N).mono ?_
            rintro _ w6 ⟨rfl, h6⟩
            replace U := U.trans h6
            replace E := E.up h6
            replace N := N.up h6
            clear h6
            go_wp2_with fail
            refine (CF.out _ (TF.out.up U)).mono ?_
            rintro _ w7 ⟨rfl, h7⟩
            replace U := U.trans h7
            replace E := E.up h7
            replace N := N.up h7
            clear h7
            go_wp2_with fail
            obtain ⟨V8, hV8⟩ : ∃ V8, w7.alloc (.cells #[.int .i64 f.k, .int .i64 f.W, .int .i64 f.m, .int .i64 f.b, .int .u64 f.t, .int .u64 f.n, .int .u64 f.x] 50) = V8 := ⟨_, rfl⟩
            have C : Bf V8 w7.heap.size 50 f := by rw [← hV8]; exact Bf.mk_ w7 f 50
            have ltC : w.heap.size ≤ w7.heap.size := U.size
            have uV8 : Up w7 V8 := by rw [← hV8]; exact (Up.refl _).alloc _
            rw [hV8]
            clear hV8
            replace U := U.trans uV8
            replace E := E.up uV8
            replace N := N.up uV8
            clear uV8
            obtain ⟨C0, C1, C2, C3, C4, C5, C6⟩ := Bf.cs C
            have C7 := Bf.lt C
            simp only [Nat.zero_add] at C0 C1 C2 C3 C4 C5 C6 C7
            go_wp2_with fail
            clear C0 C1 C2 C3 C4 C5 C6 C7
            first | go_ret | refine bodyPost_ret (v := .bool true) (by simp [results, Tryd.results6, go_sem]) rfl ?_
            exact ⟨by first | rfl | simp, by first | exact U | exact U.drewN _ | exact U.drew⟩
        ·
          obtain rfl : k' = k := by rw [hk', if_neg (fun e => c0 e.1)]
          have d0 : ((k' : Int) == 0) = false := by rw [beq_eq_false_iff_ne]; omega
          clear hk' he c0 kb'
          have U := Up.refl w
          go_enter Tryd.func6, Tryd.ntmps6
          go_wp2_with fail
          refine (shown8_any _ (Lib.hid (TT.out.up U)) (Lib.hid (TF.out.up U))).mono ?_
          rintro _ w1 ⟨rfl, h1⟩
          replace U := U.trans h1
          clear h1
          go_wp2_with fail
          refine (CB.out _ (TT.out.up U) (TF.out.up U)).mono ?_
          rintro _ w2 ⟨rfl, h2⟩
          replace U := U.trans h2
          clear h2
          go_wp2_with fail
          refine (CO.out _).mono ?_
          rintro _ w3 ⟨_, rfl, ⟨A1, n1, k1, ys1, rfl, N⟩, h3⟩
          replace U := U.trans h3
          clear h3
          replace N : Nt w3 _ 1 (.slice A1 n1 k1) m := ⟨_, _, _, _, rfl, N⟩
          go_wp2_with (refine store_ob rfl 32 (.tmp 9) (.tmp 35) rfl _ #[.bool false, .slice none 0 0, .int .i64 0, .int .i64 0] #[.bool false, .slice A1 n1 k1, .int .i64 z, .int .i64 0] rfl rfl 4 (by kernel_rfl) rfl rfl (by simp [Value.oneCell']) w3 ((Up.refl _).alloc _) (Nat.le_refl _) 32 (Ob.mk_ _ _ _) ?_; intro V4 E uV4; have ltE : w.heap.size ≤ w3.heap.size := U.size; replace U := U.trans uV4; replace N := N.up uV4; clear uV4; have E0 := E.get 0; have E1 := E.get 1; have E2 := E.get 2; have E3 := E.get 3; simp only [List.getElem?_toArray, List.getElem?_cons_zero, List.getElem?_cons_succ] at E0 E1 E2 E3)
          clear E0 E1 E2 E3
          refine (CM.out _ (TF.out.up U)).mono ?_
          rintro _ w5 ⟨rfl, h5⟩
          replace U := U.trans h5
          replace E := E.up h5
          replace N := N.up h5
          clear h5
          have E0 := E.get 0
          have E1 := E.get 1
          have E2 := E.get 2
          have E3 := E.get 3
          have Ef0 := E.fr 0
          have Ef1 := E.fr 1
          have Ef2 := E.fr 2
          have Ef3 := E.fr 3
          have El := E.lt
          simp only [List.getElem?_toArray, List.getElem?_cons_zero, List.getElem?_cons_succ] at E0 E1 E2 E3
          go_wp2_with fail
          clear E0 Ef0 E1 Ef1 E2 Ef2 E3 Ef3 El
          refine (CN.out _ (TT.out.up U) (TF.out.up U) _ _ N).mono ?_
          rintro _ w6 ⟨rfl, h6⟩
          replace U := U.trans h6
          replace E := E.up h6
          replace N := N.up h6
          clear h6
          go_wp2_with fail
          refine (CF.out _ (TF.out.up U)).mono ?_
          rintro _ w7 ⟨rfl, h7⟩
          replace U := U.trans h7
          replace E := E.up h7
          replace N := N.up h7
          clear h7
          go_wp2_with fail
          obtain ⟨V8, hV8⟩ : ∃ V8, w7.alloc (.cells #[.int .i64 f.k, .int .i64 f.W, .int .i64 f.m, .int .i64 f.b, .int .u64 f.t, .int .u64 f.n, .int .u64 f.x] 50) = V8 := ⟨_, rfl⟩
          have C : Bf V8 w7.heap.size 50 f := by rw [← hV8]; exact Bf.mk_ w7 f 50
          have ltC : w.heap.size ≤ w7.heap.size := U.size
          have uV8 : Up w7 V8 := by rw [← hV8]; exact (Up.refl _).alloc _
          rw [hV8]
          clear hV8
          replace U := U.trans uV8
          replace E := E.up uV8
          replace N := N.up uV8
          clear uV8
          obtain ⟨C0, C1, C2, C3, C4, C5, C6⟩ := Bf.cs C
          have C7 := Bf.lt C
          simp only [Nat.zero_add] at C0 C1 C2 C3 C4 C5 C6 C7
          go_wp2_with fail
          clear C0 C1 C2 C3 C4 C5 C6 C7
          first | go_ret | refine bodyPost_ret (v := .bool true) (by simp [results, Tryd.results6, go_sem]) rfl ?_
          exact ⟨by first | rfl | simp, by first | exact U | exact U.drewN _ | exact U.drew⟩
      ·
        have em : (k : Int).tmod 2 = 1 := by rw [Int.tmod_eq_emod_of_nonneg (by omega)]; omega
        subst hkq
        subst hk'
        clear he kb' CF
        have U := Up.refl w
        go_enter Tryd.func6, Tryd.ntmps6
        go_wp2_with fail
        refine (shown8_any _ (Lib.hid (TT.out.up U)) (Lib.hid (TF.out.up U))).mono ?_
        rintro _ w1 ⟨rfl, h1⟩
        replace U := U.trans h1
        clear h1
        go_wp2_with fail
        refine (CB.out _ (TT.out.up U) (TF.out.up U)).mono ?_
        rintro _ w2 ⟨rfl, h2⟩
        replace U := U.trans h2
        clear h2
        go_wp2_with fail
        refine (CO.out _).mono ?_
        rintro _ w3 ⟨_, rfl, ⟨A1, n1, k1, ys1, rfl, N⟩, h3⟩
        replace U := U.trans h3
        clear h3
        replace N : Nt w3 _ 1 (.slice A1 n1 k1) m := ⟨_, _, _, _, rfl, N⟩
        go_wp2_with (refine store_ob rfl 32 (.tmp 9) (.tmp 35) rfl _ #[.bool false, .slice none 0 0, .int .i64 0, .int .i64 0] #[.bool false, .slice A1 n1 k1, .int .i64 z, .int .i64 0] rfl rfl 4 (by kernel_rfl) rfl rfl (by simp [Value.oneCell']) w3 ((Up.refl _).alloc _) (Nat.le_refl _) 32 (Ob.mk_ _ _ _) ?_; intro V4 E uV4; have ltE : w.heap.size ≤ w3.heap.size := U.size; replace U := U.trans uV4; replace N := N.up uV4; clear uV4; have E0 := E.get 0; have E1 := E.get 1; have E2 := E.get 2; have E3 := E.get 3; simp only [List.getElem?_toArray, List.getElem?_cons_zero, List.getElem?_cons_succ] at E0 E1 E2 E3)
        clear E0 E1 E2 E3
        refine (CM.out _ (TF.out.up U)).mono ?_
        rintro _ w5 ⟨rfl, h5⟩
        replace U := U.trans h5
        replace E := E.up h5
        replace N := N.up h5
        clear h5
        have E0 := E.get 0
        have E1 := E.get 1
        have E2 := E.get 2
        have E3 := E.get 3
        have Ef0 := E.fr 0
        have Ef1 := E.fr 1
        have Ef2 := E.fr 2
        have Ef3 := E.fr 3
        have El := E.lt
        simp only [List.getElem?_toArray, List.getElem?_cons_zero, List.getElem?_cons_succ] at E0 E1 E2 E3
        go_wp2_with fail
        clear E0 Ef0 E1 Ef1 E2 Ef2 E3 Ef3 El
        refine (CN.out _ (TT.out.up U) (TF.out.up U) _ _ N).mono ?_
        rintro _ w6 ⟨rfl, h6⟩
        replace U := U.trans h6
        replace E := E.up h6
        replace N := N.up h6
        clear h6
        go_wp2_with fail
        first | go_ret | refine bodyPost_ret (v := .bool true) (by simp [results, Tryd.results6, go_sem]) rfl ?_
        exact ⟨by first | rfl | simp, by first | exact U | exact U.drewN _ | exact U.drew⟩
      ·
        have em : (k : Int).tmod 2 = 1 := by rw [Int.tmod_eq_emod_of_nonneg (by omega)]; omega
        have d1 : ((k : Int) == (q : Int)) = false := by rw [beq_eq_false_iff_ne]; omega
        have e1 : IntKind.u64.wrap ((k : Int) + 1) = ((k + 1 : Nat) : Int) := wrap_u64 (by omega) (by omega)
        have d2 : (((k + 1 : Nat) : Int) == (k : Int) + 1) = true := by rw [beq_iff_eq]; omega
        subst hk'
        clear he kb' CF hkq
        have U := Up.refl w
        go_enter Tryd.func6, Tryd.ntmps6
        go_wp2_with fail
        refine (shown8_any _ (Lib.hid (TT.out.up U)) (Lib.hid (TF.out.up U))).mono ?_
        rintro _ w1 ⟨rfl, h1⟩
        replace U := U.trans h1
        clear h1
        go_wp2_with fail
        refine (CB.out _ (TT.out.up U) (TF.out.up U)).mono ?_
        rintro _ w2 ⟨rfl, h2⟩
        replace U := U.trans h2
        clear h2
        go_wp2_with fail
        refine (CO.out _).mono ?_
        rintro _ w3 ⟨_, rfl, ⟨A1, n1, k1, ys1, rfl, N⟩, h3⟩
        replace U := U.trans h3
        clear h3
        replace N : Nt w3 _ 1 (.slice A1 n1 k1) m := ⟨_, _, _, _, rfl, N⟩
        go_wp2_with (refine store_ob rfl 32 (.tmp 9) (.tmp 35) rfl _ #[.bool false, .slice none 0 0, .int .i64 0, .int .i64 0] #[.bool false, .slice A1 n1 k1, .int .i64 z, .int .i64 0] rfl rfl 4 (by kernel_rfl) rfl rfl (by simp [Value.oneCell']) w3 ((Up.refl _).alloc _) (Nat.le_refl _) 32 (Ob.mk_ _ _ _) ?_; intro V4 E uV4; have ltE : w.heap.size ≤ w3.heap.size := U.size; replace U := U.trans uV4; replace N := N.up uV4; clear uV4; have E0 := E.get 0; have E1 := E.get 1; have E2 := E.get 2; have E3 := E.get 3; simp only [List.getElem?_toArray, List.getElem?_cons_zero, List.getElem?_cons_succ] at E0 E1 E2 E3)
        clear E0 E1 E2 E3
        refine (CM.out _ (TF.out.up U)).mono ?_
        rintro _ w5 ⟨rfl, h5⟩
        replace U := U.trans h5
        replace E := E.up h5
        replace N := N.up h5
        clear h5
        have E0 := E.get 0
        have E1 := E.get 1
        have E2 := E.get 2
        have E3 := E.get 3
        have Ef0 := E.fr 0
        have Ef1 := E.fr 1
        have Ef2 := E.fr 2
        have Ef3 := E.fr 3
        have El := E.lt
        simp only [List.getElem?_toArray, List.getElem?_cons_zero, List.getElem?_cons_succ] at E0 E1 E2 E3
        go_wp2_with fail
        clear E0 Ef0 E1 Ef1 E2 Ef2 E3 Ef3 El
        refine (CN.out _ (TT.out.up U) (TF.out.up U) _ _ N).mono ?_
        rintro _ w6 ⟨rfl, h6⟩
        replace U := U.trans h6
        replace E := E.up h6
        replace N := N.up h6
        clear h6
        go_wp2_with fail
        first | go_ret | refine bodyPost_ret (v := .bool true) (by simp [results, Tryd.results6, go_sem]) rfl ?_
        exact ⟨by first | rfl | simp, by first | exact U | exact U.drewN _ | exact U.drew⟩
end Go.Proofs.YtlogglhonlannaaDoor
