/-
  RoundFinite.
-/
import Derived.Test.YtlogglhonlannaaDoorLb
namespace Go.Proofs.YtlogglhonlannaaDoor
open Go.RowKit
set_option linter.unusedSimpArgs false
set_option linter.unusedVariables false

set_option maxHeartbeats 1000000 in
set_option maxRecDepth 100000 in
theorem rfinite_walk (w : World) (TT : Hid (Tz w)) (TF : Hid (TabF w)) (x0 : Int) (_wx0 : (Lit.int .i64 x0).wf = true) (ng1 : Bool) (A1 : Option Addr) (ln1 cp1 : Nat) (xs1 : List Nat) (sr1 : Src w A1 ln1 cp1 xs1) (fz1 : Fz w A1 ln1) (_mx1 : cp1 ≤ maxLen) (tw1 : Int) (_wt1 : (Lit.int .i64 tw1).wf = true) (fv1 : Int) (_wv1 : (Lit.int .i64 fv1).wf = true) : Calls Tryd.prog 8 #[.int .i64 x0, xv ng1 (.slice A1 ln1 cp1) tw1 fv1] w (True8 w) := by
  obtain ⟨t, ht⟩ : ∃ z, max (min tw1 1000) (-1000) = z := ⟨_, rfl⟩
  obtain ⟨g, hg⟩ : ∃ z, max (min fv1 1000) (-1000) = z := ⟨_, rfl⟩
  obtain ⟨mm1, a1, N1, CS1⟩ := small8_ex w ng1 A1 ln1 cp1 xs1 tw1 fv1 sr1 fz1 t g ht hg
  have bt : -5000 ≤ t ∧ t ≤ 5000 := by omega
  have bg : -5000 ≤ g ∧ g ≤ 5000 := by omega
  have h1281 := N1.lt128 (by decide)
  clear ht hg sr1 fz1
  obtain ⟨X, hX⟩ : ∃ X, M.sz a1 t g = X := ⟨_, rfl⟩
  have X0 : X = 0 ↔ a1 = 0 := by rw [← hX]; exact M.sz_zero
  have CR := Lib.hid (fun W (T : Tz W) (F : TabF W) (U : Up w W) (p e : Int) (hr : M.Rc x0 1 ng1 X p e) => rnd_round W (Lib.hid T) (Lib.hid F) x0 1 0 40 ng1 (.slice A1 mm1 cp1) t g a1 (N1.up U) (by decide) bt bg h1281 p e (by rw [hX]; exact hr))
  have nil1 := N1.nil_iff
  clear hX N1 h1281 bt bg
  rcases M.in_or_out x0 with ho | ⟨i, rfl, i1, i2⟩
  ·
    have CF := Lib.hid (fun W => of_out W x0 ho)
    have CR1 := Lib.hid (fun W T F U => CR.out W T F U 0 3 (.inl ⟨ho, rfl, rfl⟩))
    clear CR X0 nil1 ho
    have U := Up.refl w
    go_enter Tryd.func8, Tryd.ntmps8
    go_wp2_with fail
    obtain ⟨V1, hV1⟩ : ∃ V1, w.alloc (.cells #[.bool ng1, .slice A1 ln1 cp1, .int .i64 tw1, .int .i64 fv1] 32) = V1 := ⟨_, rfl⟩
    have B : Ob V1 w.heap.size 32 #[.bool ng1, .slice A1 ln1 cp1, .int .i64 tw1, .int .i64 fv1] := by rw [← hV1]; exact Ob.mk_ _ _ _
    have uV1 : Up w V1 := by rw [← hV1]; exact (Up.refl _).alloc _
    have ltB : w.heap.size ≤ w.heap.size := U.size
    rw [hV1]
    clear hV1
    replace U := U.trans uV1
    clear uV1
    refine (shown8_any _ (Lib.hid (TT.out.up U)) (Lib.hid (TF.out.up U))).mono ?_
    rintro _ w2 ⟨rfl, h2⟩
    replace U := U.trans h2
    replace B := B.up h2
    clear h2
    have B0 := B.get 0
    have B1 := B.get 1
    have B2 := B.get 2
    have B3 := B.get 3
    have Bf0 := B.fr 0
    have Bf1 := B.fr 1
    have Bf2 := B.fr 2
    have Bf3 := B.fr 3
    have Bl := B.lt
    simp only [List.getElem?_toArray, List.getElem?_cons_zero, List.getElem?_cons_succ] at B0 B1 B2 B3
    go_wp2_with fail
    clear B0 Bf0 B1 Bf1 B2 Bf2 B3 Bf3 Bl
    refine (CS1.out _ U).mono ?_
    rintro _ w3 ⟨rfl, h3⟩
    replace U := U.trans h3
    replace B := B.up h3
    clear h3
    go_wp2_with (refine store_ob2 rfl 32 (.tmp 3) (.tmp 15) rfl _ #[.bool ng1, .slice A1 ln1 cp1, .int .i64 tw1, .int .i64 fv1] #[.bool ng1, .slice A1 mm1 cp1, .int .i64 t, .int .i64 g] rfl rfl 4 (by kernel_rfl) rfl rfl (by simp [Value.oneCell']) w U ltB 32 B ?_; clear U; intro V9 Z9 U ho; clear ho B; have B := Z9; clear Z9)
    refine (CF.out _).mono ?_
    rintro _ w4 ⟨rfl, h4⟩
    replace U := U.trans h4
    replace B := B.up h4
    clear h4
    have B0 := B.get 0
    have B1 := B.get 1
    have B2 := B.get 2
    have B3 := B.get 3
    have Bf0 := B.fr 0
    have Bf1 := B.fr 1
    have Bf2 := B.fr 2
    have Bf3 := B.fr 3
    have Bl := B.lt
    simp only [List.getElem?_toArray, List.getElem?_cons_zero, List.getElem?_cons_succ] at B0 B1 B2 B3
    go_wp2_with fail
    clear B0 Bf0 B1 Bf1 B2 Bf2 B3 Bf3 Bl
    obtain ⟨V5, hV5⟩ : ∃ V5, w4.alloc (.cells #[.int .i64 0, .int .i64 0, .int .i64 0, .int .i64 0, .int .u64 0, .int .u64 0, .int .u64 0] 50) = V5 := ⟨_, rfl⟩
    have C : Bf V5 w4.heap.size 50 ⟨0, 0, 0, 0, 0, 0, 0⟩ := by rw [← hV5]; exact Bf.mk_ w4 ⟨0, 0, 0, 0, 0, 0, 0⟩ 50
    have ltC : w.heap.size ≤ w4.heap.size := U.size
    have uV5 : Up w4 V5 := by rw [← hV5]; exact (Up.refl _).alloc _
    rw [hV5]
    clear hV5
    replace U := U.trans uV5
    replace B := B.up uV5
    clear uV5
    refine (CR1.out _ (TT.out.up U) (TF.out.up U) U).mono ?_
    rintro _ w6 ⟨rfl, h6⟩
    replace U := U.trans h6
    replace C := C.up h6
    replace B := B.up h6
    clear h6
    go_wp2_with fail
    first | go_ret | refine bodyPost_ret (v := .bool true) (by simp [results, Tryd.results8, go_sem]) rfl ?_
    exact ⟨by first | rfl | simp, by first | exact U | exact U.alloc _ | exact U.drewN _ | exact U.drew⟩
  ·
    have ok := M.ok i i1 i2
    have ok2 := M.ok2 i i1 i2
    have ok3 := M.ok3 i i1 i2
    obtain ⟨p, hp⟩ := M.rv_ex ok ok2 ok3 1 ng1 X
    obtain ⟨p0, pm, hc⟩ := M.rv_class ok ok2 ok3 hp
    obtain ⟨p, rfl⟩ := Int.eq_ofNat_of_zero_le p0
    have CR1 := Lib.hid (fun W T F U => CR.out W T F U p 0 (.inr ⟨i, rfl, i1, i2, .inr ⟨.inl rfl, hp, rfl⟩⟩))
    have pb : p < 18446744073709551616 := by have := ok.hm; omega
    obtain ⟨c, gg, m, z, hd⟩ := M.dv_ex ok ok2 (p := (p : Int)) p0 pm
    have CD := Lib.hid (fun W (T : Tz W) (F : TabF W) => vdecode_any W (Lib.hid T) (Lib.hid F) (i : Int) p pb c gg m z 0 (.inr ⟨i, rfl, i1, i2, .inr ⟨pm, hd, rfl⟩⟩))
    have hcl : M.cls (M.tb i) p = c := by
      rcases hd with ⟨h, rfl, _⟩ | ⟨h, rfl, _⟩ | ⟨h, rfl, _⟩ | ⟨h, rfl, _⟩ <;> exact h
    obtain ⟨f, hf⟩ : ∃ f, M.tb i = f := ⟨_, rfl⟩
    have CF := Lib.hid (fun W (F : TabF W) => of_in W F i f (Lib.hid hf) i1 i2)
    rw [hf] at ok ok2 ok3 hc hcl pm
    have K : (f.k = 4 ∧ (ng1 = true ∨ X = 0) ∧ c = 4) ∨ (f.k = 4 ∧ ng1 = false ∧ X ≠ 0 ∧ c = 2) ∨ (f.k = 1 ∧ X = 0 ∧ c = 1) ∨ (f.k = 1 ∧ X ≠ 0 ∧ c = 2) ∨ (f.k ≠ 4 ∧ f.k ≠ 1 ∧ (c = 1 ∨ c = 2)) := by
      rcases hc with ⟨h1, ⟨h2, h3, _⟩ | ⟨_, h2⟩⟩ | ⟨h1, q, k, o, hq, hn, _, hpp, kq, qt⟩
      · refine .inl ⟨h2, h3, ?_⟩
        rw [hcl] at h1
        rcases h1 with h1 | h1
        · exfalso
          subst h1
          unfold M.cls at hcl
          rw [if_neg (by omega)] at hcl
          split at hcl
          · omega
          · split at hcl <;> omega
        · exact h1
      · exact absurd (.inl rfl) h2
      · have h4 : ¬ (f.k = 4 ∧ ng1 = true) := fun e => h1 ⟨e.1, .inl e.2⟩
        obtain ⟨_, _, r3, r4⟩ := M.pat_key ok ok2 ok3 h4 (k := k) (by omega)
        rw [← hpp, hcl] at r3 r4
        have kX : f.k = 1 → (k = 0 ↔ X = 0) := fun e => by
          constructor
          · intro k0
            rcases hn with ⟨_, e1, _⟩ | ⟨_, _, _, h5, _⟩
            · have := ok3.big
              have := ok2.one e
              unfold M.mst at hq
              rw [if_neg (by omega)] at hq
              omega
            · exact Classical.byContradiction (fun x0 => h5 e x0 k0)
          · intro x0
            subst x0
            exact (M.nr_uniq ok ok2 ok3 qt hn M.nr_zero).1
        by_cases e4 : f.k = 4
        · have n1 : ng1 = false := by
            cases ng1
            · rfl
            · exact absurd ⟨e4, rfl⟩ h4
          exact .inr (.inl ⟨e4, n1, fun x0 => h1 ⟨e4, .inr x0⟩, (r3 (.inr e4)).1⟩)
        · by_cases e1 : f.k = 1
          · have := kX e1
            by_cases x0 : X = 0
            · exact .inr (.inr (.inl ⟨e1, x0, r4 ⟨this.2 x0, e4⟩⟩))
            · exact .inr (.inr (.inr (.inl ⟨e1, x0, (r3 (.inl (fun e => x0 (this.1 e)))).1⟩)))
          · refine .inr (.inr (.inr (.inr ⟨e4, e1, ?_⟩)))
            by_cases k0 : k = 0
            · exact .inl (r4 ⟨k0, e4⟩)
            · exact .inr (r3 (.inl k0)).1
    clear CR hp hc hd hcl ok ok2 ok3 hf pm p0
    have zt : a1 = 0 → ((mm1 : Int) == 0) = true := fun e => by rw [beq_iff_eq]; omega
    have zf : a1 ≠ 0 → ((mm1 : Int) == 0) = false := fun e => by rw [beq_eq_false_iff_ne]; omega
    rcases K with ⟨k4, hx, rfl⟩ | ⟨k4, rfl, hx, rfl⟩ | ⟨k1, hx, rfl⟩ | ⟨k1, hx, rfl⟩ | ⟨k4, k1, rfl | rfl⟩
    ·
      have d4 : (f.k == 4) = true := by simpa using k4
      by_cases a0 : a1 = 0
      ·
        have z0 := zt a0
        clear zt zf hx X0 nil1 a0 k4
        have U := Up.refl w
        go_enter Tryd.func8, Tryd.ntmps8
        go_wp2_with fail
        obtain ⟨V1, hV1⟩ : ∃ V1, w.alloc (.cells #[.bool ng1, .slice A1 ln1 cp1, .int .i64 tw1, .int .i64 fv1] 32) = V1 := ⟨_, rfl⟩
        have B : Ob V1 w.heap.size 32 #[.bool ng1, .slice A1 ln1 cp1, .int .i64 tw1, .int .i64 fv1] := by rw [← hV1]; exact Ob.mk_ _ _ _
        have uV1 : Up w V1 := by rw [← hV1]; exact (Up.refl _).alloc _
        have ltB : w.heap.size ≤ w.heap.size := U.size
        rw [hV1]
        clear hV1
        replace U := U.trans uV1
        clear uV1
        refine (shown8_any _ (Lib.hid (TT.out.up U)) (Lib.hid (TF.out.up U))).mono ?_
        rintro _ w2 ⟨rfl, h2⟩
        replace U := U.trans h2
        replace B := B.up h2
        clear h2
        have B0 := B.get 0
        have B1 := B.get 1
        have B2 := B.get 2
        have B3 := B.get 3
        have Bf0 := B.fr 0
        have Bf1 := B.fr 1
        have Bf2 := B.fr 2
        have Bf3 := B.fr 3
        have Bl := B.lt
        simp only [List.getElem?_toArray, List.getElem?_cons_zero, List.getElem?_cons_succ] at B0 B1 B2 B3
        go_wp2_with fail
        clear B0 Bf0 B1 Bf1 B2 Bf2 B3 Bf3 Bl
        refine (CS1.out _ U).mono ?_
        rintro _ w3 ⟨rfl, h3⟩
        replace U := U.trans h3
        replace B := B.up h3
        clear h3
        go_wp2_with (refine store_ob2 rfl 32 (.tmp 3) (.tmp 15) rfl _ #[.bool ng1, .slice A1 ln1 cp1, .int .i64 tw1, .int .i64 fv1] #[.bool ng1, .slice A1 mm1 cp1, .int .i64 t, .int .i64 g] rfl rfl 4 (by kernel_rfl) rfl rfl (by simp [Value.oneCell']) w U ltB 32 B ?_; clear U; intro V9 Z9 U ho; clear ho B; have B := Z9; clear Z9)
        refine (CF.out _ (TF.out.up U)).mono ?_
        rintro _ w4 ⟨rfl, h4⟩
        replace U := U.trans h4
        replace B := B.up h4
        clear h4
        have B0 := B.get 0
        have B1 := B.get 1
        have B2 := B.get 2
        have B3 := B.get 3
        have Bf0 := B.fr 0
        have Bf1 := B.fr 1
        have Bf2 := B.fr 2
        have Bf3 := B.fr 3
        have Bl := B.lt
        simp only [List.getElem?_toArray, List.getElem?_cons_zero, List.getElem?_cons_succ] at B0 B1 B2 B3
        go_wp2_with fail
        clear B0 Bf0 B1 Bf1 B2 Bf2 B3 Bf3 Bl
        obtain ⟨V5, hV5⟩ : ∃ V5, w4.alloc (.cells #[.int .i64 f.k, .int .i64 f.W, .int .i64 f.m, .int .i64 f.b, .int .u64 f.t, .int .u64 f.n, .int .u64 f.x] 50) = V5 := ⟨_, rfl⟩
        have C : Bf V5 w4.heap.size 50 f := by rw [← hV5]; exact Bf.mk_ w4 f 50
        have ltC : w.heap.size ≤ w4.heap.size := U.size
        have uV5 : Up w4 V5 := by rw [← hV5]; exact (Up.refl _).alloc _
        rw [hV5]
        clear hV5
        replace U := U.trans uV5
        replace B := B.up uV5
        clear uV5
        refine (CR1.out _ (TT.out.up U) (TF.out.up U) U).mono ?_
        rintro _ w6 ⟨rfl, h6⟩
        replace U := U.trans h6
        replace C := C.up h6
        replace B := B.up h6
        clear h6
        go_wp2_with fail
        refine (CD.out _ (TT.out.up U) (TF.out.up U)).mono ?_
        rintro _ w7 ⟨rfl, h7⟩
        replace U := U.trans h7
        replace C := C.up h7
        replace B := B.up h7
        clear h7
        obtain ⟨C0, C1, C2, C3, C4, C5, C6⟩ := Bf.cs C
        have C7 := Bf.lt C
        simp only [Nat.zero_add] at C0 C1 C2 C3 C4 C5 C6 C7
        have B0 := B.get 0
        have B1 := B.get 1
        have B2 := B.get 2
        have B3 := B.get 3
        have Bf0 := B.fr 0
        have Bf1 := B.fr 1
        have Bf2 := B.fr 2
        have Bf3 := B.fr 3
        have Bl := B.lt
        simp only [List.getElem?_toArray, List.getElem?_cons_zero, List.getElem?_cons_succ] at B0 B1 B2 B3
        go_wp2_with fail
        clear C0 C1 C2 C3 C4 C5 C6 C7
        clear B0 Bf0 B1 Bf1 B2 Bf2 B3 Bf3 Bl
        first | go_ret | refine bodyPost_ret (v := .bool true) (by simp [results, Tryd.results8, go_sem]) rfl ?_
        exact ⟨by first | rfl | simp, by first | exact U | exact U.alloc _ | exact U.drewN _ | exact U.drew⟩
      ·
        have z0 := zf a0
        obtain rfl : ng1 = true := by
          rcases hx with h | h
          · exact h
          · exact absurd (X0.1 h) a0
        clear zt zf hx X0 nil1 a0 k4
        have U := Up.refl w
        go_enter Tryd.func8, Tryd.ntmps8
        go_wp2_with fail
        obtain ⟨V1, hV1⟩ : ∃ V1, w.alloc (.cells #[.bool true, .slice A1 ln1 cp1, .int .i64 tw1, .int .i64 fv1] 32) = V1 := ⟨_, rfl⟩
        have B : Ob V1 w.heap.size 32 #[.bool true, .slice A1 ln1 cp1, .int .i64 tw1, .int .i64 fv1] := by rw [← hV1]; exact Ob.mk_ _ _ _
        have uV1 : Up w V1 := by rw [← hV1]; exact (Up.refl _).alloc _
        have ltB : w.heap.size ≤ w.heap.size := U.size
        rw [hV1]
        clear hV1
        replace U := U.trans uV1
        clear uV1
        refine (shown8_any _ (Lib.hid (TT.out.up U)) (Lib.hid (TF.out.up U))).mono ?_
        rintro _ w2 ⟨rfl, h2⟩
        replace U := U.trans h2
        replace B := B.up h2
        clear h2
        have B0 := B.get 0
        have B1 := B.get 1
        have B2 := B.get 2
        have B3 := B.get 3
        have Bf0 := B.fr 0
        have Bf1 := B.fr 1
        have Bf2 := B.fr 2
        have Bf3 := B.fr 3
        have Bl := B.lt
        simp only [List.getElem?_toArray, List.getElem?_cons_zero, List.getElem?_cons_succ] at B0 B1 B2 B3
        go_wp2_with fail
        clear B0 Bf0 B1 Bf1 B2 Bf2 B3 Bf3 Bl
        refine (CS1.out _ U).mono ?_
        rintro _ w3 ⟨rfl, h3⟩
        replace U := U.trans h3
        replace B := B.up h3
        clear h3
        go_wp2_with (refine store_ob2 rfl 32 (.tmp 3) (.tmp 15) rfl _ #[.bool true, .slice A1 ln1 cp1, .int .i64 tw1, .int .i64 fv1] #[.bool true, .slice A1 mm1 cp1, .int .i64 t, .int .i64 g] rfl rfl 4 (by kernel_rfl) rfl rfl (by simp [Value.oneCell']) w U ltB 32 B ?_; clear U; intro V9 Z9 U ho; clear ho B; have B := Z9; clear Z9)
        refine (CF.out _ (TF.out.up U)).mono ?_
        rintro _ w4 ⟨rfl, h4⟩
        replace U := U.trans h4
        replace B := B.up h4
        clear h4
        have B0 := B.get 0
        have B1 := B.get 1
        have B2 := B.get 2
        have B3 := B.get 3
        have Bf0 := B.fr 0
        have Bf1 := B.fr 1
        have Bf2 := B.fr 2
        have Bf3 := B.fr 3
        have Bl := B.lt
        simp only [List.getElem?_toArray, List.getElem?_cons_zero, List.getElem?_cons_succ] at B0 B1 B2 B3
        go_wp2_with fail
        clear B0 Bf0 B1 Bf1 B2 Bf2 B3 Bf3 Bl
        obtain ⟨V5, hV5⟩ : ∃ V5, w4.alloc (.cells #[.int .i64 f.k, .int .i64 f.W, .int .i64 f.m, .int .i64 f.b, .int .u64 f.t, .int .u64 f.n, .int .u64 f.x] 50) = V5 := ⟨_, rfl⟩
        have C : Bf V5 w4.heap.size 50 f := by rw [← hV5]; exact Bf.mk_ w4 f 50
        have ltC : w.heap.size ≤ w4.heap.size := U.size
        have uV5 : Up w4 V5 := by rw [← hV5]; exact (Up.refl _).alloc _
        rw [hV5]
        clear hV5
        replace U := U.trans uV5
        replace B := B.up uV5
        clear uV5
        refine (CR1.out _ (TT.out.up U) (TF.out.up U) U).mono ?_
        rintro _ w6 ⟨rfl, h6⟩
        replace U := U.trans h6
        replace C := C.up h6
        replace B := B.up h6
        clear h6
        go_wp2_with fail
        refine (CD.out _ (TT.out.up U) (TF.out.up U)).mono ?_
        rintro _ w7 ⟨rfl, h7⟩
        replace U := U.trans h7
        replace C := C.up h7
        replace B := B.up h7
        clear h7
        obtain ⟨C0, C1, C2, C3, C4, C5, C6⟩ := Bf.cs C
        have C7 := Bf.lt C
        simp only [Nat.zero_add] at C0 C1 C2 C3 C4 C5 C6 C7
        have B0 := B.get 0
        have B1 := B.get 1
        have B2 := B.get 2
        have B3 := B.get 3
        have Bf0 := B.fr 0
        have Bf1 := B.fr 1
        have Bf2 := B.fr 2
        have Bf3 := B.fr 3
        have Bl := B.lt
        simp only [List.getElem?_toArray, List.getElem?_cons_zero, List.getElem?_cons_succ] at B0 B1 B2 B3
        go_wp2_with fail
        clear C0 C1 C2 C3 C4 C5 C6 C7
        clear B0 Bf0 B1 Bf1 B2 Bf2 B3 Bf3 Bl
        first | go_ret | refine bodyPost_ret (v := .bool true) (by simp [results, Tryd.results8, go_sem]) rfl ?_
        exact ⟨by first | rfl | simp, by first | exact U | exact U.alloc _ | exact U.drewN _ | exact U.drew⟩
    ·
      have d4 : (f.k == 4) = true := by simpa using k4
      have z0 := zf (fun e => hx (X0.2 e))
      clear zt zf hx X0 nil1 k4
      have U := Up.refl w
      go_enter Tryd.func8, Tryd.ntmps8
      go_wp2_with fail
      obtain ⟨V1, hV1⟩ : ∃ V1, w.alloc (.cells #[.bool false, .slice A1 ln1 cp1, .int .i64 tw1, .int .i64 fv1] 32) = V1 := ⟨_, rfl⟩
      have B : Ob V1 w.heap.size 32 #[.bool false, .slice A1 ln1 cp1, .int .i64 tw1, .int .i64 fv1] := by rw [← hV1]; exact Ob.mk_ _ _ _
      have uV1 : Up w V1 := by rw [← hV1]; exact (Up.refl _).alloc _
      have ltB : w.heap.size ≤ w.heap.size := U.size
      rw [hV1]
      clear hV1
      replace U := U.trans uV1
      clear uV1
      refine (shown8_any _ (Lib.hid (TT.out.up U)) (Lib.hid (TF.out.up U))).mono ?_
      rintro _ w2 ⟨rfl, h2⟩
      replace U := U.trans h2
      replace B := B.up h2
      clear h2
      have B0 := B.get 0
      have B1 := B.get 1
      have B2 := B.get 2
      have B3 := B.get 3
      have Bf0 := B.fr 0
      have Bf1 := B.fr 1
      have Bf2 := B.fr 2
      have Bf3 := B.fr 3
      have Bl := B.lt
      simp only [List.getElem?_toArray, List.getElem?_cons_zero, List.getElem?_cons_succ] at B0 B1 B2 B3
      go_wp2_with fail
      clear B0 Bf0 B1 Bf1 B2 Bf2 B3 Bf3 Bl
      refine (CS1.out _ U).mono ?_
      rintro _ w3 ⟨rfl, h3⟩
      replace U := U.trans h3
      replace B := B.up h3
      clear h3
      go_wp2_with (refine store_ob2 rfl 32 (.tmp 3) (.tmp 15) rfl _ #[.bool false, .slice A1 ln1 cp1, .int .i64 tw1, .int .i64 fv1] #[.bool false, .slice A1 mm1 cp1, .int .i64 t, .int .i64 g] rfl rfl 4 (by kernel_rfl) rfl rfl (by simp [Value.oneCell']) w U ltB 32 B ?_; clear U; intro V9 Z9 U ho; clear ho B; have B := Z9; clear Z9)
      refine (CF.out _ (TF.out.up U)).mono ?_
      rintro _ w4 ⟨rfl, h4⟩
      replace U := U.trans h4
      replace B := B.up h4
      clear h4
      have B0 := B.get 0
      have B1 := B.get 1
      have B2 := B.get 2
      have B3 := B.get 3
      have Bf0 := B.fr 0
      have Bf1 := B.fr 1
      have Bf2 := B.fr 2
      have Bf3 := B.fr 3
      have Bl := B.lt
      simp only [List.getElem?_toArray, List.getElem?_cons_zero, List.getElem?_cons_succ] at B0 B1 B2 B3
      go_wp2_with fail
      clear B0 Bf0 B1 Bf1 B2 Bf2 B3 Bf3 Bl
      obtain ⟨V5, hV5⟩ : ∃ V5, w4.alloc (.cells #[.int .i64 f.k, .int .i64 f.W, .int .i64 f.m, .int .i64 f.b, .int .u64 f.t, .int .u64 f.n, .int .u64 f.x] 50) = V5 := ⟨_, rfl⟩
      have C : Bf V5 w4.heap.size 50 f := by rw [← hV5]; exact Bf.mk_ w4 f 50
      have ltC : w.heap.size ≤ w4.heap.size := U.size
      have uV5 : Up w4 V5 := by rw [← hV5]; exact (Up.refl _).alloc _
      rw [hV5]
      clear hV5
      replace U := U.trans uV5
      replace B := B.up uV5
      clear uV5
      refine (CR1.out _ (TT.out.up U) (TF.out.up U) U).mono ?_
      rintro _ w6 ⟨rfl, h6⟩
      replace U := U.trans h6
      replace C := C.up h6
      replace B := B.up h6
      clear h6
      go_wp2_with fail
      refine (CD.out _ (TT.out.up U) (TF.out.up U)).mono ?_
      rintro _ w7 ⟨rfl, h7⟩
      replace U := U.trans h7
      replace C := C.up h7
      replace B := B.up h7
      clear h7
      obtain ⟨C0, C1, C2, C3, C4, C5, C6⟩ := Bf.cs C
      have C7 := Bf.lt C
      simp only [Nat.zero_add] at C0 C1 C2 C3 C4 C5 C6 C7
      have B0 := B.get 0
      have B1 := B.get 1
      have B2 := B.get 2
      have B3 := B.get 3
      have Bf0 := B.fr 0
      have Bf1 := B.fr 1
      have Bf2 := B.fr 2
      have Bf3 := B.fr 3
      have Bl := B.lt
      simp only [List.getElem?_toArray, List.getElem?_cons_zero, List.getElem?_cons_succ] at B0 B1 B2 B3
      go_wp2_with fail
      clear C0 C1 C2 C3 C4 C5 C6 C7
      clear B0 Bf0 B1 Bf1 B2 Bf2 B3 Bf3 Bl
      first | go_ret | refine bodyPost_ret (v := .bool true) (by simp [results, Tryd.results8, go_sem]) rfl ?_
      exact ⟨by first | rfl | simp, by first | exact U | exact U.alloc _ | exact U.drewN _ | exact U.drew⟩
    ·
      have d4 : (f.k == 4) = false := by simp [k1]
      have d1 : (f.k != 1) = false := by simp [k1]
      have z0 := zt (X0.1 hx)
      clear zt zf hx X0 nil1 k1
      have U := Up.refl w
      go_enter Tryd.func8, Tryd.ntmps8
      go_wp2_with fail
      obtain ⟨V1, hV1⟩ : ∃ V1, w.alloc (.cells #[.bool ng1, .slice A1 ln1 cp1, .int .i64 tw1, .int .i64 fv1] 32) = V1 := ⟨_, rfl⟩
      have B : Ob V1 w.heap.size 32 #[.bool ng1, .slice A1 ln1 cp1, .int .i64 tw1, .int .i64 fv1] := by rw [← hV1]; exact Ob.mk_ _ _ _
      have uV1 : Up w V1 := by rw [← hV1]; exact (Up.refl _).alloc _
      have ltB : w.heap.size ≤ w.heap.size := U.size
      rw [hV1]
      clear hV1
      replace U := U.trans uV1
      clear uV1
      refine (shown8_any _ (Lib.hid (TT.out.up U)) (Lib.hid (TF.out.up U))).mono ?_
      rintro _ w2 ⟨rfl, h2⟩
      replace U := U.trans h2
      replace B := B.up h2
      clear h2
      have B0 := B.get 0
      have B1 := B.get 1
      have B2 := B.get 2
      have B3 := B.get 3
      have Bf0 := B.fr 0
      have Bf1 := B.fr 1
      have Bf2 := B.fr 2
      have Bf3 := B.fr 3
      have Bl := B.lt
      simp only [List.getElem?_toArray, List.getElem?_cons_zero, List.getElem?_cons_succ] at B0 B1 B2 B3
      go_wp2_with fail
      clear B0 Bf0 B1 Bf1 B2 Bf2 B3 Bf3 Bl
      refine (CS1.out _ U).mono ?_
      rintro _ w3 ⟨rfl, h3⟩
      replace U := U.trans h3
      replace B := B.up h3
      clear h3
      go_wp2_with (refine store_ob2 rfl 32 (.tmp 3) (.tmp 15) rfl _ #[.bool ng1, .slice A1 ln1 cp1, .int .i64 tw1, .int .i64 fv1] #[.bool ng1, .slice A1 mm1 cp1, .int .i64 t, .int .i64 g] rfl rfl 4 (by kernel_rfl) rfl rfl (by simp [Value.oneCell']) w U ltB 32 B ?_; clear U; intro V9 Z9 U ho; clear ho B; have B := Z9; clear Z9)
      refine (CF.out _ (TF.out.up U)).mono ?_
      rintro _ w4 ⟨rfl, h4⟩
      replace U := U.trans h4
      replace B := B.up h4
      clear h4
      have B0 := B.get 0
      have B1 := B.get 1
      have B2 := B.get 2
      have B3 := B.get 3
      have Bf0 := B.fr 0
      have Bf1 := B.fr 1
      have Bf2 := B.fr 2
      have Bf3 := B.fr 3
      have Bl := B.lt
      simp only [List.getElem?_toArray, List.getElem?_cons_zero, List.getElem?_cons_succ] at B0 B1 B2 B3
      go_wp2_with fail
      clear B0 Bf0 B1 Bf1 B2 Bf2 B3 Bf3 Bl
      obtain ⟨V5, hV5⟩ : ∃ V5, w4.alloc (.cells #[.int .i64 f.k, .int .i64 f.W, .int .i64 f.m, .int .i64 f.b, .int .u64 f.t, .int .u64 f.n, .int .u64 f.x] 50) = V5 := ⟨_, rfl⟩
      have C : Bf V5 w4.heap.size 50 f := by rw [← hV5]; exact Bf.mk_ w4 f 50
      have ltC : w.heap.size ≤ w4.heap.size := U.size
      have uV5 : Up w4 V5 := by rw [← hV5]; exact (Up.refl _).alloc _
      rw [hV5]
      clear hV5
      replace U := U.trans uV5
      replace B := B.up uV5
      clear uV5
      refine (CR1.out _ (TT.out.up U) (TF.out.up U) U).mono ?_
      rintro _ w6 ⟨rfl, h6⟩
      replace U := U.trans h6
      replace C := C.up h6
      replace B := B.up h6
      clear h6
      go_wp2_with fail
      refine (CD.out _ (TT.out.up U) (TF.out.up U)).mono ?_
      rintro _ w7 ⟨rfl, h7⟩
      replace U := U.trans h7
      replace C := C.up h7
      replace B := B.up h7
      clear h7
      obtain ⟨C0, C1, C2, C3, C4, C5, C6⟩ := Bf.cs C
      have C7 := Bf.lt C
      simp only [Nat.zero_add] at C0 C1 C2 C3 C4 C5 C6 C7
      have B0 := B.get 0
      have B1 := B.get 1
      have B2 := B.get 2
      have B3 := B.get 3
      have Bf0 := B.fr 0
      have Bf1 := B.fr 1
      have Bf2 := B.fr 2
      have Bf3 := B.fr 3
      have Bl := B.lt
      simp only [List.getElem?_toArray, List.getElem?_cons_zero, List.getElem?_cons_succ] at B0 B1 B2 B3
      go_wp2_with fail
      clear C0 C1 C2 C3 C4 C5 C6 C7
      clear B0 Bf0 B1 Bf1 B2 Bf2 B3 Bf3 Bl
      first | go_ret | refine bodyPost_ret (v := .bool true) (by simp [results, Tryd.results8, go_sem]) rfl ?_
      exact ⟨by first | rfl | simp, by first | exact U | exact U.alloc _ | exact U.drewN _ | exact U.drew⟩
    ·
      have d4 : (f.k == 4) = false := by simp [k1]
      have d1 : (f.k != 1) = false := by simp [k1]
      have z0 := zf (fun e => hx (X0.2 e))
      clear zt zf hx X0 nil1 k1
      have U := Up.refl w
      go_enter Tryd.func8, Tryd.ntmps8
      go_wp2_with fail
      obtain ⟨V1, hV1⟩ : ∃ V1, w.alloc (.cells #[.bool ng1, .slice A1 ln1 cp1, .int .i64 tw1, .int .i64 fv1] 32) = V1 := ⟨_, rfl⟩
      have B : Ob V1 w.heap.size 32 #[.bool ng1, .slice A1 ln1 cp1, .int .i64 tw1, .int .i64 fv1] := by rw [← hV1]; exact Ob.mk_ _ _ _
      have uV1 : Up w V1 := by rw [← hV1]; exact (Up.refl _).alloc _
      have ltB : w.heap.size ≤ w.heap.size := U.size
      rw [hV1]
      clear hV1
      replace U := U.trans uV1
      clear uV1
      refine (shown8_any _ (Lib.hid (TT.out.up U)) (Lib.hid (TF.out.up U))).mono ?_
      rintro _ w2 ⟨rfl, h2⟩
      replace U := U.trans h2
      replace B := B.up h2
      clear h2
      have B0 := B.get 0
      have B1 := B.get 1
      have B2 := B.get 2
      have B3 := B.get 3
      have Bf0 := B.fr 0
      have Bf1 := B.fr 1
      have Bf2 := B.fr 2
      have Bf3 := B.fr 3
      have Bl := B.lt
      simp only [List.getElem?_toArray, List.getElem?_cons_zero, List.getElem?_cons_succ] at B0 B1 B2 B3
      go_wp2_with fail
      clear B0 Bf0 B1 Bf1 B2 Bf2 B3 Bf3 Bl
      refine (CS1.out _ U).mono ?_
      rintro _ w3 ⟨rfl, h3⟩
      replace U := U.trans h3
      replace B := B.up h3
      clear h3
      go_wp2_with (refine store_ob2 rfl 32 (.tmp 3) (.tmp 15) rfl _ #[.bool ng1, .slice A1 ln1 cp1, .int .i64 tw1, .int .i64 fv1] #[.bool ng1, .slice A1 mm1 cp1, .int .i64 t, .int .i64 g] rfl rfl 4 (by kernel_rfl) rfl rfl (by simp [Value.oneCell']) w U ltB 32 B ?_; clear U; intro V9 Z9 U ho; clear ho B; have B := Z9; clear Z9)
      refine (CF.out _ (TF.out.up U)).mono ?_
      rintro _ w4 ⟨rfl, h4⟩
      replace U := U.trans h4
      replace B := B.up h4
      clear h4
      have B0 := B.get 0
      have B1 := B.get 1
      have B2 := B.get 2
      have B3 := B.get 3
      have Bf0 := B.fr 0
      have Bf1 := B.fr 1
      have Bf2 := B.fr 2
      have Bf3 := B.fr 3
      have Bl := B.lt
      simp only [List.getElem?_toArray, List.getElem?_cons_zero, List.getElem?_cons_succ] at B0 B1 B2 B3
      go_wp2_with fail
      clear B0 Bf0 B1 Bf1 B2 Bf2 B3 Bf3 Bl
      obtain ⟨V5, hV5⟩ : ∃ V5, w4.alloc (.cells #[.int .i64 f.k, .int .i64 f.W, .int .i64 f.m, .int .i64 f.b, .int .u64 f.t, .int .u64 f.n, .int .u64 f.x] 50) = V5 := ⟨_, rfl⟩
      have C : Bf V5 w4.heap.size 50 f := by rw [← hV5]; exact Bf.mk_ w4 f 50
      have ltC : w.heap.size ≤ w4.heap.size := U.size
      have uV5 : Up w4 V5 := by rw [← hV5]; exact (Up.refl _).alloc _
      rw [hV5]
      clear hV5
      replace U := U.trans uV5
      replace B := B.up uV5
      clear uV5
      refine (CR1.out _ (TT.out.up U) (TF.out.up U) U).mono ?_
      rintro _ w6 ⟨rfl, h6⟩
      replace U := U.trans h6
      replace C := C.up h6
      replace B := B.up h6
      clear h6
      go_wp2_with fail
      refine (CD.out _ (TT.out.up U) (TF.out.up U)).mono ?_
      rintro _ w7 ⟨rfl, h7⟩
      replace U := U.trans h7
      replace C := C.up h7
      replace B := B.up h7
      clear h7
      obtain ⟨C0, C1, C2, C3, C4, C5, C6⟩ := Bf.cs C
      have C7 := Bf.lt C
      simp only [Nat.zero_add] at C0 C1 C2 C3 C4 C5 C6 C7
      have B0 := B.get 0
      have B1 := B.get 1
      have B2 := B.get 2
      have B3 := B.get 3
      have Bf0 := B.fr 0
      have Bf1 := B.fr 1
      have Bf2 := B.fr 2
      have Bf3 := B.fr 3
      have Bl := B.lt
      simp only [List.getElem?_toArray, List.getElem?_cons_zero, List.getElem?_cons_succ] at B0 B1 B2 B3
      go_wp2_with fail
      clear C0 C1 C2 C3 C4 C5 C6 C7
      clear B0 Bf0 B1 Bf1 B2 Bf2 B3 Bf3 Bl
      first | go_ret | refine bodyPost_ret (v := .bool true) (by simp [results, Tryd.results8, go_sem]) rfl ?_
      exact ⟨by first | rfl | simp, by first | exact U | exact U.alloc _ | exact U.drewN _ | exact U.drew⟩
    ·
      have d4 : (f.k == 4) = false := by simpa using k4
      have d1 : (f.k != 1) = true := by simpa using k1
      clear zt zf X0 nil1 k1 k4
      have U := Up.refl w
      go_enter Tryd.func8, Tryd.ntmps8
      go_wp2_with fail
      obtain ⟨V1, hV1⟩ : ∃ V1, w.alloc (.cells #[.bool ng1, .slice A1 ln1 cp1, .int .i64 tw1, .int .i64 fv1] 32) = V1 := ⟨_, rfl⟩
      have B : Ob V1 w.heap.size 32 #[.bool ng1, .slice A1 ln1 cp1, .int .i64 tw1, .int .i64 fv1] := by rw [← hV1]; exact Ob.mk_ _ _ _
      have uV1 : Up w V1 := by rw [← hV1]; exact (Up.refl _).alloc _
      have ltB : w.heap.size ≤ w.heap.size := U.size
      rw [hV1]
      clear hV1
      replace U := U.trans uV1
      clear uV1
      refine (shown8_any _ (Lib.hid (TT.out.up U)) (Lib.hid (TF.out.up U))).mono ?_
      rintro _ w2 ⟨rfl, h2⟩
      replace U := U.trans h2
      replace B := B.up h2
      clear h2
      have B0 := B.get 0
      have B1 := B.get 1
      have B2 := B.get 2
      have B3 := B.get 3
      have Bf0 := B.fr 0
      have Bf1 := B.fr 1
      have Bf2 := B.fr 2
      have Bf3 := B.fr 3
      have Bl := B.lt
      simp only [List.getElem?_toArray, List.getElem?_cons_zero, List.getElem?_cons_succ] at B0 B1 B2 B3
      go_wp2_with fail
      clear B0 Bf0 B1 Bf1 B2 Bf2 B3 Bf3 Bl
      refine (CS1.out _ U).mono ?_
      rintro _ w3 ⟨rfl, h3⟩
      replace U := U.trans h3
      replace B := B.up h3
      clear h3
      go_wp2_with (refine store_ob2 rfl 32 (.tmp 3) (.tmp 15) rfl _ #[.bool ng1, .slice A1 ln1 cp1, .int .i64 tw1, .int .i64 fv1] #[.bool ng1, .slice A1 mm1 cp1, .int .i64 t, .int .i64 g] rfl rfl 4 (by kernel_rfl) rfl rfl (by simp [Value.oneCell']) w U ltB 32 B ?_; clear U; intro V9 Z9 U ho; clear ho B; have B := Z9; clear Z9)
      refine (CF.out _ (TF.out.up U)).mono ?_
      rintro _ w4 ⟨rfl, h4⟩
      replace U := U.trans h4
      replace B := B.up h4
      clear h4
      have B0 := B.get 0
      have B1 := B.get 1
      have B2 := B.get 2
      have B3 := B.get 3
      have Bf0 := B.fr 0
      have Bf1 := B.fr 1
      have Bf2 := B.fr 2
      have Bf3 := B.fr 3
      have Bl := B.lt
      simp only [List.getElem?_toArray, List.getElem?_cons_zero, List.getElem?_cons_succ] at B0 B1 B2 B3
      go_wp2_with fail
      clear B0 Bf0 B1 Bf1 B2 Bf2 B3 Bf3 Bl
      obtain ⟨V5, hV5⟩ : ∃ V5, w4.alloc (.cells #[.int .i64 f.k, .int .i64 f.W, .int .i64 f.m, .int .i64 f.b, .int .u64 f.t, .int .u64 f.n, .int .u64 f.x] 50) = V5 := ⟨_, rfl⟩
      have C : Bf V5 w4.heap.size 50 f := by rw [← hV5]; exact Bf.mk_ w4 f 50
      have ltC : w.heap.size ≤ w4.heap.size := U.size
      have uV5 : Up w4 V5 := by rw [← hV5]; exact (Up.refl _).alloc _
      rw [hV5]
      clear hV5
      replace U := U.trans uV5
      replace B := B.up uV5
      clear uV5
      refine (CR1.out _ (TT.out.up U) (TF.out.up U) U).mono ?_
      rintro _ w6 ⟨rfl, h6⟩
      replace U := U.trans h6
      replace C := C.up h6
      replace B := B.up h6
      clear h6
      go_wp2_with fail
      refine (CD.out _ (TT.out.up U) (TF.out.up U)).mono ?_
      rintro _ w7 ⟨rfl, h7⟩
      replace U := U.trans h7
      replace C := C.up h7
      replace B := B.up h7
      clear h7
      obtain ⟨C0, C1, C2, C3, C4, C5, C6⟩ := Bf.cs C
      have C7 := Bf.lt C
      simp only [Nat.zero_add] at C0 C1 C2 C3 C4 C5 C6 C7
      have B0 := B.get 0
      have B1 := B.get 1
      have B2 := B.get 2
      have B3 := B.get 3
      have Bf0 := B.fr 0
      have Bf1 := B.fr 1
      have Bf2 := B.fr 2
      have Bf3 := B.fr 3
      have Bl := B.lt
      simp only [List.getElem?_toArray, List.getElem?_cons_zero, List.getElem?_cons_succ] at B0 B1 B2 B3
      go_wp2_with fail
      clear C0 C1 C2 C3 C4 C5 C6 C7
      clear B0 Bf0 B1 Bf1 B2 Bf2 B3 Bf3 Bl
      first | go_ret | refine bodyPost_ret (v := .bool true) (by simp [results, Tryd.results8, go_sem]) rfl ?_
      exact ⟨by first | rfl | simp, by first | exact U | exact U.alloc _ | exact U.drewN _ | exact U.drew⟩
    ·
      have d4 : (f.k == 4) = false := by simpa using k4
      have d1 : (f.k != 1) = true := by simpa using k1
      clear zt zf X0 nil1 k1 k4
      have U := Up.refl w
      go_enter Tryd.func8, Tryd.ntmps8
      go_wp2_with fail
      obtain ⟨V1, hV1⟩ : ∃ V1, w.alloc (.cells #[.bool ng1, .slice A1 ln1 cp1, .int .i64 tw1, .int .i64 fv1] 32) = V1 := ⟨_, rfl⟩
      have B : Ob V1 w.heap.size 32 #[.bool ng1, .slice A1 ln1 cp1, .int .i64 tw1, .int .i64 fv1] := by rw [← hV1]; exact Ob.mk_ _ _ _
      have uV1 : Up w V1 := by rw [← hV1]; exact (Up.refl _).alloc _
      have ltB : w.heap.size ≤ w.heap.size := U.size
      rw [hV1]
      clear hV1
      replace U := U.trans uV1
      clear uV1
      refine (shown8_any _ (Lib.hid (TT.out.up U)) (Lib.hid (TF.out.up U))).mono ?_
      rintro _ w2 ⟨rfl, h2⟩
      replace U := U.trans h2
      replace B := B.up h2
      clear h2
      have B0 := B.get 0
      have B1 := B.get 1
      have B2 := B.get 2
      have B3 := B.get 3
      have Bf0 := B.fr 0
      have Bf1 := B.fr 1
      have Bf2 := B.fr 2
      have Bf3 := B.fr 3
      have Bl := B.lt
      simp only [List.getElem?_toArray, List.getElem?_cons_zero, List.getElem?_cons_succ] at B0 B1 B2 B3
      go_wp2_with fail
      clear B0 Bf0 B1 Bf1 B2 Bf2 B3 Bf3 Bl
      refine (CS1.out _ U).mono ?_
      rintro _ w3 ⟨rfl, h3⟩
      replace U := U.trans h3
      replace B := B.up h3
      clear h3
      go_wp2_with (refine store_ob2 rfl 32 (.tmp 3) (.tmp 15) rfl _ #[.bool ng1, .slice A1 ln1 cp1, .int .i64 tw1, .int .i64 fv1] #[.bool ng1, .slice A1 mm1 cp1, .int .i64 t, .int .i64 g] rfl rfl 4 (by kernel_rfl) rfl rfl (by simp [Value.oneCell']) w U ltB 32 B ?_; clear U; intro V9 Z9 U ho; clear ho B; have B := Z9; clear Z9)
      refine (CF.out _ (TF.out.up U)).mono ?_
      rintro _ w4 ⟨rfl, h4⟩
      replace U := U.trans h4
      replace B := B.up h4
      clear h4
      have B0 := B.get 0
      have B1 := B.get 1
      have B2 := B.get 2
      have B3 := B.get 3
      have Bf0 := B.fr 0
      have Bf1 := B.fr 1
      have Bf2 := B.fr 2
      have Bf3 := B.fr 3
      have Bl := B.lt
      simp only [List.getElem?_toArray, List.getElem?_cons_zero, List.getElem?_cons_succ] at B0 B1 B2 B3
      go_wp2_with fail
      clear B0 Bf0 B1 Bf1 B2 Bf2 B3 Bf3 Bl
      obtain ⟨V5, hV5⟩ : ∃ V5, w4.alloc (.cells #[.int .i64 f.k, .int .i64 f.W, .int .i64 f.m, .int .i64 f.b, .int .u64 f.t, .int .u64 f.n, .int .u64 f.x] 50) = V5 := ⟨_, rfl⟩
      have C : Bf V5 w4.heap.size 50 f := by rw [← hV5]; exact Bf.mk_ w4 f 50
      have ltC : w.heap.size ≤ w4.heap.size := U.size
      have uV5 : Up w4 V5 := by rw [← hV5]; exact (Up.refl _).alloc _
      rw [hV5]
      clear hV5
      replace U := U.trans uV5
      replace B := B.up uV5
      clear uV5
      refine (CR1.out _ (TT.out.up U) (TF.out.up U) U).mono ?_
      rintro _ w6 ⟨rfl, h6⟩
      replace U := U.trans h6
      replace C := C.up h6
      replace B := B.up h6
      clear h6
      go_wp2_with fail
      refine (CD.out _ (TT.out.up U) (TF.out.up U)).mono ?_
      rintro _ w7 ⟨rfl, h7⟩
      replace U := U.trans h7
      replace C := C.up h7
      replace B := B.up h7
      clear h7
      obtain ⟨C0, C1, C2, C3, C4, C5, C6⟩ := Bf.cs C
      have C7 := Bf.lt C
      simp only [Nat.zero_add] at C0 C1 C2 C3 C4 C5 C6 C7
      have B0 := B.get 0
      have B1 := B.get 1
      have B2 := B.get 2
      have B3 := B.get 3
      have Bf0 := B.fr 0
      have Bf1 := B.fr 1
      have Bf2 := B.fr 2
      have Bf3 := B.fr 3
      have Bl := B.lt
      simp only [List.getElem?_toArray, List.getElem?_cons_zero, List.getElem?_cons_succ] at B0 B1 B2 B3
      go_wp2_with fail
      clear C0 C1 C2 C3 C4 C5 C6 C7
      clear B0 Bf0 B1 Bf1 B2 Bf2 B3 Bf3 Bl
      first | go_ret | refine bodyPost_ret (v := .bool true) (by simp [results, Tryd.results8, go_sem]) rfl ?_
      exact ⟨by first | rfl | simp, by first | exact U | exact U.alloc _ | exact U.drewN _ | exact U.drew⟩
end Go.Proofs.YtlogglhonlannaaDoor
