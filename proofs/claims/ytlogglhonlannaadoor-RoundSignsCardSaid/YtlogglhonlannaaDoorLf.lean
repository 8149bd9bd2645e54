/-
  RoundSigns.
-/
import Derived.Test.YtlogglhonlannaaDoorLb
namespace Go.Proofs.YtlogglhonlannaaDoor
open Go.RowKit
set_option linter.unusedSimpArgs false
set_option linter.unusedVariables false

set_option maxHeartbeats 1000000 in
set_option maxRecDepth 100000 in
theorem rsigns_walk (w : World) (TT : Hid (Tz w)) (TF : Hid (TabF w)) (x0 : Int) (_wx0 : (Lit.int .i64 x0).wf = true) (x1 : Bool) (ng2 : Bool) (A2 : Option Addr) (ln2 cp2 : Nat) (xs2 : List Nat) (sr2 : Src w A2 ln2 cp2 xs2) (fz2 : Fz w A2 ln2) (_mx2 : cp2 ≤ maxLen) (tw2 : Int) (_wt2 : (Lit.int .i64 tw2).wf = true) (fv2 : Int) (_wv2 : (Lit.int .i64 fv2).wf = true) : Calls Tryd.prog 7 #[.int .i64 x0, .bool x1, xv ng2 (.slice A2 ln2 cp2) tw2 fv2] w (True8 w) := by
  obtain ⟨t, ht⟩ : ∃ z, max (min tw2 1000) (-1000) = z := ⟨_, rfl⟩
  obtain ⟨g, hg⟩ : ∃ z, max (min fv2 1000) (-1000) = z := ⟨_, rfl⟩
  obtain ⟨mm2, a2, N2, CS2⟩ := small8_ex w ng2 A2 ln2 cp2 xs2 tw2 fv2 sr2 fz2 t g ht hg
  have bt : -5000 ≤ t ∧ t ≤ 5000 := by omega
  have bg : -5000 ≤ g ∧ g ≤ 5000 := by omega
  have h1282 := N2.lt128 (by decide)
  clear ht hg sr2 fz2
  obtain ⟨X, hX⟩ : ∃ X, M.sz a2 t g = X := ⟨_, rfl⟩
  have CR := Lib.hid (fun W (T : Tz W) (F : TabF W) (U : Up w W) (mode : Int) (ng : Bool) (p e : Int) (hr : M.Rc x0 mode ng X p e) => rnd_round W (Lib.hid T) (Lib.hid F) x0 mode 0 40 ng (.slice A2 mm2 cp2) t g a2 (N2.up U) (by decide) bt bg h1282 p e (by rw [hX]; exact hr))
  clear hX N2 h1282 bt bg
  rcases M.in_or_out x0 with ho | ⟨i, rfl, i1, i2⟩
  ·
    have CF := Lib.hid (fun W => of_out W x0 ho)
    clear CR ho
    have U := Up.refl w
    go_enter Tryd.func7, Tryd.ntmps7
    go_wp2_with fail
    obtain ⟨V1, hV1⟩ : ∃ V1, w.alloc (.cells #[.bool ng2, .slice A2 ln2 cp2, .int .i64 tw2, .int .i64 fv2] 32) = V1 := ⟨_, rfl⟩
    have B : Ob V1 w.heap.size 32 #[.bool ng2, .slice A2 ln2 cp2, .int .i64 tw2, .int .i64 fv2] := by rw [← hV1]; exact Ob.mk_ _ _ _
    have uV1 : Up w V1 := by rw [← hV1]; exact (Up.refl _).alloc _
    have ltB : w.heap.size ≤ w.heap.size := U.size
    rw [hV1]
    clear hV1
    replace U := U.trans uV1
    clear uV1
    refine (shown8_any _ (Lib.hid (TT.out.up U)) (Lib.hid (TF.out.up U))).mono ?_
    rintro _ w2 ⟨rfl, h2⟩
    replace U := U.trans h2
    replace B := B.up h2
    clear h2
    have B0 := B.get 0
    have B1 := B.get 1
    have B2 := B.get 2
    have B3 := B.get 3
    have Bf0 := B.fr 0
    have Bf1 := B.fr 1
    have Bf2 := B.fr 2
    have Bf3 := B.fr 3
    have Bl := B.lt
    simp only [List.getElem?_toArray, List.getElem?_cons_zero, List.getElem?_cons_succ] at B0 B1 B2 B3
    go_wp2_with fail
    clear B0 Bf0 B1 Bf1 B2 Bf2 B3 Bf3 Bl
    refine (CS2.out _ U).mono ?_
    rintro _ w3 ⟨rfl, h3⟩
    replace U := U.trans h3
    replace B := B.up h3
    clear h3
    go_wp2_with (refine store_ob2 rfl 32 (.tmp 5) (.tmp 18) rfl _ #[.bool ng2, .slice A2 ln2 cp2, .int .i64 tw2, .int .i64 fv2] #[.bool ng2, .slice A2 mm2 cp2, .int .i64 t, .int .i64 g] rfl rfl 4 (by kernel_rfl) rfl rfl (by simp [Value.oneCell']) w U ltB 32 B ?_; clear U; intro V9 Z9 U ho; clear ho B; have B := Z9; clear Z9)
    have gC := B.lt
    refine (CF.out _).mono ?_
    rintro _ w4 ⟨rfl, h4⟩
    replace U := U.trans h4
    replace B := B.up h4
    clear h4
    have B0 := B.get 0
    have B1 := B.get 1
    have B2 := B.get 2
    have B3 := B.get 3
    have Bf0 := B.fr 0
    have Bf1 := B.fr 1
    have Bf2 := B.fr 2
    have Bf3 := B.fr 3
    have Bl := B.lt
    simp only [List.getElem?_toArray, List.getElem?_cons_zero, List.getElem?_cons_succ] at B0 B1 B2 B3
    go_wp2_with fail
    clear B0 Bf0 B1 Bf1 B2 Bf2 B3 Bf3 Bl
    first | go_ret | refine bodyPost_ret (v := .bool true) (by simp [results, Tryd.results7, go_sem]) rfl ?_
    exact ⟨by first | rfl | simp, by first | exact U | exact U.alloc _ | exact U.drewN _ | exact U.drew⟩
  ·
    have ok := M.ok i i1 i2
    have ok2 := M.ok2 i i1 i2
    have ok3 := M.ok3 i i1 i2
    obtain ⟨f, hf⟩ : ∃ f, M.tb i = f := ⟨_, rfl⟩
    have CF := Lib.hid (fun W (F : TabF W) => of_in W F i f (Lib.hid hf) i1 i2)
    rw [hf] at ok ok2 ok3
    rcases ok.k with k1 | k2 | k3 | k4
    ·
      obtain ⟨md, hmd⟩ : ∃ md : Int, (if x1 = true then 2 else 1) = md := ⟨_, rfl⟩
      have hm : md = 1 ∨ md = 2 := by cases x1 <;> simp at hmd <;> omega
      obtain ⟨p, hp⟩ := M.rv_ex ok ok2 ok3 md ng2 X
      obtain ⟨q, hq⟩ := M.rv_ex ok ok2 ok3 md (!ng2) X
      obtain ⟨p0, pm, _⟩ := M.rv_class ok ok2 ok3 hp
      have hs := M.signs ok ok2 ok3 hm (by omega) hp hq
      have C1 := Lib.hid (fun W T F U => CR.out W T F U md ng2 p 0 (.inr ⟨i, rfl, i1, i2, .inr ⟨hm, by rw [hf]; exact hp, rfl⟩⟩))
      have C2 := Lib.hid (fun W T F U => CR.out W T F U md (!ng2) q 0 (.inr ⟨i, rfl, i1, i2, .inr ⟨hm, by rw [hf]; exact hq, rfl⟩⟩))
      have pb : p < 18446744073709551616 := by have := ok.hm; omega
      have k3 : (f.k == 3) = false := by simp [k1]
      have k4 : (f.k == 4) = false := by simp [k1]
      have k2 : (f.k == 2) = false := by simp [k1]
      have x0 : (f.x != 0) = true := by
        have := ok2.one k1
        have := ok.hm
        rw [bne_iff_ne]
        omega
      obtain ⟨S, hS⟩ : ∃ z, M.msk f = z := ⟨_, rfl⟩
      have CM := Lib.hid (fun W => mask_any W f ok S (Lib.hid hS))
      have hb := M.and_neg_mask ok p0 pm
      rw [hS] at hb
      have hs2 : (p == f.x) = false ∧ bits BinOp.and IntKind.u64 (IntKind.u64.wrap (-p)) S = q := by
        rcases hs with ⟨_, e, _, e2, e3⟩ | ⟨e1, ⟨e, _⟩ | ⟨_, e⟩⟩
        · exfalso
          have h1 := hp
          have := ok2.one k1
          have := ok.hm
          rcases hp with ⟨h, _⟩ | ⟨_, q1, k, o, hq1, hn, ⟨_, h, _⟩ | ⟨_, h⟩⟩
          · omega
          · exact h (.inr (.inl k1))
          · obtain ⟨q', hq', _, _, qt⟩ := M.mst_rng ok ok2 ok3 ng2
            have hms : M.mst f ng2 = f.t := by unfold M.mst; rw [if_neg (by omega)]
            have kq : k ≤ q1 := by
              rcases hn with ⟨_, rfl, _⟩ | ⟨_, h, _⟩
              · exact Nat.le_refl _
              · exact h
            unfold M.pat at h
            rw [if_neg (show ¬ f.k = 2 by omega)] at h
            split at h
            · omega
            · split at h <;> omega
        · omega
        · refine ⟨?_, by rw [hb, e]⟩
          rw [beq_eq_false_iff_ne]
          have : f.x ≠ 0 := by simpa using x0
          omega
      clear hs hp hq hb p0 pm ok ok2 ok3 hf CR hm k1 hS
      obtain ⟨np, hb⟩ := hs2
      cases x1
      ·
        obtain rfl : md = 1 := by simpa using hmd.symm
        clear hmd
        have U := Up.refl w
        go_enter Tryd.func7, Tryd.ntmps7
        go_wp2_with fail
        obtain ⟨V1, hV1⟩ : ∃ V1, w.alloc (.cells #[.bool ng2, .slice A2 ln2 cp2, .int .i64 tw2, .int .i64 fv2] 32) = V1 := ⟨_, rfl⟩
        have B : Ob V1 w.heap.size 32 #[.bool ng2, .slice A2 ln2 cp2, .int .i64 tw2, .int .i64 fv2] := by rw [← hV1]; exact Ob.mk_ _ _ _
        have uV1 : Up w V1 := by rw [← hV1]; exact (Up.refl _).alloc _
        have ltB : w.heap.size ≤ w.heap.size := U.size
        rw [hV1]
        clear hV1
        replace U := U.trans uV1
        clear uV1
        refine (shown8_any _ (Lib.hid (TT.out.up U)) (Lib.hid (TF.out.up U))).mono ?_
        rintro _ w2 ⟨rfl, h2⟩
        replace U := U.trans h2
        replace B := B.up h2
        clear h2
        have B0 := B.get 0
        have B1 := B.get 1
        have B2 := B.get 2
        have B3 := B.get 3
        have Bf0 := B.fr 0
        have Bf1 := B.fr 1
        have Bf2 := B.fr 2
        have Bf3 := B.fr 3
        have Bl := B.lt
        simp only [List.getElem?_toArray, List.getElem?_cons_zero, List.getElem?_cons_succ] at B0 B1 B2 B3
        go_wp2_with fail
        clear B0 Bf0 B1 Bf1 B2 Bf2 B3 Bf3 Bl
        refine (CS2.out _ U).mono ?_
        rintro _ w3 ⟨rfl, h3⟩
        replace U := U.trans h3
        replace B := B.up h3
        clear h3
        go_wp2_with (refine store_ob2 rfl 32 (.tmp 5) (.tmp 18) rfl _ #[.bool ng2, .slice A2 ln2 cp2, .int .i64 tw2, .int .i64 fv2] #[.bool ng2, .slice A2 mm2 cp2, .int .i64 t, .int .i64 g] rfl rfl 4 (by kernel_rfl) rfl rfl (by simp [Value.oneCell']) w U ltB 32 B ?_; clear U; intro V9 Z9 U ho; clear ho B; have B := Z9; clear Z9)
        have gC := B.lt
        refine (CF.out _ (TF.out.up U)).mono ?_
        rintro _ w4 ⟨rfl, h4⟩
        replace U := U.trans h4
        replace B := B.up h4
        clear h4
        go_upto_region 9 with fail
        obtain ⟨V5, hV5⟩ : ∃ V5, w4.alloc (.cells #[.int .i64 f.k, .int .i64 f.W, .int .i64 f.m, .int .i64 f.b, .int .u64 f.t, .int .u64 f.n, .int .u64 f.x] 50) = V5 := ⟨_, rfl⟩
        have C : Bf V5 w4.heap.size 50 f := by rw [← hV5]; exact Bf.mk_ w4 f 50
        have ltC : w.heap.size ≤ w4.heap.size := U.size
        have uV5 : Up w4 V5 := by rw [← hV5]; exact (Up.refl _).alloc _
        rw [hV5]
        clear hV5
        replace U := U.trans uV5
        replace B := B.up uV5
        clear uV5
        have gE := Bf.lt C
        have B0 := B.get 0
        have B1 := B.get 1
        have B2 := B.get 2
        have B3 := B.get 3
        have Bf0 := B.fr 0
        have Bf1 := B.fr 1
        have Bf2 := B.fr 2
        have Bf3 := B.fr 3
        have Bl := B.lt
        simp only [List.getElem?_toArray, List.getElem?_cons_zero, List.getElem?_cons_succ] at B0 B1 B2 B3
        go_upto_region 10 with (refine store_ob rfl 32 (.tmp 11) (.tmp 38) rfl _ #[.bool false, .slice none 0 0, .int .i64 0, .int .i64 0] #[.bool ng2, .slice A2 mm2 cp2, .int .i64 t, .int .i64 g] rfl rfl 4 (by kernel_rfl) rfl rfl (by simp [Value.oneCell']) V5 ((Up.refl _).alloc _) (Nat.le_refl _) 32 (Ob.mk_ _ _ _) ?_; intro V6 E uV6; have ltE : w.heap.size ≤ V5.heap.size := U.size; replace U := U.trans uV6; replace C := C.up uV6; replace B := B.up uV6; clear uV6; have E0 := E.get 0; have E1 := E.get 1; have E2 := E.get 2; have E3 := E.get 3; simp only [List.getElem?_toArray, List.getElem?_cons_zero, List.getElem?_cons_succ] at E0 E1 E2 E3)
        clear B0 Bf0 B1 Bf1 B2 Bf2 B3 Bf3 Bl
        clear E0 E1 E2 E3
        have B0 := B.get 0
        have B1 := B.get 1
        have B2 := B.get 2
        have B3 := B.get 3
        have Bf0 := B.fr 0
        have Bf1 := B.fr 1
        have Bf2 := B.fr 2
        have Bf3 := B.fr 3
        have Bl := B.lt
        simp only [List.getElem?_toArray, List.getElem?_cons_zero, List.getElem?_cons_succ] at B0 B1 B2 B3
        have E0 := E.get 0
        have E1 := E.get 1
        have E2 := E.get 2
        have E3 := E.get 3
        have Ef0 := E.fr 0
        have Ef1 := E.fr 1
        have Ef2 := E.fr 2
        have Ef3 := E.fr 3
        have El := E.lt
        simp only [List.getElem?_toArray, List.getElem?_cons_zero, List.getElem?_cons_succ] at E0 E1 E2 E3
        go_upto_region 11 with fail
        clear B0 Bf0 B1 Bf1 B2 Bf2 B3 Bf3 Bl
        clear E0 Ef0 E1 Ef1 E2 Ef2 E3 Ef3 El
        obtain ⟨VX, hVX⟩ : ∃ VX, V6.setCell ⟨V5.heap.size, 0, none⟩ (.bool (!ng2)) = VX := ⟨_, rfl⟩
        replace B : Ob VX w.heap.size 32 #[.bool ng2, .slice A2 mm2 cp2, .int .i64 t, .int .i64 g] := by rw [← hVX]; exact B.other (by omega) _
        replace C : Bf VX w4.heap.size 50 f := by rw [← hVX]; exact (Below.heap_setCell _ _ _ _ (by show _ ≠ _; simp only; omega)).trans C
        replace E : Ob VX V5.heap.size 32 #[.bool (!ng2), .slice A2 mm2 cp2, .int .i64 t, .int .i64 g] := by rw [← hVX]; simpa using E.put 0 (.bool (!ng2))
        replace U : Up w VX := by rw [← hVX]; exact U.setCell ltE _
        rw [hVX]
        clear hVX
        obtain ⟨C0, C1, C2, C3, C4, C5, C6⟩ := Bf.cs C
        have C7 := Bf.lt C
        simp only [Nat.zero_add] at C0 C1 C2 C3 C4 C5 C6 C7
        have B0 := B.get 0
        have B1 := B.get 1
        have B2 := B.get 2
        have B3 := B.get 3
        have Bf0 := B.fr 0
        have Bf1 := B.fr 1
        have Bf2 := B.fr 2
        have Bf3 := B.fr 3
        have Bl := B.lt
        simp only [List.getElem?_toArray, List.getElem?_cons_zero, List.getElem?_cons_succ] at B0 B1 B2 B3
        go_wp2_with fail
        clear C0 C1 C2 C3 C4 C5 C6 C7
        clear B0 Bf0 B1 Bf1 B2 Bf2 B3 Bf3 Bl
        refine (C1.out _ (TT.out.up U) (TF.out.up U) U).mono ?_
        rintro _ w7 ⟨rfl, h7⟩
        replace U := U.trans h7
        replace C := C.up h7
        replace B := B.up h7
        replace E := E.up h7
        clear h7
        obtain ⟨C0, C1, C2, C3, C4, C5, C6⟩ := Bf.cs C
        have C7 := Bf.lt C
        simp only [Nat.zero_add] at C0 C1 C2 C3 C4 C5 C6 C7
        have E0 := E.get 0
        have E1 := E.get 1
        have E2 := E.get 2
        have E3 := E.get 3
        have Ef0 := E.fr 0
        have Ef1 := E.fr 1
        have Ef2 := E.fr 2
        have Ef3 := E.fr 3
        have El := E.lt
        simp only [List.getElem?_toArray, List.getElem?_cons_zero, List.getElem?_cons_succ] at E0 E1 E2 E3
        go_wp2_with fail
        clear C0 C1 C2 C3 C4 C5 C6 C7
        clear E0 Ef0 E1 Ef1 E2 Ef2 E3 Ef3 El
        refine (C2.out _ (TT.out.up U) (TF.out.up U) U).mono ?_
        rintro _ w8 ⟨rfl, h8⟩
        replace U := U.trans h8
        replace C := C.up h8
        replace B := B.up h8
        replace E := E.up h8
        clear h8
        obtain ⟨C0, C1, C2, C3, C4, C5, C6⟩ := Bf.cs C
        have C7 := Bf.lt C
        simp only [Nat.zero_add] at C0 C1 C2 C3 C4 C5 C6 C7
        go_wp2_with fail
        clear C0 C1 C2 C3 C4 C5 C6 C7
        refine (CM.out _).mono ?_
        rintro _ w9 ⟨rfl, h9⟩
        replace U := U.trans h9
        replace C := C.up h9
        replace B := B.up h9
        replace E := E.up h9
        clear h9
        obtain ⟨C0, C1, C2, C3, C4, C5, C6⟩ := Bf.cs C
        have C7 := Bf.lt C
        simp only [Nat.zero_add] at C0 C1 C2 C3 C4 C5 C6 C7
        go_wp2_with fail
        clear C0 C1 C2 C3 C4 C5 C6 C7
        first | go_ret | refine bodyPost_ret (v := .bool true) (by simp [results, Tryd.results7, go_sem]) rfl ?_
        exact ⟨by first | rfl | simp, by first | exact U | exact U.alloc _ | exact U.drewN _ | exact U.drew⟩
      ·
        obtain rfl : md = 2 := by simpa using hmd.symm
        clear hmd
        have U := Up.refl w
        go_enter Tryd.func7, Tryd.ntmps7
        go_wp2_with fail
        obtain ⟨V1, hV1⟩ : ∃ V1, w.alloc (.cells #[.bool ng2, .slice A2 ln2 cp2, .int .i64 tw2, .int .i64 fv2] 32) = V1 := ⟨_, rfl⟩
        have B : Ob V1 w.heap.size 32 #[.bool ng2, .slice A2 ln2 cp2, .int .i64 tw2, .int .i64 fv2] := by rw [← hV1]; exact Ob.mk_ _ _ _
        have uV1 : Up w V1 := by rw [← hV1]; exact (Up.refl _).alloc _
        have ltB : w.heap.size ≤ w.heap.size := U.size
        rw [hV1]
        clear hV1
        replace U := U.trans uV1
        clear uV1
        refine (shown8_any _ (Lib.hid (TT.out.up U)) (Lib.hid (TF.out.up U))).mono ?_
        rintro _ w2 ⟨rfl, h2⟩
        replace U := U.trans h2
        replace B := B.up h2
        clear h2
        have B0 := B.get 0
        have B1 := B.get 1
        have B2 := B.get 2
        have B3 := B.get 3
        have Bf0 := B.fr 0
        have Bf1 := B.fr 1
        have Bf2 := B.fr 2
        have Bf3 := B.fr 3
        have Bl := B.lt
        simp only [List.getElem?_toArray, List.getElem?_cons_zero, List.getElem?_cons_succ] at B0 B1 B2 B3
        go_wp2_with fail
        clear B0 Bf0 B1 Bf1 B2 Bf2 B3 Bf3 Bl
        refine (CS2.out _ U).mono ?_
        rintro _ w3 ⟨rfl, h3⟩
        replace U := U.trans h3
        replace B := B.up h3
        clear h3
        go_wp2_with (refine store_ob2 rfl 32 (.tmp 5) (.tmp 18) rfl _ #[.bool ng2, .slice A2 ln2 cp2, .int .i64 tw2, .int .i64 fv2] #[.bool ng2, .slice A2 mm2 cp2, .int .i64 t, .int .i64 g] rfl rfl 4 (by kernel_rfl) rfl rfl (by simp [Value.oneCell']) w U ltB 32 B ?_; clear U; intro V9 Z9 U ho; clear ho B; have B := Z9; clear Z9)
        have gC := B.lt
        refine (CF.out _ (TF.out.up U)).mono ?_
        rintro _ w4 ⟨rfl, h4⟩
        replace U := U.trans h4
        replace B := B.up h4
        clear h4
        go_upto_region 9 with fail
        obtain ⟨V5, hV5⟩ : ∃ V5, w4.alloc (.cells #[.int .i64 f.k, .int .i64 f.W, .int .i64 f.m, .int .i64 f.b, .int .u64 f.t, .int .u64 f.n, .int .u64 f.x] 50) = V5 := ⟨_, rfl⟩
        have C : Bf V5 w4.heap.size 50 f := by rw [← hV5]; exact Bf.mk_ w4 f 50
        have ltC : w.heap.size ≤ w4.heap.size := U.size
        have uV5 : Up w4 V5 := by rw [← hV5]; exact (Up.refl _).alloc _
        rw [hV5]
        clear hV5
        replace U := U.trans uV5
        replace B := B.up uV5
        clear uV5
        have gE := Bf.lt C
        have B0 := B.get 0
        have B1 := B.get 1
        have B2 := B.get 2
        have B3 := B.get 3
        have Bf0 := B.fr 0
        have Bf1 := B.fr 1
        have Bf2 := B.fr 2
        have Bf3 := B.fr 3
        have Bl := B.lt
        simp only [List.getElem?_toArray, List.getElem?_cons_zero, List.getElem?_cons_succ] at B0 B1 B2 B3
        go_upto_region 10 with (refine store_ob rfl 32 (.tmp 11) (.tmp 38) rfl _ #[.bool false, .slice none 0 0, .int .i64 0, .int .i64 0] #[.bool ng2, .slice A2 mm2 cp2, .int .i64 t, .int .i64 g] rfl rfl 4 (by kernel_rfl) rfl rfl (by simp [Value.oneCell']) V5 ((Up.refl _).alloc _) (Nat.le_refl _) 32 (Ob.mk_ _ _ _) ?_; intro V6 E uV6; have ltE : w.heap.size ≤ V5.heap.size := U.size; replace U := U.trans uV6; replace C := C.up uV6; replace B := B.up uV6; clear uV6; have E0 := E.get 0; have E1 := E.get 1; have E2 := E.get 2; have E3 := E.get 3; simp only [List.getElem?_toArray, List.getElem?_cons_zero, List.getElem?_cons_succ] at E0 E1 E2 E3)
        clear B0 Bf0 B1 Bf1 B2 Bf2 B3 Bf3 Bl
        clear E0 E1 E2 E3
        have B0 := B.get 0
        have B1 := B.get 1
        have B2 := B.get 2
        have B3 := B.get 3
        have Bf0 := B.fr 0
        have Bf1 := B.fr 1
        have Bf2 := B.fr 2
        have Bf3 := B.fr 3
        have Bl := B.lt
        simp only [List.getElem?_toArray, List.getElem?_cons_zero, List.getElem?_cons_succ] at B0 B1 B2 B3
        have E0 := E.get 0
        have E1 := E.get 1
        have E2 := E.get 2
        have E3 := E.get 3
        have Ef0 := E.fr 0
        have Ef1 := E.fr 1
        have Ef2 := E.fr 2
        have Ef3 := E.fr 3
        have El := E.lt
        simp only [List.getElem?_toArray, List.getElem?_cons_zero, List.getElem?_cons_succ] at E0 E1 E2 E3
        go_upto_region 11 with fail
        clear B0 Bf0 B1 Bf1 B2 Bf2 B3 Bf3 Bl
        clear E0 Ef0 E1 Ef1 E2 Ef2 E3 Ef3 El
        obtain ⟨VX, hVX⟩ : ∃ VX, V6.setCell ⟨V5.heap.size, 0, none⟩ (.bool (!ng2)) = VX := ⟨_, rfl⟩
        replace B : Ob VX w.heap.size 32 #[.bool ng2, .slice A2 mm2 cp2, .int .i64 t, .int .i64 g] := by rw [← hVX]; exact B.other (by omega) _
        replace C : Bf VX w4.heap.size 50 f := by rw [← hVX]; exact (Below.heap_setCell _ _ _ _ (by show _ ≠ _; simp only; omega)).trans C
        replace E : Ob VX V5.heap.size 32 #[.bool (!ng2), .slice A2 mm2 cp2, .int .i64 t, .int .i64 g] := by rw [← hVX]; simpa using E.put 0 (.bool (!ng2))
        replace U : Up w VX := by rw [← hVX]; exact U.setCell ltE _
        rw [hVX]
        clear hVX
        obtain ⟨C0, C1, C2, C3, C4, C5, C6⟩ := Bf.cs C
        have C7 := Bf.lt C
        simp only [Nat.zero_add] at C0 C1 C2 C3 C4 C5 C6 C7
        have B0 := B.get 0
        have B1 := B.get 1
        have B2 := B.get 2
        have B3 := B.get 3
        have Bf0 := B.fr 0
        have Bf1 := B.fr 1
        have Bf2 := B.fr 2
        have Bf3 := B.fr 3
        have Bl := B.lt
        simp only [List.getElem?_toArray, List.getElem?_cons_zero, List.getElem?_cons_succ] at B0 B1 B2 B3
        go_wp2_with fail
        clear C0 C1 C2 C3 C4 C5 C6 C7
        clear B0 Bf0 B1 Bf1 B2 Bf2 B3 Bf3 Bl
        refine (C1.out _ (TT.out.up U) (TF.out.up U) U).mono ?_
        rintro _ w7 ⟨rfl, h7⟩
        replace U := U.trans h7
        replace C := C.up h7
        replace B := B.up h7
        replace E := E.up h7
        clear h7
        obtain ⟨C0, C1, C2, C3, C4, C5, C6⟩ := Bf.cs C
        have C7 := Bf.lt C
        simp only [Nat.zero_add] at C0 C1 C2 C3 C4 C5 C6 C7
        have E0 := E.get 0
        have E1 := E.get 1
        have E2 := E.get 2
        have E3 := E.get 3
        have Ef0 := E.fr 0
        have Ef1 := E.fr 1
        have Ef2 := E.fr 2
        have Ef3 := E.fr 3
        have El := E.lt
        simp only [List.getElem?_toArray, List.getElem?_cons_zero, List.getElem?_cons_succ] at E0 E1 E2 E3
        go_wp2_with fail
        clear C0 C1 C2 C3 C4 C5 C6 C7
        clear E0 Ef0 E1 Ef1 E2 Ef2 E3 Ef3 El
        refine (C2.out _ (TT.out.up U) (TF.out.up U) U).mono ?_
        rintro _ w8 ⟨rfl, h8⟩
        replace U := U.trans h8
        replace C := C.up h8
        replace B := B.up h8
        replace E := E.up h8
        clear h8
        obtain ⟨C0, C1, C2, C3, C4, C5, C6⟩ := Bf.cs C
        have C7 := Bf.lt C
        simp only [Nat.zero_add] at C0 C1 C2 C3 C4 C5 C6 C7
        go_wp2_with fail
        clear C0 C1 C2 C3 C4 C5 C6 C7
        refine (CM.out _).mono ?_
        rintro _ w9 ⟨rfl, h9⟩
        replace U := U.trans h9
        replace C := C.up h9
        replace B := B.up h9
        replace E := E.up h9
        clear h9
        obtain ⟨C0, C1, C2, C3, C4, C5, C6⟩ := Bf.cs C
        have C7 := Bf.lt C
        simp only [Nat.zero_add] at C0 C1 C2 C3 C4 C5 C6 C7
        go_wp2_with fail
        clear C0 C1 C2 C3 C4 C5 C6 C7
        first | go_ret | refine bodyPost_ret (v := .bool true) (by simp [results, Tryd.results7, go_sem]) rfl ?_
        exact ⟨by first | rfl | simp, by first | exact U | exact U.alloc _ | exact U.drewN _ | exact U.drew⟩
    ·
      obtain ⟨md, hmd⟩ : ∃ md : Int, (if x1 = true then 2 else 1) = md := ⟨_, rfl⟩
      have hm : md = 1 ∨ md = 2 := by cases x1 <;> simp at hmd <;> omega
      obtain ⟨p, hp⟩ := M.rv_ex ok ok2 ok3 md ng2 X
      obtain ⟨q, hq⟩ := M.rv_ex ok ok2 ok3 md (!ng2) X
      obtain ⟨p0, pm, _⟩ := M.rv_class ok ok2 ok3 hp
      have hs := M.signs ok ok2 ok3 hm (by omega) hp hq
      have C1 := Lib.hid (fun W T F U => CR.out W T F U md ng2 p 0 (.inr ⟨i, rfl, i1, i2, .inr ⟨hm, by rw [hf]; exact hp, rfl⟩⟩))
      have C2 := Lib.hid (fun W T F U => CR.out W T F U md (!ng2) q 0 (.inr ⟨i, rfl, i1, i2, .inr ⟨hm, by rw [hf]; exact hq, rfl⟩⟩))
      have pb : p < 18446744073709551616 := by have := ok.hm; omega
      have k3 : (f.k == 3) = false := by simp [k2]
      have k4 : (f.k == 4) = false := by simp [k2]
      obtain ⟨S, hS⟩ : ∃ z, M.sgn f = z := ⟨_, rfl⟩
      have CM := Lib.hid (fun W => sign_any W f ok S (Lib.hid hS))
      have hb : bits BinOp.xor IntKind.u64 p S = if M.half f ≤ p then p - M.half f else p + M.half f := by
        have e := ((M.sgn_ok ok).2 (by omega)).1
        rw [hS] at e
        rw [e]
        exact M.xor_half ok p0 pm
      have hs2 : (f.x ≠ 0 ∧ p = f.x ∧ q = p ∧ f.n = 0 ∧ md = 2) ∨ ((f.x = 0 ∨ p ≠ f.x) ∧ bits BinOp.xor IntKind.u64 p S = q) := by
        rcases hs with e | ⟨e1, ⟨_, e⟩ | ⟨e, _⟩⟩
        · exact .inl e
        · exact .inr ⟨e1, by rw [hb, e]⟩
        · omega
      have d2 : (f.k == 2) = true := by simpa using k2
      clear hs hp hq hb p0 pm ok ok2 ok3 hf CR hm k2 hS
      rcases hs2 with ⟨e1, rfl, rfl, e2, rfl⟩ | ⟨e1, hb⟩
      ·
        have x0 : (f.x != 0) = true := by simpa using e1
        have n0 : (f.n == 0) = true := by simpa using e2
        cases x1
        · simp at hmd
        ·
          clear hmd e1 e2
          have U := Up.refl w
          go_enter Tryd.func7, Tryd.ntmps7
          go_wp2_with fail
          obtain ⟨V1, hV1⟩ : ∃ V1, w.alloc (.cells #[.bool ng2, .slice A2 ln2 cp2, .int .i64 tw2, .int .i64 fv2] 32) = V1 := ⟨_, rfl⟩
          have B : Ob V1 w.heap.size 32 #[.bool ng2, .slice A2 ln2 cp2, .int .i64 tw2, .int .i64 fv2] := by rw [← hV1]; exact Ob.mk_ _ _ _
          have uV1 : Up w V1 := by rw [← hV1]; exact (Up.refl _).alloc _
          have ltB : w.heap.size ≤ w.heap.size := U.size
          rw [hV1]
          clear hV1
          replace U := U.trans uV1
          clear uV1
          refine (shown8_any _ (Lib.hid (TT.out.up U)) (Lib.hid (TF.out.up U))).mono ?_
          rintro _ w2 ⟨rfl, h2⟩
          replace U := U.trans h2
          replace B := B.up h2
          clear h2
          have B0 := B.get 0
          have B1 := B.get 1
          have B2 := B.get 2
          have B3 := B.get 3
          have Bf0 := B.fr 0
          have Bf1 := B.fr 1
          have Bf2 := B.fr 2
          have Bf3 := B.fr 3
          have Bl := B.lt
          simp only [List.getElem?_toArray, List.getElem?_cons_zero, List.getElem?_cons_succ] at B0 B1 B2 B3
          go_wp2_with fail
          clear B0 Bf0 B1 Bf1 B2 Bf2 B3 Bf3 Bl
          refine (CS2.out _ U).mono ?_
          rintro _ w3 ⟨rfl, h3⟩
          replace U := U.trans h3
          replace B := B.up h3
          clear h3
          go_wp2_with (refine store_ob2 rfl 32 (.tmp 5) (.tmp 18) rfl _ #[.bool ng2, .slice A2 ln2 cp2, .int .i64 tw2, .int .i64 fv2] #[.bool ng2, .slice A2 mm2 cp2, .int .i64 t, .int .i64 g] rfl rfl 4 (by kernel_rfl) rfl rfl (by simp [Value.oneCell']) w U ltB 32 B ?_; clear U; intro V9 Z9 U ho; clear ho B; have B := Z9; clear Z9)
          have gC := B.lt
          refine (CF.out _ (TF.out.up U)).mono ?_
          rintro _ w4 ⟨rfl, h4⟩
          replace U := U.trans h4
          replace B := B.up h4
          clear h4
          go_upto_region 9 with fail
          obtain ⟨V5, hV5⟩ : ∃ V5, w4.alloc (.cells #[.int .i64 f.k, .int .i64 f.W, .int .i64 f.m, .int .i64 f.b, .int .u64 f.t, .int .u64 f.n, .int .u64 f.x] 50) = V5 := ⟨_, rfl⟩
          have C : Bf V5 w4.heap.size 50 f := by rw [← hV5]; exact Bf.mk_ w4 f 50
          have ltC : w.heap.size ≤ w4.heap.size := U.size
          have uV5 : Up w4 V5 := by rw [← hV5]; exact (Up.refl _).alloc _
          rw [hV5]
          clear hV5
          replace U := U.trans uV5
          replace B := B.up uV5
          clear uV5
          have gE := Bf.lt C
          have B0 := B.get 0
          have B1 := B.get 1
          have B2 := B.get 2
          have B3 := B.get 3
          have Bf0 := B.fr 0
          have Bf1 := B.fr 1
          have Bf2 := B.fr 2
          have Bf3 := B.fr 3
          have Bl := B.lt
          simp only [List.getElem?_toArray, List.getElem?_cons_zero, List.getElem?_cons_succ] at B0 B1 B2 B3
          go_upto_region 10 with (refine store_ob rfl 32 (.tmp 11) (.tmp 38) rfl _ #[.bool false, .slice none 0 0, .int .i64 0, .int .i64 0] #[.bool ng2, .slice A2 mm2 cp2, .int .i64 t, .int .i64 g] rfl rfl 4 (by kernel_rfl) rfl rfl (by simp [Value.oneCell']) V5 ((Up.refl _).alloc _) (Nat.le_refl _) 32 (Ob.mk_ _ _ _) ?_; intro V6 E uV6; have ltE : w.heap.size ≤ V5.heap.size := U.size; replace U := U.trans uV6; replace C := C.up uV6; replace B := B.up uV6; clear uV6; have E0 := E.get 0; have E1 := E.get 1; have E2 := E.get 2; have E3 := E.get 3; simp only [List.getElem?_toArray, List.getElem?_cons_zero, List.getElem?_cons_succ] at E0 E1 E2 E3)
          clear B0 Bf0 B1 Bf1 B2 Bf2 B3 Bf3 Bl
          clear E0 E1 E2 E3
          have B0 := B.get 0
          have B1 := B.get 1
          have B2 := B.get 2
          have B3 := B.get 3
          have Bf0 := B.fr 0
          have Bf1 := B.fr 1
          have Bf2 := B.fr 2
          have Bf3 := B.fr 3
          have Bl := B.lt
          simp only [List.getElem?_toArray, List.getElem?_cons_zero, List.getElem?_cons_succ] at B0 B1 B2 B3
          have E0 := E.get 0
          have E1 := E.get 1
          have E2 := E.get 2
          have E3 := E.get 3
          have Ef0 := E.fr 0
          have Ef1 := E.fr 1
          have Ef2 := E.fr 2
          have Ef3 := E.fr 3
          have El := E.lt
          simp only [List.getElem?_toArray, List.getElem?_cons_zero, List.getElem?_cons_succ] at E0 E1 E2 E3
          go_upto_region 11 with fail
          clear B0 Bf0 B1 Bf1 B2 Bf2 B3 Bf3 Bl
          clear E0 Ef0 E1 Ef1 E2 Ef2 E3 Ef3 El
          obtain ⟨VX, hVX⟩ : ∃ VX, V6.setCell ⟨V5.heap.size, 0, none⟩ (.bool (!ng2)) = VX := ⟨_, rfl⟩
          replace B : Ob VX w.heap.size 32 #[.bool ng2, .slice A2 mm2 cp2, .int .i64 t, .int .i64 g] := by rw [← hVX]; exact B.other (by omega) _
          replace C : Bf VX w4.heap.size 50 f := by rw [← hVX]; exact (Below.heap_setCell _ _ _ _ (by show _ ≠ _; simp only; omega)).trans C
          replace E : Ob VX V5.heap.size 32 #[.bool (!ng2), .slice A2 mm2 cp2, .int .i64 t, .int .i64 g] := by rw [← hVX]; simpa using E.put 0 (.bool (!ng2))
          replace U : Up w VX := by rw [← hVX]; exact U.setCell ltE _
          rw [hVX]
          clear hVX
          obtain ⟨C0, C1, C2, C3, C4, C5, C6⟩ := Bf.cs C
          have C7 := Bf.lt C
          simp only [Nat.zero_add] at C0 C1 C2 C3 C4 C5 C6 C7
          have B0 := B.get 0
          have B1 := B.get 1
          have B2 := B.get 2
          have B3 := B.get 3
          have Bf0 := B.fr 0
          have Bf1 := B.fr 1
          have Bf2 := B.fr 2
          have Bf3 := B.fr 3
          have Bl := B.lt
          simp only [List.getElem?_toArray, List.getElem?_cons_zero, List.getElem?_cons_succ] at B0 B1 B2 B3
          go_wp2_with fail
          clear C0 C1 C2 C3 C4 C5 C6 C7
          clear B0 Bf0 B1 Bf1 B2 Bf2 B3 Bf3 Bl
          refine (C1.out _ (TT.out.up U) (TF.out.up U) U).mono ?_
          rintro _ w7 ⟨rfl, h7⟩
          replace U := U.trans h7
          replace C := C.up h7
          replace B := B.up h7
          replace E := E.up h7
          clear h7
          obtain ⟨C0, C1, C2, C3, C4, C5, C6⟩ := Bf.cs C
          have C7 := Bf.lt C
          simp only [Nat.zero_add] at C0 C1 C2 C3 C4 C5 C6 C7
          have E0 := E.get 0
          have E1 := E.get 1
          have E2 := E.get 2
          have E3 := E.get 3
          have Ef0 := E.fr 0
          have Ef1 := E.fr 1
          have Ef2 := E.fr 2
          have Ef3 := E.fr 3
          have El := E.lt
          simp only [List.getElem?_toArray, List.getElem?_cons_zero, List.getElem?_cons_succ] at E0 E1 E2 E3
          go_wp2_with fail
          clear C0 C1 C2 C3 C4 C5 C6 C7
          clear E0 Ef0 E1 Ef1 E2 Ef2 E3 Ef3 El
          refine (C2.out _ (TT.out.up U) (TF.out.up U) U).mono ?_
          rintro _ w8 ⟨rfl, h8⟩
          replace U := U.trans h8
          replace C := C.up h8
          replace B := B.up h8
          replace E := E.up h8
          clear h8
          obtain ⟨C0, C1, C2, C3, C4, C5, C6⟩ := Bf.cs C
          have C7 := Bf.lt C
          simp only [Nat.zero_add] at C0 C1 C2 C3 C4 C5 C6 C7
          go_wp2_with fail
          clear C0 C1 C2 C3 C4 C5 C6 C7
          first | go_ret | refine bodyPost_ret (v := .bool true) (by simp [results, Tryd.results7, go_sem]) rfl ?_
          exact ⟨by first | rfl | simp, by first | exact U | exact U.alloc _ | exact U.drewN _ | exact U.drew⟩
      ·
        by_cases xz : f.x = 0
        ·
          have x0 : (f.x != 0) = false := by simpa using xz
          clear e1 xz
          cases x1
          ·
            obtain rfl : md = 1 := by simpa using hmd.symm
            clear hmd
            have U := Up.refl w
            go_enter Tryd.func7, Tryd.ntmps7
            go_wp2_with fail
            obtain ⟨V1, hV1⟩ : ∃ V1, w.alloc (.cells #[.bool ng2, .slice A2 ln2 cp2, .int .i64 tw2, .int .i64 fv2] 32) = V1 := ⟨_, rfl⟩
            have B : Ob V1 w.heap.size 32 #[.bool ng2, .slice A2 ln2 cp2, .int .i64 tw2, .int .i64 fv2] := by rw [← hV1]; exact Ob.mk_ _ _ _
            have uV1 : Up w V1 := by rw [← hV1]; exact (Up.refl _).alloc _
            have ltB : w.heap.size ≤ w.heap.size := U.size
            rw [hV1]
            clear hV1
            replace U := U.trans uV1
            clear uV1
            refine (shown8_any _ (Lib.hid (TT.out.up U)) (Lib.hid (TF.out.up U))).mono ?_
            rintro _ w2 ⟨rfl, h2⟩
            replace U := U.trans h2
            replace B := B.up h2
            clear h2
            have B0 := B.get 0
            have B1 := B.get 1
            have B2 := B.get 2
            have B3 := B.get 3
            have Bf0 := B.fr 0
            have Bf1 := B.fr 1
            have Bf2 := B.fr 2
            have Bf3 := B.fr 3
            have Bl := B.lt
            simp only [List.getElem?_toArray, List.getElem?_cons_zero, List.getElem?_cons_succ] at B0 B1 B2 B3
            go_wp2_with fail
            clear B0 Bf0 B1 Bf1 B2 Bf2 B3 Bf3 Bl
            refine (CS2.out _ U).mono ?_
            rintro _ w3 ⟨rfl, h3⟩
            replace U := U.trans h3
            replace B := B.up h3
            clear h3
            go_wp2_with (refine store_ob2 rfl 32 (.tmp 5) (.tmp 18) rfl _ #[.bool ng2, .slice A2 ln2 cp2, .int .i64 tw2, .int .i64 fv2] #[.bool ng2, .slice A2 mm2 cp2, .int .i64 t, .int .i64 g] rfl rfl 4 (by kernel_rfl) rfl rfl (by simp [Value.oneCell']) w U ltB 32 B ?_; clear U; intro V9 Z9 U ho; clear ho B; have B := Z9; clear Z9)
            have gC := B.lt
            refine (CF.out _ (TF.out.up U)).mono ?_
            rintro _ w4 ⟨rfl, h4⟩
            replace U := U.trans h4
            replace B := B.up h4
            clear h4
            go_upto_region 9 with fail
            obtain ⟨V5, hV5⟩ : ∃ V5, w4.alloc (.cells #[.int .i64 f.k, .int .i64 f.W, .int .i64 f.m, .int .i64 f.b, .int .u64 f.t, .int .u64 f.n, .int .u64 f.x] 50) = V5 := ⟨_, rfl⟩
            have C : Bf V5 w4.heap.size 50 f := by rw [← hV5]; exact Bf.mk_ w4 f 50
            have ltC : w.heap.size ≤ w4.heap.size := U.size
            have uV5 : Up w4 V5 := by rw [← hV5]; exact (Up.refl _).alloc _
            rw [hV5]
            clear hV5
            replace U := U.trans uV5
            replace B := B.up uV5
            clear uV5
            have gE := Bf.lt C
            have B0 := B.get 0
            have B1 := B.get 1
            have B2 := B.get 2
            have B3 := B.get 3
            have Bf0 := B.fr 0
            have Bf1 := B.fr 1
            have Bf2 := B.fr 2
            have Bf3 := B.fr 3
            have Bl := B.lt
            simp only [List.getElem?_toArray, List.getElem?_cons_zero, List.getElem?_cons_succ] at B0 B1 B2 B3
            go_upto_region 10 with (refine store_ob rfl 32 (.tmp 11) (.tmp 38) rfl _ #[.bool false, .slice none 0 0, .int .i64 0, .int .i64 0] #[.bool ng2, .slice A2 mm2 cp2, .int .i64 t, .int .i64 g] rfl rfl 4 (by kernel_rfl) rfl rfl (by simp [Value.oneCell']) V5 ((Up.refl _).alloc _) (Nat.le_refl _) 32 (Ob.mk_ _ _ _) ?_; intro V6 E uV6; have ltE : w.heap.size ≤ V5.heap.size := U.size; replace U := U.trans uV6; replace C := C.up uV6; replace B := B.up uV6; clear uV6; have E0 := E.get 0; have E1 := E.get 1; have E2 := E.get 2; have E3 := E.get 3; simp only [List.getElem?_toArray, List.getElem?_cons_zero, List.getElem?_cons_succ] at E0 E1 E2 E3)
            clear B0 Bf0 B1 Bf1 B2 Bf2 B3 Bf3 Bl
            clear E0 E1 E2 E3
            have B0 := B.get 0
            have B1 := B.get 1
            have B2 := B.get 2
            have B3 := B.get 3
            have Bf0 := B.fr 0
            have Bf1 := B.fr 1
            have Bf2 := B.fr 2
            have Bf3 := B.fr 3
            have Bl := B.lt
            simp only [List.getElem?_toArray, List.getElem?_cons_zero, List.getElem?_cons_succ] at B0 B1 B2 B3
            have E0 := E.get 0
            have E1 := E.get 1
            have E2 := E.get 2
            have E3 := E.get 3
            have Ef0 := E.fr 0
            have Ef1 := E.fr 1
            have Ef2 := E.fr 2
            have Ef3 := E.fr 3
            have El := E.lt
            simp only [List.getElem?_toArray, List.getElem?_cons_zero, List.getElem?_cons_succ] at E0 E1 E2 E3
            go_upto_region 11 with fail
            clear B0 Bf0 B1 Bf1 B2 Bf2 B3 Bf3 Bl
            clear E0 Ef0 E1 Ef1 E2 Ef2 E3 Ef3 El
            obtain ⟨VX, hVX⟩ : ∃ VX, V6.setCell ⟨V5.heap.size, 0, none⟩ (.bool (!ng2)) = VX := ⟨_, rfl⟩
            replace B : Ob VX w.heap.size 32 #[.bool ng2, .slice A2 mm2 cp2, .int .i64 t, .int .i64 g] := by rw [← hVX]; exact B.other (by omega) _
            replace C : Bf VX w4.heap.size 50 f := by rw [← hVX]; exact (Below.heap_setCell _ _ _ _ (by show _ ≠ _; simp only; omega)).trans C
            replace E : Ob VX V5.heap.size 32 #[.bool (!ng2), .slice A2 mm2 cp2, .int .i64 t, .int .i64 g] := by rw [← hVX]; simpa using E.put 0 (.bool (!ng2))
            replace U : Up w VX := by rw [← hVX]; exact U.setCell ltE _
            rw [hVX]
            clear hVX
            obtain ⟨C0, C1, C2, C3, C4, C5, C6⟩ := Bf.cs C
            have C7 := Bf.lt C
            simp only [Nat.zero_add] at C0 C1 C2 C3 C4 C5 C6 C7
            have B0 := B.get 0
            have B1 := B.get 1
            have B2 := B.get 2
            have B3 := B.get 3
            have Bf0 := B.fr 0
            have Bf1 := B.fr 1
            have Bf2 := B.fr 2
            have Bf3 := B.fr 3
            have Bl := B.lt
            simp only [List.getElem?_toArray, List.getElem?_cons_zero, List.getElem?_cons_succ] at B0 B1 B2 B3
            go_wp2_with fail
            clear C0 C1 C2 C3 C4 C5 C6 C7
            clear B0 Bf0 B1 Bf1 B2 Bf2 B3 Bf3 Bl
            refine (C1.out _ (TT.out.up U) (TF.out.up U) U).mono ?_
            rintro _ w7 ⟨rfl, h7⟩
            replace U := U.trans h7
            replace C := C.up h7
            replace B := B.up h7
            replace E := E.up h7
            clear h7
            obtain ⟨C0, C1, C2, C3, C4, C5, C6⟩ := Bf.cs C
            have C7 := Bf.lt C
            simp only [Nat.zero_add] at C0 C1 C2 C3 C4 C5 C6 C7
            have E0 := E.get 0
            have E1 := E.get 1
            have E2 := E.get 2
            have E3 := E.get 3
            have Ef0 := E.fr 0
            have Ef1 := E.fr 1
            have Ef2 := E.fr 2
            have Ef3 := E.fr 3
            have El := E.lt
            simp only [List.getElem?_toArray, List.getElem?_cons_zero, List.getElem?_cons_succ] at E0 E1 E2 E3
            go_wp2_with fail
            clear C0 C1 C2 C3 C4 C5 C6 C7
            clear E0 Ef0 E1 Ef1 E2 Ef2 E3 Ef3 El
            refine (C2.out _ (TT.out.up U) (TF.out.up U) U).mono ?_
            rintro _ w8 ⟨rfl, h8⟩
            replace U := U.trans h8
            replace C := C.up h8
            replace B := B.up h8
            replace E := E.up h8
            clear h8
            obtain ⟨C0, C1, C2, C3, C4, C5, C6⟩ := Bf.cs C
            have C7 := Bf.lt C
            simp only [Nat.zero_add] at C0 C1 C2 C3 C4 C5 C6 C7
            go_wp2_with fail
            clear C0 C1 C2 C3 C4 C5 C6 C7
            refine (CM.out _).mono ?_
            rintro _ w9 ⟨rfl, h9⟩
            replace U := U.trans h9
            replace C := C.up h9
            replace B := B.up h9
            replace E := E.up h9
            clear h9
            obtain ⟨C0, C1, C2, C3, C4, C5, C6⟩ := Bf.cs C
            have C7 := Bf.lt C
            simp only [Nat.zero_add] at C0 C1 C2 C3 C4 C5 C6 C7
            go_wp2_with fail
            clear C0 C1 C2 C3 C4 C5 C6 C7
            first | go_ret | refine bodyPost_ret (v := .bool true) (by simp [results, Tryd.results7, go_sem]) rfl ?_
            exact ⟨by first | rfl | simp, by first | exact U | exact U.alloc _ | exact U.drewN _ | exact U.drew⟩
          ·
            obtain rfl : md = 2 := by simpa using hmd.symm
            clear hmd
            have U := Up.refl w
            go_enter Tryd.func7, Tryd.ntmps7
            go_wp2_with fail
            obtain ⟨V1, hV1⟩ : ∃ V1, w.alloc (.cells #[.bool ng2, .slice A2 ln2 cp2, .int .i64 tw2, .int .i64 fv2] 32) = V1 := ⟨_, rfl⟩
            have B : Ob V1 w.heap.size 32 #[.bool ng2, .slice A2 ln2 cp2, .int .i64 tw2, .int .i64 fv2] := by rw [← hV1]; exact Ob.mk_ _ _ _
            have uV1 : Up w V1 := by rw [← hV1]; exact (Up.refl _).alloc _
            have ltB : w.heap.size ≤ w.heap.size := U.size
            rw [hV1]
            clear hV1
            replace U := U.trans uV1
            clear uV1
            refine (shown8_any _ (Lib.hid (TT.out.up U)) (Lib.hid (TF.out.up U))).mono ?_
            rintro _ w2 ⟨rfl, h2⟩
            replace U := U.trans h2
            replace B := B.up h2
            clear h2
            have B0 := B.get 0
            have B1 := B.get 1
            have B2 := B.get 2
            have B3 := B.get 3
            have Bf0 := B.fr 0
            have Bf1 := B.fr 1
            have Bf2 := B.fr 2
            have Bf3 := B.fr 3
            have Bl := B.lt
            simp only [List.getElem?_toArray, List.getElem?_cons_zero, List.getElem?_cons_succ] at B0 B1 B2 B3
            go_wp2_with fail
            clear B0 Bf0 B1 Bf1 B2 Bf2 B3 Bf3 Bl
            refine (CS2.out _ U).mono ?_
            rintro _ w3 ⟨rfl, h3⟩
            replace U := U.trans h3
            replace B := B.up h3
            clear h3
            go_wp2_with (refine store_ob2 rfl 32 (.tmp 5) (.tmp 18) rfl _ #[.bool ng2, .slice A2 ln2 cp2, .int .i64 tw2, .int .i64 fv2] #[.bool ng2, .slice A2 mm2 cp2, .int .i64 t, .int .i64 g] rfl rfl 4 (by kernel_rfl) rfl rfl (by simp [Value.oneCell']) w U ltB 32 B ?_; clear U; intro V9 Z9 U ho; clear ho B; have B := Z9; clear Z9)
            have gC := B.lt
            refine (CF.out _ (TF.out.up U)).mono ?_
            rintro _ w4 ⟨rfl, h4⟩
            replace U := U.trans h4
            replace B := B.up h4
            clear h4
            go_upto_region 9 with fail
            obtain ⟨V5, hV5⟩ : ∃ V5, w4.alloc (.cells #[.int .i64 f.k, .int .i64 f.W, .int .i64 f.m, .int .i64 f.b, .int .u64 f.t, .int .u64 f.n, .int .u64 f.x] 50) = V5 := ⟨_, rfl⟩
            have C : Bf V5 w4.heap.size 50 f := by rw [← hV5]; exact Bf.mk_ w4 f 50
            have ltC : w.heap.size ≤ w4.heap.size := U.size
            have uV5 : Up w4 V5 := by rw [← hV5]; exact (Up.refl _).alloc _
            rw [hV5]
            clear hV5
            replace U := U.trans uV5
            replace B := B.up uV5
            clear uV5
            have gE := Bf.lt C
            have B0 := B.get 0
            have B1 := B.get 1
            have B2 := B.get 2
            have B3 := B.get 3
            have Bf0 := B.fr 0
            have Bf1 := B.fr 1
            have Bf2 := B.fr 2
            have Bf3 := B.fr 3
            have Bl := B.lt
            simp only [List.getElem?_toArray, List.getElem?_cons_zero, List.getElem?_cons_succ] at B0 B1 B2 B3
            go_upto_region 10 with (refine store_ob rfl 32 (.tmp 11) (.tmp 38) rfl _ #[.bool false, .slice none 0 0, .int .i64 0, .int .i64 0] #[.bool ng2, .slice A2 mm2 cp2, .int .i64 t, .int .i64 g] rfl rfl 4 (by kernel_rfl) rfl rfl (by simp [Value.oneCell']) V5 ((Up.refl _).alloc _) (Nat.le_refl _) 32 (Ob.mk_ _ _ _) ?_; intro V6 E uV6; have ltE : w.heap.size ≤ V5.heap.size := U.size; replace U := U.trans uV6; replace C := C.up uV6; replace B := B.up uV6; clear uV6; have E0 := E.get 0; have E1 := E.get 1; have E2 := E.get 2; have E3 := E.get 3; simp only [List.getElem?_toArray, List.getElem?_cons_zero, List.getElem?_cons_succ] at E0 E1 E2 E3)
            clear B0 Bf0 B1 Bf1 B2 Bf2 B3 Bf3 Bl
            clear E0 E1 E2 E3
            have B0 := B.get 0
            have B1 := B.get 1
            have B2 := B.get 2
            have B3 := B.get 3
            have Bf0 := B.fr 0
            have Bf1 := B.fr 1
            have Bf2 := B.fr 2
            have Bf3 := B.fr 3
            have Bl := B.lt
            simp only [List.getElem?_toArray, List.getElem?_cons_zero, List.getElem?_cons_succ] at B0 B1 B2 B3
            have E0 := E.get 0
            have E1 := E.get 1
            have E2 := E.get 2
            have E3 := E.get 3
            have Ef0 := E.fr 0
            have Ef1 := E.fr 1
            have Ef2 := E.fr 2
            have Ef3 := E.fr 3
            have El := E.lt
            simp only [List.getElem?_toArray, List.getElem?_cons_zero, List.getElem?_cons_succ] at E0 E1 E2 E3
            go_upto_region 11 with fail
            clear B0 Bf0 B1 Bf1 B2 Bf2 B3 Bf3 Bl
            clear E0 Ef0 E1 Ef1 E2 Ef2 E3 Ef3 El
            obtain ⟨VX, hVX⟩ : ∃ VX, V6.setCell ⟨V5.heap.size, 0, none⟩ (.bool (!ng2)) = VX := ⟨_, rfl⟩
            replace B : Ob VX w.heap.size 32 #[.bool ng2, .slice A2 mm2 cp2, .int .i64 t, .int .i64 g] := by rw [← hVX]; exact B.other (by omega) _
            replace C : Bf VX w4.heap.size 50 f := by rw [← hVX]; exact (Below.heap_setCell _ _ _ _ (by show _ ≠ _; simp only; omega)).trans C
            replace E : Ob VX V5.heap.size 32 #[.bool (!ng2), .slice A2 mm2 cp2, .int .i64 t, .int .i64 g] := by rw [← hVX]; simpa using E.put 0 (.bool (!ng2))
            replace U : Up w VX := by rw [← hVX]; exact U.setCell ltE _
            rw [hVX]
            clear hVX
            obtain ⟨C0, C1, C2, C3, C4, C5, C6⟩ := Bf.cs C
            have C7 := Bf.lt C
            simp only [Nat.zero_add] at C0 C1 C2 C3 C4 C5 C6 C7
            have B0 := B.get 0
            have B1 := B.get 1
            have B2 := B.get 2
            have B3 := B.get 3
            have Bf0 := B.fr 0
            have Bf1 := B.fr 1
            have Bf2 := B.fr 2
            have Bf3 := B.fr 3
            have Bl := B.lt
            simp only [List.getElem?_toArray, List.getElem?_cons_zero, List.getElem?_cons_succ] at B0 B1 B2 B3
            go_wp2_with fail
            clear C0 C1 C2 C3 C4 C5 C6 C7
            clear B0 Bf0 B1 Bf1 B2 Bf2 B3 Bf3 Bl
            refine (C1.out _ (TT.out.up U) (TF.out.up U) U).mono ?_
            rintro _ w7 ⟨rfl, h7⟩
            replace U := U.trans h7
            replace C := C.up h7
            replace B := B.up h7
            replace E := E.up h7
            clear h7
            obtain ⟨C0, C1, C2, C3, C4, C5, C6⟩ := Bf.cs C
            have C7 := Bf.lt C
            simp only [Nat.zero_add] at C0 C1 C2 C3 C4 C5 C6 C7
            have E0 := E.get 0
            have E1 := E.get 1
            have E2 := E.get 2
            have E3 := E.get 3
            have Ef0 := E.fr 0
            have Ef1 := E.fr 1
            have Ef2 := E.fr 2
            have Ef3 := E.fr 3
            have El := E.lt
            simp only [List.getElem?_toArray, List.getElem?_cons_zero, List.getElem?_cons_succ] at E0 E1 E2 E3
            go_wp2_with fail
            clear C0 C1 C2 C3 C4 C5 C6 C7
            clear E0 Ef0 E1 Ef1 E2 Ef2 E3 Ef3 El
            refine (C2.out _ (TT.out.up U) (TF.out.up U) U).mono ?_
            rintro _ w8 ⟨rfl, h8⟩
            replace U := U.trans h8
            replace C := C.up h8
            replace B := B.up h8
            replace E := E.up h8
            clear h8
            obtain ⟨C0, C1, C2, C3, C4, C5, C6⟩ := Bf.cs C
            have C7 := Bf.lt C
            simp only [Nat.zero_add] at C0 C1 C2 C3 C4 C5 C6 C7
            go_wp2_with fail
            clear C0 C1 C2 C3 C4 C5 C6 C7
            refine (CM.out _).mono ?_
            rintro _ w9 ⟨rfl, h9⟩
            replace U := U.trans h9
            replace C := C.up h9
            replace B := B.up h9
            replace E := E.up h9
            clear h9
            obtain ⟨C0, C1, C2, C3, C4, C5, C6⟩ := Bf.cs C
            have C7 := Bf.lt C
            simp only [Nat.zero_add] at C0 C1 C2 C3 C4 C5 C6 C7
            go_wp2_with fail
            clear C0 C1 C2 C3 C4 C5 C6 C7
            first | go_ret | refine bodyPost_ret (v := .bool true) (by simp [results, Tryd.results7, go_sem]) rfl ?_
            exact ⟨by first | rfl | simp, by first | exact U | exact U.alloc _ | exact U.drewN _ | exact U.drew⟩
        ·
          have x0 : (f.x != 0) = true := by simpa using xz
          have np : (p == f.x) = false := by rw [beq_eq_false_iff_ne]; omega
          clear e1 xz
          cases x1
          ·
            obtain rfl : md = 1 := by simpa using hmd.symm
            clear hmd
            have U := Up.refl w
            go_enter Tryd.func7, Tryd.ntmps7
            go_wp2_with fail
            obtain ⟨V1, hV1⟩ : ∃ V1, w.alloc (.cells #[.bool ng2, .slice A2 ln2 cp2, .int .i64 tw2, .int .i64 fv2] 32) = V1 := ⟨_, rfl⟩
            have B : Ob V1 w.heap.size 32 #[.bool ng2, .slice A2 ln2 cp2, .int .i64 tw2, .int .i64 fv2] := by rw [← hV1]; exact Ob.mk_ _ _ _
            have uV1 : Up w V1 := by rw [← hV1]; exact (Up.refl _).alloc _
            have ltB : w.heap.size ≤ w.heap.size := U.size
            rw [hV1]
            clear hV1
            replace U := U.trans uV1
            clear uV1
            refine (shown8_any _ (Lib.hid (TT.out.up U)) (Lib.hid (TF.out.up U))).mono ?_
            rintro _ w2 ⟨rfl, h2⟩
            replace U := U.trans h2
            replace B := B.up h2
            clear h2
            have B0 := B.get 0
            have B1 := B.get 1
            have B2 := B.get 2
            have B3 := B.get 3
            have Bf0 := B.fr 0
            have Bf1 := B.fr 1
            have Bf2 := B.fr 2
            have Bf3 := B.fr 3
            have Bl := B.lt
            simp only [List.getElem?_toArray, List.getElem?_cons_zero, List.getElem?_cons_succ] at B0 B1 B2 B3
            go_wp2_with fail
            clear B0 Bf0 B1 Bf1 B2 Bf2 B3 Bf3 Bl
            refine (CS2.out _ U).mono ?_
            rintro _ w3 ⟨rfl, h3⟩
            replace U := U.trans h3
            replace B := B.up h3
            clear h3
            go_wp2_with (refine store_ob2 rfl 32 (.tmp 5) (.tmp 18) rfl _ #[.bool ng2, .slice A2 ln2 cp2, .int .i64 tw2, .int .i64 fv2] #[.bool ng2, .slice A2 mm2 cp2, .int .i64 t, .int .i64 g] rfl rfl 4 (by kernel_rfl) rfl rfl (by simp [Value.oneCell']) w U ltB 32 B ?_; clear U; intro V9 Z9 U ho; clear ho B; have B := Z9; clear Z9)
            have gC := B.lt
            refine (CF.out _ (TF.out.up U)).mono ?_
            rintro _ w4 ⟨rfl, h4⟩
            replace U := U.trans h4
            replace B := B.up h4
            clear h4
            go_upto_region 9 with fail
            obtain ⟨V5, hV5⟩ : ∃ V5, w4.alloc (.cells #[.int .i64 f.k, .int .i64 f.W, .int .i64 f.m, .int .i64 f.b, .int .u64 f.t, .int .u64 f.n, .int .u64 f.x] 50) = V5 := ⟨_, rfl⟩
            have C : Bf V5 w4.heap.size 50 f := by rw [← hV5]; exact Bf.mk_ w4 f 50
            have ltC : w.heap.size ≤ w4.heap.size := U.size
            have uV5 : Up w4 V5 := by rw [← hV5]; exact (Up.refl _).alloc _
            rw [hV5]
            clear hV5
            replace U := U.trans uV5
            replace B := B.up uV5
            clear uV5
            have gE := Bf.lt C
            have B0 := B.get 0
            have B1 := B.get 1
            have B2 := B.get 2
            have B3 := B.get 3
            have Bf0 := B.fr 0
            have Bf1 := B.fr 1
            have Bf2 := B.fr 2
            have Bf3 := B.fr 3
            have Bl := B.lt
            simp only [List.getElem?_toArray, List.getElem?_cons_zero, List.getElem?_cons_succ] at B0 B1 B2 B3
            go_upto_region 10 with (refine store_ob rfl 32 (.tmp 11) (.tmp 38) rfl _ #[.bool false, .slice none 0 0, .int .i64 0, .int .i64 0] #[.bool ng2, .slice A2 mm2 cp2, .int .i64 t, .int .i64 g] rfl rfl 4 (by kernel_rfl) rfl rfl (by simp [Value.oneCell']) V5 ((Up.refl _).alloc _) (Nat.le_refl _) 32 (Ob.mk_ _ _ _) ?_; intro V6 E uV6; have ltE : w.heap.size ≤ V5.heap.size := U.size; replace U := U.trans uV6; replace C := C.up uV6; replace B := B.up uV6; clear uV6; have E0 := E.get 0; have E1 := E.get 1; have E2 := E.get 2; have E3 := E.get 3; simp only [List.getElem?_toArray, List.getElem?_cons_zero, List.getElem?_cons_succ] at E0 E1 E2 E3)
            clear B0 Bf0 B1 Bf1 B2 Bf2 B3 Bf3 Bl
            clear E0 E1 E2 E3
            have B0 := B.get 0
            have B1 := B.get 1
            have B2 := B.get 2
            have B3 := B.get 3
            have Bf0 := B.fr 0
            have Bf1 := B.fr 1
            have Bf2 := B.fr 2
            have Bf3 := B.fr 3
            have Bl := B.lt
            simp only [List.getElem?_toArray, List.getElem?_cons_zero, List.getElem?_cons_succ] at B0 B1 B2 B3
            have E0 := E.get 0
            have E1 := E.get 1
            have E2 := E.get 2
            have E3 := E.get 3
            have Ef0 := E.fr 0
            have Ef1 := E.fr 1
            have Ef2 := E.fr 2
            have Ef3 := E.fr 3
            have El := E.lt
            simp only [List.getElem?_toArray, List.getElem?_cons_zero, List.getElem?_cons_succ] at E0 E1 E2 E3
            go_upto_region 11 with fail
            clear B0 Bf0 B1 Bf1 B2 Bf2 B3 Bf3 Bl
            clear E0 Ef0 E1 Ef1 E2 Ef2 E3 Ef3 El
            obtain ⟨VX, hVX⟩ : ∃ VX, V6.setCell ⟨V5.heap.size, 0, none⟩ (.bool (!ng2)) = VX := ⟨_, rfl⟩
            replace B : Ob VX w.heap.size 32 #[.bool ng2, .slice A2 mm2 cp2, .int .i64 t, .int .i64 g] := by rw [← hVX]; exact B.other (by omega) _
            replace C : Bf VX w4.heap.size 50 f := by rw [← hVX]; exact (Below.heap_setCell _ _ _ _ (by show _ ≠ _; simp only; omega)).trans C
            replace E : Ob VX V5.heap.size 32 #[.bool (!ng2), .slice A2 mm2 cp2, .int .i64 t, .int .i64 g] := by rw [← hVX]; simpa using E.put 0 (.bool (!ng2))
            replace U : Up w VX := by rw [← hVX]; exact U.setCell ltE _
            rw [hVX]
            clear hVX
            obtain ⟨C0, C1, C2, C3, C4, C5, C6⟩ := Bf.cs C
            have C7 := Bf.lt C
            simp only [Nat.zero_add] at C0 C1 C2 C3 C4 C5 C6 C7
            have B0 := B.get 0
            have B1 := B.get 1
            have B2 := B.get 2
            have B3 := B.get 3
            have Bf0 := B.fr 0
            have Bf1 := B.fr 1
            have Bf2 := B.fr 2
            have Bf3 := B.fr 3
            have Bl := B.lt
            simp only [List.getElem?_toArray, List.getElem?_cons_zero, List.getElem?_cons_succ] at B0 B1 B2 B3
            go_wp2_with fail
            clear C0 C1 C2 C3 C4 C5 C6 C7
            clear B0 Bf0 B1 Bf1 B2 Bf2 B3 Bf3 Bl
            refine (C1.out _ (TT.out.up U) (TF.out.up U) U).mono ?_
            rintro _ w7 ⟨rfl, h7⟩
            replace U := U.trans h7
            replace C := C.up h7
            replace B := B.up h7
            replace E := E.up h7
            clear h7
            obtain ⟨C0, C1, C2, C3, C4, C5, C6⟩ := Bf.cs C
            have C7 := Bf.lt C
            simp only [Nat.zero_add] at C0 C1 C2 C3 C4 C5 C6 C7
            have E0 := E.get 0
            have E1 := E.get 1
            have E2 := E.get 2
            have E3 := E.get 3
            have Ef0 := E.fr 0
            have Ef1 := E.fr 1
            have Ef2 := E.fr 2
            have Ef3 := E.fr 3
            have El := E.lt
            simp only [List.getElem?_toArray, List.getElem?_cons_zero, List.getElem?_cons_succ] at E0 E1 E2 E3
            go_wp2_with fail
            clear C0 C1 C2 C3 C4 C5 C6 C7
            clear E0 Ef0 E1 Ef1 E2 Ef2 E3 Ef3 El
            refine (C2.out _ (TT.out.up U) (TF.out.up U) U).mono ?_
            rintro _ w8 ⟨rfl, h8⟩
            replace U := U.trans h8
            replace C := C.up h8
            replace B := B.up h8
            replace E := E.up h8
            clear h8
            obtain ⟨C0, C1, C2, C3, C4, C5, C6⟩ := Bf.cs C
            have C7 := Bf.lt C
            simp only [Nat.zero_add] at C0 C1 C2 C3 C4 C5 C6 C7
            go_wp2_with fail
            clear C0 C1 C2 C3 C4 C5 C6 C7
            refine (CM.out _).mono ?_
            rintro _ w9 ⟨rfl, h9⟩
            replace U := U.trans h9
            replace C := C.up h9
            replace B := B.up h9
            replace E := E.up h9
            clear h9
            obtain ⟨C0, C1, C2, C3, C4, C5, C6⟩ := Bf.cs C
            have C7 := Bf.lt C
            simp only [Nat.zero_add] at C0 C1 C2 C3 C4 C5 C6 C7
            go_wp2_with fail
            clear C0 C1 C2 C3 C4 C5 C6 C7
            first | go_ret | refine bodyPost_ret (v := .bool true) (by simp [results, Tryd.results7, go_sem]) rfl ?_
            exact ⟨by first | rfl | simp, by first | exact U | exact U.alloc _ | exact U.drewN _ | exact U.drew⟩
          ·
            obtain rfl : md = 2 := by simpa using hmd.symm
            clear hmd
            have U := Up.refl w
            go_enter Tryd.func7, Tryd.ntmps7
            go_wp2_with fail
            obtain ⟨V1, hV1⟩ : ∃ V1, w.alloc (.cells #[.bool ng2, .slice A2 ln2 cp2, .int .i64 tw2, .int .i64 fv2] 32) = V1 := ⟨_, rfl⟩
            have B : Ob V1 w.heap.size 32 #[.bool ng2, .slice A2 ln2 cp2, .int .i64 tw2, .int .i64 fv2] := by rw [← hV1]; exact Ob.mk_ _ _ _
            have uV1 : Up w V1 := by rw [← hV1]; exact (Up.refl _).alloc _
            have ltB : w.heap.size ≤ w.heap.size := U.size
            rw [hV1]
            clear hV1
            replace U := U.trans uV1
            clear uV1
            refine (shown8_any _ (Lib.hid (TT.out.up U)) (Lib.hid (TF.out.up U))).mono ?_
            rintro _ w2 ⟨rfl, h2⟩
            replace U := U.trans h2
            replace B := B.up h2
            clear h2
            have B0 := B.get 0
            have B1 := B.get 1
            have B2 := B.get 2
            have B3 := B.get 3
            have Bf0 := B.fr 0
            have Bf1 := B.fr 1
            have Bf2 := B.fr 2
            have Bf3 := B.fr 3
            have Bl := B.lt
            simp only [List.getElem?_toArray, List.getElem?_cons_zero, List.getElem?_cons_succ] at B0 B1 B2 B3
            go_wp2_with fail
            clear B0 Bf0 B1 Bf1 B2 Bf2 B3 Bf3 Bl
            refine (CS2.out _ U).mono ?_
            rintro _ w3 ⟨rfl, h3⟩
            replace U := U.trans h3
            replace B := B.up h3
            clear h3
            go_wp2_with (refine store_ob2 rfl 32 (.tmp 5) (.tmp 18) rfl _ #[.bool ng2, .slice A2 ln2 cp2, .int .i64 tw2, .int .i64 fv2] #[.bool ng2, .slice A2 mm2 cp2, .int .i64 t, .int .i64 g] rfl rfl 4 (by kernel_rfl) rfl rfl (by simp [Value.oneCell']) w U ltB 32 B ?_; clear U; intro V9 Z9 U ho; clear ho B; have B := Z9; clear Z9)
            have gC := B.lt
            refine (CF.out _ (TF.out.up U)).mono ?_
            rintro _ w4 ⟨rfl, h4⟩
            replace U := U.trans h4
            replace B := B.up h4
            clear h4
            go_upto_region 9 with fail
            obtain ⟨V5, hV5⟩ : ∃ V5, w4.alloc (.cells #[.int .i64 f.k, .int .i64 f.W, .int .i64 f.m, .int .i64 f.b, .int .u64 f.t, .int .u64 f.n, .int .u64 f.x] 50) = V5 := ⟨_, rfl⟩
            have C : Bf V5 w4.heap.size 50 f := by rw [← hV5]; exact Bf.mk_ w4 f 50
            have ltC : w.heap.size ≤ w4.heap.size := U.size
            have uV5 : Up w4 V5 := by rw [← hV5]; exact (Up.refl _).alloc _
            rw [hV5]
            clear hV5
            replace U := U.trans uV5
            replace B := B.up uV5
            clear uV5
            have gE := Bf.lt C
            have B0 := B.get 0
            have B1 := B.get 1
            have B2 := B.get 2
            have B3 := B.get 3
            have Bf0 := B.fr 0
            have Bf1 := B.fr 1
            have Bf2 := B.fr 2
            have Bf3 := B.fr 3
            have Bl := B.lt
            simp only [List.getElem?_toArray, List.getElem?_cons_zero, List.getElem?_cons_succ] at B0 B1 B2 B3
            go_upto_region 10 with (refine store_ob rfl 32 (.tmp 11) (.tmp 38) rfl _ #[.bool false, .slice none 0 0, .int .i64 0, .int .i64 0] #[.bool ng2, .slice A2 mm2 cp2, .int .i64 t, .int .i64 g] rfl rfl 4 (by kernel_rfl) rfl rfl (by simp [Value.oneCell']) V5 ((Up.refl _).alloc _) (Nat.le_refl _) 32 (Ob.mk_ _ _ _) ?_; intro V6 E uV6; have ltE : w.heap.size ≤ V5.heap.size := U.size; replace U := U.trans uV6; replace C := C.up uV6; replace B := B.up uV6; clear uV6; have E0 := E.get 0; have E1 := E.get 1; have E2 := E.get 2; have E3 := E.get 3; simp only [List.getElem?_toArray, List.getElem?_cons_zero, List.getElem?_cons_succ] at E0 E1 E2 E3)
            clear B0 Bf0 B1 Bf1 B2 Bf2 B3 Bf3 Bl
            clear E0 E1 E2 E3
            have B0 := B.get 0
            have B1 := B.get 1
            have B2 := B.get 2
            have B3 := B.get 3
            have Bf0 := B.fr 0
            have Bf1 := B.fr 1
            have Bf2 := B.fr 2
            have Bf3 := B.fr 3
            have Bl := B.lt
            simp only [List.getElem?_toArray, List.getElem?_cons_zero, List.getElem?_cons_succ] at B0 B1 B2 B3
            have E0 := E.get 0
            have E1 := E.get 1
            have E2 := E.get 2
            have E3 := E.get 3
            have Ef0 := E.fr 0
            have Ef1 := E.fr 1
            have Ef2 := E.fr 2
            have Ef3 := E.fr 3
            have El := E.lt
            simp only [List.getElem?_toArray, List.getElem?_cons_zero, List.getElem?_cons_succ] at E0 E1 E2 E3
            go_upto_region 11 with fail
            clear B0 Bf0 B1 Bf1 B2 Bf2 B3 Bf3 Bl
            clear E0 Ef0 E1 Ef1 E2 Ef2 E3 Ef3 El
            obtain ⟨VX, hVX⟩ : ∃ VX, V6.setCell ⟨V5.heap.size, 0, none⟩ (.bool (!ng2)) = VX := ⟨_, rfl⟩
            replace B : Ob VX w.heap.size 32 #[.bool ng2, .slice A2 mm2 cp2, .int .i64 t, .int .i64 g] := by rw [← hVX]; exact B.other (by omega) _
            replace C : Bf VX w4.heap.size 50 f := by rw [← hVX]; exact (Below.heap_setCell _ _ _ _ (by show _ ≠ _; simp only; omega)).trans C
            replace E : Ob VX V5.heap.size 32 #[.bool (!ng2), .slice A2 mm2 cp2, .int .i64 t, .int .i64 g] := by rw [← hVX]; simpa using E.put 0 (.bool (!ng2))
            replace U : Up w VX := by rw [← hVX]; exact U.setCell ltE _
            rw [hVX]
            clear hVX
            obtain ⟨C0, C1, C2, C3, C4, C5, C6⟩ := Bf.cs C
            have C7 := Bf.lt C
            simp only [Nat.zero_add] at C0 C1 C2 C3 C4 C5 C6 C7
            have B0 := B.get 0
            have B1 := B.get 1
            have B2 := B.get 2
            have B3 := B.get 3
            have Bf0 := B.fr 0
            have Bf1 := B.fr 1
            have Bf2 := B.fr 2
            have Bf3 := B.fr 3
            have Bl := B.lt
            simp only [List.getElem?_toArray, List.getElem?_cons_zero, List.getElem?_cons_succ] at B0 B1 B2 B3
            go_wp2_with fail
            clear C0 C1 C2 C3 C4 C5 C6 C7
            clear B0 Bf0 B1 Bf1 B2 Bf2 B3 Bf3 Bl
            refine (C1.out _ (TT.out.up U) (TF.out.up U) U).mono ?_
            rintro _ w7 ⟨rfl, h7⟩
            replace U := U.trans h7
            replace C := C.up h7
            replace B := B.up h7
            replace E := E.up h7
            clear h7
            obtain ⟨C0, C1, C2, C3, C4, C5, C6⟩ := Bf.cs C
            have C7 := Bf.lt C
            simp only [Nat.zero_add] at C0 C1 C2 C3 C4 C5 C6 C7
            have E0 := E.get 0
            have E1 := E.get 1
            have E2 := E.get 2
            have E3 := E.get 3
            have Ef0 := E.fr 0
            have Ef1 := E.fr 1
            have Ef2 := E.fr 2
            have Ef3 := E.fr 3
            have El := E.lt
            simp only [List.getElem?_toArray, List.getElem?_cons_zero, List.getElem?_cons_succ] at E0 E1 E2 E3
            go_wp2_with fail
            clear C0 C1 C2 C3 C4 C5 C6 C7
            clear E0 Ef0 E1 Ef1 E2 Ef2 E3 Ef3 El
            refine (C2.out _ (TT.out.up U) (TF.out.up U) U).mono ?_
            rintro _ w8 ⟨rfl, h8⟩
            replace U := U.trans h8
            replace C := C.up h8
            replace B := B.up h8
            replace E := E.up h8
            clear h8
            obtain ⟨C0, C1, C2, C3, C4, C5, C6⟩ := Bf.cs C
            have C7 := Bf.lt C
            simp only [Nat.zero_add] at C0 C1 C2 C3 C4 C5 C6 C7
            go_wp2_with fail
            clear C0 C1 C2 C3 C4 C5 C6 C7
            refine (CM.out _).mono ?_
            rintro _ w9 ⟨rfl, h9⟩
            replace U := U.trans h9
            replace C := C.up h9
            replace B := B.up h9
            replace E := E.up h9
            clear h9
            obtain ⟨C0, C1, C2, C3, C4, C5, C6⟩ := Bf.cs C
            have C7 := Bf.lt C
            simp only [Nat.zero_add] at C0 C1 C2 C3 C4 C5 C6 C7
            go_wp2_with fail
            clear C0 C1 C2 C3 C4 C5 C6 C7
            first | go_ret | refine bodyPost_ret (v := .bool true) (by simp [results, Tryd.results7, go_sem]) rfl ?_
            exact ⟨by first | rfl | simp, by first | exact U | exact U.alloc _ | exact U.drewN _ | exact U.drew⟩
    ·
      have d3 : (f.k == 3) = true := by simpa using k3
      clear CR ok ok2 ok3 k3 hf
      have U := Up.refl w
      go_enter Tryd.func7, Tryd.ntmps7
      go_wp2_with fail
      obtain ⟨V1, hV1⟩ : ∃ V1, w.alloc (.cells #[.bool ng2, .slice A2 ln2 cp2, .int .i64 tw2, .int .i64 fv2] 32) = V1 := ⟨_, rfl⟩
      have B : Ob V1 w.heap.size 32 #[.bool ng2, .slice A2 ln2 cp2, .int .i64 tw2, .int .i64 fv2] := by rw [← hV1]; exact Ob.mk_ _ _ _
      have uV1 : Up w V1 := by rw [← hV1]; exact (Up.refl _).alloc _
      have ltB : w.heap.size ≤ w.heap.size := U.size
      rw [hV1]
      clear hV1
      replace U := U.trans uV1
      clear uV1
      refine (shown8_any _ (Lib.hid (TT.out.up U)) (Lib.hid (TF.out.up U))).mono ?_
      rintro _ w2 ⟨rfl, h2⟩
      replace U := U.trans h2
      replace B := B.up h2
      clear h2
      have B0 := B.get 0
      have B1 := B.get 1
      have B2 := B.get 2
      have B3 := B.get 3
      have Bf0 := B.fr 0
      have Bf1 := B.fr 1
      have Bf2 := B.fr 2
      have Bf3 := B.fr 3
      have Bl := B.lt
      simp only [List.getElem?_toArray, List.getElem?_cons_zero, List.getElem?_cons_succ] at B0 B1 B2 B3
      go_wp2_with fail
      clear B0 Bf0 B1 Bf1 B2 Bf2 B3 Bf3 Bl
      refine (CS2.out _ U).mono ?_
      rintro _ w3 ⟨rfl, h3⟩
      replace U := U.trans h3
      replace B := B.up h3
      clear h3
      go_wp2_with (refine store_ob2 rfl 32 (.tmp 5) (.tmp 18) rfl _ #[.bool ng2, .slice A2 ln2 cp2, .int .i64 tw2, .int .i64 fv2] #[.bool ng2, .slice A2 mm2 cp2, .int .i64 t, .int .i64 g] rfl rfl 4 (by kernel_rfl) rfl rfl (by simp [Value.oneCell']) w U ltB 32 B ?_; clear U; intro V9 Z9 U ho; clear ho B; have B := Z9; clear Z9)
      have gC := B.lt
      refine (CF.out _ (TF.out.up U)).mono ?_
      rintro _ w4 ⟨rfl, h4⟩
      replace U := U.trans h4
      replace B := B.up h4
      clear h4
      have B0 := B.get 0
      have B1 := B.get 1
      have B2 := B.get 2
      have B3 := B.get 3
      have Bf0 := B.fr 0
      have Bf1 := B.fr 1
      have Bf2 := B.fr 2
      have Bf3 := B.fr 3
      have Bl := B.lt
      simp only [List.getElem?_toArray, List.getElem?_cons_zero, List.getElem?_cons_succ] at B0 B1 B2 B3
      go_wp2_with fail
      clear B0 Bf0 B1 Bf1 B2 Bf2 B3 Bf3 Bl
      first | go_ret | refine bodyPost_ret (v := .bool true) (by simp [results, Tryd.results7, go_sem]) rfl ?_
      exact ⟨by first | rfl | simp, by first | exact U | exact U.alloc _ | exact U.drewN _ | exact U.drew⟩
    ·
      have d3 : (f.k == 3) = false := by simp [k4]
      have d4 : (f.k == 4) = true := by simpa using k4
      clear CR ok ok2 ok3 k4 hf
      have U := Up.refl w
      go_enter Tryd.func7, Tryd.ntmps7
      go_wp2_with fail
      obtain ⟨V1, hV1⟩ : ∃ V1, w.alloc (.cells #[.bool ng2, .slice A2 ln2 cp2, .int .i64 tw2, .int .i64 fv2] 32) = V1 := ⟨_, rfl⟩
      have B : Ob V1 w.heap.size 32 #[.bool ng2, .slice A2 ln2 cp2, .int .i64 tw2, .int .i64 fv2] := by rw [← hV1]; exact Ob.mk_ _ _ _
      have uV1 : Up w V1 := by rw [← hV1]; exact (Up.refl _).alloc _
      have ltB : w.heap.size ≤ w.heap.size := U.size
      rw [hV1]
      clear hV1
      replace U := U.trans uV1
      clear uV1
      refine (shown8_any _ (Lib.hid (TT.out.up U)) (Lib.hid (TF.out.up U))).mono ?_
      rintro _ w2 ⟨rfl, h2⟩
      replace U := U.trans h2
      replace B := B.up h2
      clear h2
      have B0 := B.get 0
      have B1 := B.get 1
      have B2 := B.get 2
      have B3 := B.get 3
      have Bf0 := B.fr 0
      have Bf1 := B.fr 1
      have Bf2 := B.fr 2
      have Bf3 := B.fr 3
      have Bl := B.lt
      simp only [List.getElem?_toArray, List.getElem?_cons_zero, List.getElem?_cons_succ] at B0 B1 B2 B3
      go_wp2_with fail
      clear B0 Bf0 B1 Bf1 B2 Bf2 B3 Bf3 Bl
      refine (CS2.out _ U).mono ?_
      rintro _ w3 ⟨rfl, h3⟩
      replace U := U.trans h3
      replace B := B.up h3
      clear h3
      go_wp2_with (refine store_ob2 rfl 32 (.tmp 5) (.tmp 18) rfl _ #[.bool ng2, .slice A2 ln2 cp2, .int .i64 tw2, .int .i64 fv2] #[.bool ng2, .slice A2 mm2 cp2, .int .i64 t, .int .i64 g] rfl rfl 4 (by kernel_rfl) rfl rfl (by simp [Value.oneCell']) w U ltB 32 B ?_; clear U; intro V9 Z9 U ho; clear ho B; have B := Z9; clear Z9)
      have gC := B.lt
      refine (CF.out _ (TF.out.up U)).mono ?_
      rintro _ w4 ⟨rfl, h4⟩
      replace U := U.trans h4
      replace B := B.up h4
      clear h4
      have B0 := B.get 0
      have B1 := B.get 1
      have B2 := B.get 2
      have B3 := B.get 3
      have Bf0 := B.fr 0
      have Bf1 := B.fr 1
      have Bf2 := B.fr 2
      have Bf3 := B.fr 3
      have Bl := B.lt
      simp only [List.getElem?_toArray, List.getElem?_cons_zero, List.getElem?_cons_succ] at B0 B1 B2 B3
      go_wp2_with fail
      clear B0 Bf0 B1 Bf1 B2 Bf2 B3 Bf3 Bl
      first | go_ret | refine bodyPost_ret (v := .bool true) (by simp [results, Tryd.results7, go_sem]) rfl ?_
      exact ⟨by first | rfl | simp, by first | exact U | exact U.alloc _ | exact U.drewN _ | exact U.drew⟩
end Go.Proofs.YtlogglhonlannaaDoor
