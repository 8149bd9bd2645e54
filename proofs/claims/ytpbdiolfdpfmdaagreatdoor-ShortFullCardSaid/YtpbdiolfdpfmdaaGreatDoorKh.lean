/-
  The walk of ShortFull: true, and nothing that was there has turned.
-/
import Derived.Test.YtpbdiolfdpfmdaaGreatDoorKg
import Derived.OwnWalk
import Derived.Deep.RegionHeld3
import Derived.Deep.DrawnRows
namespace Go.Proofs.YtpbdiolfdpfmdaaGreatDoor
open Go.RowKit
set_option linter.unusedSimpArgs false
set_option linter.unusedVariables false

set_option maxHeartbeats 16000000 in
set_option maxRecDepth 100000 in
theorem sfull_walk (w : World) (L : Hid (Lk w)) (x0 : Int) (_wx0 : (Lit.int .i64 x0).wf = true) (x1 : Int) (_wx1 : (Lit.int .u64 x1).wf = true)  : Calls Tryz.prog 6 #[.int .i64 x0, .int .u64 x1] w (True11 w) := by
  obtain ⟨p, rfl, pb⟩ := wf_u64 _wx1
  obtain ⟨gg, D, K, x, hu⟩ := M.uc_ex x0 p
  have CH := Lib.hid (fun W (l : Lk W) => shown11_any W (Lib.hid l.low) (Lib.hid l.form) (Lib.hid l.ten))
  have FC := Lib.hid (fun W (l : Lk W) => full_any W (Lib.hid l.low) (Lib.hid l.form) x0 p pb gg D K x hu)
  rcases hu with ⟨x00, _, rfl, rfl, rfl⟩ | ⟨rfl, i, rfl, i1, i2, hp, m, z, hd, hg⟩
  ·
    have d1 : (x != 0) = true := by simpa using x00
    clear x00
    have U := Up.refl w
    go_enter Tryz.func6, Tryz.ntmps6
    go_wp2_with fail
    refine (CH.out _ (L.out.up U)).mono ?_
    rintro _ w1 ⟨rfl, h1⟩
    replace U := U.trans h1
    clear h1
    clear CH
    go_wp2_with fail
    refine (FC.out _ (L.out.up U)).mono ?_
    rintro _ w2 ⟨vF, rfl, NF, h2⟩
    replace U := U.trans h2
    clear h2
    clear FC
    obtain ⟨AF, nF, cF, rfl, NF⟩ := NF.sl
    clear NF
    go_wp2_with fail
    go_ret
    exact ⟨rfl, by first | exact U | exact U.alloc _⟩
  ·
    obtain ⟨m0, mb, zb⟩ := M.pt_rng (M.ok i i1 i2) (M.ok2 i i1 i2) (M.ok3 i i1 i2) hp hd
    have CV := Lib.hid (fun W (l : Lk W) => vdecode_any W (Lib.hid l.low) (Lib.hid l.form) (i : Int) p pb 2 gg m z 0 (.inr ⟨i, rfl, i1, i2, .inr ⟨hp, hd, rfl⟩⟩))
    have CX := Lib.hid (fun W => xof_fin W gg m z mb (M.pw_of zb))
    have CD := Lib.hid (fun W lo' v' (N : Nt W lo' 128 v' D) => dec_yes W lo' 128 gg v' D K N.nw hg.fit (M.dgs_pw hg))
    have pwK := M.dgs_pw hg
    have CC := Lib.hid (fun W lo1 lo2 v1 v2 (N1 : Nt W lo1 1 v1 m) (N2 : Nt W lo2 128 v2 D) => xcmp_ov (-5000) (by omega) W lo1 lo2 1 128 gg gg v1 v2 z 0 K K m D N1.nw N2.nw (by omega) (by omega) (by omega) (by omega) (by have := pwK; unfold M.pw at this; omega) (by have := pwK; unfold M.pw at this; omega) 0 (M.cmp_eq hg.eq.symm))
    have CO : Hid (∀ W : World, Calls Tryz.prog 26 #[.int .u64 10] W (Res 1 10 W)) := Lib.hid (fun W => of_any W 10 (by omega))
    have CV2 := Lib.hid (fun W lo1 lo2 v1 v2 (N1 : Nt W lo1 128 v1 D) (N2 : Nt W lo2 1 v2 10) => div_any W lo1 lo2 128 1 v1 v2 D 10 N1.nw N2.nw (by omega) (by omega))
    have HT := Lib.hid hg.ten
    have nb : (gg == gg) = true := by simp
    clear hd hp i1 i2 pb hg zb mb m0 pwK
    have U := Up.refl w
    go_enter Tryz.func6, Tryz.ntmps6
    go_wp2_with fail
    refine (CH.out _ (L.out.up U)).mono ?_
    rintro _ w1 ⟨rfl, h1⟩
    replace U := U.trans h1
    clear h1
    clear CH
    go_wp2_with fail
    refine (FC.out _ (L.out.up U)).mono ?_
    rintro _ w2 ⟨vF, rfl, NF, h2⟩
    replace U := U.trans h2
    clear h2
    clear FC
    obtain ⟨AF, nF, cF, rfl, NF⟩ := NF.sl
    go_upto_region 3 with fail
    obtain ⟨V3, hV3⟩ : ∃ V3, w2.alloc (.cells #[.bool gg, .slice AF nF cF, .int .i64 K] 27) = V3 := ⟨_, rfl⟩
    have BF : Ob V3 (w2.heap.size) 27 #[.bool gg, .slice AF nF cF, .int .i64 K] := by rw [← hV3]; exact Ob.mk_ _ _ _
    have sV3 : V3.heap.size = w2.heap.size + 1 := by rw [← hV3]; exact (Array.size_push _)
    have uV3 : Up w2 V3 := by rw [← hV3]; exact (Up.refl _).alloc _
    have ltBF : w.heap.size ≤ w2.heap.size := by have := U.size; omega
    rw [hV3]
    clear hV3
    replace U := U.trans uV3
    replace NF := NF.up uV3
    clear uV3
    clear sV3
    have glBF := BF.lt
    go_wp2_with fail
    refine (CV.out _ (L.out.up U)).mono ?_
    rintro _ w4 ⟨rfl, h4⟩
    replace U := U.trans h4
    replace BF := BF.up h4
    replace NF := NF.up h4
    clear h4
    clear CV
    go_upto_region 6 with fail
    have gVBF := BF.lt
    obtain ⟨V5, hV5⟩ : ∃ V5, w4.alloc (.cells #[.int .i64 2, .bool gg, u64 m, .int .i64 z] 32) = V5 := ⟨_, rfl⟩
    have V : Ob V5 (w4.heap.size) 32 #[.int .i64 2, .bool gg, u64 m, .int .i64 z] := by rw [← hV5]; exact Ob.mk_ _ _ _
    have sV5 : V5.heap.size = w4.heap.size + 1 := by rw [← hV5]; exact (Array.size_push _)
    have uV5 : Up w4 V5 := by rw [← hV5]; exact (Up.refl _).alloc _
    have ltV : w.heap.size ≤ w4.heap.size := by have := U.size; omega
    rw [hV5]
    clear hV5
    replace U := U.trans uV5
    replace BF := BF.up uV5
    replace NF := NF.up uV5
    clear uV5
    clear sV5
    have glV := V.lt
    have V0 := V.get 0
    have V1 := V.get 1
    have V2 := V.get 2
    have V3 := V.get 3
    have Vf0 := V.fr 0
    have Vf1 := V.fr 1
    have Vf2 := V.fr 2
    have Vf3 := V.fr 3
    have Vl := V.lt
    simp only [List.getElem?_toArray, List.getElem?_cons_zero, List.getElem?_cons_succ] at V0 V1 V2 V3
    go_wp2_with fail
    clear V0 Vf0 V1 Vf1 V2 Vf2 V3 Vf3 Vl
    refine (CX.out _).mono ?_
    rintro _ w6 ⟨vX, rfl, NX, h6⟩
    replace U := U.trans h6
    replace BF := BF.up h6
    replace V := V.up h6
    replace NF := NF.up h6
    clear h6
    clear CX
    obtain ⟨AX, nX, cX, rfl, NX⟩ := NX.sl
    go_upto_region 7 with fail
    have gBXBF := BF.lt
    have gBXV := V.lt
    obtain ⟨V7, hV7⟩ : ∃ V7, w6.alloc (.cells #[.bool gg, .slice AX nX cX, .int .i64 z, .int .i64 0] 39) = V7 := ⟨_, rfl⟩
    have BX : Ob V7 (w6.heap.size) 39 #[.bool gg, .slice AX nX cX, .int .i64 z, .int .i64 0] := by rw [← hV7]; exact Ob.mk_ _ _ _
    have sV7 : V7.heap.size = w6.heap.size + 1 := by rw [← hV7]; exact (Array.size_push _)
    have uV7 : Up w6 V7 := by rw [← hV7]; exact (Up.refl _).alloc _
    have ltBX : w.heap.size ≤ w6.heap.size := by have := U.size; omega
    rw [hV7]
    clear hV7
    replace U := U.trans uV7
    replace BF := BF.up uV7
    replace V := V.up uV7
    replace NF := NF.up uV7
    replace NX := NX.up uV7
    clear uV7
    clear sV7
    have glBX := BX.lt
    have BF0 := BF.get 0
    have BF1 := BF.get 1
    have BF2 := BF.get 2
    have BFf0 := BF.fr 0
    have BFf1 := BF.fr 1
    have BFf2 := BF.fr 2
    have BFl := BF.lt
    simp only [List.getElem?_toArray, List.getElem?_cons_zero, List.getElem?_cons_succ] at BF0 BF1 BF2
    go_wp2_with fail
    clear BF0 BFf0 BF1 BFf1 BF2 BFf2 BFl
    refine (CD.out _ _ _ NF).mono ?_
    rintro _ w8 ⟨vY, rfl, NY, h8⟩
    replace U := U.trans h8
    replace BF := BF.up h8
    replace V := V.up h8
    replace BX := BX.up h8
    replace NF := NF.up h8
    replace NX := NX.up h8
    clear h8
    clear CD
    obtain ⟨AY, nY, cY, rfl, NY⟩ := NY.sl
    go_upto_region 8 with fail
    have gBYBF := BF.lt
    have gBYV := V.lt
    have gBYBX := BX.lt
    obtain ⟨V9, hV9⟩ : ∃ V9, w8.alloc (.cells #[.bool gg, .slice AY nY cY, .int .i64 K, .int .i64 K] 39) = V9 := ⟨_, rfl⟩
    have BY : Ob V9 (w8.heap.size) 39 #[.bool gg, .slice AY nY cY, .int .i64 K, .int .i64 K] := by rw [← hV9]; exact Ob.mk_ _ _ _
    have sV9 : V9.heap.size = w8.heap.size + 1 := by rw [← hV9]; exact (Array.size_push _)
    have uV9 : Up w8 V9 := by rw [← hV9]; exact (Up.refl _).alloc _
    have ltBY : w.heap.size ≤ w8.heap.size := by have := U.size; omega
    rw [hV9]
    clear hV9
    replace U := U.trans uV9
    replace BF := BF.up uV9
    replace V := V.up uV9
    replace BX := BX.up uV9
    replace NF := NF.up uV9
    replace NX := NX.up uV9
    replace NY := NY.up uV9
    clear uV9
    clear sV9
    have glBY := BY.lt
    have BF0 := BF.get 0
    have BF1 := BF.get 1
    have BF2 := BF.get 2
    have BFf0 := BF.fr 0
    have BFf1 := BF.fr 1
    have BFf2 := BF.fr 2
    have BFl := BF.lt
    simp only [List.getElem?_toArray, List.getElem?_cons_zero, List.getElem?_cons_succ] at BF0 BF1 BF2
    go_region_held3 (fun w' => w'.cell? ⟨w2.heap.size, 0, none⟩ = some (.bool gg) ∧ w'.cell? ⟨w2.heap.size, 1, none⟩ = some (.slice AF nF cF) ∧ w'.cell? ⟨w2.heap.size, 2, none⟩ = some (.int .i64 K)) (go_keep) (first
      | (go_at_call 26; (with_reducible refine (CO.out _).mono ?_); rintro _ wO ⟨vo, rfl, no, v_wO⟩; have u_wO : Up V9 wO := Up.trans (by first | with_reducible assumption | exact (Up.refl _).drewN 1 | exact Up.refl _) v_wO; have wO_BF0 := cell_up u_wO BF0; have wO_BF1 := cell_up u_wO BF1; have wO_BF2 := cell_up u_wO BF2)
      | (go_at_call 27; (with_reducible refine (CV2.out _ _ _ _ _ (NF.up (by first | exact u_wO | exact u_wO.drewN 1)) (by first | exact no | exact no.up ((Up.refl _).drewN 1))).mono ?_); rintro _ wD ⟨vq, vr, rfl, nq, nr, v_wD⟩; have u_wD : Up V9 wD := Up.trans (by first | exact u_wO | exact u_wO.drewN 1) v_wD; have wD_BF0 := cell_up u_wD BF0; have wD_BF1 := cell_up u_wD BF1; have wD_BF2 := cell_up u_wD BF2))
    clear nq no CO CV2 wO_BF0 wO_BF1 wO_BF2 wD_BF0 wD_BF1 wD_BF2
    clear BF0 BFf0 BF1 BFf1 BF2 BFf2 BFl
    obtain ⟨Ar, nr0, cr, rfl, nr⟩ := nr.sl
    have hl : 0 < nr0 := by
      have := nr.nil_iff
      have := HT.out
      omega
    have hl2 : decide ((nr0 : Int) > 0) = true := decide_eq_true (by omega)
    have hl3 : decide (0 < nr0) = true := decide_eq_true hl
    clear v_wO u_wO v_wD HT
    replace U := U.trans u_wD
    replace BF := BF.up u_wD
    replace V := V.up u_wD
    replace BX := BX.up u_wD
    replace BY := BY.up u_wD
    replace NF := NF.up u_wD
    replace NX := NX.up u_wD
    replace NY := NY.up u_wD
    clear u_wD
    have V0 := V.get 0
    have V1 := V.get 1
    have V2 := V.get 2
    have V3 := V.get 3
    have Vf0 := V.fr 0
    have Vf1 := V.fr 1
    have Vf2 := V.fr 2
    have Vf3 := V.fr 3
    have Vl := V.lt
    simp only [List.getElem?_toArray, List.getElem?_cons_zero, List.getElem?_cons_succ] at V0 V1 V2 V3
    have BF0 := BF.get 0
    have BF1 := BF.get 1
    have BF2 := BF.get 2
    have BFf0 := BF.fr 0
    have BFf1 := BF.fr 1
    have BFf2 := BF.fr 2
    have BFl := BF.lt
    simp only [List.getElem?_toArray, List.getElem?_cons_zero, List.getElem?_cons_succ] at BF0 BF1 BF2
    have BX0 := BX.get 0
    have BX1 := BX.get 1
    have BX2 := BX.get 2
    have BX3 := BX.get 3
    have BXf0 := BX.fr 0
    have BXf1 := BX.fr 1
    have BXf2 := BX.fr 2
    have BXf3 := BX.fr 3
    have BXl := BX.lt
    simp only [List.getElem?_toArray, List.getElem?_cons_zero, List.getElem?_cons_succ] at BX0 BX1 BX2 BX3
    have BY0 := BY.get 0
    have BY1 := BY.get 1
    have BY2 := BY.get 2
    have BY3 := BY.get 3
    have BYf0 := BY.fr 0
    have BYf1 := BY.fr 1
    have BYf2 := BY.fr 2
    have BYf3 := BY.fr 3
    have BYl := BY.lt
    simp only [List.getElem?_toArray, List.getElem?_cons_zero, List.getElem?_cons_succ] at BY0 BY1 BY2 BY3
    go_wp2_with fail
    clear V0 Vf0 V1 Vf1 V2 Vf2 V3 Vf3 Vl
    clear BF0 BFf0 BF1 BFf1 BF2 BFf2 BFl
    clear BX0 BXf0 BX1 BXf1 BX2 BXf2 BX3 BXf3 BXl
    clear BY0 BYf0 BY1 BYf1 BY2 BYf2 BY3 BYf3 BYl
    refine (CC.out _ _ _ _ _ NX NY).mono ?_
    rintro _ w10 ⟨rfl, h10⟩
    replace U := U.trans h10
    replace BF := BF.up h10
    replace V := V.up h10
    replace BX := BX.up h10
    replace BY := BY.up h10
    replace NF := NF.up h10
    replace NX := NX.up h10
    replace NY := NY.up h10
    clear h10
    go_wp2_with fail
    go_ret
    exact ⟨rfl, U⟩
end Go.Proofs.YtpbdiolfdpfmdaaGreatDoor
