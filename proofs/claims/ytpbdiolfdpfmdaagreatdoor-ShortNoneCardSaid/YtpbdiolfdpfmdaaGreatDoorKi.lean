/-
  The walk of ShortNone: true, and nothing that was there has turned.
-/
import Derived.Test.YtpbdiolfdpfmdaaGreatDoorKg
import Derived.OwnWalk
import Derived.Deep.RegionHeld3
import Derived.Deep.DrawnRows
import Derived.Deep.DeepCutAuto
namespace Go.Proofs.YtpbdiolfdpfmdaaGreatDoor
open Go.RowKit
set_option linter.unusedSimpArgs false
set_option linter.unusedVariables false

set_option maxHeartbeats 16000000 in
set_option maxRecDepth 100000 in
theorem snone_walk (w : World) (L : Hid (Lk w)) (x0 : Int) (_wx0 : (Lit.int .i64 x0).wf = true) (x1 : Int) (_wx1 : (Lit.int .u64 x1).wf = true)  : Calls Tryz.prog 5 #[.int .i64 x0, .int .u64 x1] w (True11 w) := by
  obtain ⟨p, rfl, pb⟩ := wf_u64 _wx1
  obtain ⟨gg, D, K, x, hs⟩ := M.shc_ex x0 p
  have CH := Lib.hid (fun W (l : Lk W) => shown11_any W (Lib.hid l.low) (Lib.hid l.form) (Lib.hid l.ten))
  have SC := Lib.hid (fun W (l : Lk W) => short_any W (Lib.hid l.low) (Lib.hid l.form) (Lib.hid l.ten) x0 p pb gg D K x hs)
  rcases hs with ⟨x00, _, rfl, rfl, rfl⟩ | ⟨rfl, i, rfl, i1, i2, m, z, m1, z1, m2, z2, ev, t, n, k, d, r, y, hq⟩
  ·
    have d1 : (x != 0) = true := by simpa using x00
    clear x00
    have U := Up.refl w
    go_enter Tryz.func5, Tryz.ntmps5
    go_wp2_with fail
    refine (CH.out _ (L.out.up U)).mono ?_
    rintro _ w1 ⟨rfl, h1⟩
    replace U := U.trans h1
    clear h1
    clear CH
    go_wp2_with fail
    refine (SC.out _ (L.out.up U)).mono ?_
    rintro _ w2 ⟨vS, rfl, NS, h2⟩
    replace U := U.trans h2
    clear h2
    clear SC
    obtain ⟨AS, nS, cS, rfl, NS⟩ := NS.sl
    clear NS
    go_wp2_with fail
    go_ret
    exact ⟨rfl, by first | exact U | exact U.alloc _⟩
  ·
    have ok := M.ok i i1 i2
    have ok2 := M.ok2 i i1 i2
    have ok3 := M.ok3 i i1 i2
    obtain ⟨m0, mb, zb⟩ := M.pt_rng ok ok2 ok3 hq.pt.fit hq.pt.dv
    have dpos : 0 < D := by have := hq.dg.ten; omega
    obtain ⟨g1, g2, g3⟩ := M.dig_bounds D D (Nat.le_refl _) dpos
    obtain ⟨c, hc⟩ : ∃ c, (Lib.decDigits D).length = c := ⟨_, rfl⟩
    rw [hc] at g1 g2 g3
    have c21 : c ≤ 21 := by
      have a : 10 ^ (c - 1) < 10 ^ n := Nat.lt_of_le_of_lt g1 hq.small
      have b := (Nat.pow_lt_pow_iff_right (by omega : 1 < 10)).1 a
      have := hq.sh.n21
      omega
    obtain ⟨S, hS⟩ : ∃ S, (⟨(Lib.decDigits D).toArray⟩ : ByteArray) = S := ⟨_, rfl⟩
    have hSc : S.size = c := by rw [← hS, ← hc]; rfl
    have CV := Lib.hid (fun W (l : Lk W) => vdecode_any W (Lib.hid l.low) (Lib.hid l.form) (i : Int) p pb 2 gg m z 0 (.inr ⟨i, rfl, i1, i2, .inr ⟨hq.pt.fit, hq.pt.dv, rfl⟩⟩))
    have CX := Lib.hid (fun W => xof_fin W false m z mb (M.pw_of zb))
    have CT := Lib.hid (fun W (l : Lk W) lo' v' (N : Nt W lo' 128 v' D) => text_of W lo' 128 v' D N.nw (by omega) l.ten S hS)
    have e25 : decide ((c : Int) > 25) = false := decide_eq_false (by omega)
    have e25b : decide (25 < c) = false := decide_eq_false (by omega)
    have e25c : decide ((25 : Int) < (c : Int)) = false := decide_eq_false (by omega)
    have e1c : decide ((c : Int) < 1) = false := decide_eq_false (by omega)
    have e1d : decide (c < 1) = false := decide_eq_false (by omega)
    have e1e : (c == 0) = false := by rw [beq_eq_false_iff_ne]; omega
    have CS := Lib.hid hSc
    clear hS hSc
    by_cases hc1 : c = 1
    ·
      subst hc1
      have CS2 : S.size = 1 := CS.out
      clear hq ok ok2 ok3 m0 mb zb g1 g2 g3 c21 hc dpos i1 i2 pb e25b e1e e1d
      have U := Up.refl w
      go_enter Tryz.func5, Tryz.ntmps5
      go_wp2_with fail
      refine (CH.out _ (L.out.up U)).mono ?_
      rintro _ w1 ⟨rfl, h1⟩
      replace U := U.trans h1
      clear h1
      clear CH
      go_wp2_with fail
      refine (SC.out _ (L.out.up U)).mono ?_
      rintro _ w2 ⟨vS, rfl, NS, h2⟩
      replace U := U.trans h2
      clear h2
      clear SC
      obtain ⟨AS, nS, cS, rfl, NS⟩ := NS.sl
      go_upto_region 3 with fail
      obtain ⟨V3, hV3⟩ : ∃ V3, w2.alloc (.cells #[.bool gg, .slice AS nS cS, .int .i64 K] 27) = V3 := ⟨_, rfl⟩
      have BS : Ob V3 (w2.heap.size) 27 #[.bool gg, .slice AS nS cS, .int .i64 K] := by rw [← hV3]; exact Ob.mk_ _ _ _
      have sV3 : V3.heap.size = w2.heap.size + 1 := by rw [← hV3]; exact (Array.size_push _)
      have uV3 : Up w2 V3 := by rw [← hV3]; exact (Up.refl _).alloc _
      have ltBS : w.heap.size ≤ w2.heap.size := by have := U.size; omega
      rw [hV3]
      clear hV3
      replace U := U.trans uV3
      replace NS := NS.up uV3
      clear uV3
      clear sV3
      have glBS := BS.lt
      go_wp2_with fail
      refine (CV.out _ (L.out.up U)).mono ?_
      rintro _ w4 ⟨rfl, h4⟩
      replace U := U.trans h4
      replace BS := BS.up h4
      replace NS := NS.up h4
      clear h4
      clear CV
      go_upto_region 6 with fail
      have gVBS := BS.lt
      obtain ⟨V5, hV5⟩ : ∃ V5, w4.alloc (.cells #[.int .i64 2, .bool gg, u64 m, .int .i64 z] 32) = V5 := ⟨_, rfl⟩
      have V : Ob V5 (w4.heap.size) 32 #[.int .i64 2, .bool gg, u64 m, .int .i64 z] := by rw [← hV5]; exact Ob.mk_ _ _ _
      have sV5 : V5.heap.size = w4.heap.size + 1 := by rw [← hV5]; exact (Array.size_push _)
      have uV5 : Up w4 V5 := by rw [← hV5]; exact (Up.refl _).alloc _
      have ltV : w.heap.size ≤ w4.heap.size := by have := U.size; omega
      rw [hV5]
      clear hV5
      replace U := U.trans uV5
      replace BS := BS.up uV5
      replace NS := NS.up uV5
      clear uV5
      clear sV5
      have glV := V.lt
      have V0 := V.get 0
      have V1 := V.get 1
      have V2 := V.get 2
      have V3 := V.get 3
      have Vf0 := V.fr 0
      have Vf1 := V.fr 1
      have Vf2 := V.fr 2
      have Vf3 := V.fr 3
      have Vl := V.lt
      simp only [List.getElem?_toArray, List.getElem?_cons_zero, List.getElem?_cons_succ] at V0 V1 V2 V3
      go_wp2_with fail
      clear V0 Vf0 V1 Vf1 V2 Vf2 V3 Vf3 Vl
      refine (CX.out _).mono ?_
      rintro _ w6 ⟨vX, rfl, NX, h6⟩
      replace U := U.trans h6
      replace BS := BS.up h6
      replace V := V.up h6
      replace NS := NS.up h6
      clear h6
      clear CX
      obtain ⟨AX, nX, cX, rfl, NX⟩ := NX.sl
      go_upto_region 7 with fail
      have gBXBS := BS.lt
      have gBXV := V.lt
      obtain ⟨V7, hV7⟩ : ∃ V7, w6.alloc (.cells #[.bool false, .slice AX nX cX, .int .i64 z, .int .i64 0] 39) = V7 := ⟨_, rfl⟩
      have BX : Ob V7 (w6.heap.size) 39 #[.bool false, .slice AX nX cX, .int .i64 z, .int .i64 0] := by rw [← hV7]; exact Ob.mk_ _ _ _
      have sV7 : V7.heap.size = w6.heap.size + 1 := by rw [← hV7]; exact (Array.size_push _)
      have uV7 : Up w6 V7 := by rw [← hV7]; exact (Up.refl _).alloc _
      have ltBX : w.heap.size ≤ w6.heap.size := by have := U.size; omega
      rw [hV7]
      clear hV7
      replace U := U.trans uV7
      replace BS := BS.up uV7
      replace V := V.up uV7
      replace NS := NS.up uV7
      replace NX := NX.up uV7
      clear uV7
      clear sV7
      have glBX := BX.lt
      have BS0 := BS.get 0
      have BS1 := BS.get 1
      have BS2 := BS.get 2
      have BSf0 := BS.fr 0
      have BSf1 := BS.fr 1
      have BSf2 := BS.fr 2
      have BSl := BS.lt
      simp only [List.getElem?_toArray, List.getElem?_cons_zero, List.getElem?_cons_succ] at BS0 BS1 BS2
      go_wp2_with fail
      clear BS0 BSf0 BS1 BSf1 BS2 BSf2 BSl
      refine (CT.out _ (L.out.up U) _ _ NS).mono ?_
      rintro _ w8 ⟨rfl, h8⟩
      replace U := U.trans h8
      replace BS := BS.up h8
      replace V := V.up h8
      replace BX := BX.up h8
      replace NS := NS.up h8
      replace NX := NX.up h8
      clear h8
      clear CT NS BS
      go_wp2_with fail
      go_ret
      exact ⟨rfl, U⟩
    ·
      have c2 : 2 ≤ c := by omega
      obtain ⟨k1, hk1⟩ : ∃ k1 : Int, k1 = t + 2 - c := ⟨_, rfl⟩
      obtain ⟨e, re, hb⟩ := M.bes_ex (M.sz m z 0) k1
      obtain ⟨f1, f2, f3, f4, _, f5, f6⟩ := M.fewer ok ok2 ok3 hq c2 g1 hk1 hb.le hb.lt
      obtain ⟨q1, hq1⟩ := M.rv_ex ok ok2 ok3 2 gg (M.sz e k1 k1)
      obtain ⟨q2, hq2⟩ := M.rv_ex ok ok2 ok3 2 gg (M.sz (e + 1) k1 k1)
      have n1 : (q1 != (p : Int)) = true := by
        rw [bne_iff_ne]
        intro h
        exact f1 (h ▸ hq1)
      have n2 : (q2 != (p : Int)) = true := by
        rw [bne_iff_ne]
        intro h
        exact f2 (h ▸ hq2)
      have f4n : e < 1000000000000000000000 := by have e3 : (10 : Nat) ^ 21 = 1000000000000000000000 := by decide
                                                  omega
      have h1 : e < 18446744073709551616 ^ 128 := by have := M.c_128; omega
      have h2 : e + 1 < 18446744073709551616 ^ 128 := by have := M.c_128; have := M.c_21; omega
      have pwk : M.pw k1 := by unfold M.pw; omega
      have H2W := Lib.hid (show e < 18446744073709551616 ^ 2 by omega)
      obtain ⟨mm, hm⟩ : ∃ mm, min z 0 = mm := ⟨_, rfl⟩
      obtain ⟨T, hT⟩ : ∃ T : Nat, (T : Int) = z - mm := ⟨(z - mm).toNat, by omega⟩
      obtain ⟨F, hF⟩ : ∃ F : Nat, (F : Int) = 0 - mm := ⟨(0 - mm).toNat, by omega⟩
      have hl := M.log_tp m0 zb hm hT hF hq.tp
      have CL := Lib.hid (fun W (l : Lk W) lo' v' (N : Nt W lo' 1 v' m) => log10_any W l.ten lo' 1 false v' z 0 m N.nw (by omega) (by omega) (by omega) mm hm T F (by show _ = _; omega) (by show _ = _; omega) t hl)
      have CF := Lib.hid (fun W lo' v' (N : Nt W lo' 1 v' m) => floor_bes W lo' 1 false v' z 0 m N.nw (by omega) (by omega) (by omega) k1 (by omega) e re hb)
      have CD := Lib.hid (fun W lo' s' v' y (N : Nt W lo' s' v' y) (hy : y < 18446744073709551616 ^ 128) => dec_yes W lo' s' gg v' y k1 N.nw hy pwk)
      have CO : Hid (∀ W : World, Calls Tryz.prog 26 #[.int .u64 1] W (Res 1 1 W)) := Lib.hid (fun W => of_any W 1 (by omega))
      have CA := Lib.hid (fun W lo' lo'' v v' (Nd : Nt W lo' 2 v e) (No : Nt W lo'' 1 v' 1) => add_of W lo' lo'' 2 1 2 v v' e 1 Nd.nw No.nw (by omega) (by omega) (by omega))
      have CR1 := Lib.hid (fun W (l : Lk W) lo' v' (N : Nt W lo' 2 v' e) => rnd_round W (Lib.hid l.low) (Lib.hid l.form) (i : Int) 2 lo' 2 gg v' k1 k1 e N (by omega) pwk pwk h1 q1 0 (.inr ⟨i, rfl, i1, i2, .inr ⟨.inr rfl, hq1, rfl⟩⟩))
      have CR2 := Lib.hid (fun W (l : Lk W) lo' v' (N : Nt W lo' 3 v' (e + 1)) => rnd_round W (Lib.hid l.low) (Lib.hid l.form) (i : Int) 2 lo' 3 gg v' k1 k1 (e + 1) N (by omega) pwk pwk h2 q2 0 (.inr ⟨i, rfl, i1, i2, .inr ⟨.inr rfl, hq2, rfl⟩⟩))
      have H1 := Lib.hid h1
      have H2 := Lib.hid h2
      have w1 : IntKind.i64.wrap (t + 2) = t + 2 := by have := hq.tp.lo; have := hq.tp.hi; simp [IntKind.wrap, IntKind.bits, IntKind.signed]; omega
      have w2 : IntKind.i64.wrap (t + 2 - (c : Int)) = k1 := by rw [hk1]; have := hq.tp.lo; have := hq.tp.hi; simp [IntKind.wrap, IntKind.bits, IntKind.signed]; omega
      have ec : ((c : Int) == 1) = false := by rw [beq_eq_false_iff_ne]; omega
      have ec2 : (c == 1) = false := by rw [beq_eq_false_iff_ne]; omega
      have CS2 : S.size = c := CS.out
      clear hq ok ok2 ok3 m0 mb zb g1 g2 g3 c21 hc dpos i1 i2 pb hb f1 f2 f3 f4 f5 f6 f4n h1 h2 pwk hq1 hq2 hm hT hF hl hk1 c2 hc1
      have U := Up.refl w
      go_enter Tryz.func5, Tryz.ntmps5
      go_wp2_with fail
      refine (CH.out _ (L.out.up U)).mono ?_
      rintro _ w1 ⟨rfl, h1⟩
      replace U := U.trans h1
      clear h1
      clear CH
      go_wp2_with fail
      refine (SC.out _ (L.out.up U)).mono ?_
      rintro _ w2 ⟨vS, rfl, NS, h2⟩
      replace U := U.trans h2
      clear h2
      clear SC
      obtain ⟨AS, nS, cS, rfl, NS⟩ := NS.sl
      go_upto_region 3 with fail
      obtain ⟨V3, hV3⟩ : ∃ V3, w2.alloc (.cells #[.bool gg, .slice AS nS cS, .int .i64 K] 27) = V3 := ⟨_, rfl⟩
      have BS : Ob V3 (w2.heap.size) 27 #[.bool gg, .slice AS nS cS, .int .i64 K] := by rw [← hV3]; exact Ob.mk_ _ _ _
      have sV3 : V3.heap.size = w2.heap.size + 1 := by rw [← hV3]; exact (Array.size_push _)
      have uV3 : Up w2 V3 := by rw [← hV3]; exact (Up.refl _).alloc _
      have ltBS : w.heap.size ≤ w2.heap.size := by have := U.size; omega
      rw [hV3]
      clear hV3
      replace U := U.trans uV3
      replace NS := NS.up uV3
      clear uV3
      clear sV3
      have glBS := BS.lt
      go_wp2_with fail
      refine (CV.out _ (L.out.up U)).mono ?_
      rintro _ w4 ⟨rfl, h4⟩
      replace U := U.trans h4
      replace BS := BS.up h4
      replace NS := NS.up h4
      clear h4
      clear CV
      go_upto_region 6 with fail
      have gVBS := BS.lt
      obtain ⟨V5, hV5⟩ : ∃ V5, w4.alloc (.cells #[.int .i64 2, .bool gg, u64 m, .int .i64 z] 32) = V5 := ⟨_, rfl⟩
      have V : Ob V5 (w4.heap.size) 32 #[.int .i64 2, .bool gg, u64 m, .int .i64 z] := by rw [← hV5]; exact Ob.mk_ _ _ _
      have sV5 : V5.heap.size = w4.heap.size + 1 := by rw [← hV5]; exact (Array.size_push _)
      have uV5 : Up w4 V5 := by rw [← hV5]; exact (Up.refl _).alloc _
      have ltV : w.heap.size ≤ w4.heap.size := by have := U.size; omega
      rw [hV5]
      clear hV5
      replace U := U.trans uV5
      replace BS := BS.up uV5
      replace NS := NS.up uV5
      clear uV5
      clear sV5
      have glV := V.lt
      have V0 := V.get 0
      have V1 := V.get 1
      have V2 := V.get 2
      have V3 := V.get 3
      have Vf0 := V.fr 0
      have Vf1 := V.fr 1
      have Vf2 := V.fr 2
      have Vf3 := V.fr 3
      have Vl := V.lt
      simp only [List.getElem?_toArray, List.getElem?_cons_zero, List.getElem?_cons_succ] at V0 V1 V2 V3
      go_wp2_with fail
      clear V0 Vf0 V1 Vf1 V2 Vf2 V3 Vf3 Vl
      refine (CX.out _).mono ?_
      rintro _ w6 ⟨vX, rfl, NX, h6⟩
      replace U := U.trans h6
      replace BS := BS.up h6
      replace V := V.up h6
      replace NS := NS.up h6
      clear h6
      clear CX
      obtain ⟨AX, nX, cX, rfl, NX⟩ := NX.sl
      go_upto_region 7 with fail
      have gBXBS := BS.lt
      have gBXV := V.lt
      obtain ⟨V7, hV7⟩ : ∃ V7, w6.alloc (.cells #[.bool false, .slice AX nX cX, .int .i64 z, .int .i64 0] 39) = V7 := ⟨_, rfl⟩
      have BX : Ob V7 (w6.heap.size) 39 #[.bool false, .slice AX nX cX, .int .i64 z, .int .i64 0] := by rw [← hV7]; exact Ob.mk_ _ _ _
      have sV7 : V7.heap.size = w6.heap.size + 1 := by rw [← hV7]; exact (Array.size_push _)
      have uV7 : Up w6 V7 := by rw [← hV7]; exact (Up.refl _).alloc _
      have ltBX : w.heap.size ≤ w6.heap.size := by have := U.size; omega
      rw [hV7]
      clear hV7
      replace U := U.trans uV7
      replace BS := BS.up uV7
      replace V := V.up uV7
      replace NS := NS.up uV7
      replace NX := NX.up uV7
      clear uV7
      clear sV7
      have glBX := BX.lt
      have BS0 := BS.get 0
      have BS1 := BS.get 1
      have BS2 := BS.get 2
      have BSf0 := BS.fr 0
      have BSf1 := BS.fr 1
      have BSf2 := BS.fr 2
      have BSl := BS.lt
      simp only [List.getElem?_toArray, List.getElem?_cons_zero, List.getElem?_cons_succ] at BS0 BS1 BS2
      go_wp2_with fail
      clear BS0 BSf0 BS1 BSf1 BS2 BSf2 BSl
      refine (CT.out _ (L.out.up U) _ _ NS).mono ?_
      rintro _ w8 ⟨rfl, h8⟩
      replace U := U.trans h8
      replace BS := BS.up h8
      replace V := V.up h8
      replace BX := BX.up h8
      replace NS := NS.up h8
      replace NX := NX.up h8
      clear h8
      clear CT NS BS
      have BX0 := BX.get 0
      have BX1 := BX.get 1
      have BX2 := BX.get 2
      have BX3 := BX.get 3
      have BXf0 := BX.fr 0
      have BXf1 := BX.fr 1
      have BXf2 := BX.fr 2
      have BXf3 := BX.fr 3
      have BXl := BX.lt
      simp only [List.getElem?_toArray, List.getElem?_cons_zero, List.getElem?_cons_succ] at BX0 BX1 BX2 BX3
      go_wp2_with fail
      clear BX0 BXf0 BX1 BXf1 BX2 BXf2 BX3 BXf3 BXl
      refine (CL.out _ (L.out.up U) _ _ NX).mono ?_
      rintro _ w9 ⟨rfl, h9⟩
      replace U := U.trans h9
      replace V := V.up h9
      replace BX := BX.up h9
      replace NX := NX.up h9
      clear h9
      clear CL
      have BX0 := BX.get 0
      have BX1 := BX.get 1
      have BX2 := BX.get 2
      have BX3 := BX.get 3
      have BXf0 := BX.fr 0
      have BXf1 := BX.fr 1
      have BXf2 := BX.fr 2
      have BXf3 := BX.fr 3
      have BXl := BX.lt
      simp only [List.getElem?_toArray, List.getElem?_cons_zero, List.getElem?_cons_succ] at BX0 BX1 BX2 BX3
      go_wp2_with fail
      clear BX0 BXf0 BX1 BXf1 BX2 BXf2 BX3 BXf3 BXl
      refine (CF.out _ _ _ NX).mono ?_
      rintro _ w10 ⟨vE, rfl, NE, h10⟩
      replace U := U.trans h10
      replace V := V.up h10
      replace BX := BX.up h10
      replace NX := NX.up h10
      clear h10
      clear CF
      replace NE := NE.fit H2W.out
      obtain ⟨AE, nE, cE, rfl, NE⟩ := NE.sl
      have V0 := V.get 0
      have V1 := V.get 1
      have V2 := V.get 2
      have V3 := V.get 3
      have Vf0 := V.fr 0
      have Vf1 := V.fr 1
      have Vf2 := V.fr 2
      have Vf3 := V.fr 3
      have Vl := V.lt
      simp only [List.getElem?_toArray, List.getElem?_cons_zero, List.getElem?_cons_succ] at V0 V1 V2 V3
      go_wp2_with fail
      clear V0 Vf0 V1 Vf1 V2 Vf2 V3 Vf3 Vl
      refine (CD.out _ _ _ _ _ NE H1.out).mono ?_
      rintro _ w11 ⟨vL, rfl, NL, h11⟩
      replace U := U.trans h11
      replace V := V.up h11
      replace BX := BX.up h11
      replace NX := NX.up h11
      replace NE := NE.up h11
      clear h11
      obtain ⟨AL, nL, cL, rfl, NL⟩ := NL.sl
      go_upto_region 15 with fail
      have gBLV := V.lt
      have gBLBX := BX.lt
      obtain ⟨V12, hV12⟩ : ∃ V12, w11.alloc (.cells #[.bool gg, .slice AL nL cL, .int .i64 k1, .int .i64 k1] 39) = V12 := ⟨_, rfl⟩
      have BL : Ob V12 (w11.heap.size) 39 #[.bool gg, .slice AL nL cL, .int .i64 k1, .int .i64 k1] := by rw [← hV12]; exact Ob.mk_ _ _ _
      have sV12 : V12.heap.size = w11.heap.size + 1 := by rw [← hV12]; exact (Array.size_push _)
      have uV12 : Up w11 V12 := by rw [← hV12]; exact (Up.refl _).alloc _
      have ltBL : w.heap.size ≤ w11.heap.size := by have := U.size; omega
      rw [hV12]
      clear hV12
      replace U := U.trans uV12
      replace V := V.up uV12
      replace BX := BX.up uV12
      replace NX := NX.up uV12
      replace NE := NE.up uV12
      replace NL := NL.up uV12
      clear uV12
      clear sV12
      have glBL := BL.lt
      go_cut [18, 19] (fun s18 s19 wx => s19 = .bool true ∧ ∃ gF AF nF0 cF, s18 = .pointer (some ⟨gF, 0, none⟩) ∧ Ob wx gF 39 #[.bool gg, .slice AF nF0 cF, .int .i64 k1, .int .i64 k1] ∧ Nt wx V12.heap.size 3 (.slice AF nF0 cF) (e + 1) ∧ V12.heap.size ≤ gF ∧ Up V12 wx)
      case first =>
        have uD : Up V12 V12.drew := (Up.refl _).drew
        refine wp_region_held_drew (S := fun w' => Ob w' (w4.heap.size) 32 #[.int .i64 2, .bool gg, u64 m, .int .i64 z]) (by kernel_rfl) (V.up uD) (fun hHeld => ?_)
        refine wpAnyH_name (fun _ _ _ _ _ h => h) (fun Q0 HP HN => ?_)
        refine wpAnyH_take (i := 0) (v := ?_) rfl ?_ ?_ ?_ ?_ ?_ ?_ ?_
        rotate_left
        · kernel_rfl
        · kernel_rfl
        · kernel_rfl
        · exact fun c a w h => HP c _ _ a w h
        · refine Or.inl ⟨by rfl, ?_⟩
          intro wq hSq
          have hS0 : Ob wq (w4.heap.size) 32 #[.int .i64 2, .bool gg, u64 m, .int .i64 z] := hSq
          have q0_0 := hS0.get 0
          have q0_1 := hS0.get 1
          have q0_2 := hS0.get 2
          have q0_3 := hS0.get 3
          simp only [List.getElem?_toArray, List.getElem?_cons_zero, List.getElem?_cons_succ] at q0_0 q0_1 q0_2 q0_3
          go_simp
          all_goals with_reducible rfl
        · assumption
        try simp only [Act.put, List.setIfInBounds_toArray, List.set_cons_zero, List.set_cons_succ, List.getElem_toArray, List.getElem_cons_zero, List.getElem_cons_succ]
        refine wpAnyH_take (i := 1) (v := ?_) rfl ?_ ?_ ?_ ?_ ?_ ?_ ?_
        rotate_left
        · kernel_rfl
        · kernel_rfl
        · kernel_rfl
        · exact fun c a w h => HP c _ _ a w h
        · refine Or.inl ⟨by rfl, ?_⟩
          intro wq hSq
          have hS0 : Ob wq (w4.heap.size) 32 #[.int .i64 2, .bool gg, u64 m, .int .i64 z] := hSq
          have q0_0 := hS0.get 0
          have q0_1 := hS0.get 1
          have q0_2 := hS0.get 2
          have q0_3 := hS0.get 3
          simp only [List.getElem?_toArray, List.getElem?_cons_zero, List.getElem?_cons_succ] at q0_0 q0_1 q0_2 q0_3
          go_simp
          all_goals with_reducible rfl
        · assumption
        try simp only [Act.put, List.setIfInBounds_toArray, List.set_cons_zero, List.set_cons_succ, List.getElem_toArray, List.getElem_cons_zero, List.getElem_cons_succ]
        refine wpAnyH_take (i := 2) (v := ?_) rfl ?_ ?_ ?_ ?_ ?_ ?_ ?_
        rotate_left
        · kernel_rfl
        · kernel_rfl
        · kernel_rfl
        · exact fun c a w h => HP c _ _ a w h
        · refine Or.inl ⟨by rfl, ?_⟩
          intro wq hSq
          have hS0 : Ob wq (w4.heap.size) 32 #[.int .i64 2, .bool gg, u64 m, .int .i64 z] := hSq
          have q0_0 := hS0.get 0
          have q0_1 := hS0.get 1
          have q0_2 := hS0.get 2
          have q0_3 := hS0.get 3
          simp only [List.getElem?_toArray, List.getElem?_cons_zero, List.getElem?_cons_succ] at q0_0 q0_1 q0_2 q0_3
          go_simp
          all_goals with_reducible rfl
        · assumption
        try simp only [Act.put, List.setIfInBounds_toArray, List.set_cons_zero, List.set_cons_succ, List.getElem_toArray, List.getElem_cons_zero, List.getElem_cons_succ]
        refine wpAnyH_take (i := 5) (v := ?_) rfl ?_ ?_ ?_ ?_ ?_ ?_ ?_
        rotate_left
        · kernel_rfl
        · kernel_rfl
        · kernel_rfl
        · exact fun c a w h => HP c _ _ a w h
        · refine Or.inl ⟨by rfl, ?_⟩
          intro wq hSq
          have hS0 : Ob wq (w4.heap.size) 32 #[.int .i64 2, .bool gg, u64 m, .int .i64 z] := hSq
          have q0_0 := hS0.get 0
          have q0_1 := hS0.get 1
          have q0_2 := hS0.get 2
          have q0_3 := hS0.get 3
          simp only [List.getElem?_toArray, List.getElem?_cons_zero, List.getElem?_cons_succ] at q0_0 q0_1 q0_2 q0_3
          go_simp
          all_goals with_reducible rfl
        · assumption
        try simp only [Act.put, List.setIfInBounds_toArray, List.set_cons_zero, List.set_cons_succ, List.getElem_toArray, List.getElem_cons_zero, List.getElem_cons_succ]
        refine wpAnyH_ready (rs := [3, 10]) ?_ ?_ ?_
        · kernel_rfl
        · simp
        refine AllReadyH.cons rfl (fun KQ hK => ?_) (AllReadyH.cons rfl (fun KQ hK => ?_) AllReadyH.nil)
        · go_simp
          refine (CO.out _).mono ?_
          rintro _ Y0 ⟨vo, rfl, no, vY0⟩
          have uY0 : Up V12 Y0 := uD.trans vY0
          refine hK.out _ _ (V.up uY0) (fun _ => ?_)
          try simp only [Act.put, List.setIfInBounds_toArray, List.set_cons_zero, List.set_cons_succ, List.getElem_toArray, List.getElem_cons_zero, List.getElem_cons_succ]
          clear hK
          refine wpAnyH_ready (rs := [4, 10]) ?_ ?_ ?_
          · kernel_rfl
          · simp
          refine AllReadyH.cons rfl (fun KQ hK => ?_) (AllReadyH.cons rfl (fun KQ hK => ?_) AllReadyH.nil)
          · go_simp
            refine (CA.out _ _ _ _ _ (NE.up uY0) no).mono ?_
            rintro _ Y1 ⟨va, rfl, na, vY1⟩
            have uY1 : Up V12 Y1 := uY0.trans vY1
            replace no := no.up vY1
            refine hK.out _ _ (V.up uY1) (fun _ => ?_)
            try simp only [Act.put, List.setIfInBounds_toArray, List.set_cons_zero, List.set_cons_succ, List.getElem_toArray, List.getElem_cons_zero, List.getElem_cons_succ]
            clear hK
            refine wpAnyH_ready (rs := [6, 10]) ?_ ?_ ?_
            · kernel_rfl
            · simp
            refine AllReadyH.cons rfl (fun KQ hK => ?_) (AllReadyH.cons rfl (fun KQ hK => ?_) AllReadyH.nil)
            · go_simp
              refine (CD.out _ _ _ _ _ na H2.out).mono ?_
              rintro _ Y2 ⟨vf, rfl, nf, vY2⟩
              have uY2 : Up V12 Y2 := uY1.trans vY2
              obtain ⟨AF, nF0, cF, rfl, nf⟩ := nf.sl
              replace no := no.up vY2
              replace na := na.up vY2
              refine hK.out _ _ (V.up uY2) (fun _ => ?_)
              try simp only [Act.put, List.setIfInBounds_toArray, List.set_cons_zero, List.set_cons_succ, List.getElem_toArray, List.getElem_cons_zero, List.getElem_cons_succ]
              clear hK
              refine wpAnyH_take (i := 7) (v := ?_) rfl ?_ ?_ ?_ ?_ ?_ ?_ ?_
              rotate_left
              · kernel_rfl
              · kernel_rfl
              · kernel_rfl
              · exact fun c a w h => HP c _ _ a w h
              · refine Or.inl ⟨by rfl, ?_⟩
                intro wq hSq
                have hS0 : Ob wq (w4.heap.size) 32 #[.int .i64 2, .bool gg, u64 m, .int .i64 z] := hSq
                have q0_0 := hS0.get 0
                have q0_1 := hS0.get 1
                have q0_2 := hS0.get 2
                have q0_3 := hS0.get 3
                simp only [List.getElem?_toArray, List.getElem?_cons_zero, List.getElem?_cons_succ] at q0_0 q0_1 q0_2 q0_3
                go_simp
                all_goals with_reducible rfl
              · assumption
              try simp only [Act.put, List.setIfInBounds_toArray, List.set_cons_zero, List.set_cons_succ, List.getElem_toArray, List.getElem_cons_zero, List.getElem_cons_succ]
              refine wpAnyH_take (i := 8) (v := ?_) rfl ?_ ?_ ?_ ?_ ?_ ?_ ?_
              rotate_left
              · kernel_rfl
              · kernel_rfl
              · kernel_rfl
              · exact fun c a w h => HP c _ _ a w h
              · refine Or.inl ⟨by rfl, ?_⟩
                intro wq hSq
                have hS0 : Ob wq (w4.heap.size) 32 #[.int .i64 2, .bool gg, u64 m, .int .i64 z] := hSq
                have q0_0 := hS0.get 0
                have q0_1 := hS0.get 1
                have q0_2 := hS0.get 2
                have q0_3 := hS0.get 3
                simp only [List.getElem?_toArray, List.getElem?_cons_zero, List.getElem?_cons_succ] at q0_0 q0_1 q0_2 q0_3
                go_simp
                all_goals with_reducible rfl
              · assumption
              try simp only [Act.put, List.setIfInBounds_toArray, List.set_cons_zero, List.set_cons_succ, List.getElem_toArray, List.getElem_cons_zero, List.getElem_cons_succ]
              refine wpAnyH_take (i := 9) (v := ?_) rfl ?_ ?_ ?_ ?_ ?_ ?_ ?_
              rotate_left
              · kernel_rfl
              · kernel_rfl
              · kernel_rfl
              · exact fun c a w h => HP c _ _ a w h
              · refine Or.inl ⟨by rfl, ?_⟩
                intro wq hSq
                have hS0 : Ob wq (w4.heap.size) 32 #[.int .i64 2, .bool gg, u64 m, .int .i64 z] := hSq
                have q0_0 := hS0.get 0
                have q0_1 := hS0.get 1
                have q0_2 := hS0.get 2
                have q0_3 := hS0.get 3
                simp only [List.getElem?_toArray, List.getElem?_cons_zero, List.getElem?_cons_succ] at q0_0 q0_1 q0_2 q0_3
                go_simp
                all_goals with_reducible rfl
              · assumption
              try simp only [Act.put, List.setIfInBounds_toArray, List.set_cons_zero, List.set_cons_succ, List.getElem_toArray, List.getElem_cons_zero, List.getElem_cons_succ]
              refine wpAnyH_ready (rs := [10]) ?_ ?_ ?_
              · kernel_rfl
              · simp
              refine AllReadyH.cons rfl (fun KQ hK => ?_) AllReadyH.nil
              go_simp
              refine hK.out _ (Y2.alloc (.cells #[.bool false, .slice none 0 0, .int .i64 0, .int .i64 0] 39)) (V.up (uY2.alloc _)) (fun _ => ?_)
              try simp only [Act.put, List.setIfInBounds_toArray, List.set_cons_zero, List.set_cons_succ, List.getElem_toArray, List.getElem_cons_zero, List.getElem_cons_succ]
              clear hK
              obtain ⟨E3, hE3⟩ : ∃ E3, Y2.alloc (.cells #[.bool false, .slice none 0 0, .int .i64 0, .int .i64 0] 39) = E3 := ⟨_, rfl⟩
              have RF : Ob E3 Y2.heap.size 39 #[.bool false, .slice none 0 0, .int .i64 0, .int .i64 0] := by rw [← hE3]; exact Ob.mk_ _ _ _
              have lRF : V12.heap.size ≤ Y2.heap.size := Up.size uY2
              have aE3 : Up Y2 E3 := by rw [← hE3]; exact (Up.refl _).alloc _
              have uE3 : Up V12 E3 := uY2.trans aE3
              rw [hE3]
              clear hE3
              refine wpAnyH_ready (rs := [11]) ?_ ?_ ?_
              · kernel_rfl
              · simp
              refine AllReadyH.cons rfl (fun KQ hK => ?_) AllReadyH.nil
              rw [if_pos (by rfl)]
              refine wp_store_row 39 (.tmp 18) (.tmp 97) rfl Y2.heap.size #[.bool gg, .slice AF nF0 cF, .int .i64 k1, .int .i64 k1] rfl rfl 39 #[.bool false, .slice none 0 0, .int .i64 0, .int .i64 0] RF (by kernel_rfl) rfl (by simp [Value.oneCell']) ?_
              obtain ⟨WF, hWF⟩ : ∃ WF, E3.setRow Y2.heap.size #[.bool gg, .slice AF nF0 cF, .int .i64 k1, .int .i64 k1] = WF := ⟨_, rfl⟩
              have uF : Up V12 WF := by rw [← hWF]; exact uE3.setRow_ lRF _
              have aF : Up Y2 WF := by rw [← hWF]; exact aE3.setRow_ (Nat.le_refl _) _
              have RG : Ob WF (Y2.heap.size) 39 #[.bool gg, .slice AF nF0 cF, .int .i64 k1, .int .i64 k1] := by rw [← hWF]; exact setRow_heap E3 (Y2.heap.size) _ _ 39 _ RF
              have oF : ∀ b', b' ≠ Y2.heap.size → WF.heap[b']? = E3.heap[b']? := by rw [← hWF]; exact fun b' hne => setRow_other E3 (Y2.heap.size) b' _ hne
              rw [hWF]
              clear hWF
              replace no := no.up aF
              replace na := na.up aF
              replace nf := nf.up aF
              refine hK.out _ _ (V.up uF) (fun _ => ?_)
              simp only [Act.put]
              clear hK
              refine wpAnyH_ready (rs := [12]) ?_ ?_ ?_
              · kernel_rfl
              · simp
              refine AllReadyH.cons rfl (fun KQ hK => ?_) AllReadyH.nil
              go_simp
              refine hK.out _ _ (V.up uF) (fun _ => ?_)
              try simp only [Act.put, List.setIfInBounds_toArray, List.set_cons_zero, List.set_cons_succ, List.getElem_toArray, List.getElem_cons_zero, List.getElem_cons_succ]
              clear hK
              refine wpAnyH_done ?_ (HN _ _ ?_) _
              · kernel_rfl
              go_wp2_with fail
              go_meet
              exact ⟨rfl, _, AF, nF0, cF, rfl, RG, nf.lower (by have := lRF; have := Up.size uD; first | omega | (refine Up.size ?_; assumption)), lRF, uF⟩
            · go_simp
              refine hK.out _ (Y1.alloc (.cells #[.bool false, .slice none 0 0, .int .i64 0, .int .i64 0] 39)) (V.up (uY1.alloc _)) (fun _ => ?_)
              try simp only [Act.put, List.setIfInBounds_toArray, List.set_cons_zero, List.set_cons_succ, List.getElem_toArray, List.getElem_cons_zero, List.getElem_cons_succ]
              clear hK
              obtain ⟨E2, hE2⟩ : ∃ E2, Y1.alloc (.cells #[.bool false, .slice none 0 0, .int .i64 0, .int .i64 0] 39) = E2 := ⟨_, rfl⟩
              have RF : Ob E2 Y1.heap.size 39 #[.bool false, .slice none 0 0, .int .i64 0, .int .i64 0] := by rw [← hE2]; exact Ob.mk_ _ _ _
              have lRF : V12.heap.size ≤ Y1.heap.size := Up.size uY1
              have aE2 : Up Y1 E2 := by rw [← hE2]; exact (Up.refl _).alloc _
              have uE2 : Up V12 E2 := uY1.trans aE2
              rw [hE2]
              clear hE2
              refine wpAnyH_ready (rs := [6]) ?_ ?_ ?_
              · kernel_rfl
              · simp
              refine AllReadyH.cons rfl (fun KQ hK => ?_) AllReadyH.nil
              go_simp
              have lY3 := RF.lt
              refine (CD.out _ _ _ _ _ (na.up aE2) H2.out).mono ?_
              rintro _ Y3 ⟨vf, rfl, nf, vY3⟩
              have uY3 : Up V12 Y3 := uE2.trans vY3
              obtain ⟨AF, nF0, cF, rfl, nf⟩ := nf.sl
              have aY3 := aE2.trans vY3
              replace RF := RF.up vY3
              refine hK.out _ _ (V.up uY3) (fun _ => ?_)
              try simp only [Act.put, List.setIfInBounds_toArray, List.set_cons_zero, List.set_cons_succ, List.getElem_toArray, List.getElem_cons_zero, List.getElem_cons_succ]
              clear hK
              refine wpAnyH_take (i := 7) (v := ?_) rfl ?_ ?_ ?_ ?_ ?_ ?_ ?_
              rotate_left
              · kernel_rfl
              · kernel_rfl
              · kernel_rfl
              · exact fun c a w h => HP c _ _ a w h
              · refine Or.inl ⟨by rfl, ?_⟩
                intro wq hSq
                have hS0 : Ob wq (w4.heap.size) 32 #[.int .i64 2, .bool gg, u64 m, .int .i64 z] := hSq
                have q0_0 := hS0.get 0
                have q0_1 := hS0.get 1
                have q0_2 := hS0.get 2
                have q0_3 := hS0.get 3
                simp only [List.getElem?_toArray, List.getElem?_cons_zero, List.getElem?_cons_succ] at q0_0 q0_1 q0_2 q0_3
                go_simp
                all_goals with_reducible rfl
              · assumption
              try simp only [Act.put, List.setIfInBounds_toArray, List.set_cons_zero, List.set_cons_succ, List.getElem_toArray, List.getElem_cons_zero, List.getElem_cons_succ]
              refine wpAnyH_take (i := 8) (v := ?_) rfl ?_ ?_ ?_ ?_ ?_ ?_ ?_
              rotate_left
              · kernel_rfl
              · kernel_rfl
              · kernel_rfl
              · exact fun c a w h => HP c _ _ a w h
              · refine Or.inl ⟨by rfl, ?_⟩
                intro wq hSq
                have hS0 : Ob wq (w4.heap.size) 32 #[.int .i64 2, .bool gg, u64 m, .int .i64 z] := hSq
                have q0_0 := hS0.get 0
                have q0_1 := hS0.get 1
                have q0_2 := hS0.get 2
                have q0_3 := hS0.get 3
                simp only [List.getElem?_toArray, List.getElem?_cons_zero, List.getElem?_cons_succ] at q0_0 q0_1 q0_2 q0_3
                go_simp
                all_goals with_reducible rfl
              · assumption
              try simp only [Act.put, List.setIfInBounds_toArray, List.set_cons_zero, List.set_cons_succ, List.getElem_toArray, List.getElem_cons_zero, List.getElem_cons_succ]
              refine wpAnyH_take (i := 9) (v := ?_) rfl ?_ ?_ ?_ ?_ ?_ ?_ ?_
              rotate_left
              · kernel_rfl
              · kernel_rfl
              · kernel_rfl
              · exact fun c a w h => HP c _ _ a w h
              · refine Or.inl ⟨by rfl, ?_⟩
                intro wq hSq
                have hS0 : Ob wq (w4.heap.size) 32 #[.int .i64 2, .bool gg, u64 m, .int .i64 z] := hSq
                have q0_0 := hS0.get 0
                have q0_1 := hS0.get 1
                have q0_2 := hS0.get 2
                have q0_3 := hS0.get 3
                simp only [List.getElem?_toArray, List.getElem?_cons_zero, List.getElem?_cons_succ] at q0_0 q0_1 q0_2 q0_3
                go_simp
                all_goals with_reducible rfl
              · assumption
              try simp only [Act.put, List.setIfInBounds_toArray, List.set_cons_zero, List.set_cons_succ, List.getElem_toArray, List.getElem_cons_zero, List.getElem_cons_succ]
              refine wpAnyH_ready (rs := [11]) ?_ ?_ ?_
              · kernel_rfl
              · simp
              refine AllReadyH.cons rfl (fun KQ hK => ?_) AllReadyH.nil
              rw [if_pos (by rfl)]
              refine wp_store_row 39 (.tmp 18) (.tmp 97) rfl Y1.heap.size #[.bool gg, .slice AF nF0 cF, .int .i64 k1, .int .i64 k1] rfl rfl 39 #[.bool false, .slice none 0 0, .int .i64 0, .int .i64 0] RF (by kernel_rfl) rfl (by simp [Value.oneCell']) ?_
              obtain ⟨WF, hWF⟩ : ∃ WF, Y3.setRow Y1.heap.size #[.bool gg, .slice AF nF0 cF, .int .i64 k1, .int .i64 k1] = WF := ⟨_, rfl⟩
              have uF : Up V12 WF := by rw [← hWF]; exact uY3.setRow_ lRF _
              have aF : Up Y1 WF := by rw [← hWF]; exact aY3.setRow_ (Nat.le_refl _) _
              have RG : Ob WF (Y1.heap.size) 39 #[.bool gg, .slice AF nF0 cF, .int .i64 k1, .int .i64 k1] := by rw [← hWF]; exact setRow_heap Y3 (Y1.heap.size) _ _ 39 _ RF
              have oF : ∀ b', b' ≠ Y1.heap.size → WF.heap[b']? = Y3.heap[b']? := by rw [← hWF]; exact fun b' hne => setRow_other Y3 (Y1.heap.size) b' _ hne
              rw [hWF]
              clear hWF
              replace no := no.up aF
              replace na := na.up aF
              replace nf := Nt.other nf oF (by assumption)
              refine hK.out _ _ (V.up uF) (fun _ => ?_)
              simp only [Act.put]
              clear hK
              refine wpAnyH_ready (rs := [12]) ?_ ?_ ?_
              · kernel_rfl
              · simp
              refine AllReadyH.cons rfl (fun KQ hK => ?_) AllReadyH.nil
              go_simp
              refine hK.out _ _ (V.up uF) (fun _ => ?_)
              try simp only [Act.put, List.setIfInBounds_toArray, List.set_cons_zero, List.set_cons_succ, List.getElem_toArray, List.getElem_cons_zero, List.getElem_cons_succ]
              clear hK
              refine wpAnyH_done ?_ (HN _ _ ?_) _
              · kernel_rfl
              go_wp2_with fail
              go_meet
              exact ⟨rfl, _, AF, nF0, cF, rfl, RG, nf.lower (by have := lRF; have := Up.size uD; first | omega | (refine Up.size ?_; assumption)), lRF, uF⟩
          · go_simp
            refine hK.out _ (Y0.alloc (.cells #[.bool false, .slice none 0 0, .int .i64 0, .int .i64 0] 39)) (V.up (uY0.alloc _)) (fun _ => ?_)
            try simp only [Act.put, List.setIfInBounds_toArray, List.set_cons_zero, List.set_cons_succ, List.getElem_toArray, List.getElem_cons_zero, List.getElem_cons_succ]
            clear hK
            obtain ⟨E1, hE1⟩ : ∃ E1, Y0.alloc (.cells #[.bool false, .slice none 0 0, .int .i64 0, .int .i64 0] 39) = E1 := ⟨_, rfl⟩
            have RF : Ob E1 Y0.heap.size 39 #[.bool false, .slice none 0 0, .int .i64 0, .int .i64 0] := by rw [← hE1]; exact Ob.mk_ _ _ _
            have lRF : V12.heap.size ≤ Y0.heap.size := Up.size uY0
            have aE1 : Up Y0 E1 := by rw [← hE1]; exact (Up.refl _).alloc _
            have uE1 : Up V12 E1 := uY0.trans aE1
            rw [hE1]
            clear hE1
            refine wpAnyH_ready (rs := [4]) ?_ ?_ ?_
            · kernel_rfl
            · simp
            refine AllReadyH.cons rfl (fun KQ hK => ?_) AllReadyH.nil
            go_simp
            have lY2 := RF.lt
            refine (CA.out _ _ _ _ _ (NE.up uE1) (no.up aE1)).mono ?_
            rintro _ Y2 ⟨va, rfl, na, vY2⟩
            have uY2 : Up V12 Y2 := uE1.trans vY2
            have aY2 := aE1.trans vY2
            replace RF := RF.up vY2
            refine hK.out _ _ (V.up uY2) (fun _ => ?_)
            try simp only [Act.put, List.setIfInBounds_toArray, List.set_cons_zero, List.set_cons_succ, List.getElem_toArray, List.getElem_cons_zero, List.getElem_cons_succ]
            clear hK
            refine wpAnyH_ready (rs := [6]) ?_ ?_ ?_
            · kernel_rfl
            · simp
            refine AllReadyH.cons rfl (fun KQ hK => ?_) AllReadyH.nil
            go_simp
            have lY3 := RF.lt
            refine (CD.out _ _ _ _ _ na H2.out).mono ?_
            rintro _ Y3 ⟨vf, rfl, nf, vY3⟩
            have uY3 : Up V12 Y3 := uY2.trans vY3
            obtain ⟨AF, nF0, cF, rfl, nf⟩ := nf.sl
            replace na := na.up vY3
            have aY3 := aY2.trans vY3
            replace RF := RF.up vY3
            refine hK.out _ _ (V.up uY3) (fun _ => ?_)
            try simp only [Act.put, List.setIfInBounds_toArray, List.set_cons_zero, List.set_cons_succ, List.getElem_toArray, List.getElem_cons_zero, List.getElem_cons_succ]
            clear hK
            refine wpAnyH_take (i := 7) (v := ?_) rfl ?_ ?_ ?_ ?_ ?_ ?_ ?_
            rotate_left
            · kernel_rfl
            · kernel_rfl
            · kernel_rfl
            · exact fun c a w h => HP c _ _ a w h
            · refine Or.inl ⟨by rfl, ?_⟩
              intro wq hSq
              have hS0 : Ob wq (w4.heap.size) 32 #[.int .i64 2, .bool gg, u64 m, .int .i64 z] := hSq
              have q0_0 := hS0.get 0
              have q0_1 := hS0.get 1
              have q0_2 := hS0.get 2
              have q0_3 := hS0.get 3
              simp only [List.getElem?_toArray, List.getElem?_cons_zero, List.getElem?_cons_succ] at q0_0 q0_1 q0_2 q0_3
              go_simp
              all_goals with_reducible rfl
            · assumption
            try simp only [Act.put, List.setIfInBounds_toArray, List.set_cons_zero, List.set_cons_succ, List.getElem_toArray, List.getElem_cons_zero, List.getElem_cons_succ]
            refine wpAnyH_take (i := 8) (v := ?_) rfl ?_ ?_ ?_ ?_ ?_ ?_ ?_
            rotate_left
            · kernel_rfl
            · kernel_rfl
            · kernel_rfl
            · exact fun c a w h => HP c _ _ a w h
            · refine Or.inl ⟨by rfl, ?_⟩
              intro wq hSq
              have hS0 : Ob wq (w4.heap.size) 32 #[.int .i64 2, .bool gg, u64 m, .int .i64 z] := hSq
              have q0_0 := hS0.get 0
              have q0_1 := hS0.get 1
              have q0_2 := hS0.get 2
              have q0_3 := hS0.get 3
              simp only [List.getElem?_toArray, List.getElem?_cons_zero, List.getElem?_cons_succ] at q0_0 q0_1 q0_2 q0_3
              go_simp
              all_goals with_reducible rfl
            · assumption
            try simp only [Act.put, List.setIfInBounds_toArray, List.set_cons_zero, List.set_cons_succ, List.getElem_toArray, List.getElem_cons_zero, List.getElem_cons_succ]
            refine wpAnyH_take (i := 9) (v := ?_) rfl ?_ ?_ ?_ ?_ ?_ ?_ ?_
            rotate_left
            · kernel_rfl
            · kernel_rfl
            · kernel_rfl
            · exact fun c a w h => HP c _ _ a w h
            · refine Or.inl ⟨by rfl, ?_⟩
              intro wq hSq
              have hS0 : Ob wq (w4.heap.size) 32 #[.int .i64 2, .bool gg, u64 m, .int .i64 z] := hSq
              have q0_0 := hS0.get 0
              have q0_1 := hS0.get 1
              have q0_2 := hS0.get 2
              have q0_3 := hS0.get 3
              simp only [List.getElem?_toArray, List.getElem?_cons_zero, List.getElem?_cons_succ] at q0_0 q0_1 q0_2 q0_3
              go_simp
              all_goals with_reducible rfl
            · assumption
            try simp only [Act.put, List.setIfInBounds_toArray, List.set_cons_zero, List.set_cons_succ, List.getElem_toArray, List.getElem_cons_zero, List.getElem_cons_succ]
            refine wpAnyH_ready (rs := [11]) ?_ ?_ ?_
            · kernel_rfl
            · simp
            refine AllReadyH.cons rfl (fun KQ hK => ?_) AllReadyH.nil
            rw [if_pos (by rfl)]
            refine wp_store_row 39 (.tmp 18) (.tmp 97) rfl Y0.heap.size #[.bool gg, .slice AF nF0 cF, .int .i64 k1, .int .i64 k1] rfl rfl 39 #[.bool false, .slice none 0 0, .int .i64 0, .int .i64 0] RF (by kernel_rfl) rfl (by simp [Value.oneCell']) ?_
            obtain ⟨WF, hWF⟩ : ∃ WF, Y3.setRow Y0.heap.size #[.bool gg, .slice AF nF0 cF, .int .i64 k1, .int .i64 k1] = WF := ⟨_, rfl⟩
            have uF : Up V12 WF := by rw [← hWF]; exact uY3.setRow_ lRF _
            have aF : Up Y0 WF := by rw [← hWF]; exact aY3.setRow_ (Nat.le_refl _) _
            have RG : Ob WF (Y0.heap.size) 39 #[.bool gg, .slice AF nF0 cF, .int .i64 k1, .int .i64 k1] := by rw [← hWF]; exact setRow_heap Y3 (Y0.heap.size) _ _ 39 _ RF
            have oF : ∀ b', b' ≠ Y0.heap.size → WF.heap[b']? = Y3.heap[b']? := by rw [← hWF]; exact fun b' hne => setRow_other Y3 (Y0.heap.size) b' _ hne
            rw [hWF]
            clear hWF
            replace no := no.up aF
            replace na := Nt.other na oF (by assumption)
            replace nf := Nt.other nf oF (by assumption)
            refine hK.out _ _ (V.up uF) (fun _ => ?_)
            simp only [Act.put]
            clear hK
            refine wpAnyH_ready (rs := [12]) ?_ ?_ ?_
            · kernel_rfl
            · simp
            refine AllReadyH.cons rfl (fun KQ hK => ?_) AllReadyH.nil
            go_simp
            refine hK.out _ _ (V.up uF) (fun _ => ?_)
            try simp only [Act.put, List.setIfInBounds_toArray, List.set_cons_zero, List.set_cons_succ, List.getElem_toArray, List.getElem_cons_zero, List.getElem_cons_succ]
            clear hK
            refine wpAnyH_done ?_ (HN _ _ ?_) _
            · kernel_rfl
            go_wp2_with fail
            go_meet
            exact ⟨rfl, _, AF, nF0, cF, rfl, RG, nf.lower (by have := lRF; have := Up.size uD; first | omega | (refine Up.size ?_; assumption)), lRF, uF⟩
        · go_simp
          refine hK.out _ (V12.drew.alloc (.cells #[.bool false, .slice none 0 0, .int .i64 0, .int .i64 0] 39)) (V.up (uD.alloc _)) (fun _ => ?_)
          try simp only [Act.put, List.setIfInBounds_toArray, List.set_cons_zero, List.set_cons_succ, List.getElem_toArray, List.getElem_cons_zero, List.getElem_cons_succ]
          clear hK
          obtain ⟨E0, hE0⟩ : ∃ E0, V12.drew.alloc (.cells #[.bool false, .slice none 0 0, .int .i64 0, .int .i64 0] 39) = E0 := ⟨_, rfl⟩
          have RF : Ob E0 V12.drew.heap.size 39 #[.bool false, .slice none 0 0, .int .i64 0, .int .i64 0] := by rw [← hE0]; exact Ob.mk_ _ _ _
          have lRF : V12.heap.size ≤ V12.drew.heap.size := Up.size uD
          have aE0 : Up V12.drew E0 := by rw [← hE0]; exact (Up.refl _).alloc _
          have uE0 : Up V12 E0 := uD.trans aE0
          rw [hE0]
          clear hE0
          refine wpAnyH_ready (rs := [3]) ?_ ?_ ?_
          · kernel_rfl
          · simp
          refine AllReadyH.cons rfl (fun KQ hK => ?_) AllReadyH.nil
          go_simp
          have lY1 := RF.lt
          refine (CO.out _).mono ?_
          rintro _ Y1 ⟨vo, rfl, no, vY1⟩
          have uY1 : Up V12 Y1 := uE0.trans vY1
          have aY1 := aE0.trans vY1
          replace RF := RF.up vY1
          refine hK.out _ _ (V.up uY1) (fun _ => ?_)
          try simp only [Act.put, List.setIfInBounds_toArray, List.set_cons_zero, List.set_cons_succ, List.getElem_toArray, List.getElem_cons_zero, List.getElem_cons_succ]
          clear hK
          refine wpAnyH_ready (rs := [4]) ?_ ?_ ?_
          · kernel_rfl
          · simp
          refine AllReadyH.cons rfl (fun KQ hK => ?_) AllReadyH.nil
          go_simp
          have lY2 := RF.lt
          refine (CA.out _ _ _ _ _ (NE.up uY1) no).mono ?_
          rintro _ Y2 ⟨va, rfl, na, vY2⟩
          have uY2 : Up V12 Y2 := uY1.trans vY2
          replace no := no.up vY2
          have aY2 := aY1.trans vY2
          replace RF := RF.up vY2
          refine hK.out _ _ (V.up uY2) (fun _ => ?_)
          try simp only [Act.put, List.setIfInBounds_toArray, List.set_cons_zero, List.set_cons_succ, List.getElem_toArray, List.getElem_cons_zero, List.getElem_cons_succ]
          clear hK
          refine wpAnyH_ready (rs := [6]) ?_ ?_ ?_
          · kernel_rfl
          · simp
          refine AllReadyH.cons rfl (fun KQ hK => ?_) AllReadyH.nil
          go_simp
          have lY3 := RF.lt
          refine (CD.out _ _ _ _ _ na H2.out).mono ?_
          rintro _ Y3 ⟨vf, rfl, nf, vY3⟩
          have uY3 : Up V12 Y3 := uY2.trans vY3
          obtain ⟨AF, nF0, cF, rfl, nf⟩ := nf.sl
          replace no := no.up vY3
          replace na := na.up vY3
          have aY3 := aY2.trans vY3
          replace RF := RF.up vY3
          refine hK.out _ _ (V.up uY3) (fun _ => ?_)
          try simp only [Act.put, List.setIfInBounds_toArray, List.set_cons_zero, List.set_cons_succ, List.getElem_toArray, List.getElem_cons_zero, List.getElem_cons_succ]
          clear hK
          refine wpAnyH_take (i := 7) (v := ?_) rfl ?_ ?_ ?_ ?_ ?_ ?_ ?_
          rotate_left
          · kernel_rfl
          · kernel_rfl
          · kernel_rfl
          · exact fun c a w h => HP c _ _ a w h
          · refine Or.inl ⟨by rfl, ?_⟩
            intro wq hSq
            have hS0 : Ob wq (w4.heap.size) 32 #[.int .i64 2, .bool gg, u64 m, .int .i64 z] := hSq
            have q0_0 := hS0.get 0
            have q0_1 := hS0.get 1
            have q0_2 := hS0.get 2
            have q0_3 := hS0.get 3
            simp only [List.getElem?_toArray, List.getElem?_cons_zero, List.getElem?_cons_succ] at q0_0 q0_1 q0_2 q0_3
            go_simp
            all_goals with_reducible rfl
          · assumption
          try simp only [Act.put, List.setIfInBounds_toArray, List.set_cons_zero, List.set_cons_succ, List.getElem_toArray, List.getElem_cons_zero, List.getElem_cons_succ]
          refine wpAnyH_take (i := 8) (v := ?_) rfl ?_ ?_ ?_ ?_ ?_ ?_ ?_
          rotate_left
          · kernel_rfl
          · kernel_rfl
          · kernel_rfl
          · exact fun c a w h => HP c _ _ a w h
          · refine Or.inl ⟨by rfl, ?_⟩
            intro wq hSq
            have hS0 : Ob wq (w4.heap.size) 32 #[.int .i64 2, .bool gg, u64 m, .int .i64 z] := hSq
            have q0_0 := hS0.get 0
            have q0_1 := hS0.get 1
            have q0_2 := hS0.get 2
            have q0_3 := hS0.get 3
            simp only [List.getElem?_toArray, List.getElem?_cons_zero, List.getElem?_cons_succ] at q0_0 q0_1 q0_2 q0_3
            go_simp
            all_goals with_reducible rfl
          · assumption
          try simp only [Act.put, List.setIfInBounds_toArray, List.set_cons_zero, List.set_cons_succ, List.getElem_toArray, List.getElem_cons_zero, List.getElem_cons_succ]
          refine wpAnyH_take (i := 9) (v := ?_) rfl ?_ ?_ ?_ ?_ ?_ ?_ ?_
          rotate_left
          · kernel_rfl
          · kernel_rfl
          · kernel_rfl
          · exact fun c a w h => HP c _ _ a w h
          · refine Or.inl ⟨by rfl, ?_⟩
            intro wq hSq
            have hS0 : Ob wq (w4.heap.size) 32 #[.int .i64 2, .bool gg, u64 m, .int .i64 z] := hSq
            have q0_0 := hS0.get 0
            have q0_1 := hS0.get 1
            have q0_2 := hS0.get 2
            have q0_3 := hS0.get 3
            simp only [List.getElem?_toArray, List.getElem?_cons_zero, List.getElem?_cons_succ] at q0_0 q0_1 q0_2 q0_3
            go_simp
            all_goals with_reducible rfl
          · assumption
          try simp only [Act.put, List.setIfInBounds_toArray, List.set_cons_zero, List.set_cons_succ, List.getElem_toArray, List.getElem_cons_zero, List.getElem_cons_succ]
          refine wpAnyH_ready (rs := [11]) ?_ ?_ ?_
          · kernel_rfl
          · simp
          refine AllReadyH.cons rfl (fun KQ hK => ?_) AllReadyH.nil
          rw [if_pos (by rfl)]
          refine wp_store_row 39 (.tmp 18) (.tmp 97) rfl V12.drew.heap.size #[.bool gg, .slice AF nF0 cF, .int .i64 k1, .int .i64 k1] rfl rfl 39 #[.bool false, .slice none 0 0, .int .i64 0, .int .i64 0] RF (by kernel_rfl) rfl (by simp [Value.oneCell']) ?_
          obtain ⟨WF, hWF⟩ : ∃ WF, Y3.setRow V12.drew.heap.size #[.bool gg, .slice AF nF0 cF, .int .i64 k1, .int .i64 k1] = WF := ⟨_, rfl⟩
          have uF : Up V12 WF := by rw [← hWF]; exact uY3.setRow_ lRF _
          have aF : Up V12.drew WF := by rw [← hWF]; exact aY3.setRow_ (Nat.le_refl _) _
          have RG : Ob WF (V12.drew.heap.size) 39 #[.bool gg, .slice AF nF0 cF, .int .i64 k1, .int .i64 k1] := by rw [← hWF]; exact setRow_heap Y3 (V12.drew.heap.size) _ _ 39 _ RF
          have oF : ∀ b', b' ≠ V12.drew.heap.size → WF.heap[b']? = Y3.heap[b']? := by rw [← hWF]; exact fun b' hne => setRow_other Y3 (V12.drew.heap.size) b' _ hne
          rw [hWF]
          clear hWF
          replace no := Nt.other no oF (by assumption)
          replace na := Nt.other na oF (by assumption)
          replace nf := Nt.other nf oF (by assumption)
          refine hK.out _ _ (V.up uF) (fun _ => ?_)
          simp only [Act.put]
          clear hK
          refine wpAnyH_ready (rs := [12]) ?_ ?_ ?_
          · kernel_rfl
          · simp
          refine AllReadyH.cons rfl (fun KQ hK => ?_) AllReadyH.nil
          go_simp
          refine hK.out _ _ (V.up uF) (fun _ => ?_)
          try simp only [Act.put, List.setIfInBounds_toArray, List.set_cons_zero, List.set_cons_succ, List.getElem_toArray, List.getElem_cons_zero, List.getElem_cons_succ]
          clear hK
          refine wpAnyH_done ?_ (HN _ _ ?_) _
          · kernel_rfl
          go_wp2_with fail
          go_meet
          exact ⟨rfl, _, AF, nF0, cF, rfl, RG, nf.lower (by have := lRF; have := Up.size uD; first | omega | (refine Up.size ?_; assumption)), lRF, uF⟩
      case rest =>
        obtain ⟨rfl, gF, AF, nF0, cF, rfl, F, nf, lF, uc⟩ := hcut
        replace U := U.trans uc
        replace V := V.up uc
        replace BX := BX.up uc
        replace BL := BL.up uc
        replace NX := NX.up uc
        replace NE := NE.up uc
        replace NL := NL.up uc
        clear uc
        have BL0 := BL.get 0
        have BL1 := BL.get 1
        have BL2 := BL.get 2
        have BL3 := BL.get 3
        have BLf0 := BL.fr 0
        have BLf1 := BL.fr 1
        have BLf2 := BL.fr 2
        have BLf3 := BL.fr 3
        have BLl := BL.lt
        simp only [List.getElem?_toArray, List.getElem?_cons_zero, List.getElem?_cons_succ] at BL0 BL1 BL2 BL3
        go_wp2_with fail
        clear BL0 BLf0 BL1 BLf1 BL2 BLf2 BL3 BLf3 BLl
        refine (CR1.out _ (L.out.up U) _ _ NL).mono ?_
        rintro _ w13 ⟨rfl, h13⟩
        replace U := U.trans h13
        replace V := V.up h13
        replace BX := BX.up h13
        replace BL := BL.up h13
        replace F := F.up h13
        replace NX := NX.up h13
        replace NE := NE.up h13
        replace NL := NL.up h13
        replace nf := nf.up h13
        clear h13
        clear CR1
        have F0 := F.get 0
        have F1 := F.get 1
        have F2 := F.get 2
        have F3 := F.get 3
        have Ff0 := F.fr 0
        have Ff1 := F.fr 1
        have Ff2 := F.fr 2
        have Ff3 := F.fr 3
        have Fl := F.lt
        simp only [List.getElem?_toArray, List.getElem?_cons_zero, List.getElem?_cons_succ] at F0 F1 F2 F3
        go_wp2_with fail
        clear F0 Ff0 F1 Ff1 F2 Ff2 F3 Ff3 Fl
        refine (CR2.out _ (L.out.up U) _ _ nf).mono ?_
        rintro _ w14 ⟨rfl, h14⟩
        replace U := U.trans h14
        replace V := V.up h14
        replace BX := BX.up h14
        replace BL := BL.up h14
        replace F := F.up h14
        replace NX := NX.up h14
        replace NE := NE.up h14
        replace NL := NL.up h14
        replace nf := nf.up h14
        clear h14
        clear CR2
        go_wp2_with fail
        go_ret
        exact ⟨rfl, U⟩
end Go.Proofs.YtpbdiolfdpfmdaaGreatDoor
