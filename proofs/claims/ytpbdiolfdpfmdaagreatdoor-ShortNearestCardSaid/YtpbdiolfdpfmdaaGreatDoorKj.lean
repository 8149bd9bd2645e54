/-
  The walk of ShortNearest: true, and nothing that was there has turned.
-/
import Derived.Test.YtpbdiolfdpfmdaaGreatDoorKg
import Derived.OwnWalk
import Derived.Deep.RegionHeld3
import Derived.Deep.DrawnRows
import Derived.Deep.DeepCutAuto
namespace Go.Proofs.YtpbdiolfdpfmdaaGreatDoor
open Go.RowKit
set_option linter.unusedSimpArgs false
set_option linter.unusedVariables false

namespace M
theorem mid_sz (D O : Nat) {K : Int} (hK : -4999 ≤ K) : 2 * sz ((D + O) * 5) (K - 1) (K - 1) = sz D K K + sz O K K := by
  have e := sz_pow 1 (K - 1) (by omega)
  rw [show K - 1 + ((1 : Nat) : Int) = K by omega] at e
  rw [sz_one ((D + O) * 5), sz_one D, sz_one O, e]
  generalize sz 1 (K - 1) (K - 1) = u
  rw [Nat.pow_one, Nat.mul_assoc (D + O) 5 u, Nat.add_mul, Nat.mul_left_comm D 5, Nat.mul_left_comm O 5, Nat.mul_left_comm D 10, Nat.mul_left_comm O 10]
  generalize D * u = a
  generalize O * u = b
  omega
theorem rv_none {f : Fm} (ok : Ok f) (ok2 : Ok2 f) (ok3 : Ok3 f) {mode : Int} {neg : Bool} {p : Int} (h : Rv f mode neg 0 p) : cls f p ≠ 2 := by
  intro hc
  obtain ⟨a4, q, k, o, hq, hn, ho, hp, hk, hqt⟩ := rv_key ok ok2 ok3 h (.inr hc)
  have k4 : f.k ≠ 4 := fun e => a4 ⟨e, .inr rfl⟩
  obtain ⟨rfl, _⟩ := nr_uniq ok ok2 ok3 hqt hn nr_zero
  obtain ⟨_, _, _, a2⟩ := pat_key ok ok2 ok3 (neg := neg) (k := 0) (fun e => k4 e.1) (by omega)
  have := a2 ⟨rfl, k4⟩
  rw [hp] at hc
  omega
/-- A number beside the digits that has the pattern is no nearer. -/
theorem sq_near {f : Fm} (ok : Ok f) (ok2 : Ok2 f) (ok3 : Ok3 f) {p : Nat} {g : Bool} {m : Nat} {z : Int} {m1 : Nat} {z1 : Int} {m2 : Nat} {z2 : Int} {ev : Bool} {t : Int} {n : Nat} {k : Int} {d : Nat} {r : Int} {y D : Nat} {K : Int} (h : Sq f p g m z m1 z1 m2 z2 ev t n k d r y D K)
    {O : Nat} (up : Bool) (hO : (up = true ∧ O = D + 1) ∨ (up = false ∧ D = O + 1)) (hr : Rv f 2 g (sz O K K) p) :
    (up = true → sz m z 0 ≤ sz ((D + O) * 5) (K - 1) (K - 1)) ∧ (up = false → sz ((D + O) * 5) (K - 1) (K - 1) ≤ sz m z 0) := by
  obtain ⟨c2, _⟩ := pt_key ok ok2 h.pt.fit h.pt.dv
  have hK := h.dg.lo
  have e := mid_sz D O (K := K) (by omega)
  have O0 : O ≠ 0 := by
    intro e0
    subst e0
    have : sz 0 K K = 0 := sz_zero.2 rfl
    rw [this] at hr
    exact rv_none ok ok2 ok3 hr c2
  have hi := (in_rv ok ok2 ok3 h.pt (fun q => O0 (sz_zero.1 q))).2 hr
  have ho := in_own ok ok2 ok3 h.pt
  rcases hO with ⟨rfl, rfl⟩ | ⟨rfl, hO⟩
  · refine ⟨fun _ => ?_, fun e => (by cases e)⟩
    have := near_up (I := In m1 z1 m2 z2 ev) (fun a b c d => in_conv a b c d) ho h.tp h.sh h.dg h.small hi
    omega
  · refine ⟨fun e => (by cases e), fun _ => ?_⟩
    have := near_down (I := In m1 z1 m2 z2 ev) (fun a b c d => in_conv a b c d) ho h.tp h.sh h.dg h.small hO hi
    omega
end M
set_option maxHeartbeats 16000000 in
set_option maxRecDepth 100000 in
theorem snear_down (w : World) (L : Hid (Lk w)) (x0 : Int) (_wx0 : (Lit.int .i64 x0).wf = true) (x1 : Int) (_wx1 : (Lit.int .u64 x1).wf = true)  : Calls Tryz.prog 7 #[.int .i64 x0, .int .u64 x1, .bool false] w (True11 w) := by
  obtain ⟨p, rfl, pb⟩ := wf_u64 _wx1
  obtain ⟨gg, D, K, x, hs⟩ := M.shc_ex x0 p
  have CH := Lib.hid (fun W (l : Lk W) => shown11_any W (Lib.hid l.low) (Lib.hid l.form) (Lib.hid l.ten))
  have SC := Lib.hid (fun W (l : Lk W) => short_any W (Lib.hid l.low) (Lib.hid l.form) (Lib.hid l.ten) x0 p pb gg D K x hs)
  rcases hs with ⟨x00, _, rfl, rfl, rfl⟩ | ⟨rfl, i, rfl, i1, i2, m, z, m1, z1, m2, z2, ev, t, n, k, d, r, y, hq⟩
  ·
    have d1 : (x != 0) = true := by simpa using x00
    clear x00
    have U := Up.refl w
    go_enter Tryz.func7, Tryz.ntmps7
    go_wp2_with fail
    refine (CH.out _ (L.out.up U)).mono ?_
    rintro _ w1 ⟨rfl, h1⟩
    replace U := U.trans h1
    clear h1
    clear CH
    go_wp2_with fail
    refine (SC.out _ (L.out.up U)).mono ?_
    rintro _ w2 ⟨vS, rfl, NS, h2⟩
    replace U := U.trans h2
    clear h2
    clear SC
    obtain ⟨AS, nS, cS, rfl, NS⟩ := NS.sl
    clear NS
    go_wp2_with fail
    go_ret
    exact ⟨rfl, by first | exact U | exact U.alloc _⟩
  ·
    have ok := M.ok i i1 i2
    have ok2 := M.ok2 i i1 i2
    have ok3 := M.ok3 i i1 i2
    obtain ⟨m0, mb, zb⟩ := M.pt_rng ok ok2 ok3 hq.pt.fit hq.pt.dv
    have D1 : 1 ≤ D := by have := hq.dg.ten; omega
    have Db : D < 1000000000000000000000 := by
      have a := hq.small
      have b : (10 : Nat) ^ n ≤ 10 ^ 21 := Nat.pow_le_pow_right (by decide) hq.sh.n21
      have e3 : (10 : Nat) ^ 21 = 1000000000000000000000 := by decide
      omega
    have c128 := M.c_128
    have DF := Lib.hid (show D < 18446744073709551616 ^ 2 by omega)
    have Klo := hq.dg.lo
    have Khi := hq.dg.hi
    obtain ⟨O, hO⟩ : ∃ O, D = O + 1 := ⟨D - 1, by omega⟩
    have Ob1 : O ≤ 1000000000000000000000 := by omega
    have hO1 : O < 18446744073709551616 ^ 128 := by omega
    have hM1 : (D + O) * 5 < 18446744073709551616 ^ 128 := by omega
    obtain ⟨q, hqr⟩ := M.rv_ex ok ok2 ok3 2 gg (M.sz O K K)
    have pwK : M.pw K := M.dgs_pw hq.dg
    have pwK1 : M.pw (K - 1) := by unfold M.pw; omega
    have near : q = (p : Int) → M.sz ((D + O) * 5) (K - 1) (K - 1) ≤ M.sz m z 0 := fun e => (M.sq_near ok ok2 ok3 hq false (.inr ⟨rfl, hO⟩) (e ▸ hqr)).2 rfl
    have CV := Lib.hid (fun W (l : Lk W) => vdecode_any W (Lib.hid l.low) (Lib.hid l.form) (i : Int) p pb 2 gg m z 0 (.inr ⟨i, rfl, i1, i2, .inr ⟨hq.pt.fit, hq.pt.dv, rfl⟩⟩))
    have CX := Lib.hid (fun W => xof_fin W false m z mb (M.pw_of zb))
    have CO : Hid (∀ W : World, Calls Tryz.prog 26 #[.int .u64 1] W (Res 1 1 W)) := Lib.hid (fun W => of_any W 1 (by omega))
    have CO5 : Hid (∀ W : World, Calls Tryz.prog 26 #[.int .u64 5] W (Res 1 5 W)) := Lib.hid (fun W => of_any W 5 (by omega))
    have CB := Lib.hid (fun W lo1 lo2 v1 v2 (N1 : Nt W lo1 2 v1 D) (N2 : Nt W lo2 1 v2 1) => sub_ok W lo1 lo2 2 1 v1 v2 D 1 N1.nw N2.nw D1)
    have CA := Lib.hid (fun W lo1 lo2 v1 v2 (N1 : Nt W lo1 2 v1 D) (N2 : Nt W lo2 1 v2 1) => add_of W lo1 lo2 2 1 2 v1 v2 D 1 N1.nw N2.nw (by omega) (by omega) (by omega))
    have CA2 := Lib.hid (fun W lo1 lo2 v1 v2 (N1 : Nt W lo1 2 v1 D) (N2 : Nt W lo2 3 v2 O) => add_of W lo1 lo2 2 3 3 v1 v2 D O N1.nw N2.nw (by omega) (by omega) (by omega))
    have CM := Lib.hid (fun W lo1 lo2 v1 v2 (N1 : Nt W lo1 4 v1 (D + O)) (N2 : Nt W lo2 1 v2 5) => mul_any W lo1 lo2 4 1 v1 v2 (D + O) 5 N1.nw N2.nw (by omega) (by omega))
    have CD := Lib.hid (fun W lo' v' (N : Nt W lo' 3 v' O) => dec_yes W lo' 3 gg v' O K N.nw hO1 pwK)
    have CD5 := Lib.hid (fun W lo' v' (N : Nt W lo' 5 v' ((D + O) * 5)) => dec_yes W lo' 5 false v' ((D + O) * 5) (K - 1) N.nw hM1 pwK1)
    have CR := Lib.hid (fun W (l : Lk W) lo' v' (N : Nt W lo' 3 v' O) => rnd_round W (Lib.hid l.low) (Lib.hid l.form) (i : Int) 2 lo' 3 gg v' K K O N (by omega) pwK pwK hO1 q 0 (.inr ⟨i, rfl, i1, i2, .inr ⟨.inr rfl, hqr, rfl⟩⟩))
    have CC := Lib.hid (fun W lo1 lo2 v1 v2 (N1 : Nt W lo1 1 v1 m) (N2 : Nt W lo2 5 v2 ((D + O) * 5)) (c : Int) (hc : Hid (M.cmp (M.sz m z 0) (M.sz ((D + O) * 5) (K - 1) (K - 1)) = c)) => xcmp_ov (-5000) (by omega) W lo1 lo2 1 5 false false v1 v2 z 0 (K - 1) (K - 1) m ((D + O) * 5) N1.nw N2.nw (by omega) (by omega) (by omega) (by omega) (by have := pwK1; unfold M.pw at this; omega) (by have := pwK1; unfold M.pw at this; omega) c hc.out)
    have wK : IntKind.i64.wrap (K - 1) = K - 1 := by simp [IntKind.wrap, IntKind.bits, IntKind.signed]; omega
    have pK1 := Lib.hid pwK1
    have NR := Lib.hid near
    have HO := Lib.hid hO
    clear hq ok ok2 ok3 m0 mb zb D1 Db Klo Khi hO Ob1 hO1 hM1 hqr pwK pwK1 near i1 i2 pb c128
    have HO2 : Hid (D - 1 = O) := by have := HO.out; show _ = _; omega
    clear HO
    have U := Up.refl w
    go_enter Tryz.func7, Tryz.ntmps7
    go_wp2_with fail
    refine (CH.out _ (L.out.up U)).mono ?_
    rintro _ w1 ⟨rfl, h1⟩
    replace U := U.trans h1
    clear h1
    clear CH
    go_wp2_with fail
    refine (SC.out _ (L.out.up U)).mono ?_
    rintro _ w2 ⟨vS, rfl, NS, h2⟩
    replace U := U.trans h2
    clear h2
    clear SC
    replace NS := NS.fit DF.out
    obtain ⟨AS, nS, cS, rfl, NS⟩ := NS.sl
    go_upto_region 3 with fail
    obtain ⟨V3, hV3⟩ : ∃ V3, w2.alloc (.cells #[.bool gg, .slice AS nS cS, .int .i64 K] 27) = V3 := ⟨_, rfl⟩
    have BS : Ob V3 (w2.heap.size) 27 #[.bool gg, .slice AS nS cS, .int .i64 K] := by rw [← hV3]; exact Ob.mk_ _ _ _
    have sV3 : V3.heap.size = w2.heap.size + 1 := by rw [← hV3]; exact (Array.size_push _)
    have uV3 : Up w2 V3 := by rw [← hV3]; exact (Up.refl _).alloc _
    have ltBS : w.heap.size ≤ w2.heap.size := by have := U.size; omega
    rw [hV3]
    clear hV3
    replace U := U.trans uV3
    replace NS := NS.up uV3
    clear uV3
    clear sV3
    have glBS := BS.lt
    go_wp2_with fail
    refine (CV.out _ (L.out.up U)).mono ?_
    rintro _ w4 ⟨rfl, h4⟩
    replace U := U.trans h4
    replace BS := BS.up h4
    replace NS := NS.up h4
    clear h4
    clear CV
    go_upto_region 6 with fail
    have gVBS := BS.lt
    obtain ⟨V5, hV5⟩ : ∃ V5, w4.alloc (.cells #[.int .i64 2, .bool gg, u64 m, .int .i64 z] 32) = V5 := ⟨_, rfl⟩
    have V : Ob V5 (w4.heap.size) 32 #[.int .i64 2, .bool gg, u64 m, .int .i64 z] := by rw [← hV5]; exact Ob.mk_ _ _ _
    have sV5 : V5.heap.size = w4.heap.size + 1 := by rw [← hV5]; exact (Array.size_push _)
    have uV5 : Up w4 V5 := by rw [← hV5]; exact (Up.refl _).alloc _
    have ltV : w.heap.size ≤ w4.heap.size := by have := U.size; omega
    rw [hV5]
    clear hV5
    replace U := U.trans uV5
    replace BS := BS.up uV5
    replace NS := NS.up uV5
    clear uV5
    clear sV5
    have glV := V.lt
    have V0 := V.get 0
    have V1 := V.get 1
    have V2 := V.get 2
    have V3 := V.get 3
    have Vf0 := V.fr 0
    have Vf1 := V.fr 1
    have Vf2 := V.fr 2
    have Vf3 := V.fr 3
    have Vl := V.lt
    simp only [List.getElem?_toArray, List.getElem?_cons_zero, List.getElem?_cons_succ] at V0 V1 V2 V3
    go_wp2_with fail
    clear V0 Vf0 V1 Vf1 V2 Vf2 V3 Vf3 Vl
    refine (CX.out _).mono ?_
    rintro _ w6 ⟨vX, rfl, NX, h6⟩
    replace U := U.trans h6
    replace BS := BS.up h6
    replace V := V.up h6
    replace NS := NS.up h6
    clear h6
    clear CX
    obtain ⟨AX, nX, cX, rfl, NX⟩ := NX.sl
    go_upto_region 7 with fail
    have gBXBS := BS.lt
    have gBXV := V.lt
    obtain ⟨V7, hV7⟩ : ∃ V7, w6.alloc (.cells #[.bool false, .slice AX nX cX, .int .i64 z, .int .i64 0] 39) = V7 := ⟨_, rfl⟩
    have BX : Ob V7 (w6.heap.size) 39 #[.bool false, .slice AX nX cX, .int .i64 z, .int .i64 0] := by rw [← hV7]; exact Ob.mk_ _ _ _
    have sV7 : V7.heap.size = w6.heap.size + 1 := by rw [← hV7]; exact (Array.size_push _)
    have uV7 : Up w6 V7 := by rw [← hV7]; exact (Up.refl _).alloc _
    have ltBX : w.heap.size ≤ w6.heap.size := by have := U.size; omega
    rw [hV7]
    clear hV7
    replace U := U.trans uV7
    replace BS := BS.up uV7
    replace V := V.up uV7
    replace NS := NS.up uV7
    replace NX := NX.up uV7
    clear uV7
    clear sV7
    have glBX := BX.lt
    have BS0 := BS.get 0
    have BS1 := BS.get 1
    have BS2 := BS.get 2
    have BSf0 := BS.fr 0
    have BSf1 := BS.fr 1
    have BSf2 := BS.fr 2
    have BSl := BS.lt
    simp only [List.getElem?_toArray, List.getElem?_cons_zero, List.getElem?_cons_succ] at BS0 BS1 BS2
    go_region_held3 (fun w' => w'.cell? ⟨w2.heap.size, 0, none⟩ = some (.bool gg) ∧ w'.cell? ⟨w2.heap.size, 1, none⟩ = some (.slice AS nS cS) ∧ w'.cell? ⟨w2.heap.size, 2, none⟩ = some (.int .i64 K)) (go_keep) (first
      | (go_at_call 26; (with_reducible refine (CO.out _).mono ?_); rintro _ wO ⟨vo, rfl, no, v_wO⟩; have u_wO : Up V7 wO := Up.trans (by first | with_reducible assumption | exact (Up.refl _).drewN 1 | exact Up.refl _) v_wO; have wO_BS0 := cell_up u_wO BS0; have wO_BS1 := cell_up u_wO BS1; have wO_BS2 := cell_up u_wO BS2)
      | (go_at_call 29; (with_reducible refine (CB.out _ _ _ _ _ (NS.up (by first | exact u_wO | exact u_wO.drewN 1)) (by first | exact no | exact no.up ((Up.refl _).drewN 1))).mono ?_); rintro _ wB ⟨vo1, rfl, no1, v_wB⟩; have u_wB : Up V7 wB := Up.trans (by first | exact u_wO | exact u_wO.drewN 1) v_wB; have wB_BS0 := cell_up u_wB BS0; have wB_BS1 := cell_up u_wB BS1; have wB_BS2 := cell_up u_wB BS2))
    clear no CB wO_BS0 wO_BS1 wO_BS2 wB_BS0 wB_BS1 wB_BS2
    clear BS0 BSf0 BS1 BSf1 BS2 BSf2 BSl
    obtain ⟨Ao, nno, co, rfl, no1⟩ := no1.sl
    clear v_wO u_wO v_wB
    replace U := U.trans u_wB
    replace BS := BS.up u_wB
    replace V := V.up u_wB
    replace BX := BX.up u_wB
    replace NS := NS.up u_wB
    replace NX := NX.up u_wB
    clear u_wB
    have NO := no1.more (s' := 3) (by omega)
    rw [HO2.out] at NO
    clear no1 CO CA
    have V0 := V.get 0
    have V1 := V.get 1
    have V2 := V.get 2
    have V3 := V.get 3
    have Vf0 := V.fr 0
    have Vf1 := V.fr 1
    have Vf2 := V.fr 2
    have Vf3 := V.fr 3
    have Vl := V.lt
    simp only [List.getElem?_toArray, List.getElem?_cons_zero, List.getElem?_cons_succ] at V0 V1 V2 V3
    have BS0 := BS.get 0
    have BS1 := BS.get 1
    have BS2 := BS.get 2
    have BSf0 := BS.fr 0
    have BSf1 := BS.fr 1
    have BSf2 := BS.fr 2
    have BSl := BS.lt
    simp only [List.getElem?_toArray, List.getElem?_cons_zero, List.getElem?_cons_succ] at BS0 BS1 BS2
    go_wp2_with fail
    clear V0 Vf0 V1 Vf1 V2 Vf2 V3 Vf3 Vl
    clear BS0 BSf0 BS1 BSf1 BS2 BSf2 BSl
    refine (CD.out _ _ _ NO).mono ?_
    rintro _ w8 ⟨vY, rfl, NY, h8⟩
    replace U := U.trans h8
    replace BS := BS.up h8
    replace V := V.up h8
    replace BX := BX.up h8
    replace NS := NS.up h8
    replace NX := NX.up h8
    replace NO := NO.up h8
    clear h8
    clear CD
    obtain ⟨AY, nY, cY, rfl, NY⟩ := NY.sl
    go_upto_region 14 with fail
    have gBYBS := BS.lt
    have gBYV := V.lt
    have gBYBX := BX.lt
    obtain ⟨V9, hV9⟩ : ∃ V9, w8.alloc (.cells #[.bool gg, .slice AY nY cY, .int .i64 K, .int .i64 K] 39) = V9 := ⟨_, rfl⟩
    have BY : Ob V9 (w8.heap.size) 39 #[.bool gg, .slice AY nY cY, .int .i64 K, .int .i64 K] := by rw [← hV9]; exact Ob.mk_ _ _ _
    have sV9 : V9.heap.size = w8.heap.size + 1 := by rw [← hV9]; exact (Array.size_push _)
    have uV9 : Up w8 V9 := by rw [← hV9]; exact (Up.refl _).alloc _
    have ltBY : w.heap.size ≤ w8.heap.size := by have := U.size; omega
    rw [hV9]
    clear hV9
    replace U := U.trans uV9
    replace BS := BS.up uV9
    replace V := V.up uV9
    replace BX := BX.up uV9
    replace NS := NS.up uV9
    replace NX := NX.up uV9
    replace NO := NO.up uV9
    replace NY := NY.up uV9
    clear uV9
    clear sV9
    have glBY := BY.lt
    have BY0 := BY.get 0
    have BY1 := BY.get 1
    have BY2 := BY.get 2
    have BY3 := BY.get 3
    have BYf0 := BY.fr 0
    have BYf1 := BY.fr 1
    have BYf2 := BY.fr 2
    have BYf3 := BY.fr 3
    have BYl := BY.lt
    simp only [List.getElem?_toArray, List.getElem?_cons_zero, List.getElem?_cons_succ] at BY0 BY1 BY2 BY3
    go_wp2_with fail
    clear BY0 BYf0 BY1 BYf1 BY2 BYf2 BY3 BYf3 BYl
    refine (CR.out _ (L.out.up U) _ _ NY).mono ?_
    rintro _ w10 ⟨rfl, h10⟩
    replace U := U.trans h10
    replace BS := BS.up h10
    replace V := V.up h10
    replace BX := BX.up h10
    replace BY := BY.up h10
    replace NS := NS.up h10
    replace NX := NX.up h10
    replace NO := NO.up h10
    replace NY := NY.up h10
    clear h10
    clear CR NY BY
    by_cases hqp : q = (p : Int)
    ·
      have nr := NR.out hqp
      clear NR
      have q1 : (q != (p : Int)) = false := by simpa using hqp
      clear hqp
      obtain ⟨c, hc⟩ : ∃ c, M.cmp (M.sz m z 0) (M.sz ((D + O) * 5) (K - 1) (K - 1)) = c := ⟨_, rfl⟩
      have cc : 0 ≤ c := by
        obtain ⟨z', hz, h0, _⟩ := M.cmp_ge nr
        rw [← hc, hz]
        exact h0
      have cd : decide (c ≥ 0) = true := decide_eq_true cc
      have cd2 : decide (0 ≤ c) = true := decide_eq_true cc
      have HC := Lib.hid hc
      clear hc cc nr
      go_upto_region 19 with fail
      go_cut [20, 21] (fun s20 s21 wx => s21 = .bool true ∧ ∃ gF AM nM0 cM, s20 = .pointer (some ⟨gF, 0, none⟩) ∧ Ob wx gF 39 #[.bool false, .slice AM nM0 cM, .int .i64 (K - 1), .int .i64 (K - 1)] ∧ Nt wx w10.heap.size 5 (.slice AM nM0 cM) ((D + O) * 5) ∧ w10.heap.size ≤ gF ∧ Up w10 wx)
      case first =>
        have uD : Up w10 w10.drew := (Up.refl _).drew
        refine wp_region_held_drew (S := fun w' => Ob w' (w2.heap.size) 27 #[.bool gg, .slice AS nS cS, .int .i64 K]) (by kernel_rfl) (BS.up uD) (fun hHeld => ?_)
        refine wpAnyH_name (fun _ _ _ _ _ h => h) (fun Q0 HP HN => ?_)
        refine wpAnyH_take (i := 0) (v := ?_) rfl ?_ ?_ ?_ ?_ ?_ ?_ ?_
        rotate_left
        · kernel_rfl
        · kernel_rfl
        · kernel_rfl
        · exact fun c a w h => HP c _ _ a w h
        · refine Or.inl ⟨by rfl, ?_⟩
          intro wq hSq
          have hS0 : Ob wq (w2.heap.size) 27 #[.bool gg, .slice AS nS cS, .int .i64 K] := hSq
          have q0_0 := hS0.get 0
          have q0_1 := hS0.get 1
          have q0_2 := hS0.get 2
          simp only [List.getElem?_toArray, List.getElem?_cons_zero, List.getElem?_cons_succ] at q0_0 q0_1 q0_2
          go_simp
          all_goals with_reducible rfl
        · assumption
        try simp only [Act.put, List.setIfInBounds_toArray, List.set_cons_zero, List.set_cons_succ, List.getElem_toArray, List.getElem_cons_zero, List.getElem_cons_succ]
        refine wpAnyH_take (i := 1) (v := ?_) rfl ?_ ?_ ?_ ?_ ?_ ?_ ?_
        rotate_left
        · kernel_rfl
        · kernel_rfl
        · kernel_rfl
        · exact fun c a w h => HP c _ _ a w h
        · refine Or.inl ⟨by rfl, ?_⟩
          intro wq hSq
          have hS0 : Ob wq (w2.heap.size) 27 #[.bool gg, .slice AS nS cS, .int .i64 K] := hSq
          have q0_0 := hS0.get 0
          have q0_1 := hS0.get 1
          have q0_2 := hS0.get 2
          simp only [List.getElem?_toArray, List.getElem?_cons_zero, List.getElem?_cons_succ] at q0_0 q0_1 q0_2
          go_simp
          all_goals with_reducible rfl
        · assumption
        try simp only [Act.put, List.setIfInBounds_toArray, List.set_cons_zero, List.set_cons_succ, List.getElem_toArray, List.getElem_cons_zero, List.getElem_cons_succ]
        refine wpAnyH_take (i := 2) (v := ?_) rfl ?_ ?_ ?_ ?_ ?_ ?_ ?_
        rotate_left
        · kernel_rfl
        · kernel_rfl
        · kernel_rfl
        · exact fun c a w h => HP c _ _ a w h
        · refine Or.inl ⟨by rfl, ?_⟩
          intro wq hSq
          have hS0 : Ob wq (w2.heap.size) 27 #[.bool gg, .slice AS nS cS, .int .i64 K] := hSq
          have q0_0 := hS0.get 0
          have q0_1 := hS0.get 1
          have q0_2 := hS0.get 2
          simp only [List.getElem?_toArray, List.getElem?_cons_zero, List.getElem?_cons_succ] at q0_0 q0_1 q0_2
          go_simp
          all_goals with_reducible rfl
        · assumption
        try simp only [Act.put, List.setIfInBounds_toArray, List.set_cons_zero, List.set_cons_succ, List.getElem_toArray, List.getElem_cons_zero, List.getElem_cons_succ]
        refine wpAnyH_take (i := 6) (v := ?_) rfl ?_ ?_ ?_ ?_ ?_ ?_ ?_
        rotate_left
        · kernel_rfl
        · kernel_rfl
        · kernel_rfl
        · exact fun c a w h => HP c _ _ a w h
        · refine Or.inl ⟨by rfl, ?_⟩
          intro wq hSq
          have hS0 : Ob wq (w2.heap.size) 27 #[.bool gg, .slice AS nS cS, .int .i64 K] := hSq
          have q0_0 := hS0.get 0
          have q0_1 := hS0.get 1
          have q0_2 := hS0.get 2
          simp only [List.getElem?_toArray, List.getElem?_cons_zero, List.getElem?_cons_succ] at q0_0 q0_1 q0_2
          go_simp
          all_goals with_reducible rfl
        · assumption
        try simp only [Act.put, List.setIfInBounds_toArray, List.set_cons_zero, List.set_cons_succ, List.getElem_toArray, List.getElem_cons_zero, List.getElem_cons_succ]
        refine wpAnyH_take (i := 7) (v := ?_) rfl ?_ ?_ ?_ ?_ ?_ ?_ ?_
        rotate_left
        · kernel_rfl
        · kernel_rfl
        · kernel_rfl
        · exact fun c a w h => HP c _ _ a w h
        · refine Or.inl ⟨by rfl, ?_⟩
          intro wq hSq
          have hS0 : Ob wq (w2.heap.size) 27 #[.bool gg, .slice AS nS cS, .int .i64 K] := hSq
          have q0_0 := hS0.get 0
          have q0_1 := hS0.get 1
          have q0_2 := hS0.get 2
          simp only [List.getElem?_toArray, List.getElem?_cons_zero, List.getElem?_cons_succ] at q0_0 q0_1 q0_2
          go_simp
          all_goals with_reducible rfl
        · assumption
        try simp only [Act.put, List.setIfInBounds_toArray, List.set_cons_zero, List.set_cons_succ, List.getElem_toArray, List.getElem_cons_zero, List.getElem_cons_succ]
        refine wpAnyH_take (i := 8) (v := ?_) rfl ?_ ?_ ?_ ?_ ?_ ?_ ?_
        rotate_left
        · kernel_rfl
        · kernel_rfl
        · kernel_rfl
        · exact fun c a w h => HP c _ _ a w h
        · refine Or.inl ⟨by rfl, ?_⟩
          intro wq hSq
          have hS0 : Ob wq (w2.heap.size) 27 #[.bool gg, .slice AS nS cS, .int .i64 K] := hSq
          have q0_0 := hS0.get 0
          have q0_1 := hS0.get 1
          have q0_2 := hS0.get 2
          simp only [List.getElem?_toArray, List.getElem?_cons_zero, List.getElem?_cons_succ] at q0_0 q0_1 q0_2
          go_simp
          all_goals with_reducible rfl
        · assumption
        try simp only [Act.put, List.setIfInBounds_toArray, List.set_cons_zero, List.set_cons_succ, List.getElem_toArray, List.getElem_cons_zero, List.getElem_cons_succ]
        refine wpAnyH_ready (rs := [3, 13]) ?_ ?_ ?_
        · kernel_rfl
        · simp
        refine AllReadyH.cons rfl (fun KQ hK => ?_) (AllReadyH.cons rfl (fun KQ hK => ?_) AllReadyH.nil)
        · go_simp
          refine (CA2.out _ _ _ _ _ (NS.up uD) (NO.up uD)).mono ?_
          rintro _ Y0 ⟨va, rfl, na, vY0⟩
          have uY0 : Up w10 Y0 := uD.trans vY0
          refine hK.out _ _ (BS.up uY0) (fun _ => ?_)
          try simp only [Act.put, List.setIfInBounds_toArray, List.set_cons_zero, List.set_cons_succ, List.getElem_toArray, List.getElem_cons_zero, List.getElem_cons_succ]
          clear hK
          refine wpAnyH_ready (rs := [4, 13]) ?_ ?_ ?_
          · kernel_rfl
          · simp
          refine AllReadyH.cons rfl (fun KQ hK => ?_) (AllReadyH.cons rfl (fun KQ hK => ?_) AllReadyH.nil)
          · go_simp
            refine (CO5.out _).mono ?_
            rintro _ Y1 ⟨vo, rfl, no, vY1⟩
            have uY1 : Up w10 Y1 := uY0.trans vY1
            replace na := na.up vY1
            refine hK.out _ _ (BS.up uY1) (fun _ => ?_)
            try simp only [Act.put, List.setIfInBounds_toArray, List.set_cons_zero, List.set_cons_succ, List.getElem_toArray, List.getElem_cons_zero, List.getElem_cons_succ]
            clear hK
            refine wpAnyH_ready (rs := [5, 13]) ?_ ?_ ?_
            · kernel_rfl
            · simp
            refine AllReadyH.cons rfl (fun KQ hK => ?_) (AllReadyH.cons rfl (fun KQ hK => ?_) AllReadyH.nil)
            · go_simp
              refine (CM.out _ _ _ _ _ na no).mono ?_
              rintro _ Y2 ⟨vm, rfl, nm, vY2⟩
              have uY2 : Up w10 Y2 := uY1.trans vY2
              replace na := na.up vY2
              replace no := no.up vY2
              refine hK.out _ _ (BS.up uY2) (fun _ => ?_)
              try simp only [Act.put, List.setIfInBounds_toArray, List.set_cons_zero, List.set_cons_succ, List.getElem_toArray, List.getElem_cons_zero, List.getElem_cons_succ]
              clear hK
              refine wpAnyH_ready (rs := [9, 13]) ?_ ?_ ?_
              · kernel_rfl
              · simp
              refine AllReadyH.cons rfl (fun KQ hK => ?_) (AllReadyH.cons rfl (fun KQ hK => ?_) AllReadyH.nil)
              · go_simp
                refine (CD5.out _ _ _ nm).mono ?_
                rintro _ Y3 ⟨vf, rfl, nf, vY3⟩
                have uY3 : Up w10 Y3 := uY2.trans vY3
                obtain ⟨AM, nM0, cM, rfl, nf⟩ := nf.sl
                replace na := na.up vY3
                replace no := no.up vY3
                replace nm := nm.up vY3
                refine hK.out _ _ (BS.up uY3) (fun _ => ?_)
                try simp only [Act.put, List.setIfInBounds_toArray, List.set_cons_zero, List.set_cons_succ, List.getElem_toArray, List.getElem_cons_zero, List.getElem_cons_succ]
                clear hK
                refine wpAnyH_take (i := 10) (v := ?_) rfl ?_ ?_ ?_ ?_ ?_ ?_ ?_
                rotate_left
                · kernel_rfl
                · kernel_rfl
                · kernel_rfl
                · exact fun c a w h => HP c _ _ a w h
                · refine Or.inl ⟨by rfl, ?_⟩
                  intro wq hSq
                  have hS0 : Ob wq (w2.heap.size) 27 #[.bool gg, .slice AS nS cS, .int .i64 K] := hSq
                  have q0_0 := hS0.get 0
                  have q0_1 := hS0.get 1
                  have q0_2 := hS0.get 2
                  simp only [List.getElem?_toArray, List.getElem?_cons_zero, List.getElem?_cons_succ] at q0_0 q0_1 q0_2
                  go_simp
                  all_goals with_reducible rfl
                · assumption
                try simp only [Act.put, List.setIfInBounds_toArray, List.set_cons_zero, List.set_cons_succ, List.getElem_toArray, List.getElem_cons_zero, List.getElem_cons_succ]
                refine wpAnyH_take (i := 11) (v := ?_) rfl ?_ ?_ ?_ ?_ ?_ ?_ ?_
                rotate_left
                · kernel_rfl
                · kernel_rfl
                · kernel_rfl
                · exact fun c a w h => HP c _ _ a w h
                · refine Or.inl ⟨by rfl, ?_⟩
                  intro wq hSq
                  have hS0 : Ob wq (w2.heap.size) 27 #[.bool gg, .slice AS nS cS, .int .i64 K] := hSq
                  have q0_0 := hS0.get 0
                  have q0_1 := hS0.get 1
                  have q0_2 := hS0.get 2
                  simp only [List.getElem?_toArray, List.getElem?_cons_zero, List.getElem?_cons_succ] at q0_0 q0_1 q0_2
                  go_simp
                  all_goals with_reducible rfl
                · assumption
                try simp only [Act.put, List.setIfInBounds_toArray, List.set_cons_zero, List.set_cons_succ, List.getElem_toArray, List.getElem_cons_zero, List.getElem_cons_succ]
                refine wpAnyH_take (i := 12) (v := ?_) rfl ?_ ?_ ?_ ?_ ?_ ?_ ?_
                rotate_left
                · kernel_rfl
                · kernel_rfl
                · kernel_rfl
                · exact fun c a w h => HP c _ _ a w h
                · refine Or.inl ⟨by rfl, ?_⟩
                  intro wq hSq
                  have hS0 : Ob wq (w2.heap.size) 27 #[.bool gg, .slice AS nS cS, .int .i64 K] := hSq
                  have q0_0 := hS0.get 0
                  have q0_1 := hS0.get 1
                  have q0_2 := hS0.get 2
                  simp only [List.getElem?_toArray, List.getElem?_cons_zero, List.getElem?_cons_succ] at q0_0 q0_1 q0_2
                  go_simp
                  all_goals with_reducible rfl
                · assumption
                try simp only [Act.put, List.setIfInBounds_toArray, List.set_cons_zero, List.set_cons_succ, List.getElem_toArray, List.getElem_cons_zero, List.getElem_cons_succ]
                refine wpAnyH_ready (rs := [13]) ?_ ?_ ?_
                · kernel_rfl
                · simp
                refine AllReadyH.cons rfl (fun KQ hK => ?_) AllReadyH.nil
                go_simp
                refine hK.out _ (Y3.alloc (.cells #[.bool false, .slice none 0 0, .int .i64 0, .int .i64 0] 39)) (BS.up (uY3.alloc _)) (fun _ => ?_)
                try simp only [Act.put, List.setIfInBounds_toArray, List.set_cons_zero, List.set_cons_succ, List.getElem_toArray, List.getElem_cons_zero, List.getElem_cons_succ]
                clear hK
                obtain ⟨E4, hE4⟩ : ∃ E4, Y3.alloc (.cells #[.bool false, .slice none 0 0, .int .i64 0, .int .i64 0] 39) = E4 := ⟨_, rfl⟩
                have RF : Ob E4 Y3.heap.size 39 #[.bool false, .slice none 0 0, .int .i64 0, .int .i64 0] := by rw [← hE4]; exact Ob.mk_ _ _ _
                have lRF : w10.heap.size ≤ Y3.heap.size := Up.size uY3
                have aE4 : Up Y3 E4 := by rw [← hE4]; exact (Up.refl _).alloc _
                have uE4 : Up w10 E4 := uY3.trans aE4
                rw [hE4]
                clear hE4
                refine wpAnyH_ready (rs := [14]) ?_ ?_ ?_
                · kernel_rfl
                · simp
                refine AllReadyH.cons rfl (fun KQ hK => ?_) AllReadyH.nil
                rw [if_pos (by rfl)]
                refine wp_store_row 39 (.tmp 20) (.tmp 106) rfl Y3.heap.size #[.bool false, .slice AM nM0 cM, .int .i64 (K - 1), .int .i64 (K - 1)] rfl rfl 39 #[.bool false, .slice none 0 0, .int .i64 0, .int .i64 0] RF (by kernel_rfl) rfl (by simp [Value.oneCell']) ?_
                obtain ⟨WF, hWF⟩ : ∃ WF, E4.setRow Y3.heap.size #[.bool false, .slice AM nM0 cM, .int .i64 (K - 1), .int .i64 (K - 1)] = WF := ⟨_, rfl⟩
                have uF : Up w10 WF := by rw [← hWF]; exact uE4.setRow_ lRF _
                have aF : Up Y3 WF := by rw [← hWF]; exact aE4.setRow_ (Nat.le_refl _) _
                have RG : Ob WF (Y3.heap.size) 39 #[.bool false, .slice AM nM0 cM, .int .i64 (K - 1), .int .i64 (K - 1)] := by rw [← hWF]; exact setRow_heap E4 (Y3.heap.size) _ _ 39 _ RF
                have oF : ∀ b', b' ≠ Y3.heap.size → WF.heap[b']? = E4.heap[b']? := by rw [← hWF]; exact fun b' hne => setRow_other E4 (Y3.heap.size) b' _ hne
                rw [hWF]
                clear hWF
                replace na := na.up aF
                replace no := no.up aF
                replace nm := nm.up aF
                replace nf := nf.up aF
                refine hK.out _ _ (BS.up uF) (fun _ => ?_)
                simp only [Act.put]
                clear hK
                refine wpAnyH_ready (rs := [15]) ?_ ?_ ?_
                · kernel_rfl
                · simp
                refine AllReadyH.cons rfl (fun KQ hK => ?_) AllReadyH.nil
                go_simp
                refine hK.out _ _ (BS.up uF) (fun _ => ?_)
                try simp only [Act.put, List.setIfInBounds_toArray, List.set_cons_zero, List.set_cons_succ, List.getElem_toArray, List.getElem_cons_zero, List.getElem_cons_succ]
                clear hK
                refine wpAnyH_done ?_ (HN _ _ ?_) _
                · kernel_rfl
                go_wp2_with fail
                go_meet
                exact ⟨rfl, _, AM, nM0, cM, rfl, RG, nf.lower (by have := lRF; have := Up.size uD; first | omega | (refine Up.size ?_; assumption)), lRF, uF⟩
              · go_simp
                refine hK.out _ (Y2.alloc (.cells #[.bool false, .slice none 0 0, .int .i64 0, .int .i64 0] 39)) (BS.up (uY2.alloc _)) (fun _ => ?_)
                try simp only [Act.put, List.setIfInBounds_toArray, List.set_cons_zero, List.set_cons_succ, List.getElem_toArray, List.getElem_cons_zero, List.getElem_cons_succ]
                clear hK
                obtain ⟨E3, hE3⟩ : ∃ E3, Y2.alloc (.cells #[.bool false, .slice none 0 0, .int .i64 0, .int .i64 0] 39) = E3 := ⟨_, rfl⟩
                have RF : Ob E3 Y2.heap.size 39 #[.bool false, .slice none 0 0, .int .i64 0, .int .i64 0] := by rw [← hE3]; exact Ob.mk_ _ _ _
                have lRF : w10.heap.size ≤ Y2.heap.size := Up.size uY2
                have aE3 : Up Y2 E3 := by rw [← hE3]; exact (Up.refl _).alloc _
                have uE3 : Up w10 E3 := uY2.trans aE3
                rw [hE3]
                clear hE3
                refine wpAnyH_ready (rs := [9]) ?_ ?_ ?_
                · kernel_rfl
                · simp
                refine AllReadyH.cons rfl (fun KQ hK => ?_) AllReadyH.nil
                go_simp
                have lY4 := RF.lt
                refine (CD5.out _ _ _ (nm.up aE3)).mono ?_
                rintro _ Y4 ⟨vf, rfl, nf, vY4⟩
                have uY4 : Up w10 Y4 := uE3.trans vY4
                obtain ⟨AM, nM0, cM, rfl, nf⟩ := nf.sl
                have aY4 := aE3.trans vY4
                replace RF := RF.up vY4
                refine hK.out _ _ (BS.up uY4) (fun _ => ?_)
                try simp only [Act.put, List.setIfInBounds_toArray, List.set_cons_zero, List.set_cons_succ, List.getElem_toArray, List.getElem_cons_zero, List.getElem_cons_succ]
                clear hK
                refine wpAnyH_take (i := 10) (v := ?_) rfl ?_ ?_ ?_ ?_ ?_ ?_ ?_
                rotate_left
                · kernel_rfl
                · kernel_rfl
                · kernel_rfl
                · exact fun c a w h => HP c _ _ a w h
                · refine Or.inl ⟨by rfl, ?_⟩
                  intro wq hSq
                  have hS0 : Ob wq (w2.heap.size) 27 #[.bool gg, .slice AS nS cS, .int .i64 K] := hSq
                  have q0_0 := hS0.get 0
                  have q0_1 := hS0.get 1
                  have q0_2 := hS0.get 2
                  simp only [List.getElem?_toArray, List.getElem?_cons_zero, List.getElem?_cons_succ] at q0_0 q0_1 q0_2
                  go_simp
                  all_goals with_reducible rfl
                · assumption
                try simp only [Act.put, List.setIfInBounds_toArray, List.set_cons_zero, List.set_cons_succ, List.getElem_toArray, List.getElem_cons_zero, List.getElem_cons_succ]
                refine wpAnyH_take (i := 11) (v := ?_) rfl ?_ ?_ ?_ ?_ ?_ ?_ ?_
                rotate_left
                · kernel_rfl
                · kernel_rfl
                · kernel_rfl
                · exact fun c a w h => HP c _ _ a w h
                · refine Or.inl ⟨by rfl, ?_⟩
                  intro wq hSq
                  have hS0 : Ob wq (w2.heap.size) 27 #[.bool gg, .slice AS nS cS, .int .i64 K] := hSq
                  have q0_0 := hS0.get 0
                  have q0_1 := hS0.get 1
                  have q0_2 := hS0.get 2
                  simp only [List.getElem?_toArray, List.getElem?_cons_zero, List.getElem?_cons_succ] at q0_0 q0_1 q0_2
                  go_simp
                  all_goals with_reducible rfl
                · assumption
                try simp only [Act.put, List.setIfInBounds_toArray, List.set_cons_zero, List.set_cons_succ, List.getElem_toArray, List.getElem_cons_zero, List.getElem_cons_succ]
                refine wpAnyH_take (i := 12) (v := ?_) rfl ?_ ?_ ?_ ?_ ?_ ?_ ?_
                rotate_left
                · kernel_rfl
                · kernel_rfl
                · kernel_rfl
                · exact fun c a w h => HP c _ _ a w h
                · refine Or.inl ⟨by rfl, ?_⟩
                  intro wq hSq
                  have hS0 : Ob wq (w2.heap.size) 27 #[.bool gg, .slice AS nS cS, .int .i64 K] := hSq
                  have q0_0 := hS0.get 0
                  have q0_1 := hS0.get 1
                  have q0_2 := hS0.get 2
                  simp only [List.getElem?_toArray, List.getElem?_cons_zero, List.getElem?_cons_succ] at q0_0 q0_1 q0_2
                  go_simp
                  all_goals with_reducible rfl
                · assumption
                try simp only [Act.put, List.setIfInBounds_toArray, List.set_cons_zero, List.set_cons_succ, List.getElem_toArray, List.getElem_cons_zero, List.getElem_cons_succ]
                refine wpAnyH_ready (rs := [14]) ?_ ?_ ?_
                · kernel_rfl
                · simp
                refine AllReadyH.cons rfl (fun KQ hK => ?_) AllReadyH.nil
                rw [if_pos (by rfl)]
                refine wp_store_row 39 (.tmp 20) (.tmp 106) rfl Y2.heap.size #[.bool false, .slice AM nM0 cM, .int .i64 (K - 1), .int .i64 (K - 1)] rfl rfl 39 #[.bool false, .slice none 0 0, .int .i64 0, .int .i64 0] RF (by kernel_rfl) rfl (by simp [Value.oneCell']) ?_
                obtain ⟨WF, hWF⟩ : ∃ WF, Y4.setRow Y2.heap.size #[.bool false, .slice AM nM0 cM, .int .i64 (K - 1), .int .i64 (K - 1)] = WF := ⟨_, rfl⟩
                have uF : Up w10 WF := by rw [← hWF]; exact uY4.setRow_ lRF _
                have aF : Up Y2 WF := by rw [← hWF]; exact aY4.setRow_ (Nat.le_refl _) _
                have RG : Ob WF (Y2.heap.size) 39 #[.bool false, .slice AM nM0 cM, .int .i64 (K - 1), .int .i64 (K - 1)] := by rw [← hWF]; exact setRow_heap Y4 (Y2.heap.size) _ _ 39 _ RF
                have oF : ∀ b', b' ≠ Y2.heap.size → WF.heap[b']? = Y4.heap[b']? := by rw [← hWF]; exact fun b' hne => setRow_other Y4 (Y2.heap.size) b' _ hne
                rw [hWF]
                clear hWF
                replace na := na.up aF
                replace no := no.up aF
                replace nm := nm.up aF
                replace nf := Nt.other nf oF (by assumption)
                refine hK.out _ _ (BS.up uF) (fun _ => ?_)
                simp only [Act.put]
                clear hK
                refine wpAnyH_ready (rs := [15]) ?_ ?_ ?_
                · kernel_rfl
                · simp
                refine AllReadyH.cons rfl (fun KQ hK => ?_) AllReadyH.nil
                go_simp
                refine hK.out _ _ (BS.up uF) (fun _ => ?_)
                try simp only [Act.put, List.setIfInBounds_toArray, List.set_cons_zero, List.set_cons_succ, List.getElem_toArray, List.getElem_cons_zero, List.getElem_cons_succ]
                clear hK
                refine wpAnyH_done ?_ (HN _ _ ?_) _
                · kernel_rfl
                go_wp2_with fail
                go_meet
                exact ⟨rfl, _, AM, nM0, cM, rfl, RG, nf.lower (by have := lRF; have := Up.size uD; first | omega | (refine Up.size ?_; assumption)), lRF, uF⟩
            · go_simp
              refine hK.out _ (Y1.alloc (.cells #[.bool false, .slice none 0 0, .int .i64 0, .int .i64 0] 39)) (BS.up (uY1.alloc _)) (fun _ => ?_)
              try simp only [Act.put, List.setIfInBounds_toArray, List.set_cons_zero, List.set_cons_succ, List.getElem_toArray, List.getElem_cons_zero, List.getElem_cons_succ]
              clear hK
              obtain ⟨E2, hE2⟩ : ∃ E2, Y1.alloc (.cells #[.bool false, .slice none 0 0, .int .i64 0, .int .i64 0] 39) = E2 := ⟨_, rfl⟩
              have RF : Ob E2 Y1.heap.size 39 #[.bool false, .slice none 0 0, .int .i64 0, .int .i64 0] := by rw [← hE2]; exact Ob.mk_ _ _ _
              have lRF : w10.heap.size ≤ Y1.heap.size := Up.size uY1
              have aE2 : Up Y1 E2 := by rw [← hE2]; exact (Up.refl _).alloc _
              have uE2 : Up w10 E2 := uY1.trans aE2
              rw [hE2]
              clear hE2
              refine wpAnyH_ready (rs := [5]) ?_ ?_ ?_
              · kernel_rfl
              · simp
              refine AllReadyH.cons rfl (fun KQ hK => ?_) AllReadyH.nil
              go_simp
              have lY3 := RF.lt
              refine (CM.out _ _ _ _ _ (na.up aE2) (no.up aE2)).mono ?_
              rintro _ Y3 ⟨vm, rfl, nm, vY3⟩
              have uY3 : Up w10 Y3 := uE2.trans vY3
              have aY3 := aE2.trans vY3
              replace RF := RF.up vY3
              refine hK.out _ _ (BS.up uY3) (fun _ => ?_)
              try simp only [Act.put, List.setIfInBounds_toArray, List.set_cons_zero, List.set_cons_succ, List.getElem_toArray, List.getElem_cons_zero, List.getElem_cons_succ]
              clear hK
              refine wpAnyH_ready (rs := [9]) ?_ ?_ ?_
              · kernel_rfl
              · simp
              refine AllReadyH.cons rfl (fun KQ hK => ?_) AllReadyH.nil
              go_simp
              have lY4 := RF.lt
              refine (CD5.out _ _ _ nm).mono ?_
              rintro _ Y4 ⟨vf, rfl, nf, vY4⟩
              have uY4 : Up w10 Y4 := uY3.trans vY4
              obtain ⟨AM, nM0, cM, rfl, nf⟩ := nf.sl
              replace nm := nm.up vY4
              have aY4 := aY3.trans vY4
              replace RF := RF.up vY4
              refine hK.out _ _ (BS.up uY4) (fun _ => ?_)
              try simp only [Act.put, List.setIfInBounds_toArray, List.set_cons_zero, List.set_cons_succ, List.getElem_toArray, List.getElem_cons_zero, List.getElem_cons_succ]
              clear hK
              refine wpAnyH_take (i := 10) (v := ?_) rfl ?_ ?_ ?_ ?_ ?_ ?_ ?_
              rotate_left
              · kernel_rfl
              · kernel_rfl
              · kernel_rfl
              · exact fun c a w h => HP c _ _ a w h
              · refine Or.inl ⟨by rfl, ?_⟩
                intro wq hSq
                have hS0 : Ob wq (w2.heap.size) 27 #[.bool gg, .slice AS nS cS, .int .i64 K] := hSq
                have q0_0 := hS0.get 0
                have q0_1 := hS0.get 1
                have q0_2 := hS0.get 2
                simp only [List.getElem?_toArray, List.getElem?_cons_zero, List.getElem?_cons_succ] at q0_0 q0_1 q0_2
                go_simp
                all_goals with_reducible rfl
              · assumption
              try simp only [Act.put, List.setIfInBounds_toArray, List.set_cons_zero, List.set_cons_succ, List.getElem_toArray, List.getElem_cons_zero, List.getElem_cons_succ]
              refine wpAnyH_take (i := 11) (v := ?_) rfl ?_ ?_ ?_ ?_ ?_ ?_ ?_
              rotate_left
              · kernel_rfl
              · kernel_rfl
              · kernel_rfl
              · exact fun c a w h => HP c _ _ a w h
              · refine Or.inl ⟨by rfl, ?_⟩
                intro wq hSq
                have hS0 : Ob wq (w2.heap.size) 27 #[.bool gg, .slice AS nS cS, .int .i64 K] := hSq
                have q0_0 := hS0.get 0
                have q0_1 := hS0.get 1
                have q0_2 := hS0.get 2
                simp only [List.getElem?_toArray, List.getElem?_cons_zero, List.getElem?_cons_succ] at q0_0 q0_1 q0_2
                go_simp
                all_goals with_reducible rfl
              · assumption
              try simp only [Act.put, List.setIfInBounds_toArray, List.set_cons_zero, List.set_cons_succ, List.getElem_toArray, List.getElem_cons_zero, List.getElem_cons_succ]
              refine wpAnyH_take (i := 12) (v := ?_) rfl ?_ ?_ ?_ ?_ ?_ ?_ ?_
              rotate_left
              · kernel_rfl
              · kernel_rfl
              · kernel_rfl
              · exact fun c a w h => HP c _ _ a w h
              · refine Or.inl ⟨by rfl, ?_⟩
                intro wq hSq
                have hS0 : Ob wq (w2.heap.size) 27 #[.bool gg, .slice AS nS cS, .int .i64 K] := hSq
                have q0_0 := hS0.get 0
                have q0_1 := hS0.get 1
                have q0_2 := hS0.get 2
                simp only [List.getElem?_toArray, List.getElem?_cons_zero, List.getElem?_cons_succ] at q0_0 q0_1 q0_2
                go_simp
                all_goals with_reducible rfl
              · assumption
              try simp only [Act.put, List.setIfInBounds_toArray, List.set_cons_zero, List.set_cons_succ, List.getElem_toArray, List.getElem_cons_zero, List.getElem_cons_succ]
              refine wpAnyH_ready (rs := [14]) ?_ ?_ ?_
              · kernel_rfl
              · simp
              refine AllReadyH.cons rfl (fun KQ hK => ?_) AllReadyH.nil
              rw [if_pos (by rfl)]
              refine wp_store_row 39 (.tmp 20) (.tmp 106) rfl Y1.heap.size #[.bool false, .slice AM nM0 cM, .int .i64 (K - 1), .int .i64 (K - 1)] rfl rfl 39 #[.bool false, .slice none 0 0, .int .i64 0, .int .i64 0] RF (by kernel_rfl) rfl (by simp [Value.oneCell']) ?_
              obtain ⟨WF, hWF⟩ : ∃ WF, Y4.setRow Y1.heap.size #[.bool false, .slice AM nM0 cM, .int .i64 (K - 1), .int .i64 (K - 1)] = WF := ⟨_, rfl⟩
              have uF : Up w10 WF := by rw [← hWF]; exact uY4.setRow_ lRF _
              have aF : Up Y1 WF := by rw [← hWF]; exact aY4.setRow_ (Nat.le_refl _) _
              have RG : Ob WF (Y1.heap.size) 39 #[.bool false, .slice AM nM0 cM, .int .i64 (K - 1), .int .i64 (K - 1)] := by rw [← hWF]; exact setRow_heap Y4 (Y1.heap.size) _ _ 39 _ RF
              have oF : ∀ b', b' ≠ Y1.heap.size → WF.heap[b']? = Y4.heap[b']? := by rw [← hWF]; exact fun b' hne => setRow_other Y4 (Y1.heap.size) b' _ hne
              rw [hWF]
              clear hWF
              replace na := na.up aF
              replace no := no.up aF
              replace nm := Nt.other nm oF (by assumption)
              replace nf := Nt.other nf oF (by assumption)
              refine hK.out _ _ (BS.up uF) (fun _ => ?_)
              simp only [Act.put]
              clear hK
              refine wpAnyH_ready (rs := [15]) ?_ ?_ ?_
              · kernel_rfl
              · simp
              refine AllReadyH.cons rfl (fun KQ hK => ?_) AllReadyH.nil
              go_simp
              refine hK.out _ _ (BS.up uF) (fun _ => ?_)
              try simp only [Act.put, List.setIfInBounds_toArray, List.set_cons_zero, List.set_cons_succ, List.getElem_toArray, List.getElem_cons_zero, List.getElem_cons_succ]
              clear hK
              refine wpAnyH_done ?_ (HN _ _ ?_) _
              · kernel_rfl
              go_wp2_with fail
              go_meet
              exact ⟨rfl, _, AM, nM0, cM, rfl, RG, nf.lower (by have := lRF; have := Up.size uD; first | omega | (refine Up.size ?_; assumption)), lRF, uF⟩
          · go_simp
            refine hK.out _ (Y0.alloc (.cells #[.bool false, .slice none 0 0, .int .i64 0, .int .i64 0] 39)) (BS.up (uY0.alloc _)) (fun _ => ?_)
            try simp only [Act.put, List.setIfInBounds_toArray, List.set_cons_zero, List.set_cons_succ, List.getElem_toArray, List.getElem_cons_zero, List.getElem_cons_succ]
            clear hK
            obtain ⟨E1, hE1⟩ : ∃ E1, Y0.alloc (.cells #[.bool false, .slice none 0 0, .int .i64 0, .int .i64 0] 39) = E1 := ⟨_, rfl⟩
            have RF : Ob E1 Y0.heap.size 39 #[.bool false, .slice none 0 0, .int .i64 0, .int .i64 0] := by rw [← hE1]; exact Ob.mk_ _ _ _
            have lRF : w10.heap.size ≤ Y0.heap.size := Up.size uY0
            have aE1 : Up Y0 E1 := by rw [← hE1]; exact (Up.refl _).alloc _
            have uE1 : Up w10 E1 := uY0.trans aE1
            rw [hE1]
            clear hE1
            refine wpAnyH_ready (rs := [4]) ?_ ?_ ?_
            · kernel_rfl
            · simp
            refine AllReadyH.cons rfl (fun KQ hK => ?_) AllReadyH.nil
            go_simp
            have lY2 := RF.lt
            refine (CO5.out _).mono ?_
            rintro _ Y2 ⟨vo, rfl, no, vY2⟩
            have uY2 : Up w10 Y2 := uE1.trans vY2
            have aY2 := aE1.trans vY2
            replace RF := RF.up vY2
            refine hK.out _ _ (BS.up uY2) (fun _ => ?_)
            try simp only [Act.put, List.setIfInBounds_toArray, List.set_cons_zero, List.set_cons_succ, List.getElem_toArray, List.getElem_cons_zero, List.getElem_cons_succ]
            clear hK
            refine wpAnyH_ready (rs := [5]) ?_ ?_ ?_
            · kernel_rfl
            · simp
            refine AllReadyH.cons rfl (fun KQ hK => ?_) AllReadyH.nil
            go_simp
            have lY3 := RF.lt
            refine (CM.out _ _ _ _ _ (na.up aY2) no).mono ?_
            rintro _ Y3 ⟨vm, rfl, nm, vY3⟩
            have uY3 : Up w10 Y3 := uY2.trans vY3
            replace no := no.up vY3
            have aY3 := aY2.trans vY3
            replace RF := RF.up vY3
            refine hK.out _ _ (BS.up uY3) (fun _ => ?_)
            try simp only [Act.put, List.setIfInBounds_toArray, List.set_cons_zero, List.set_cons_succ, List.getElem_toArray, List.getElem_cons_zero, List.getElem_cons_succ]
            clear hK
            refine wpAnyH_ready (rs := [9]) ?_ ?_ ?_
            · kernel_rfl
            · simp
            refine AllReadyH.cons rfl (fun KQ hK => ?_) AllReadyH.nil
            go_simp
            have lY4 := RF.lt
            refine (CD5.out _ _ _ nm).mono ?_
            rintro _ Y4 ⟨vf, rfl, nf, vY4⟩
            have uY4 : Up w10 Y4 := uY3.trans vY4
            obtain ⟨AM, nM0, cM, rfl, nf⟩ := nf.sl
            replace no := no.up vY4
            replace nm := nm.up vY4
            have aY4 := aY3.trans vY4
            replace RF := RF.up vY4
            refine hK.out _ _ (BS.up uY4) (fun _ => ?_)
            try simp only [Act.put, List.setIfInBounds_toArray, List.set_cons_zero, List.set_cons_succ, List.getElem_toArray, List.getElem_cons_zero, List.getElem_cons_succ]
            clear hK
            refine wpAnyH_take (i := 10) (v := ?_) rfl ?_ ?_ ?_ ?_ ?_ ?_ ?_
            rotate_left
            · kernel_rfl
            · kernel_rfl
            · kernel_rfl
            · exact fun c a w h => HP c _ _ a w h
            · refine Or.inl ⟨by rfl, ?_⟩
              intro wq hSq
              have hS0 : Ob wq (w2.heap.size) 27 #[.bool gg, .slice AS nS cS, .int .i64 K] := hSq
              have q0_0 := hS0.get 0
              have q0_1 := hS0.get 1
              have q0_2 := hS0.get 2
              simp only [List.getElem?_toArray, List.getElem?_cons_zero, List.getElem?_cons_succ] at q0_0 q0_1 q0_2
              go_simp
              all_goals with_reducible rfl
            · assumption
            try simp only [Act.put, List.setIfInBounds_toArray, List.set_cons_zero, List.set_cons_succ, List.getElem_toArray, List.getElem_cons_zero, List.getElem_cons_succ]
            refine wpAnyH_take (i := 11) (v := ?_) rfl ?_ ?_ ?_ ?_ ?_ ?_ ?_
            rotate_left
            · kernel_rfl
            · kernel_rfl
            · kernel_rfl
            · exact fun c a w h => HP c _ _ a w h
            · refine Or.inl ⟨by rfl, ?_⟩
              intro wq hSq
              have hS0 : Ob wq (w2.heap.size) 27 #[.bool gg, .slice AS nS cS, .int .i64 K] := hSq
              have q0_0 := hS0.get 0
              have q0_1 := hS0.get 1
              have q0_2 := hS0.get 2
              simp only [List.getElem?_toArray, List.getElem?_cons_zero, List.getElem?_cons_succ] at q0_0 q0_1 q0_2
              go_simp
              all_goals with_reducible rfl
            · assumption
            try simp only [Act.put, List.setIfInBounds_toArray, List.set_cons_zero, List.set_cons_succ, List.getElem_toArray, List.getElem_cons_zero, List.getElem_cons_succ]
            refine wpAnyH_take (i := 12) (v := ?_) rfl ?_ ?_ ?_ ?_ ?_ ?_ ?_
            rotate_left
            · kernel_rfl
            · kernel_rfl
            · kernel_rfl
            · exact fun c a w h => HP c _ _ a w h
            · refine Or.inl ⟨by rfl, ?_⟩
              intro wq hSq
              have hS0 : Ob wq (w2.heap.size) 27 #[.bool gg, .slice AS nS cS, .int .i64 K] := hSq
              have q0_0 := hS0.get 0
              have q0_1 := hS0.get 1
              have q0_2 := hS0.get 2
              simp only [List.getElem?_toArray, List.getElem?_cons_zero, List.getElem?_cons_succ] at q0_0 q0_1 q0_2
              go_simp
              all_goals with_reducible rfl
            · assumption
            try simp only [Act.put, List.setIfInBounds_toArray, List.set_cons_zero, List.set_cons_succ, List.getElem_toArray, List.getElem_cons_zero, List.getElem_cons_succ]
            refine wpAnyH_ready (rs := [14]) ?_ ?_ ?_
            · kernel_rfl
            · simp
            refine AllReadyH.cons rfl (fun KQ hK => ?_) AllReadyH.nil
            rw [if_pos (by rfl)]
            refine wp_store_row 39 (.tmp 20) (.tmp 106) rfl Y0.heap.size #[.bool false, .slice AM nM0 cM, .int .i64 (K - 1), .int .i64 (K - 1)] rfl rfl 39 #[.bool false, .slice none 0 0, .int .i64 0, .int .i64 0] RF (by kernel_rfl) rfl (by simp [Value.oneCell']) ?_
            obtain ⟨WF, hWF⟩ : ∃ WF, Y4.setRow Y0.heap.size #[.bool false, .slice AM nM0 cM, .int .i64 (K - 1), .int .i64 (K - 1)] = WF := ⟨_, rfl⟩
            have uF : Up w10 WF := by rw [← hWF]; exact uY4.setRow_ lRF _
            have aF : Up Y0 WF := by rw [← hWF]; exact aY4.setRow_ (Nat.le_refl _) _
            have RG : Ob WF (Y0.heap.size) 39 #[.bool false, .slice AM nM0 cM, .int .i64 (K - 1), .int .i64 (K - 1)] := by rw [← hWF]; exact setRow_heap Y4 (Y0.heap.size) _ _ 39 _ RF
            have oF : ∀ b', b' ≠ Y0.heap.size → WF.heap[b']? = Y4.heap[b']? := by rw [← hWF]; exact fun b' hne => setRow_other Y4 (Y0.heap.size) b' _ hne
            rw [hWF]
            clear hWF
            replace na := na.up aF
            replace no := Nt.other no oF (by assumption)
            replace nm := Nt.other nm oF (by assumption)
            replace nf := Nt.other nf oF (by assumption)
            refine hK.out _ _ (BS.up uF) (fun _ => ?_)
            simp only [Act.put]
            clear hK
            refine wpAnyH_ready (rs := [15]) ?_ ?_ ?_
            · kernel_rfl
            · simp
            refine AllReadyH.cons rfl (fun KQ hK => ?_) AllReadyH.nil
            go_simp
            refine hK.out _ _ (BS.up uF) (fun _ => ?_)
            try simp only [Act.put, List.setIfInBounds_toArray, List.set_cons_zero, List.set_cons_succ, List.getElem_toArray, List.getElem_cons_zero, List.getElem_cons_succ]
            clear hK
            refine wpAnyH_done ?_ (HN _ _ ?_) _
            · kernel_rfl
            go_wp2_with fail
            go_meet
            exact ⟨rfl, _, AM, nM0, cM, rfl, RG, nf.lower (by have := lRF; have := Up.size uD; first | omega | (refine Up.size ?_; assumption)), lRF, uF⟩
        · go_simp
          refine hK.out _ (w10.drew.alloc (.cells #[.bool false, .slice none 0 0, .int .i64 0, .int .i64 0] 39)) (BS.up (uD.alloc _)) (fun _ => ?_)
          try simp only [Act.put, List.setIfInBounds_toArray, List.set_cons_zero, List.set_cons_succ, List.getElem_toArray, List.getElem_cons_zero, List.getElem_cons_succ]
          clear hK
          obtain ⟨E0, hE0⟩ : ∃ E0, w10.drew.alloc (.cells #[.bool false, .slice none 0 0, .int .i64 0, .int .i64 0] 39) = E0 := ⟨_, rfl⟩
          have RF : Ob E0 w10.drew.heap.size 39 #[.bool false, .slice none 0 0, .int .i64 0, .int .i64 0] := by rw [← hE0]; exact Ob.mk_ _ _ _
          have lRF : w10.heap.size ≤ w10.drew.heap.size := Up.size uD
          have aE0 : Up w10.drew E0 := by rw [← hE0]; exact (Up.refl _).alloc _
          have uE0 : Up w10 E0 := uD.trans aE0
          rw [hE0]
          clear hE0
          refine wpAnyH_ready (rs := [3]) ?_ ?_ ?_
          · kernel_rfl
          · simp
          refine AllReadyH.cons rfl (fun KQ hK => ?_) AllReadyH.nil
          go_simp
          have lY1 := RF.lt
          refine (CA2.out _ _ _ _ _ (NS.up uE0) (NO.up uE0)).mono ?_
          rintro _ Y1 ⟨va, rfl, na, vY1⟩
          have uY1 : Up w10 Y1 := uE0.trans vY1
          have aY1 := aE0.trans vY1
          replace RF := RF.up vY1
          refine hK.out _ _ (BS.up uY1) (fun _ => ?_)
          try simp only [Act.put, List.setIfInBounds_toArray, List.set_cons_zero, List.set_cons_succ, List.getElem_toArray, List.getElem_cons_zero, List.getElem_cons_succ]
          clear hK
          refine wpAnyH_ready (rs := [4]) ?_ ?_ ?_
          · kernel_rfl
          · simp
          refine AllReadyH.cons rfl (fun KQ hK => ?_) AllReadyH.nil
          go_simp
          have lY2 := RF.lt
          refine (CO5.out _).mono ?_
          rintro _ Y2 ⟨vo, rfl, no, vY2⟩
          have uY2 : Up w10 Y2 := uY1.trans vY2
          replace na := na.up vY2
          have aY2 := aY1.trans vY2
          replace RF := RF.up vY2
          refine hK.out _ _ (BS.up uY2) (fun _ => ?_)
          try simp only [Act.put, List.setIfInBounds_toArray, List.set_cons_zero, List.set_cons_succ, List.getElem_toArray, List.getElem_cons_zero, List.getElem_cons_succ]
          clear hK
          refine wpAnyH_ready (rs := [5]) ?_ ?_ ?_
          · kernel_rfl
          · simp
          refine AllReadyH.cons rfl (fun KQ hK => ?_) AllReadyH.nil
          go_simp
          have lY3 := RF.lt
          refine (CM.out _ _ _ _ _ na no).mono ?_
          rintro _ Y3 ⟨vm, rfl, nm, vY3⟩
          have uY3 : Up w10 Y3 := uY2.trans vY3
          replace na := na.up vY3
          replace no := no.up vY3
          have aY3 := aY2.trans vY3
          replace RF := RF.up vY3
          refine hK.out _ _ (BS.up uY3) (fun _ => ?_)
          try simp only [Act.put, List.setIfInBounds_toArray, List.set_cons_zero, List.set_cons_succ, List.getElem_toArray, List.getElem_cons_zero, List.getElem_cons_succ]
          clear hK
          refine wpAnyH_ready (rs := [9]) ?_ ?_ ?_
          · kernel_rfl
          · simp
          refine AllReadyH.cons rfl (fun KQ hK => ?_) AllReadyH.nil
          go_simp
          have lY4 := RF.lt
          refine (CD5.out _ _ _ nm).mono ?_
          rintro _ Y4 ⟨vf, rfl, nf, vY4⟩
          have uY4 : Up w10 Y4 := uY3.trans vY4
          obtain ⟨AM, nM0, cM, rfl, nf⟩ := nf.sl
          replace na := na.up vY4
          replace no := no.up vY4
          replace nm := nm.up vY4
          have aY4 := aY3.trans vY4
          replace RF := RF.up vY4
          refine hK.out _ _ (BS.up uY4) (fun _ => ?_)
          try simp only [Act.put, List.setIfInBounds_toArray, List.set_cons_zero, List.set_cons_succ, List.getElem_toArray, List.getElem_cons_zero, List.getElem_cons_succ]
          clear hK
          refine wpAnyH_take (i := 10) (v := ?_) rfl ?_ ?_ ?_ ?_ ?_ ?_ ?_
          rotate_left
          · kernel_rfl
          · kernel_rfl
          · kernel_rfl
          · exact fun c a w h => HP c _ _ a w h
          · refine Or.inl ⟨by rfl, ?_⟩
            intro wq hSq
            have hS0 : Ob wq (w2.heap.size) 27 #[.bool gg, .slice AS nS cS, .int .i64 K] := hSq
            have q0_0 := hS0.get 0
            have q0_1 := hS0.get 1
            have q0_2 := hS0.get 2
            simp only [List.getElem?_toArray, List.getElem?_cons_zero, List.getElem?_cons_succ] at q0_0 q0_1 q0_2
            go_simp
            all_goals with_reducible rfl
          · assumption
          try simp only [Act.put, List.setIfInBounds_toArray, List.set_cons_zero, List.set_cons_succ, List.getElem_toArray, List.getElem_cons_zero, List.getElem_cons_succ]
          refine wpAnyH_take (i := 11) (v := ?_) rfl ?_ ?_ ?_ ?_ ?_ ?_ ?_
          rotate_left
          · kernel_rfl
          · kernel_rfl
          · kernel_rfl
          · exact fun c a w h => HP c _ _ a w h
          · refine Or.inl ⟨by rfl, ?_⟩
            intro wq hSq
            have hS0 : Ob wq (w2.heap.size) 27 #[.bool gg, .slice AS nS cS, .int .i64 K] := hSq
            have q0_0 := hS0.get 0
            have q0_1 := hS0.get 1
            have q0_2 := hS0.get 2
            simp only [List.getElem?_toArray, List.getElem?_cons_zero, List.getElem?_cons_succ] at q0_0 q0_1 q0_2
            go_simp
            all_goals with_reducible rfl
          · assumption
          try simp only [Act.put, List.setIfInBounds_toArray, List.set_cons_zero, List.set_cons_succ, List.getElem_toArray, List.getElem_cons_zero, List.getElem_cons_succ]
          refine wpAnyH_take (i := 12) (v := ?_) rfl ?_ ?_ ?_ ?_ ?_ ?_ ?_
          rotate_left
          · kernel_rfl
          · kernel_rfl
          · kernel_rfl
          · exact fun c a w h => HP c _ _ a w h
          · refine Or.inl ⟨by rfl, ?_⟩
            intro wq hSq
            have hS0 : Ob wq (w2.heap.size) 27 #[.bool gg, .slice AS nS cS, .int .i64 K] := hSq
            have q0_0 := hS0.get 0
            have q0_1 := hS0.get 1
            have q0_2 := hS0.get 2
            simp only [List.getElem?_toArray, List.getElem?_cons_zero, List.getElem?_cons_succ] at q0_0 q0_1 q0_2
            go_simp
            all_goals with_reducible rfl
          · assumption
          try simp only [Act.put, List.setIfInBounds_toArray, List.set_cons_zero, List.set_cons_succ, List.getElem_toArray, List.getElem_cons_zero, List.getElem_cons_succ]
          refine wpAnyH_ready (rs := [14]) ?_ ?_ ?_
          · kernel_rfl
          · simp
          refine AllReadyH.cons rfl (fun KQ hK => ?_) AllReadyH.nil
          rw [if_pos (by rfl)]
          refine wp_store_row 39 (.tmp 20) (.tmp 106) rfl w10.drew.heap.size #[.bool false, .slice AM nM0 cM, .int .i64 (K - 1), .int .i64 (K - 1)] rfl rfl 39 #[.bool false, .slice none 0 0, .int .i64 0, .int .i64 0] RF (by kernel_rfl) rfl (by simp [Value.oneCell']) ?_
          obtain ⟨WF, hWF⟩ : ∃ WF, Y4.setRow w10.drew.heap.size #[.bool false, .slice AM nM0 cM, .int .i64 (K - 1), .int .i64 (K - 1)] = WF := ⟨_, rfl⟩
          have uF : Up w10 WF := by rw [← hWF]; exact uY4.setRow_ lRF _
          have aF : Up w10.drew WF := by rw [← hWF]; exact aY4.setRow_ (Nat.le_refl _) _
          have RG : Ob WF (w10.drew.heap.size) 39 #[.bool false, .slice AM nM0 cM, .int .i64 (K - 1), .int .i64 (K - 1)] := by rw [← hWF]; exact setRow_heap Y4 (w10.drew.heap.size) _ _ 39 _ RF
          have oF : ∀ b', b' ≠ w10.drew.heap.size → WF.heap[b']? = Y4.heap[b']? := by rw [← hWF]; exact fun b' hne => setRow_other Y4 (w10.drew.heap.size) b' _ hne
          rw [hWF]
          clear hWF
          replace na := Nt.other na oF (by assumption)
          replace no := Nt.other no oF (by assumption)
          replace nm := Nt.other nm oF (by assumption)
          replace nf := Nt.other nf oF (by assumption)
          refine hK.out _ _ (BS.up uF) (fun _ => ?_)
          simp only [Act.put]
          clear hK
          refine wpAnyH_ready (rs := [15]) ?_ ?_ ?_
          · kernel_rfl
          · simp
          refine AllReadyH.cons rfl (fun KQ hK => ?_) AllReadyH.nil
          go_simp
          refine hK.out _ _ (BS.up uF) (fun _ => ?_)
          try simp only [Act.put, List.setIfInBounds_toArray, List.set_cons_zero, List.set_cons_succ, List.getElem_toArray, List.getElem_cons_zero, List.getElem_cons_succ]
          clear hK
          refine wpAnyH_done ?_ (HN _ _ ?_) _
          · kernel_rfl
          go_wp2_with fail
          go_meet
          exact ⟨rfl, _, AM, nM0, cM, rfl, RG, nf.lower (by have := lRF; have := Up.size uD; first | omega | (refine Up.size ?_; assumption)), lRF, uF⟩
      case rest =>
        obtain ⟨rfl, gF, AM, nM0, cM, rfl, F, nf, lF, uc⟩ := hcut
        replace U := U.trans uc
        replace BS := BS.up uc
        replace V := V.up uc
        replace BX := BX.up uc
        replace NS := NS.up uc
        replace NX := NX.up uc
        replace NO := NO.up uc
        clear uc
        have BX0 := BX.get 0
        have BX1 := BX.get 1
        have BX2 := BX.get 2
        have BX3 := BX.get 3
        have BXf0 := BX.fr 0
        have BXf1 := BX.fr 1
        have BXf2 := BX.fr 2
        have BXf3 := BX.fr 3
        have BXl := BX.lt
        simp only [List.getElem?_toArray, List.getElem?_cons_zero, List.getElem?_cons_succ] at BX0 BX1 BX2 BX3
        have F0 := F.get 0
        have F1 := F.get 1
        have F2 := F.get 2
        have F3 := F.get 3
        have Ff0 := F.fr 0
        have Ff1 := F.fr 1
        have Ff2 := F.fr 2
        have Ff3 := F.fr 3
        have Fl := F.lt
        simp only [List.getElem?_toArray, List.getElem?_cons_zero, List.getElem?_cons_succ] at F0 F1 F2 F3
        go_wp2_with fail
        clear BX0 BXf0 BX1 BXf1 BX2 BXf2 BX3 BXf3 BXl
        clear F0 Ff0 F1 Ff1 F2 Ff2 F3 Ff3 Fl
        refine (CC.out _ _ _ _ _ NX nf c HC).mono ?_
        rintro _ w11 ⟨rfl, h11⟩
        replace U := U.trans h11
        replace BS := BS.up h11
        replace V := V.up h11
        replace BX := BX.up h11
        replace F := F.up h11
        replace NS := NS.up h11
        replace NX := NX.up h11
        replace NO := NO.up h11
        replace nf := nf.up h11
        clear h11
        clear CC
        go_wp2_with fail
        go_ret
        exact ⟨rfl, U⟩
    ·
      have q1 : (q != (p : Int)) = true := by simpa using hqp
      clear hqp NR CA2 CO5 CM CD5 CC
      go_wp2_with fail
      go_ret
      exact ⟨rfl, U⟩
end Go.Proofs.YtpbdiolfdpfmdaaGreatDoor
