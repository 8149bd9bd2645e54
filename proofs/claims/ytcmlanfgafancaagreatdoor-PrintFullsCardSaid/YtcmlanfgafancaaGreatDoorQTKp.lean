import Derived.Test.YtcmlanfgafancaaGreatDoorQTKq
import Derived.OwnWalk
import Derived.LoopTactic
set_option maxHeartbeats 32000000
set_option linter.unusedVariables false
set_option linter.unusedSimpArgs false
namespace Go.Proofs.YtcmlanfgafancaaGreatDoor
open Go.RowKit
def Clr (w : World) (p : Addr) (v : Value) : Prop := w.cell? p = some v
theorem Clr.up {w w' : World} {p : Addr} {v : Value} (h : Clr w p v) (u : Up w w') : Clr w' p v := cell_up u h
set_option maxRecDepth 100000 in
theorem rshort11_any (w : World) (i : Nat) (i1 : 1 ≤ i) (i2 : i ≤ 14) (p : Nat) (pb : p < 18446744073709551616) (gg : Bool) (m : Nat) (z : Int) (m1 : Nat) (z1 : Int) (m2 : Nat) (z2 : Int) (ev : Bool) (t : Int) (n : Nat) (k : Int) (d : Nat) (r : Int) (y D : Nat) (K : Int) (hq : M.Sq (M.tb i) p gg m z m1 z1 m2 z2 ev t n k d r y D K) : Calls Tryz.prog 25 #[.int .i64 (i : Int), u64 p] w (Dz w.heap.size gg D K w) := by
 have ok := M.ok i i1 i2
 have ok2 := M.ok2 i i1 i2
 have ok3 := M.ok3 i i1 i2
 obtain ⟨m0, mb, zb⟩ := M.pt_rng ok ok2 ok3 hq.pt.fit hq.pt.dv
 have CV := Lib.hid (fun W => rdecode_any W (i : Int) p pb 2 gg m z 0 (.inr ⟨i, rfl, i1, i2, .inr ⟨hq.pt.fit, hq.pt.dv, rfl⟩⟩))
 have CZ := Lib.hid (fun W => rsize_any W m mb m0 z)
 have CL := Lib.hid (fun W lo A n c (N : Nt W lo 1 (.slice A n c) m) => rlog_tp W lo 1 false A n c z 0 m N m0 (by omega) (by omega) (by omega) t hq.tp)
 have CF := Lib.hid (fun W lo v' (N : Nt W lo 1 v' m) (kk : Int) (bk : -4900 ≤ kk ∧ kk ≤ 4900) (dd : Nat) (rr : Int) (hb : M.Bes (M.sz m z 0) kk dd rr) => rfloor_bes W lo 1 false v' z 0 m N.nw (by omega) (by omega) (by omega) kk bk dd rr hb)
 have CA := Lib.hid (fun W lo1 lo2 v1 v2 (a : Nat) (N1 : Nt W lo1 2 v1 a) (N2 : Nt W lo2 1 v2 1) => radd_any W lo1 lo2 2 v1 v2 a 1 N1.nw (N2.more (by omega)).nw (by omega))
 have CT := Lib.hid (fun W lo A n c (kk : Int) (a : Nat) (N : Nt W lo 2 (.slice A n c) a) (a0 : 0 < a) => rten_any W lo 2 gg A n c kk a N a0)
 have CR := Lib.hid (fun W lo v' (a : Nat) (kk : Int) (N : Nt W lo 2 v' a) (bk : -5000 ≤ kk ∧ kk ≤ 5000) (q : Int) (hr : M.Rv (M.tb i) 2 gg (M.sz a kk kk) q) => rround8_any W i (M.tb i) rfl i1 i2 2 lo 2 gg v' kk kk a N (by omega) bk bk q hr)
 have y0 := (M.sq_y hq).1
 obtain ⟨j9, hj9, hK⟩ := M.strip_dgs hq.dg y0 (by have := (M.sq_y hq).2; omega)
 have j9b : j9 ≤ 10000 := by have := hq.dg.hi; have := (M.sq_y hq).2; omega
 have CS := Lib.hid (fun W lo A n c (N : Nt W lo 128 (.slice A n c) y) (hlo : lo ≤ W.heap.size) => rstrip_any W lo gg A n c k y N hlo D j9 hj9 hq.dg.ten j9b (by have := (M.sq_y hq).2; omega))
 have ALT : ∀ (a : Nat) (kk : Int), a ≠ 0 → ∃ q : Int, M.Rv (M.tb i) 2 gg (M.sz a kk kk) q ∧ (M.In m1 z1 m2 z2 ev (M.sz a kk kk) ↔ q = (p : Int)) := fun a kk a0 => by
  have hx : M.sz a kk kk ≠ 0 := fun e => a0 (M.sz_zero.1 e)
  by_cases e : M.In m1 z1 m2 z2 ev (M.sz a kk kk)
  ·exact ⟨p, (M.in_rv ok ok2 ok3 hq.pt hx).1 e, fun _ => rfl, fun _ => e⟩
  ·obtain ⟨q, hr⟩ := M.rv_ex ok ok2 ok3 2 gg (M.sz a kk kk)
   exact ⟨q, hr, fun h => absurd h e, fun h => (M.in_rv ok ok2 ok3 hq.pt hx).2 (h ▸ hr)⟩
 have alt := Lib.hid ALT
 have HQ := Lib.hid hq
 have n21 := hq.sh.n21
 have tb := Lib.hid (And.intro hq.tp.lo hq.tp.hi)
 have own := Lib.hid (M.in_own ok ok2 ok3 hq.pt)
 have HK := Lib.hid hK
 have D0 := Lib.hid (show 0 < D by have := hq.dg.ten; omega)
 clear hq ok ok2 ok3 m0 mb zb pb i1 i2 ALT y0 hj9 hK j9b
 have U := Up.refl w
 go_enter Tryz.func25, Tryz.ntmps25
 go_wp2_with fail
 obtain ⟨V1, hV1, R, uV1⟩ := Ob.nw w 44 #[.bool false, .slice none 0 0, .int .i64 0]
 have sV1 : V1.heap.size = w.heap.size + 1 := by rw [← hV1]; exact (Array.size_push _)
 have ltR : w.heap.size ≤ w.heap.size := by have := U.size; omega
 rw [hV1]
 clear hV1
 replace U := U.trans uV1
 clear uV1
 clear sV1
 have glR := R.lt
 refine (CV.out _).mono ?_
 rintro _ w2 ⟨rfl, h2⟩
 replace U := U.trans h2
 replace R := R.up h2
 clear h2
 clear CV
 go_upto_region 2 with fail
 have gVR := R.lt
 obtain ⟨V3, hV3, V, uV3⟩ := Ob.nw w2 38 #[.int .i64 2, .bool gg, u64 m, .int .i64 z]
 have sV3 : V3.heap.size = w2.heap.size + 1 := by rw [← hV3]; exact (Array.size_push _)
 have ltV : w.heap.size ≤ w2.heap.size := by have := U.size; omega
 rw [hV3]
 clear hV3
 replace U := U.trans uV3
 replace R := R.up uV3
 clear uV3
 clear sV3
 have glV := V.lt
 obtain ⟨V0, V1, V2, V3, Vf0, Vf1, Vf2, Vf3, Vl⟩ := V.c4
 go_wp2_with fail
 clear V0 Vf0 V1 Vf1 V2 Vf2 V3 Vf3 Vl
 refine (CZ.out _).mono ?_
 rintro _ w4 ⟨vX, rfl, NX, h4⟩
 replace U := U.trans h4
 replace R := R.up h4
 replace V := V.up h4
 clear h4
 clear CZ
 obtain ⟨AX, nX, cX, rfl, NX⟩ := NX.sl
 go_upto_region 3 with fail
 have gXR := R.lt
 have gXV := V.lt
 obtain ⟨V5, hV5, X, uV5⟩ := Ob.nw w4 84 #[.bool false, .slice AX nX cX, .int .i64 z, .int .i64 0]
 have sV5 : V5.heap.size = w4.heap.size + 1 := by rw [← hV5]; exact (Array.size_push _)
 have ltX : w.heap.size ≤ w4.heap.size := by have := U.size; omega
 rw [hV5]
 clear hV5
 replace U := U.trans uV5
 replace R := R.up uV5
 replace V := V.up uV5
 replace NX := NX.up uV5
 clear uV5
 clear sV5
 have glX := X.lt
 obtain ⟨X0, X1, X2, X3, Xf0, Xf1, Xf2, Xf3, Xl⟩ := X.c4
 go_wp2_with fail
 clear X0 Xf0 X1 Xf1 X2 Xf2 X3 Xf3 Xl
 refine (CL.out _ _ _ _ _ NX).mono ?_
 rintro _ w6 ⟨rfl, h6⟩
 replace U := U.trans h6
 replace R := R.up h6
 replace V := V.up h6
 replace X := X.up h6
 replace NX := NX.up h6
 clear h6
 clear CL
 go_wp2_with fail
 have loX := (Nat.le_refl 0)
 obtain ⟨lo9, hlo9⟩ : ∃ lo9, Nt w6 lo9 1 (.slice AX nX cX) m := ⟨_, NX⟩
 clear NX
 go_loopw [9] (fun nv wr => ∃ j : Nat, 1 ≤ j ∧ j ≤ n ∧ nv = .int .i64 (j : Int) ∧ Ob wr w.heap.size 44 #[.bool false, .slice none 0 0, .int .i64 0] ∧ Ob wr (w2.heap.size) 38 #[.int .i64 2, .bool gg, u64 m, .int .i64 z] ∧ Ob wr (w4.heap.size) 84 #[.bool false, .slice AX nX cX, .int .i64 z, .int .i64 0] ∧ Nt wr lo9 1 (.slice AX nX cX) m ∧ Up w wr) (fun nv _ => ((n : Int) + 1 - intOf nv).toNat)
 case atStart => exact ⟨1, Nat.le_refl _, HQ.out.sh.n1, by go_num, R, V, X, hlo9, U⟩
 case round =>
  clear R V X U hlo9 loX
  obtain ⟨j, j1, jn, rfl, R, V, X, NX, U⟩ := hrel
  obtain ⟨kk, hkk⟩ : ∃ kk : Int, kk + j = t + 1 := ⟨t + 1 - j, by omega⟩
  have e60 : decide ((j : Int) < 60) = true := decide_eq_true (by omega)
  have e60b : decide (j < 60) = true := decide_eq_true (by omega)
  have w1 : IntKind.i64.wrap (t + 1) = t + 1 := by have := tb.out; simp [IntKind.wrap, IntKind.bits, IntKind.signed]; omega
  have w2 : IntKind.i64.wrap (t + 1 - (j : Int)) = kk := by have := tb.out; simp [IntKind.wrap, IntKind.bits, IntKind.signed]; omega
  have w3 : IntKind.i64.wrap ((j : Int) + 1) = (j : Int) + 1 := by simp [IntKind.wrap, IntKind.bits, IntKind.signed]; omega
  obtain ⟨dd, rr, hb⟩ := M.bes_ex (M.sz m z 0) kk
  obtain ⟨dd0, ddb, kklo, kkhi⟩ := M.fl_rng HQ.out.tp j1 (by omega) hkk hb.le hb.lt
  obtain ⟨q1, hr1, iq1⟩ := alt.out dd kk (by omega)
  obtain ⟨q2, hr2, iq2⟩ := alt.out (dd + 1) kk (by omega)
  have CF1 := Lib.hid (fun W lo v' (N : Nt W lo 1 v' m) => CF.out W lo v' N kk (by omega) dd rr hb)
  have CR1 := Lib.hid (fun W lo v' (N : Nt W lo 2 v' dd) => CR.out W lo v' dd kk N (by omega) q1 hr1)
  have CR2 := Lib.hid (fun W lo v' (N : Nt W lo 2 v' (dd + 1)) => CR.out W lo v' (dd + 1) kk N (by omega) q2 hr2)
  have CT1 := Lib.hid (fun W lo A n c (N : Nt W lo 2 (.slice A n c) dd) => CT.out W lo A n c kk dd N dd0)
  have CT2 := Lib.hid (fun W lo A n c (N : Nt W lo 2 (.slice A n c) (dd + 1)) => CT.out W lo A n c kk (dd + 1) N (Nat.succ_pos _))
  have FD := Lib.hid (show dd < 18446744073709551616 ^ 2 by omega)
  have FE := Lib.hid (show dd + 1 < 18446744073709551616 ^ 2 by omega)
  have r0 : rr = 0 → M.In m1 z1 m2 z2 ev (M.sz dd kk kk) := fun e => by rw [← hb.z0 e]; exact own.out
  have rrng := hb.rng
  have DD0 := Lib.hid dd0
  have way : (j < n ∧ (q1 == (p : Int)) = false ∧ (q2 == (p : Int)) = false ∧ decide (rr > 0) = true ∧ decide (0 < rr) = true) ∨
    (kk = k ∧ rr = 0 ∧ (q1 == (p : Int)) = true ∧ y = dd) ∨
    (kk = k ∧ rr ≠ 0 ∧ decide (rr > 0) = true ∧ decide (0 < rr) = true ∧ (q1 == (p : Int)) = false ∧ (q2 == (p : Int)) = true ∧ y = dd + 1) ∨
    (kk = k ∧ rr ≠ 0 ∧ decide (rr > 0) = true ∧ decide (0 < rr) = true ∧ (q1 == (p : Int)) = true ∧ (q2 == (p : Int)) = false ∧ y = dd) ∨
    (kk = k ∧ (q1 == (p : Int)) = true ∧ (q2 == (p : Int)) = true ∧ ((rr = 1 ∧ y = dd) ∨ (rr = 2 ∧ dd % 2 = 0 ∧ y = dd) ∨ (rr = 2 ∧ dd % 2 = 1 ∧ y = dd + 1) ∨ (rr = 3 ∧ y = dd + 1))) := by
   have bt : ∀ {q : Int}, q = (p : Int) → (q == (p : Int)) = true := fun h => by simpa using h
   have bf : ∀ {q : Int}, ¬ q = (p : Int) → (q == (p : Int)) = false := fun h => by simpa using h
   rcases Nat.lt_or_ge j n with hjn | hjn
   ·obtain ⟨a, b⟩ := HQ.out.sh.few j kk dd j1 hjn hkk hb.le hb.lt
    have rne : rr ≠ 0 := fun e => a (r0 e)
    exact .inl ⟨hjn, bf (fun e => a (iq1.2 e)), bf (fun e => b (iq2.2 e)), decide_eq_true (by omega), decide_eq_true (by omega)⟩
   ·right
    have ejn : j = n := by omega
    have ek : kk = k := by have := HQ.out.sh.kn; omega
    have hb2 := HQ.out.sh.fl
    rw [← ek] at hb2
    obtain ⟨ed, er⟩ := M.bes_uniq hb hb2
    have hc := HQ.out.sh.ch
    rw [← ek, ← ed, ← er] at hc
    rcases hc with ⟨s, ⟨a, ey⟩ | ⟨b, a, ey⟩⟩ | ⟨s, ⟨a, ey⟩ | ⟨b, a, ey⟩⟩
    ·by_cases a1 : M.In m1 z1 m2 z2 ev (M.sz dd kk kk)
     ·refine .inr (.inr (.inr ⟨ek, bt (iq1.1 a1), bt (iq2.1 a), ?_⟩))
      rcases s with s | ⟨s1, s2⟩
      ·exact .inr (.inr (.inr ⟨by omega, ey⟩))
      ·exact .inr (.inr (.inl ⟨s1, s2, ey⟩))
     ·have rne : rr ≠ 0 := fun e => a1 (r0 e)
      exact .inr (.inl ⟨ek, rne, decide_eq_true (by omega), decide_eq_true (by omega), bf (fun e => a1 (iq1.2 e)), bt (iq2.1 a), ey⟩)
    ·exact .inr (.inr (.inl ⟨ek, by omega, decide_eq_true (by omega), decide_eq_true (by omega), bt (iq1.1 a), bf (fun e => b (iq2.2 e)), ey⟩))
    ·by_cases rz : rr = 0
     ·exact .inl ⟨ek, rz, bt (iq1.1 a), ey⟩
     ·by_cases b1 : M.In m1 z1 m2 z2 ev (M.sz (dd + 1) kk kk)
      ·refine .inr (.inr (.inr ⟨ek, bt (iq1.1 a), bt (iq2.1 b1), ?_⟩))
       rcases (show rr = 1 ∨ rr = 2 ∨ rr = 3 by omega) with e | e | e
       ·exact .inl ⟨e, ey⟩
       ·exact .inr (.inl ⟨e, by omega, ey⟩)
       ·exact absurd (.inl (by omega)) s
      ·exact .inr (.inr (.inl ⟨ek, rz, decide_eq_true (by omega), decide_eq_true (by omega), bt (iq1.1 a), bf (fun e => b1 (iq2.2 e)), ey⟩))
    ·have rne : rr ≠ 0 := fun e => b (r0 e)
     exact .inr (.inl ⟨ek, rne, decide_eq_true (by omega), decide_eq_true (by omega), bf (fun e => b (iq1.2 e)), bt (iq2.1 a), ey⟩)
  clear alt HQ own hr1 hr2 iq1 iq2 hb r0 CF CR CT rrng dd0 ddb kklo kkhi
  rcases way with ⟨hjn, a1, a2, a3, a4⟩ | ⟨ek, rfl, a1, ey⟩ | ⟨ek, rne, a3, a4, a1, a2, ey⟩ | ⟨ek, rne, a3, a4, a1, a2, ey⟩ | ⟨ek, a1, a2, ⟨rfl, ey⟩ | ⟨rfl, ev2, ey⟩ | ⟨rfl, ev2, ey⟩ | ⟨rfl, ey⟩⟩
  ·
   have JN := Lib.hid hjn
   clear hjn
   have lR := R.lt
   obtain ⟨X0, X1, X2, X3, Xf0, Xf1, Xf2, Xf3, Xl⟩ := X.c4
   go_wp2_with fail
   clear X0 Xf0 X1 Xf1 X2 Xf2 X3 Xf3 Xl
   refine (CF1.out _ _ _ NX).mono ?_
   rintro _ w7 ⟨vD, rfl, ND, h7⟩
   replace U := U.trans h7
   replace R := R.up h7
   replace V := V.up h7
   replace X := X.up h7
   replace NX := NX.up h7
   clear h7
   clear CF1
   have lW : w.heap.size ≤ wr.heap.size := by omega
   replace ND := ND.fit FD.out
   obtain ⟨AD, nD, cD, rfl, ND⟩ := ND.sl
   obtain ⟨nD0, b, o, x, rfl, hc, hx⟩ := ND.first DD0.out
   have HC : Clr w7 ⟨b, o, none⟩ (.int .u64 (x : Int)) := hc
   clear hc
   have f1 : decide ((nD : Int) > 0) = true := decide_eq_true (by omega)
   have f2 : decide (0 < nD) = true := decide_eq_true nD0
   have f3 : (0 : Int) < (nD : Int) := by omega
   obtain ⟨ev9, hev9⟩ : ∃ e, ((x : Int).tmod 2 == 0) = e := ⟨_, rfl⟩
   clear hx
   go_wp2_with fail
   obtain ⟨V8, hV8⟩ : ∃ V, w7.alloc (.cells #[.int .u64 1] 22) = V := ⟨_, rfl⟩
   have NL : Nt V8 w7.heap.size 1 (.slice (some ⟨w7.heap.size, 0, none⟩) 1 1) 1 := by rw [← hV8]; exact lit1n w7 1 1 rfl (by decide) (by decide)
   have uV8 : Up w7 V8 := Up.al hV8
   rw [hV8]
   clear hV8
   replace U := U.trans uV8
   replace R := R.up uV8
   replace V := V.up uV8
   replace X := X.up uV8
   replace NX := NX.up uV8
   replace ND := ND.up uV8
   replace HC := HC.up uV8
   clear uV8
   have lM : w.heap.size < V8.heap.size := R.lt
   refine (CA.out _ _ _ _ _ _ ND NL).mono ?_
   rintro _ w9 ⟨vE, rfl, NE, h9⟩
   replace U := U.trans h9
   replace R := R.up h9
   replace V := V.up h9
   replace X := X.up h9
   replace NX := NX.up h9
   replace ND := ND.up h9
   replace HC := HC.up h9
   replace NL := NL.up h9
   clear h9
   clear CA NL
   replace NE := NE.fit FE.out
   obtain ⟨AE, nE, cE, rfl, NE⟩ := NE.sl
   obtain ⟨V0, V1, V2, V3, Vf0, Vf1, Vf2, Vf3, Vl⟩ := V.c4
   go_wp2_with fail
   clear V0 Vf0 V1 Vf1 V2 Vf2 V3 Vf3 Vl
   refine (CT1.out _ _ _ _ _ ND).mono ?_
   rintro _ w10 ⟨rfl, h10⟩
   replace U := U.trans h10
   replace R := R.up h10
   replace V := V.up h10
   replace X := X.up h10
   replace NX := NX.up h10
   replace ND := ND.up h10
   replace HC := HC.up h10
   replace NE := NE.up h10
   clear h10
   clear CT1
   go_wp2_with fail
   refine (CR1.out _ _ _ ND).mono ?_
   rintro _ w11 ⟨rfl, h11⟩
   replace U := U.trans h11
   replace R := R.up h11
   replace V := V.up h11
   replace X := X.up h11
   replace NX := NX.up h11
   replace ND := ND.up h11
   replace HC := HC.up h11
   replace NE := NE.up h11
   clear h11
   clear CR1
   obtain ⟨V0, V1, V2, V3, Vf0, Vf1, Vf2, Vf3, Vl⟩ := V.c4
   go_wp2_with fail
   clear V0 Vf0 V1 Vf1 V2 Vf2 V3 Vf3 Vl
   refine (CT2.out _ _ _ _ _ NE).mono ?_
   rintro _ w12 ⟨rfl, h12⟩
   replace U := U.trans h12
   replace R := R.up h12
   replace V := V.up h12
   replace X := X.up h12
   replace NX := NX.up h12
   replace ND := ND.up h12
   replace HC := HC.up h12
   replace NE := NE.up h12
   clear h12
   clear CT2
   go_wp2_with fail
   refine (CR2.out _ _ _ NE).mono ?_
   rintro _ w13 ⟨rfl, h13⟩
   replace U := U.trans h13
   replace R := R.up h13
   replace V := V.up h13
   replace X := X.up h13
   replace NX := NX.up h13
   replace ND := ND.up h13
   replace HC := HC.up h13
   replace NE := NE.up h13
   clear h13
   clear CR2
   have hc9 : w13.cell? ⟨b, o, none⟩ = some (.int .u64 (x : Int)) := HC
   go_wp2_with fail
   go_roundw
   case rel => exact ⟨j + 1, by omega, by have := JN.out; omega, by go_num, R, V, X, NX, U⟩
   case measure => simp [intOf]; omega
  ·
   have EK := Lib.hid ek
   have EY := Lib.hid ey
   clear ek ey
   have lR := R.lt
   obtain ⟨X0, X1, X2, X3, Xf0, Xf1, Xf2, Xf3, Xl⟩ := X.c4
   go_wp2_with fail
   clear X0 Xf0 X1 Xf1 X2 Xf2 X3 Xf3 Xl
   refine (CF1.out _ _ _ NX).mono ?_
   rintro _ w14 ⟨vD, rfl, ND, h14⟩
   replace U := U.trans h14
   replace R := R.up h14
   replace V := V.up h14
   replace X := X.up h14
   replace NX := NX.up h14
   clear h14
   clear CF1
   have lW : w.heap.size ≤ wr.heap.size := by omega
   replace ND := ND.fit FD.out
   obtain ⟨AD, nD, cD, rfl, ND⟩ := ND.sl
   obtain ⟨nD0, b, o, x, rfl, hc, hx⟩ := ND.first DD0.out
   have HC : Clr w14 ⟨b, o, none⟩ (.int .u64 (x : Int)) := hc
   clear hc
   have f1 : decide ((nD : Int) > 0) = true := decide_eq_true (by omega)
   have f2 : decide (0 < nD) = true := decide_eq_true nD0
   have f3 : (0 : Int) < (nD : Int) := by omega
   obtain ⟨ev9, hev9⟩ : ∃ e, ((x : Int).tmod 2 == 0) = e := ⟨_, rfl⟩
   clear hx
   go_wp2_with fail
   obtain ⟨V15, hV15⟩ : ∃ V, w14.alloc (.cells #[.int .u64 1] 22) = V := ⟨_, rfl⟩
   have NL : Nt V15 w14.heap.size 1 (.slice (some ⟨w14.heap.size, 0, none⟩) 1 1) 1 := by rw [← hV15]; exact lit1n w14 1 1 rfl (by decide) (by decide)
   have uV15 : Up w14 V15 := Up.al hV15
   rw [hV15]
   clear hV15
   replace U := U.trans uV15
   replace R := R.up uV15
   replace V := V.up uV15
   replace X := X.up uV15
   replace NX := NX.up uV15
   replace ND := ND.up uV15
   replace HC := HC.up uV15
   clear uV15
   have lM : w.heap.size < V15.heap.size := R.lt
   refine (CA.out _ _ _ _ _ _ ND NL).mono ?_
   rintro _ w16 ⟨vE, rfl, NE, h16⟩
   replace U := U.trans h16
   replace R := R.up h16
   replace V := V.up h16
   replace X := X.up h16
   replace NX := NX.up h16
   replace ND := ND.up h16
   replace HC := HC.up h16
   replace NL := NL.up h16
   clear h16
   clear CA NL
   replace NE := NE.fit FE.out
   obtain ⟨AE, nE, cE, rfl, NE⟩ := NE.sl
   obtain ⟨V0, V1, V2, V3, Vf0, Vf1, Vf2, Vf3, Vl⟩ := V.c4
   go_wp2_with fail
   clear V0 Vf0 V1 Vf1 V2 Vf2 V3 Vf3 Vl
   refine (CT1.out _ _ _ _ _ ND).mono ?_
   rintro _ w17 ⟨rfl, h17⟩
   replace U := U.trans h17
   replace R := R.up h17
   replace V := V.up h17
   replace X := X.up h17
   replace NX := NX.up h17
   replace ND := ND.up h17
   replace HC := HC.up h17
   replace NE := NE.up h17
   clear h17
   clear CT1
   go_wp2_with fail
   refine (CR1.out _ _ _ ND).mono ?_
   rintro _ w18 ⟨rfl, h18⟩
   replace U := U.trans h18
   replace R := R.up h18
   replace V := V.up h18
   replace X := X.up h18
   replace NX := NX.up h18
   replace ND := ND.up h18
   replace HC := HC.up h18
   replace NE := NE.up h18
   clear h18
   clear CR1
   have hc9 : w18.cell? ⟨b, o, none⟩ = some (.int .u64 (x : Int)) := HC
   clear NX
   obtain ⟨V0, V1, V2, V3, Vf0, Vf1, Vf2, Vf3, Vl⟩ := V.c4
   go_wp2_with fail
   clear V0 Vf0 V1 Vf1 V2 Vf2 V3 Vf3 Vl
   have NS9 := (ND.more (s' := 128) (by omega)).lower (lo' := w.heap.size + 1) (by have := lR; omega)
   have lZ := R.lt
   rw [← EY.out] at NS9
   rw [EK.out]
   refine (CS.out _ _ _ _ _ NS9 (by omega)).mono ?_
   rintro _ w19 ⟨AS, nS, cS, rfl, NS, h9⟩
   replace U := U.trans h9
   replace R := R.up h9
   replace V := V.up h9
   replace X := X.up h9
   clear h9
   have DP := D0.out
   go_wp2_with (refine store_ob2 rfl 44 (.tmp 4) (.tmp 99) rfl _ #[.bool false, .slice none 0 0, .int .i64 0] #[.bool gg, .slice AS nS cS, .int .i64 (k + j9)] rfl rfl 3 (by kernel_rfl) rfl rfl (by simp [Value.oneCell']) w U (Nat.le_refl _) 44 R ?_; clear U; intro V9 Z9 U ho; replace NS := Nt.other NS ho (Nat.lt_succ_self _); clear ho R; have R := Z9; clear Z9)
   obtain ⟨R0, R1, R2⟩ := R.g3
   refine bodyPost_ret (v := .agg #[.bool gg, .slice AS nS cS, .int .i64 (k + j9)]) (by simp [results, Tryz.results25, go_sem, R0, R1, R2]) rfl ?_
   exact ⟨_, _, _, by rw [HK.out], NS.lower (Nat.le_succ _), U⟩
  ·
   have EK := Lib.hid ek
   have EY := Lib.hid ey
   clear ek ey
   have lR := R.lt
   obtain ⟨X0, X1, X2, X3, Xf0, Xf1, Xf2, Xf3, Xl⟩ := X.c4
   go_wp2_with fail
   clear X0 Xf0 X1 Xf1 X2 Xf2 X3 Xf3 Xl
   refine (CF1.out _ _ _ NX).mono ?_
   rintro _ w20 ⟨vD, rfl, ND, h20⟩
   replace U := U.trans h20
   replace R := R.up h20
   replace V := V.up h20
   replace X := X.up h20
   replace NX := NX.up h20
   clear h20
   clear CF1
   have lW : w.heap.size ≤ wr.heap.size := by omega
   replace ND := ND.fit FD.out
   obtain ⟨AD, nD, cD, rfl, ND⟩ := ND.sl
   obtain ⟨nD0, b, o, x, rfl, hc, hx⟩ := ND.first DD0.out
   have HC : Clr w20 ⟨b, o, none⟩ (.int .u64 (x : Int)) := hc
   clear hc
   have f1 : decide ((nD : Int) > 0) = true := decide_eq_true (by omega)
   have f2 : decide (0 < nD) = true := decide_eq_true nD0
   have f3 : (0 : Int) < (nD : Int) := by omega
   obtain ⟨ev9, hev9⟩ : ∃ e, ((x : Int).tmod 2 == 0) = e := ⟨_, rfl⟩
   clear hx
   go_wp2_with fail
   obtain ⟨V21, hV21⟩ : ∃ V, w20.alloc (.cells #[.int .u64 1] 22) = V := ⟨_, rfl⟩
   have NL : Nt V21 w20.heap.size 1 (.slice (some ⟨w20.heap.size, 0, none⟩) 1 1) 1 := by rw [← hV21]; exact lit1n w20 1 1 rfl (by decide) (by decide)
   have uV21 : Up w20 V21 := Up.al hV21
   rw [hV21]
   clear hV21
   replace U := U.trans uV21
   replace R := R.up uV21
   replace V := V.up uV21
   replace X := X.up uV21
   replace NX := NX.up uV21
   replace ND := ND.up uV21
   replace HC := HC.up uV21
   clear uV21
   have lM : w.heap.size < V21.heap.size := R.lt
   refine (CA.out _ _ _ _ _ _ ND NL).mono ?_
   rintro _ w22 ⟨vE, rfl, NE, h22⟩
   replace U := U.trans h22
   replace R := R.up h22
   replace V := V.up h22
   replace X := X.up h22
   replace NX := NX.up h22
   replace ND := ND.up h22
   replace HC := HC.up h22
   replace NL := NL.up h22
   clear h22
   clear CA NL
   replace NE := NE.fit FE.out
   obtain ⟨AE, nE, cE, rfl, NE⟩ := NE.sl
   obtain ⟨V0, V1, V2, V3, Vf0, Vf1, Vf2, Vf3, Vl⟩ := V.c4
   go_wp2_with fail
   clear V0 Vf0 V1 Vf1 V2 Vf2 V3 Vf3 Vl
   refine (CT1.out _ _ _ _ _ ND).mono ?_
   rintro _ w23 ⟨rfl, h23⟩
   replace U := U.trans h23
   replace R := R.up h23
   replace V := V.up h23
   replace X := X.up h23
   replace NX := NX.up h23
   replace ND := ND.up h23
   replace HC := HC.up h23
   replace NE := NE.up h23
   clear h23
   clear CT1
   go_wp2_with fail
   refine (CR1.out _ _ _ ND).mono ?_
   rintro _ w24 ⟨rfl, h24⟩
   replace U := U.trans h24
   replace R := R.up h24
   replace V := V.up h24
   replace X := X.up h24
   replace NX := NX.up h24
   replace ND := ND.up h24
   replace HC := HC.up h24
   replace NE := NE.up h24
   clear h24
   clear CR1
   obtain ⟨V0, V1, V2, V3, Vf0, Vf1, Vf2, Vf3, Vl⟩ := V.c4
   go_wp2_with fail
   clear V0 Vf0 V1 Vf1 V2 Vf2 V3 Vf3 Vl
   refine (CT2.out _ _ _ _ _ NE).mono ?_
   rintro _ w25 ⟨rfl, h25⟩
   replace U := U.trans h25
   replace R := R.up h25
   replace V := V.up h25
   replace X := X.up h25
   replace NX := NX.up h25
   replace ND := ND.up h25
   replace HC := HC.up h25
   replace NE := NE.up h25
   clear h25
   clear CT2
   go_wp2_with fail
   refine (CR2.out _ _ _ NE).mono ?_
   rintro _ w26 ⟨rfl, h26⟩
   replace U := U.trans h26
   replace R := R.up h26
   replace V := V.up h26
   replace X := X.up h26
   replace NX := NX.up h26
   replace ND := ND.up h26
   replace HC := HC.up h26
   replace NE := NE.up h26
   clear h26
   clear CR2
   have hc9 : w26.cell? ⟨b, o, none⟩ = some (.int .u64 (x : Int)) := HC
   clear NX
   have lN := lM
   obtain ⟨V0, V1, V2, V3, Vf0, Vf1, Vf2, Vf3, Vl⟩ := V.c4
   go_wp2_with fail
   clear V0 Vf0 V1 Vf1 V2 Vf2 V3 Vf3 Vl
   have NS9 := (NE.more (s' := 128) (by omega)).lower (lo' := w.heap.size + 1) (by have := lM; omega)
   have lZ := R.lt
   rw [← EY.out] at NS9
   rw [EK.out]
   refine (CS.out _ _ _ _ _ NS9 (by omega)).mono ?_
   rintro _ w27 ⟨AS, nS, cS, rfl, NS, h9⟩
   replace U := U.trans h9
   replace R := R.up h9
   replace V := V.up h9
   replace X := X.up h9
   clear h9
   have DP := D0.out
   go_wp2_with (refine store_ob2 rfl 44 (.tmp 4) (.tmp 105) rfl _ #[.bool false, .slice none 0 0, .int .i64 0] #[.bool gg, .slice AS nS cS, .int .i64 (k + j9)] rfl rfl 3 (by kernel_rfl) rfl rfl (by simp [Value.oneCell']) w U (Nat.le_refl _) 44 R ?_; clear U; intro V9 Z9 U ho; replace NS := Nt.other NS ho (Nat.lt_succ_self _); clear ho R; have R := Z9; clear Z9)
   obtain ⟨R0, R1, R2⟩ := R.g3
   refine bodyPost_ret (v := .agg #[.bool gg, .slice AS nS cS, .int .i64 (k + j9)]) (by simp [results, Tryz.results25, go_sem, R0, R1, R2]) rfl ?_
   exact ⟨_, _, _, by rw [HK.out], NS.lower (Nat.le_succ _), U⟩
  ·
   have EK := Lib.hid ek
   have EY := Lib.hid ey
   clear ek ey
   have lR := R.lt
   obtain ⟨X0, X1, X2, X3, Xf0, Xf1, Xf2, Xf3, Xl⟩ := X.c4
   go_wp2_with fail
   clear X0 Xf0 X1 Xf1 X2 Xf2 X3 Xf3 Xl
   refine (CF1.out _ _ _ NX).mono ?_
   rintro _ w28 ⟨vD, rfl, ND, h28⟩
   replace U := U.trans h28
   replace R := R.up h28
   replace V := V.up h28
   replace X := X.up h28
   replace NX := NX.up h28
   clear h28
   clear CF1
   have lW : w.heap.size ≤ wr.heap.size := by omega
   replace ND := ND.fit FD.out
   obtain ⟨AD, nD, cD, rfl, ND⟩ := ND.sl
   obtain ⟨nD0, b, o, x, rfl, hc, hx⟩ := ND.first DD0.out
   have HC : Clr w28 ⟨b, o, none⟩ (.int .u64 (x : Int)) := hc
   clear hc
   have f1 : decide ((nD : Int) > 0) = true := decide_eq_true (by omega)
   have f2 : decide (0 < nD) = true := decide_eq_true nD0
   have f3 : (0 : Int) < (nD : Int) := by omega
   obtain ⟨ev9, hev9⟩ : ∃ e, ((x : Int).tmod 2 == 0) = e := ⟨_, rfl⟩
   clear hx
   go_wp2_with fail
   obtain ⟨V29, hV29⟩ : ∃ V, w28.alloc (.cells #[.int .u64 1] 22) = V := ⟨_, rfl⟩
   have NL : Nt V29 w28.heap.size 1 (.slice (some ⟨w28.heap.size, 0, none⟩) 1 1) 1 := by rw [← hV29]; exact lit1n w28 1 1 rfl (by decide) (by decide)
   have uV29 : Up w28 V29 := Up.al hV29
   rw [hV29]
   clear hV29
   replace U := U.trans uV29
   replace R := R.up uV29
   replace V := V.up uV29
   replace X := X.up uV29
   replace NX := NX.up uV29
   replace ND := ND.up uV29
   replace HC := HC.up uV29
   clear uV29
   have lM : w.heap.size < V29.heap.size := R.lt
   refine (CA.out _ _ _ _ _ _ ND NL).mono ?_
   rintro _ w30 ⟨vE, rfl, NE, h30⟩
   replace U := U.trans h30
   replace R := R.up h30
   replace V := V.up h30
   replace X := X.up h30
   replace NX := NX.up h30
   replace ND := ND.up h30
   replace HC := HC.up h30
   replace NL := NL.up h30
   clear h30
   clear CA NL
   replace NE := NE.fit FE.out
   obtain ⟨AE, nE, cE, rfl, NE⟩ := NE.sl
   obtain ⟨V0, V1, V2, V3, Vf0, Vf1, Vf2, Vf3, Vl⟩ := V.c4
   go_wp2_with fail
   clear V0 Vf0 V1 Vf1 V2 Vf2 V3 Vf3 Vl
   refine (CT1.out _ _ _ _ _ ND).mono ?_
   rintro _ w31 ⟨rfl, h31⟩
   replace U := U.trans h31
   replace R := R.up h31
   replace V := V.up h31
   replace X := X.up h31
   replace NX := NX.up h31
   replace ND := ND.up h31
   replace HC := HC.up h31
   replace NE := NE.up h31
   clear h31
   clear CT1
   go_wp2_with fail
   refine (CR1.out _ _ _ ND).mono ?_
   rintro _ w32 ⟨rfl, h32⟩
   replace U := U.trans h32
   replace R := R.up h32
   replace V := V.up h32
   replace X := X.up h32
   replace NX := NX.up h32
   replace ND := ND.up h32
   replace HC := HC.up h32
   replace NE := NE.up h32
   clear h32
   clear CR1
   obtain ⟨V0, V1, V2, V3, Vf0, Vf1, Vf2, Vf3, Vl⟩ := V.c4
   go_wp2_with fail
   clear V0 Vf0 V1 Vf1 V2 Vf2 V3 Vf3 Vl
   refine (CT2.out _ _ _ _ _ NE).mono ?_
   rintro _ w33 ⟨rfl, h33⟩
   replace U := U.trans h33
   replace R := R.up h33
   replace V := V.up h33
   replace X := X.up h33
   replace NX := NX.up h33
   replace ND := ND.up h33
   replace HC := HC.up h33
   replace NE := NE.up h33
   clear h33
   clear CT2
   go_wp2_with fail
   refine (CR2.out _ _ _ NE).mono ?_
   rintro _ w34 ⟨rfl, h34⟩
   replace U := U.trans h34
   replace R := R.up h34
   replace V := V.up h34
   replace X := X.up h34
   replace NX := NX.up h34
   replace ND := ND.up h34
   replace HC := HC.up h34
   replace NE := NE.up h34
   clear h34
   clear CR2
   have hc9 : w34.cell? ⟨b, o, none⟩ = some (.int .u64 (x : Int)) := HC
   clear NX
   obtain ⟨V0, V1, V2, V3, Vf0, Vf1, Vf2, Vf3, Vl⟩ := V.c4
   go_wp2_with fail
   clear V0 Vf0 V1 Vf1 V2 Vf2 V3 Vf3 Vl
   have NS9 := (ND.more (s' := 128) (by omega)).lower (lo' := w.heap.size + 1) (by have := lR; omega)
   have lZ := R.lt
   rw [← EY.out] at NS9
   rw [EK.out]
   refine (CS.out _ _ _ _ _ NS9 (by omega)).mono ?_
   rintro _ w35 ⟨AS, nS, cS, rfl, NS, h9⟩
   replace U := U.trans h9
   replace R := R.up h9
   replace V := V.up h9
   replace X := X.up h9
   clear h9
   have DP := D0.out
   go_wp2_with (refine store_ob2 rfl 44 (.tmp 4) (.tmp 99) rfl _ #[.bool false, .slice none 0 0, .int .i64 0] #[.bool gg, .slice AS nS cS, .int .i64 (k + j9)] rfl rfl 3 (by kernel_rfl) rfl rfl (by simp [Value.oneCell']) w U (Nat.le_refl _) 44 R ?_; clear U; intro V9 Z9 U ho; replace NS := Nt.other NS ho (Nat.lt_succ_self _); clear ho R; have R := Z9; clear Z9)
   obtain ⟨R0, R1, R2⟩ := R.g3
   refine bodyPost_ret (v := .agg #[.bool gg, .slice AS nS cS, .int .i64 (k + j9)]) (by simp [results, Tryz.results25, go_sem, R0, R1, R2]) rfl ?_
   exact ⟨_, _, _, by rw [HK.out], NS.lower (Nat.le_succ _), U⟩
  ·
   have EK := Lib.hid ek
   have EY := Lib.hid ey
   clear ek ey
   have lR := R.lt
   obtain ⟨X0, X1, X2, X3, Xf0, Xf1, Xf2, Xf3, Xl⟩ := X.c4
   go_wp2_with fail
   clear X0 Xf0 X1 Xf1 X2 Xf2 X3 Xf3 Xl
   refine (CF1.out _ _ _ NX).mono ?_
   rintro _ w36 ⟨vD, rfl, ND, h36⟩
   replace U := U.trans h36
   replace R := R.up h36
   replace V := V.up h36
   replace X := X.up h36
   replace NX := NX.up h36
   clear h36
   clear CF1
   have lW : w.heap.size ≤ wr.heap.size := by omega
   replace ND := ND.fit FD.out
   obtain ⟨AD, nD, cD, rfl, ND⟩ := ND.sl
   obtain ⟨nD0, b, o, x, rfl, hc, hx⟩ := ND.first DD0.out
   have HC : Clr w36 ⟨b, o, none⟩ (.int .u64 (x : Int)) := hc
   clear hc
   have f1 : decide ((nD : Int) > 0) = true := decide_eq_true (by omega)
   have f2 : decide (0 < nD) = true := decide_eq_true nD0
   have f3 : (0 : Int) < (nD : Int) := by omega
   obtain ⟨ev9, hev9⟩ : ∃ e, ((x : Int).tmod 2 == 0) = e := ⟨_, rfl⟩
   clear hx
   go_wp2_with fail
   obtain ⟨V37, hV37⟩ : ∃ V, w36.alloc (.cells #[.int .u64 1] 22) = V := ⟨_, rfl⟩
   have NL : Nt V37 w36.heap.size 1 (.slice (some ⟨w36.heap.size, 0, none⟩) 1 1) 1 := by rw [← hV37]; exact lit1n w36 1 1 rfl (by decide) (by decide)
   have uV37 : Up w36 V37 := Up.al hV37
   rw [hV37]
   clear hV37
   replace U := U.trans uV37
   replace R := R.up uV37
   replace V := V.up uV37
   replace X := X.up uV37
   replace NX := NX.up uV37
   replace ND := ND.up uV37
   replace HC := HC.up uV37
   clear uV37
   have lM : w.heap.size < V37.heap.size := R.lt
   refine (CA.out _ _ _ _ _ _ ND NL).mono ?_
   rintro _ w38 ⟨vE, rfl, NE, h38⟩
   replace U := U.trans h38
   replace R := R.up h38
   replace V := V.up h38
   replace X := X.up h38
   replace NX := NX.up h38
   replace ND := ND.up h38
   replace HC := HC.up h38
   replace NL := NL.up h38
   clear h38
   clear CA NL
   replace NE := NE.fit FE.out
   obtain ⟨AE, nE, cE, rfl, NE⟩ := NE.sl
   obtain ⟨V0, V1, V2, V3, Vf0, Vf1, Vf2, Vf3, Vl⟩ := V.c4
   go_wp2_with fail
   clear V0 Vf0 V1 Vf1 V2 Vf2 V3 Vf3 Vl
   refine (CT1.out _ _ _ _ _ ND).mono ?_
   rintro _ w39 ⟨rfl, h39⟩
   replace U := U.trans h39
   replace R := R.up h39
   replace V := V.up h39
   replace X := X.up h39
   replace NX := NX.up h39
   replace ND := ND.up h39
   replace HC := HC.up h39
   replace NE := NE.up h39
   clear h39
   clear CT1
   go_wp2_with fail
   refine (CR1.out _ _ _ ND).mono ?_
   rintro _ w40 ⟨rfl, h40⟩
   replace U := U.trans h40
   replace R := R.up h40
   replace V := V.up h40
   replace X := X.up h40
   replace NX := NX.up h40
   replace ND := ND.up h40
   replace HC := HC.up h40
   replace NE := NE.up h40
   clear h40
   clear CR1
   obtain ⟨V0, V1, V2, V3, Vf0, Vf1, Vf2, Vf3, Vl⟩ := V.c4
   go_wp2_with fail
   clear V0 Vf0 V1 Vf1 V2 Vf2 V3 Vf3 Vl
   refine (CT2.out _ _ _ _ _ NE).mono ?_
   rintro _ w41 ⟨rfl, h41⟩
   replace U := U.trans h41
   replace R := R.up h41
   replace V := V.up h41
   replace X := X.up h41
   replace NX := NX.up h41
   replace ND := ND.up h41
   replace HC := HC.up h41
   replace NE := NE.up h41
   clear h41
   clear CT2
   go_wp2_with fail
   refine (CR2.out _ _ _ NE).mono ?_
   rintro _ w42 ⟨rfl, h42⟩
   replace U := U.trans h42
   replace R := R.up h42
   replace V := V.up h42
   replace X := X.up h42
   replace NX := NX.up h42
   replace ND := ND.up h42
   replace HC := HC.up h42
   replace NE := NE.up h42
   clear h42
   clear CR2
   have hc9 : w42.cell? ⟨b, o, none⟩ = some (.int .u64 (x : Int)) := HC
   clear NX
   obtain ⟨V0, V1, V2, V3, Vf0, Vf1, Vf2, Vf3, Vl⟩ := V.c4
   go_wp2_with fail
   clear V0 Vf0 V1 Vf1 V2 Vf2 V3 Vf3 Vl
   have NS9 := (ND.more (s' := 128) (by omega)).lower (lo' := w.heap.size + 1) (by have := lR; omega)
   have lZ := R.lt
   rw [← EY.out] at NS9
   rw [EK.out]
   refine (CS.out _ _ _ _ _ NS9 (by omega)).mono ?_
   rintro _ w43 ⟨AS, nS, cS, rfl, NS, h9⟩
   replace U := U.trans h9
   replace R := R.up h9
   replace V := V.up h9
   replace X := X.up h9
   clear h9
   have DP := D0.out
   go_wp2_with (refine store_ob2 rfl 44 (.tmp 4) (.tmp 99) rfl _ #[.bool false, .slice none 0 0, .int .i64 0] #[.bool gg, .slice AS nS cS, .int .i64 (k + j9)] rfl rfl 3 (by kernel_rfl) rfl rfl (by simp [Value.oneCell']) w U (Nat.le_refl _) 44 R ?_; clear U; intro V9 Z9 U ho; replace NS := Nt.other NS ho (Nat.lt_succ_self _); clear ho R; have R := Z9; clear Z9)
   obtain ⟨R0, R1, R2⟩ := R.g3
   refine bodyPost_ret (v := .agg #[.bool gg, .slice AS nS cS, .int .i64 (k + j9)]) (by simp [results, Tryz.results25, go_sem, R0, R1, R2]) rfl ?_
   exact ⟨_, _, _, by rw [HK.out], NS.lower (Nat.le_succ _), U⟩
  ·
   have EK := Lib.hid ek
   have EY := Lib.hid ey
   clear ek ey
   have lR := R.lt
   obtain ⟨X0, X1, X2, X3, Xf0, Xf1, Xf2, Xf3, Xl⟩ := X.c4
   go_wp2_with fail
   clear X0 Xf0 X1 Xf1 X2 Xf2 X3 Xf3 Xl
   refine (CF1.out _ _ _ NX).mono ?_
   rintro _ w44 ⟨vD, rfl, ND, h44⟩
   replace U := U.trans h44
   replace R := R.up h44
   replace V := V.up h44
   replace X := X.up h44
   replace NX := NX.up h44
   clear h44
   clear CF1
   have lW : w.heap.size ≤ wr.heap.size := by omega
   replace ND := ND.fit FD.out
   obtain ⟨AD, nD, cD, rfl, ND⟩ := ND.sl
   obtain ⟨nD0, b, o, x, rfl, hc, hx⟩ := ND.first DD0.out
   have HC : Clr w44 ⟨b, o, none⟩ (.int .u64 (x : Int)) := hc
   clear hc
   have f1 : decide ((nD : Int) > 0) = true := decide_eq_true (by omega)
   have f2 : decide (0 < nD) = true := decide_eq_true nD0
   have f3 : (0 : Int) < (nD : Int) := by omega
   obtain ⟨ev9, hev9⟩ : ∃ e, ((x : Int).tmod 2 == 0) = e := ⟨_, rfl⟩
   have hev : ev9 = true := by
    rw [← hev9, Int.tmod_eq_emod_of_nonneg (by omega)]
    first | (rw [beq_iff_eq]; omega) | (rw [beq_eq_false_iff_ne]; omega)
   subst hev
   have hev8 : ((x : Int) % 2 == 0) = true := by
    first | (rw [beq_iff_eq]; omega) | (rw [beq_eq_false_iff_ne]; omega)
   clear hx
   go_wp2_with fail
   obtain ⟨V45, hV45⟩ : ∃ V, w44.alloc (.cells #[.int .u64 1] 22) = V := ⟨_, rfl⟩
   have NL : Nt V45 w44.heap.size 1 (.slice (some ⟨w44.heap.size, 0, none⟩) 1 1) 1 := by rw [← hV45]; exact lit1n w44 1 1 rfl (by decide) (by decide)
   have uV45 : Up w44 V45 := Up.al hV45
   rw [hV45]
   clear hV45
   replace U := U.trans uV45
   replace R := R.up uV45
   replace V := V.up uV45
   replace X := X.up uV45
   replace NX := NX.up uV45
   replace ND := ND.up uV45
   replace HC := HC.up uV45
   clear uV45
   have lM : w.heap.size < V45.heap.size := R.lt
   refine (CA.out _ _ _ _ _ _ ND NL).mono ?_
   rintro _ w46 ⟨vE, rfl, NE, h46⟩
   replace U := U.trans h46
   replace R := R.up h46
   replace V := V.up h46
   replace X := X.up h46
   replace NX := NX.up h46
   replace ND := ND.up h46
   replace HC := HC.up h46
   replace NL := NL.up h46
   clear h46
   clear CA NL
   replace NE := NE.fit FE.out
   obtain ⟨AE, nE, cE, rfl, NE⟩ := NE.sl
   obtain ⟨V0, V1, V2, V3, Vf0, Vf1, Vf2, Vf3, Vl⟩ := V.c4
   go_wp2_with fail
   clear V0 Vf0 V1 Vf1 V2 Vf2 V3 Vf3 Vl
   refine (CT1.out _ _ _ _ _ ND).mono ?_
   rintro _ w47 ⟨rfl, h47⟩
   replace U := U.trans h47
   replace R := R.up h47
   replace V := V.up h47
   replace X := X.up h47
   replace NX := NX.up h47
   replace ND := ND.up h47
   replace HC := HC.up h47
   replace NE := NE.up h47
   clear h47
   clear CT1
   go_wp2_with fail
   refine (CR1.out _ _ _ ND).mono ?_
   rintro _ w48 ⟨rfl, h48⟩
   replace U := U.trans h48
   replace R := R.up h48
   replace V := V.up h48
   replace X := X.up h48
   replace NX := NX.up h48
   replace ND := ND.up h48
   replace HC := HC.up h48
   replace NE := NE.up h48
   clear h48
   clear CR1
   obtain ⟨V0, V1, V2, V3, Vf0, Vf1, Vf2, Vf3, Vl⟩ := V.c4
   go_wp2_with fail
   clear V0 Vf0 V1 Vf1 V2 Vf2 V3 Vf3 Vl
   refine (CT2.out _ _ _ _ _ NE).mono ?_
   rintro _ w49 ⟨rfl, h49⟩
   replace U := U.trans h49
   replace R := R.up h49
   replace V := V.up h49
   replace X := X.up h49
   replace NX := NX.up h49
   replace ND := ND.up h49
   replace HC := HC.up h49
   replace NE := NE.up h49
   clear h49
   clear CT2
   go_wp2_with fail
   refine (CR2.out _ _ _ NE).mono ?_
   rintro _ w50 ⟨rfl, h50⟩
   replace U := U.trans h50
   replace R := R.up h50
   replace V := V.up h50
   replace X := X.up h50
   replace NX := NX.up h50
   replace ND := ND.up h50
   replace HC := HC.up h50
   replace NE := NE.up h50
   clear h50
   clear CR2
   have hc9 : w50.cell? ⟨b, o, none⟩ = some (.int .u64 (x : Int)) := HC
   clear NX
   obtain ⟨V0, V1, V2, V3, Vf0, Vf1, Vf2, Vf3, Vl⟩ := V.c4
   go_wp2_with fail
   clear V0 Vf0 V1 Vf1 V2 Vf2 V3 Vf3 Vl
   have NS9 := (ND.more (s' := 128) (by omega)).lower (lo' := w.heap.size + 1) (by have := lR; omega)
   have lZ := R.lt
   rw [← EY.out] at NS9
   rw [EK.out]
   refine (CS.out _ _ _ _ _ NS9 (by omega)).mono ?_
   rintro _ w51 ⟨AS, nS, cS, rfl, NS, h9⟩
   replace U := U.trans h9
   replace R := R.up h9
   replace V := V.up h9
   replace X := X.up h9
   clear h9
   have DP := D0.out
   go_wp2_with (refine store_ob2 rfl 44 (.tmp 4) (.tmp 99) rfl _ #[.bool false, .slice none 0 0, .int .i64 0] #[.bool gg, .slice AS nS cS, .int .i64 (k + j9)] rfl rfl 3 (by kernel_rfl) rfl rfl (by simp [Value.oneCell']) w U (Nat.le_refl _) 44 R ?_; clear U; intro V9 Z9 U ho; replace NS := Nt.other NS ho (Nat.lt_succ_self _); clear ho R; have R := Z9; clear Z9)
   obtain ⟨R0, R1, R2⟩ := R.g3
   refine bodyPost_ret (v := .agg #[.bool gg, .slice AS nS cS, .int .i64 (k + j9)]) (by simp [results, Tryz.results25, go_sem, R0, R1, R2]) rfl ?_
   exact ⟨_, _, _, by rw [HK.out], NS.lower (Nat.le_succ _), U⟩
  ·
   have EK := Lib.hid ek
   have EY := Lib.hid ey
   clear ek ey
   have lR := R.lt
   obtain ⟨X0, X1, X2, X3, Xf0, Xf1, Xf2, Xf3, Xl⟩ := X.c4
   go_wp2_with fail
   clear X0 Xf0 X1 Xf1 X2 Xf2 X3 Xf3 Xl
   refine (CF1.out _ _ _ NX).mono ?_
   rintro _ w52 ⟨vD, rfl, ND, h52⟩
   replace U := U.trans h52
   replace R := R.up h52
   replace V := V.up h52
   replace X := X.up h52
   replace NX := NX.up h52
   clear h52
   clear CF1
   have lW : w.heap.size ≤ wr.heap.size := by omega
   replace ND := ND.fit FD.out
   obtain ⟨AD, nD, cD, rfl, ND⟩ := ND.sl
   obtain ⟨nD0, b, o, x, rfl, hc, hx⟩ := ND.first DD0.out
   have HC : Clr w52 ⟨b, o, none⟩ (.int .u64 (x : Int)) := hc
   clear hc
   have f1 : decide ((nD : Int) > 0) = true := decide_eq_true (by omega)
   have f2 : decide (0 < nD) = true := decide_eq_true nD0
   have f3 : (0 : Int) < (nD : Int) := by omega
   obtain ⟨ev9, hev9⟩ : ∃ e, ((x : Int).tmod 2 == 0) = e := ⟨_, rfl⟩
   have hev : ev9 = false := by
    rw [← hev9, Int.tmod_eq_emod_of_nonneg (by omega)]
    first | (rw [beq_iff_eq]; omega) | (rw [beq_eq_false_iff_ne]; omega)
   subst hev
   have hev8 : ((x : Int) % 2 == 0) = false := by
    first | (rw [beq_iff_eq]; omega) | (rw [beq_eq_false_iff_ne]; omega)
   clear hx
   go_wp2_with fail
   obtain ⟨V53, hV53⟩ : ∃ V, w52.alloc (.cells #[.int .u64 1] 22) = V := ⟨_, rfl⟩
   have NL : Nt V53 w52.heap.size 1 (.slice (some ⟨w52.heap.size, 0, none⟩) 1 1) 1 := by rw [← hV53]; exact lit1n w52 1 1 rfl (by decide) (by decide)
   have uV53 : Up w52 V53 := Up.al hV53
   rw [hV53]
   clear hV53
   replace U := U.trans uV53
   replace R := R.up uV53
   replace V := V.up uV53
   replace X := X.up uV53
   replace NX := NX.up uV53
   replace ND := ND.up uV53
   replace HC := HC.up uV53
   clear uV53
   have lM : w.heap.size < V53.heap.size := R.lt
   refine (CA.out _ _ _ _ _ _ ND NL).mono ?_
   rintro _ w54 ⟨vE, rfl, NE, h54⟩
   replace U := U.trans h54
   replace R := R.up h54
   replace V := V.up h54
   replace X := X.up h54
   replace NX := NX.up h54
   replace ND := ND.up h54
   replace HC := HC.up h54
   replace NL := NL.up h54
   clear h54
   clear CA NL
   replace NE := NE.fit FE.out
   obtain ⟨AE, nE, cE, rfl, NE⟩ := NE.sl
   obtain ⟨V0, V1, V2, V3, Vf0, Vf1, Vf2, Vf3, Vl⟩ := V.c4
   go_wp2_with fail
   clear V0 Vf0 V1 Vf1 V2 Vf2 V3 Vf3 Vl
   refine (CT1.out _ _ _ _ _ ND).mono ?_
   rintro _ w55 ⟨rfl, h55⟩
   replace U := U.trans h55
   replace R := R.up h55
   replace V := V.up h55
   replace X := X.up h55
   replace NX := NX.up h55
   replace ND := ND.up h55
   replace HC := HC.up h55
   replace NE := NE.up h55
   clear h55
   clear CT1
   go_wp2_with fail
   refine (CR1.out _ _ _ ND).mono ?_
   rintro _ w56 ⟨rfl, h56⟩
   replace U := U.trans h56
   replace R := R.up h56
   replace V := V.up h56
   replace X := X.up h56
   replace NX := NX.up h56
   replace ND := ND.up h56
   replace HC := HC.up h56
   replace NE := NE.up h56
   clear h56
   clear CR1
   obtain ⟨V0, V1, V2, V3, Vf0, Vf1, Vf2, Vf3, Vl⟩ := V.c4
   go_wp2_with fail
   clear V0 Vf0 V1 Vf1 V2 Vf2 V3 Vf3 Vl
   refine (CT2.out _ _ _ _ _ NE).mono ?_
   rintro _ w57 ⟨rfl, h57⟩
   replace U := U.trans h57
   replace R := R.up h57
   replace V := V.up h57
   replace X := X.up h57
   replace NX := NX.up h57
   replace ND := ND.up h57
   replace HC := HC.up h57
   replace NE := NE.up h57
   clear h57
   clear CT2
   go_wp2_with fail
   refine (CR2.out _ _ _ NE).mono ?_
   rintro _ w58 ⟨rfl, h58⟩
   replace U := U.trans h58
   replace R := R.up h58
   replace V := V.up h58
   replace X := X.up h58
   replace NX := NX.up h58
   replace ND := ND.up h58
   replace HC := HC.up h58
   replace NE := NE.up h58
   clear h58
   clear CR2
   have hc9 : w58.cell? ⟨b, o, none⟩ = some (.int .u64 (x : Int)) := HC
   clear NX
   have lN := lM
   obtain ⟨V0, V1, V2, V3, Vf0, Vf1, Vf2, Vf3, Vl⟩ := V.c4
   go_wp2_with fail
   clear V0 Vf0 V1 Vf1 V2 Vf2 V3 Vf3 Vl
   have NS9 := (NE.more (s' := 128) (by omega)).lower (lo' := w.heap.size + 1) (by have := lM; omega)
   have lZ := R.lt
   rw [← EY.out] at NS9
   rw [EK.out]
   refine (CS.out _ _ _ _ _ NS9 (by omega)).mono ?_
   rintro _ w59 ⟨AS, nS, cS, rfl, NS, h9⟩
   replace U := U.trans h9
   replace R := R.up h9
   replace V := V.up h9
   replace X := X.up h9
   clear h9
   have DP := D0.out
   go_wp2_with (refine store_ob2 rfl 44 (.tmp 4) (.tmp 105) rfl _ #[.bool false, .slice none 0 0, .int .i64 0] #[.bool gg, .slice AS nS cS, .int .i64 (k + j9)] rfl rfl 3 (by kernel_rfl) rfl rfl (by simp [Value.oneCell']) w U (Nat.le_refl _) 44 R ?_; clear U; intro V9 Z9 U ho; replace NS := Nt.other NS ho (Nat.lt_succ_self _); clear ho R; have R := Z9; clear Z9)
   obtain ⟨R0, R1, R2⟩ := R.g3
   refine bodyPost_ret (v := .agg #[.bool gg, .slice AS nS cS, .int .i64 (k + j9)]) (by simp [results, Tryz.results25, go_sem, R0, R1, R2]) rfl ?_
   exact ⟨_, _, _, by rw [HK.out], NS.lower (Nat.le_succ _), U⟩
  ·
   have EK := Lib.hid ek
   have EY := Lib.hid ey
   clear ek ey
   have lR := R.lt
   obtain ⟨X0, X1, X2, X3, Xf0, Xf1, Xf2, Xf3, Xl⟩ := X.c4
   go_wp2_with fail
   clear X0 Xf0 X1 Xf1 X2 Xf2 X3 Xf3 Xl
   refine (CF1.out _ _ _ NX).mono ?_
   rintro _ w60 ⟨vD, rfl, ND, h60⟩
   replace U := U.trans h60
   replace R := R.up h60
   replace V := V.up h60
   replace X := X.up h60
   replace NX := NX.up h60
   clear h60
   clear CF1
   have lW : w.heap.size ≤ wr.heap.size := by omega
   replace ND := ND.fit FD.out
   obtain ⟨AD, nD, cD, rfl, ND⟩ := ND.sl
   obtain ⟨nD0, b, o, x, rfl, hc, hx⟩ := ND.first DD0.out
   have HC : Clr w60 ⟨b, o, none⟩ (.int .u64 (x : Int)) := hc
   clear hc
   have f1 : decide ((nD : Int) > 0) = true := decide_eq_true (by omega)
   have f2 : decide (0 < nD) = true := decide_eq_true nD0
   have f3 : (0 : Int) < (nD : Int) := by omega
   obtain ⟨ev9, hev9⟩ : ∃ e, ((x : Int).tmod 2 == 0) = e := ⟨_, rfl⟩
   clear hx
   go_wp2_with fail
   obtain ⟨V61, hV61⟩ : ∃ V, w60.alloc (.cells #[.int .u64 1] 22) = V := ⟨_, rfl⟩
   have NL : Nt V61 w60.heap.size 1 (.slice (some ⟨w60.heap.size, 0, none⟩) 1 1) 1 := by rw [← hV61]; exact lit1n w60 1 1 rfl (by decide) (by decide)
   have uV61 : Up w60 V61 := Up.al hV61
   rw [hV61]
   clear hV61
   replace U := U.trans uV61
   replace R := R.up uV61
   replace V := V.up uV61
   replace X := X.up uV61
   replace NX := NX.up uV61
   replace ND := ND.up uV61
   replace HC := HC.up uV61
   clear uV61
   have lM : w.heap.size < V61.heap.size := R.lt
   refine (CA.out _ _ _ _ _ _ ND NL).mono ?_
   rintro _ w62 ⟨vE, rfl, NE, h62⟩
   replace U := U.trans h62
   replace R := R.up h62
   replace V := V.up h62
   replace X := X.up h62
   replace NX := NX.up h62
   replace ND := ND.up h62
   replace HC := HC.up h62
   replace NL := NL.up h62
   clear h62
   clear CA NL
   replace NE := NE.fit FE.out
   obtain ⟨AE, nE, cE, rfl, NE⟩ := NE.sl
   obtain ⟨V0, V1, V2, V3, Vf0, Vf1, Vf2, Vf3, Vl⟩ := V.c4
   go_wp2_with fail
   clear V0 Vf0 V1 Vf1 V2 Vf2 V3 Vf3 Vl
   refine (CT1.out _ _ _ _ _ ND).mono ?_
   rintro _ w63 ⟨rfl, h63⟩
   replace U := U.trans h63
   replace R := R.up h63
   replace V := V.up h63
   replace X := X.up h63
   replace NX := NX.up h63
   replace ND := ND.up h63
   replace HC := HC.up h63
   replace NE := NE.up h63
   clear h63
   clear CT1
   go_wp2_with fail
   refine (CR1.out _ _ _ ND).mono ?_
   rintro _ w64 ⟨rfl, h64⟩
   replace U := U.trans h64
   replace R := R.up h64
   replace V := V.up h64
   replace X := X.up h64
   replace NX := NX.up h64
   replace ND := ND.up h64
   replace HC := HC.up h64
   replace NE := NE.up h64
   clear h64
   clear CR1
   obtain ⟨V0, V1, V2, V3, Vf0, Vf1, Vf2, Vf3, Vl⟩ := V.c4
   go_wp2_with fail
   clear V0 Vf0 V1 Vf1 V2 Vf2 V3 Vf3 Vl
   refine (CT2.out _ _ _ _ _ NE).mono ?_
   rintro _ w65 ⟨rfl, h65⟩
   replace U := U.trans h65
   replace R := R.up h65
   replace V := V.up h65
   replace X := X.up h65
   replace NX := NX.up h65
   replace ND := ND.up h65
   replace HC := HC.up h65
   replace NE := NE.up h65
   clear h65
   clear CT2
   go_wp2_with fail
   refine (CR2.out _ _ _ NE).mono ?_
   rintro _ w66 ⟨rfl, h66⟩
   replace U := U.trans h66
   replace R := R.up h66
   replace V := V.up h66
   replace X := X.up h66
   replace NX := NX.up h66
   replace ND := ND.up h66
   replace HC := HC.up h66
   replace NE := NE.up h66
   clear h66
   clear CR2
   have hc9 : w66.cell? ⟨b, o, none⟩ = some (.int .u64 (x : Int)) := HC
   clear NX
   have lN := lM
   obtain ⟨V0, V1, V2, V3, Vf0, Vf1, Vf2, Vf3, Vl⟩ := V.c4
   go_wp2_with fail
   clear V0 Vf0 V1 Vf1 V2 Vf2 V3 Vf3 Vl
   have NS9 := (NE.more (s' := 128) (by omega)).lower (lo' := w.heap.size + 1) (by have := lM; omega)
   have lZ := R.lt
   rw [← EY.out] at NS9
   rw [EK.out]
   refine (CS.out _ _ _ _ _ NS9 (by omega)).mono ?_
   rintro _ w67 ⟨AS, nS, cS, rfl, NS, h9⟩
   replace U := U.trans h9
   replace R := R.up h9
   replace V := V.up h9
   replace X := X.up h9
   clear h9
   have DP := D0.out
   go_wp2_with (refine store_ob2 rfl 44 (.tmp 4) (.tmp 105) rfl _ #[.bool false, .slice none 0 0, .int .i64 0] #[.bool gg, .slice AS nS cS, .int .i64 (k + j9)] rfl rfl 3 (by kernel_rfl) rfl rfl (by simp [Value.oneCell']) w U (Nat.le_refl _) 44 R ?_; clear U; intro V9 Z9 U ho; replace NS := Nt.other NS ho (Nat.lt_succ_self _); clear ho R; have R := Z9; clear Z9)
   obtain ⟨R0, R1, R2⟩ := R.g3
   refine bodyPost_ret (v := .agg #[.bool gg, .slice AS nS cS, .int .i64 (k + j9)]) (by simp [results, Tryz.results25, go_sem, R0, R1, R2]) rfl ?_
   exact ⟨_, _, _, by rw [HK.out], NS.lower (Nat.le_succ _), U⟩
end Go.Proofs.YtcmlanfgafancaaGreatDoor
