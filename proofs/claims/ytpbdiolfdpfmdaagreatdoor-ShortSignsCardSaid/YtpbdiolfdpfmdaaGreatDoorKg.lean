/-
  The walks of ShortBack and ShortFull: true, and nothing that was there has turned.
-/
import Derived.Test.YtpbdiolfdpfmdaaGreatDoorKf
import Derived.OwnWalk
import Derived.Deep.RegionHeld3
import Derived.Deep.DrawnRows
namespace Go.Proofs.YtpbdiolfdpfmdaaGreatDoor
open Go.RowKit
set_option linter.unusedSimpArgs false
set_option linter.unusedVariables false

namespace M
theorem sq_in {f : Fm} {p : Nat} {g : Bool} {m : Nat} {z : Int} {m1 : Nat} {z1 : Int} {m2 : Nat} {z2 : Int} {ev : Bool} {t : Int} {n : Nat} {k : Int} {d : Nat} {r : Int} {y D : Nat} {K : Int} (h : Sq f p g m z m1 z1 m2 z2 ev t n k d r y D K) :
    In m1 z1 m2 z2 ev (sz D K K) ∧ D ≠ 0 ∧ sz D K K ≠ 0 := by
  have e := h.dg.eq
  have hD : D ≠ 0 := by have := h.dg.ten; omega
  exact ⟨by rw [e]; exact (ch_has h.sh.ch).1, hD, fun q => hD (sz_zero.1 q)⟩
theorem sq_rc {i : Nat} (i1 : 1 ≤ i) (i2 : i ≤ 14) {p : Nat} {g : Bool} {m : Nat} {z : Int} {m1 : Nat} {z1 : Int} {m2 : Nat} {z2 : Int} {ev : Bool} {t : Int} {n : Nat} {k : Int} {d : Nat} {r : Int} {y D : Nat} {K : Int} (h : Sq (tb i) p g m z m1 z1 m2 z2 ev t n k d r y D K) {mode : Int} (hm : mode = 1 ∨ mode = 2) :
    Rc (i : Int) mode g (sz D K K) p 0 := by
  obtain ⟨h1, _, h3⟩ := sq_in h
  exact .inr ⟨i, rfl, i1, i2, .inr ⟨hm, in_both (ok i i1 i2) (ok2 i i1 i2) (ok3 i i1 i2) h.pt h3 h1 hm, rfl⟩⟩
theorem dv_rc {i : Nat} (i1 : 1 ≤ i) (i2 : i ≤ 14) {p : Nat} (hp : (p : Int) ≤ msk (tb i)) {g : Bool} {m D : Nat} {z K : Int} (hd : Dv (tb i) p 2 g m z) (hg : Dgs (sz m z 0) D K) {mode : Int} (hm : mode = 1 ∨ mode = 2) :
    Rc (i : Int) mode g (sz D K K) p 0 := by
  rw [hg.eq]
  exact .inr ⟨i, rfl, i1, i2, .inr ⟨hm, (has_rv (ok i i1 i2) (ok2 i i1 i2) (ok3 i i1 i2) hp hd (.inr rfl) mode).1, rfl⟩⟩
theorem dgs_pw {Y D : Nat} {K : Int} (h : Dgs Y D K) : pw K := ⟨by have := h.lo; omega, by have := h.hi; omega⟩
end M
set_option maxHeartbeats 16000000 in
set_option maxRecDepth 100000 in
theorem sback_walk (w : World) (L : Hid (Lk w)) (x0 : Int) (_wx0 : (Lit.int .i64 x0).wf = true) (x1 : Int) (_wx1 : (Lit.int .u64 x1).wf = true) (x2 : Bool) : Calls Tryz.prog 4 #[.int .i64 x0, .int .u64 x1, .bool x2] w (True11 w) := by
  obtain ⟨p, rfl, pb⟩ := wf_u64 _wx1
  obtain ⟨gg, D, K, x, hs⟩ := M.shc_ex x0 p
  have CH := Lib.hid (fun W (l : Lk W) => shown11_any W (Lib.hid l.low) (Lib.hid l.form) (Lib.hid l.ten))
  have SC := Lib.hid (fun W (l : Lk W) => short_any W (Lib.hid l.low) (Lib.hid l.form) (Lib.hid l.ten) x0 p pb gg D K x hs)
  obtain ⟨gg', D', K', x', hu⟩ := M.uc_ex x0 p
  obtain ⟨rfl, rfl⟩ := M.shc_uc hs hu
  have FC := Lib.hid (fun W (l : Lk W) => full_any W (Lib.hid l.low) (Lib.hid l.form) x0 p pb gg D' K' x hu)
  rcases hs with ⟨x00, _, rfl, rfl, rfl⟩ | ⟨rfl, i, rfl, i1, i2, m, z, m1, z1, m2, z2, ev, t, n, k, d, r, y, hq⟩
  ·
    have d1 : (x != 0) = true := by simpa using x00
    have d2 : (x == x) = true := by simp
    clear x00 hu
    cases x2
    all_goals
      have U := Up.refl w
      go_enter Tryz.func4, Tryz.ntmps4
      go_wp2_with fail
      refine (CH.out _ (L.out.up U)).mono ?_
      rintro _ w1 ⟨rfl, h1⟩
      replace U := U.trans h1
      clear h1
      clear CH
      go_wp2_with fail
      refine (SC.out _ (L.out.up U)).mono ?_
      rintro _ w2 ⟨vS, rfl, NS, h2⟩
      replace U := U.trans h2
      clear h2
      clear SC
      obtain ⟨AS, nS, cS, rfl, NS⟩ := NS.sl
      go_upto_region 6 with fail
      obtain ⟨V3, hV3⟩ : ∃ V3, w2.alloc (.cells #[.bool false, .slice AS nS cS, .int .i64 0] 27) = V3 := ⟨_, rfl⟩
      have BS : Ob V3 (w2.heap.size) 27 #[.bool false, .slice AS nS cS, .int .i64 0] := by rw [← hV3]; exact Ob.mk_ _ _ _
      have sV3 : V3.heap.size = w2.heap.size + 1 := by rw [← hV3]; exact (Array.size_push _)
      have uV3 : Up w2 V3 := by rw [← hV3]; exact (Up.refl _).alloc _
      have ltBS : w.heap.size ≤ w2.heap.size := by have := U.size; omega
      rw [hV3]
      clear hV3
      replace U := U.trans uV3
      replace NS := NS.up uV3
      clear uV3
      clear sV3
      have glBS := BS.lt
      go_wp2_with fail
      refine (FC.out _ (L.out.up U)).mono ?_
      rintro _ w4 ⟨vF, rfl, NF, h4⟩
      replace U := U.trans h4
      replace BS := BS.up h4
      replace NS := NS.up h4
      clear h4
      clear FC
      obtain ⟨AF, nF, cF, rfl, NF⟩ := NF.sl
      go_upto_region 7 with fail
      have gBFBS := BS.lt
      obtain ⟨V5, hV5⟩ : ∃ V5, w4.alloc (.cells #[.bool false, .slice AF nF cF, .int .i64 K'] 27) = V5 := ⟨_, rfl⟩
      have BF : Ob V5 (w4.heap.size) 27 #[.bool false, .slice AF nF cF, .int .i64 K'] := by rw [← hV5]; exact Ob.mk_ _ _ _
      have sV5 : V5.heap.size = w4.heap.size + 1 := by rw [← hV5]; exact (Array.size_push _)
      have uV5 : Up w4 V5 := by rw [← hV5]; exact (Up.refl _).alloc _
      have ltBF : w.heap.size ≤ w4.heap.size := by have := U.size; omega
      rw [hV5]
      clear hV5
      replace U := U.trans uV5
      replace BS := BS.up uV5
      replace NS := NS.up uV5
      replace NF := NF.up uV5
      clear uV5
      clear sV5
      have glBF := BF.lt
      go_wp2_with fail
      go_ret
      exact ⟨rfl, U⟩
  ·
    obtain ⟨i', e, _, _, hp, m', z', hd, hg⟩ : ∃ i' : Nat, (i : Int) = i' ∧ 1 ≤ i' ∧ i' ≤ 14 ∧ (p : Int) ≤ M.msk (M.tb i') ∧ ∃ m z, M.Dv (M.tb i') p 2 gg m z ∧ M.Dgs (M.sz m z 0) D' K' := by
      rcases hu with ⟨h, _⟩ | ⟨_, h⟩
      · exact absurd rfl h
      · exact h
    obtain rfl : i = i' := by omega
    have CD := Lib.hid (fun W lo' v' (N : Nt W lo' 128 v' D) => dec_yes W lo' 128 gg v' D K N.nw hq.dg.fit (M.dgs_pw hq.dg))
    have CD2 := Lib.hid (fun W lo' v' (N : Nt W lo' 128 v' D') => dec_yes W lo' 128 gg v' D' K' N.nw hg.fit (M.dgs_pw hg))
    have CR := Lib.hid (fun W (l : Lk W) (mode : Int) (hm : mode = 1 ∨ mode = 2) lo' v' (N : Nt W lo' 128 v' D) => rnd_round W (Lib.hid l.low) (Lib.hid l.form) (i : Int) mode lo' 128 gg v' K K D N (by omega) (M.dgs_pw hq.dg) (M.dgs_pw hq.dg) hq.dg.fit p 0 (M.sq_rc i1 i2 hq hm))
    have CR2 := Lib.hid (fun W (l : Lk W) (mode : Int) (hm : mode = 1 ∨ mode = 2) lo' v' (N : Nt W lo' 128 v' D') => rnd_round W (Lib.hid l.low) (Lib.hid l.form) (i : Int) mode lo' 128 gg v' K' K' D' N (by omega) (M.dgs_pw hg) (M.dgs_pw hg) hg.fit p 0 (M.dv_rc i1 i2 hp hd hg hm))
    have e1 : ((p : Int) == (p : Int)) = true := by simp
    clear hq hu hd hg hp i1 i2 pb e
    cases x2
    all_goals
      have U := Up.refl w
      go_enter Tryz.func4, Tryz.ntmps4
      go_wp2_with fail
      refine (CH.out _ (L.out.up U)).mono ?_
      rintro _ w1 ⟨rfl, h1⟩
      replace U := U.trans h1
      clear h1
      clear CH
      go_wp2_with fail
      refine (SC.out _ (L.out.up U)).mono ?_
      rintro _ w2 ⟨vS, rfl, NS, h2⟩
      replace U := U.trans h2
      clear h2
      clear SC
      obtain ⟨AS, nS, cS, rfl, NS⟩ := NS.sl
      go_upto_region 6 with fail
      obtain ⟨V3, hV3⟩ : ∃ V3, w2.alloc (.cells #[.bool gg, .slice AS nS cS, .int .i64 K] 27) = V3 := ⟨_, rfl⟩
      have BS : Ob V3 (w2.heap.size) 27 #[.bool gg, .slice AS nS cS, .int .i64 K] := by rw [← hV3]; exact Ob.mk_ _ _ _
      have sV3 : V3.heap.size = w2.heap.size + 1 := by rw [← hV3]; exact (Array.size_push _)
      have uV3 : Up w2 V3 := by rw [← hV3]; exact (Up.refl _).alloc _
      have ltBS : w.heap.size ≤ w2.heap.size := by have := U.size; omega
      rw [hV3]
      clear hV3
      replace U := U.trans uV3
      replace NS := NS.up uV3
      clear uV3
      clear sV3
      have glBS := BS.lt
      go_wp2_with fail
      refine (FC.out _ (L.out.up U)).mono ?_
      rintro _ w4 ⟨vF, rfl, NF, h4⟩
      replace U := U.trans h4
      replace BS := BS.up h4
      replace NS := NS.up h4
      clear h4
      clear FC
      obtain ⟨AF, nF, cF, rfl, NF⟩ := NF.sl
      go_upto_region 7 with fail
      have gBFBS := BS.lt
      obtain ⟨V5, hV5⟩ : ∃ V5, w4.alloc (.cells #[.bool gg, .slice AF nF cF, .int .i64 K'] 27) = V5 := ⟨_, rfl⟩
      have BF : Ob V5 (w4.heap.size) 27 #[.bool gg, .slice AF nF cF, .int .i64 K'] := by rw [← hV5]; exact Ob.mk_ _ _ _
      have sV5 : V5.heap.size = w4.heap.size + 1 := by rw [← hV5]; exact (Array.size_push _)
      have uV5 : Up w4 V5 := by rw [← hV5]; exact (Up.refl _).alloc _
      have ltBF : w.heap.size ≤ w4.heap.size := by have := U.size; omega
      rw [hV5]
      clear hV5
      replace U := U.trans uV5
      replace BS := BS.up uV5
      replace NS := NS.up uV5
      replace NF := NF.up uV5
      clear uV5
      clear sV5
      have glBF := BF.lt
      have BS0 := BS.get 0
      have BS1 := BS.get 1
      have BS2 := BS.get 2
      have BSf0 := BS.fr 0
      have BSf1 := BS.fr 1
      have BSf2 := BS.fr 2
      have BSl := BS.lt
      simp only [List.getElem?_toArray, List.getElem?_cons_zero, List.getElem?_cons_succ] at BS0 BS1 BS2
      go_wp2_with fail
      clear BS0 BSf0 BS1 BSf1 BS2 BSf2 BSl
      refine (CD.out _ _ _ NS).mono ?_
      rintro _ w6 ⟨vX, rfl, NX, h6⟩
      replace U := U.trans h6
      replace BS := BS.up h6
      replace BF := BF.up h6
      replace NS := NS.up h6
      replace NF := NF.up h6
      clear h6
      clear CD NS BS
      obtain ⟨AX, nX, cX, rfl, NX⟩ := NX.sl
      go_upto_region 10 with fail
      have gBXBF := BF.lt
      obtain ⟨V7, hV7⟩ : ∃ V7, w6.alloc (.cells #[.bool gg, .slice AX nX cX, .int .i64 K, .int .i64 K] 39) = V7 := ⟨_, rfl⟩
      have BX : Ob V7 (w6.heap.size) 39 #[.bool gg, .slice AX nX cX, .int .i64 K, .int .i64 K] := by rw [← hV7]; exact Ob.mk_ _ _ _
      have sV7 : V7.heap.size = w6.heap.size + 1 := by rw [← hV7]; exact (Array.size_push _)
      have uV7 : Up w6 V7 := by rw [← hV7]; exact (Up.refl _).alloc _
      have ltBX : w.heap.size ≤ w6.heap.size := by have := U.size; omega
      rw [hV7]
      clear hV7
      replace U := U.trans uV7
      replace BF := BF.up uV7
      replace NF := NF.up uV7
      replace NX := NX.up uV7
      clear uV7
      clear sV7
      have glBX := BX.lt
      have BF0 := BF.get 0
      have BF1 := BF.get 1
      have BF2 := BF.get 2
      have BFf0 := BF.fr 0
      have BFf1 := BF.fr 1
      have BFf2 := BF.fr 2
      have BFl := BF.lt
      simp only [List.getElem?_toArray, List.getElem?_cons_zero, List.getElem?_cons_succ] at BF0 BF1 BF2
      go_wp2_with fail
      clear BF0 BFf0 BF1 BFf1 BF2 BFf2 BFl
      refine (CD2.out _ _ _ NF).mono ?_
      rintro _ w8 ⟨vY, rfl, NY, h8⟩
      replace U := U.trans h8
      replace BF := BF.up h8
      replace BX := BX.up h8
      replace NF := NF.up h8
      replace NX := NX.up h8
      clear h8
      clear CD2 NF BF
      obtain ⟨AY, nY, cY, rfl, NY⟩ := NY.sl
      go_upto_region 11 with fail
      have gBYBX := BX.lt
      obtain ⟨V9, hV9⟩ : ∃ V9, w8.alloc (.cells #[.bool gg, .slice AY nY cY, .int .i64 K', .int .i64 K'] 39) = V9 := ⟨_, rfl⟩
      have BY : Ob V9 (w8.heap.size) 39 #[.bool gg, .slice AY nY cY, .int .i64 K', .int .i64 K'] := by rw [← hV9]; exact Ob.mk_ _ _ _
      have sV9 : V9.heap.size = w8.heap.size + 1 := by rw [← hV9]; exact (Array.size_push _)
      have uV9 : Up w8 V9 := by rw [← hV9]; exact (Up.refl _).alloc _
      have ltBY : w.heap.size ≤ w8.heap.size := by have := U.size; omega
      rw [hV9]
      clear hV9
      replace U := U.trans uV9
      replace BX := BX.up uV9
      replace NX := NX.up uV9
      replace NY := NY.up uV9
      clear uV9
      clear sV9
      have glBY := BY.lt
      have BX0 := BX.get 0
      have BX1 := BX.get 1
      have BX2 := BX.get 2
      have BX3 := BX.get 3
      have BXf0 := BX.fr 0
      have BXf1 := BX.fr 1
      have BXf2 := BX.fr 2
      have BXf3 := BX.fr 3
      have BXl := BX.lt
      simp only [List.getElem?_toArray, List.getElem?_cons_zero, List.getElem?_cons_succ] at BX0 BX1 BX2 BX3
      go_wp2_with fail
      clear BX0 BXf0 BX1 BXf1 BX2 BXf2 BX3 BXf3 BXl
      refine (CR.out _ (L.out.up U) _ (by first | exact .inl rfl | exact .inr rfl) _ _ NX).mono ?_
      rintro _ w10 ⟨rfl, h10⟩
      replace U := U.trans h10
      replace BX := BX.up h10
      replace BY := BY.up h10
      replace NX := NX.up h10
      replace NY := NY.up h10
      clear h10
      clear CR
      have BY0 := BY.get 0
      have BY1 := BY.get 1
      have BY2 := BY.get 2
      have BY3 := BY.get 3
      have BYf0 := BY.fr 0
      have BYf1 := BY.fr 1
      have BYf2 := BY.fr 2
      have BYf3 := BY.fr 3
      have BYl := BY.lt
      simp only [List.getElem?_toArray, List.getElem?_cons_zero, List.getElem?_cons_succ] at BY0 BY1 BY2 BY3
      go_wp2_with fail
      clear BY0 BYf0 BY1 BYf1 BY2 BYf2 BY3 BYf3 BYl
      refine (CR2.out _ (L.out.up U) _ (by first | exact .inl rfl | exact .inr rfl) _ _ NY).mono ?_
      rintro _ w11 ⟨rfl, h11⟩
      replace U := U.trans h11
      replace BX := BX.up h11
      replace BY := BY.up h11
      replace NX := NX.up h11
      replace NY := NY.up h11
      clear h11
      clear CR2
      go_wp2_with fail
      go_ret
      exact ⟨rfl, U⟩
end Go.Proofs.YtpbdiolfdpfmdaaGreatDoor
