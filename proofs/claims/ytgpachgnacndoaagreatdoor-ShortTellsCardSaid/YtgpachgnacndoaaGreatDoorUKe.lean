/-
  Package short: Short.
-/
import Derived.Test.YtgpachgnacndoaaGreatDoorUKd
import Derived.OwnWalk
namespace Go.Proofs.YtgpachgnacndoaaGreatDoor
open Go.RowKit
set_option linter.unusedSimpArgs false
set_option linter.unusedVariables false

namespace M
theorem lm_rng {f : Fm} (ok : Ok f) (ok2 : Ok2 f) (ok3 : Ok3 f) {g : Bool} {k m1 : Nat} {z1 : Int} {m2 : Nat} {z2 : Int} (kt : (k : Int) ≤ tp f) (h : Lm f g k m1 z1 m2 z2) : (-3000 ≤ z1 ∧ z1 ≤ 3000) ∧ -3000 ≤ z2 ∧ z2 ≤ 3000 := by
  obtain ⟨h1, h2⟩ := h
  refine ⟨?_, ?_⟩
  · rcases h1 with ⟨_, _, rfl⟩ | ⟨hl, hb⟩
    · omega
    · exact (bd_z ok ok2 ok3 (by omega) hb).2.2
  · rcases h2 with ⟨_, _, rfl⟩ | ⟨_, hb⟩
    · omega
    · exact (bd_z ok ok2 ok3 kt hb).2.2
theorem pt_lc {i p : Nat} (i1 : 1 ≤ i) (i2 : i ≤ 14) {g : Bool} {m : Nat} {z : Int} {m1 : Nat} {z1 : Int} {m2 : Nat} {z2 : Int} {ev : Bool} (h : Pt (tb i) p g m z m1 z1 m2 z2 ev) :
    Lc (i : Int) p m1 z1 m2 z2 ev 0 ∧ (-3000 ≤ z1 ∧ z1 ≤ 3000) ∧ -3000 ≤ z2 ∧ z2 ≤ 3000 := by
  obtain ⟨c2, hg, k, hk, _, _, _, _, kt, _, _⟩ := pt_key (ok i i1 i2) (ok2 i i1 i2) h.fit h.dv
  obtain ⟨k', hk', hl, he⟩ := h.key
  obtain rfl : k = k' := by omega
  refine ⟨⟨g, k, .inr ⟨i, rfl, i1, i2, .inr ⟨h.fit, .inr ⟨c2, hg, hk, rfl⟩⟩⟩, .inr ⟨rfl, fun j hj => ?_, he⟩⟩, lm_rng (ok i i1 i2) (ok2 i i1 i2) (ok3 i i1 i2) kt hl⟩
  obtain rfl : i = j := by omega
  exact hl
theorem sq_y {f : Fm} {p : Nat} {g : Bool} {m : Nat} {z : Int} {m1 : Nat} {z1 : Int} {m2 : Nat} {z2 : Int} {ev : Bool} {t : Int} {n : Nat} {k : Int} {d : Nat} {r : Int} {y D : Nat} {K : Int} (h : Sq f p g m z m1 z1 m2 z2 ev t n k d r y D K) : 0 < y ∧ -4000 ≤ k ∧ k ≤ 4400 := by
  obtain ⟨g1, g2, g3, g4⟩ := fl_rng h.tp h.sh.n1 h.sh.n21 h.sh.kn h.sh.fl.le h.sh.fl.lt
  rcases (ch_has h.sh.ch).2 with e | e <;> omega
end M
set_option maxHeartbeats 4000000 in
set_option maxRecDepth 100000 in
theorem short_any (w : World) (TT : Hid (Tz w)) (TF : Hid (TabF w)) (TW : Hid (TabW w)) (ii : Int) (p : Nat) (pb : p < 18446744073709551616) (gg : Bool) (D : Nat) (K x : Int) (h : M.Shc ii p gg D K x) : Calls Tryz.prog 5 #[.int .i64 ii, u64 p] w (Dxx gg D K x w) := by
  rcases h with ⟨x0, he, rfl, rfl, rfl⟩ | ⟨rfl, i, rfl, i1, i2, m, z, m1, z1, m2, z2, ev, t, n, k, d, r, y, hq⟩
  ·
    have d1 : (x != 0) = true := by simpa using x0
    have CN := Lib.hid (fun W (T : Tz W) (F : TabF W) => number_err W (Lib.hid T) (Lib.hid F) ii p pb x he)
    clear he pb x0
    have U := Up.refl w
    go_enter Tryz.func5, Tryz.ntmps5
    go_wp2_with fail
    obtain ⟨V1, hV1⟩ : ∃ V1, w.alloc (.cells #[.bool false, .slice none 0 0, .int .i64 0] 27) = V1 := ⟨_, rfl⟩
    have R : Ob V1 (w.heap.size) 27 #[.bool false, .slice none 0 0, .int .i64 0] := by rw [← hV1]; exact Ob.mk_ _ _ _
    have sV1 : V1.heap.size = w.heap.size + 1 := by rw [← hV1]; exact (Array.size_push _)
    have uV1 : Up w V1 := by rw [← hV1]; exact (Up.refl _).alloc _
    have ltR : w.heap.size ≤ w.heap.size := by have := U.size; omega
    rw [hV1]
    clear hV1
    replace U := U.trans uV1
    clear uV1
    clear sV1
    have glR := R.lt
    refine (CN.out _ (TT.out.up U) (TF.out.up U)).mono ?_
    rintro _ w2 ⟨A, n, c, rfl, N, h2⟩
    replace U := U.trans h2
    replace R := R.up h2
    clear h2
    clear CN N
    go_upto_region 3 with fail
    have gBR := R.lt
    obtain ⟨V3, hV3⟩ : ∃ V3, w2.alloc (.cells #[.bool false, .slice A n c, .int .i64 0, .int .i64 0] 40) = V3 := ⟨_, rfl⟩
    have B : Ob V3 (w2.heap.size) 40 #[.bool false, .slice A n c, .int .i64 0, .int .i64 0] := by rw [← hV3]; exact Ob.mk_ _ _ _
    have sV3 : V3.heap.size = w2.heap.size + 1 := by rw [← hV3]; exact (Array.size_push _)
    have uV3 : Up w2 V3 := by rw [← hV3]; exact (Up.refl _).alloc _
    have ltB : w.heap.size ≤ w2.heap.size := by have := U.size; omega
    rw [hV3]
    clear hV3
    replace U := U.trans uV3
    replace R := R.up uV3
    clear uV3
    clear sV3
    have glB := B.lt
    go_wp2_with (refine store_ob2 rfl 27 (.tmp 4) (.tmp 20) rfl _ #[.bool false, .slice none 0 0, .int .i64 0] #[.bool false, .slice none 0 0, .int .i64 0] rfl rfl 3 (by kernel_rfl) rfl rfl (by simp [Value.oneCell']) w U ltR 27 R ?_; clear U; intro V9 Z9 U ho; clear ho R; have R := Z9; clear Z9)
    obtain ⟨R0, R1, R2⟩ := R.g3
    refine bodyPost_ret (v := .tuple #[.agg #[.bool false, .slice none 0 0, .int .i64 0], .int .i64 x]) (by simp [results, Tryz.results5, go_sem, R0, R1, R2]) rfl ?_
    exact ⟨_, rfl, Nt.nil _ _ _, U⟩
  ·
    obtain ⟨m0, mb, zb⟩ := M.pt_rng (M.ok i i1 i2) (M.ok2 i i1 i2) (M.ok3 i i1 i2) hq.pt.fit hq.pt.dv
    obtain ⟨hlc, b1, b2⟩ := M.pt_lc i1 i2 hq.pt
    obtain ⟨y0, kb⟩ := M.sq_y hq
    have CN := Lib.hid (fun W (T : Tz W) (F : TabF W) => number_ok W (Lib.hid T) (Lib.hid F) i i1 i2 p pb hq.pt.fit gg m z hq.pt.dv)
    have CL := Lib.hid (fun W (T : Tz W) (F : TabF W) => rnd_limits W (Lib.hid T) (Lib.hid F) (i : Int) p pb m1 z1 m2 z2 ev 0 hlc)
    have CS := Lib.hid (fun W (T : TabW W) (A1 : Option Addr) (n1 c1 : Nat) (A2 : Option Addr) (n2 c2 : Nat) (l1 l2 : Nat) (N1 : Nt W l1 1 (.slice A1 n1 c1) m1) (N2 : Nt W l2 1 (.slice A2 n2 c2) m2) (lo : Nat) (A : Option Addr) (n0 c0 : Nat) (N : Nt W lo 1 (.slice A n0 c0) m) => shortest_any W (Lib.hid T) A1 n1 c1 z1 A2 n2 c2 z2 ev l1 l2 m1 m2 N1 N2 b1 b2 lo gg A n0 c0 z m N zb m0 t n k d r y hq.tp hq.sh)
    have CG := Lib.hid (fun W (lo : Nat) (A : Option Addr) (n c : Nat) (N : Nt W lo 2 (.slice A n c) y) => digitsof_any W lo gg A n c k k y N y0 (by omega) (by omega) (by omega) D K (Lib.hid hq.dg))
    clear hq pb i1 i2 zb mb m0 hlc b1 b2 y0 kb
    have U := Up.refl w
    go_enter Tryz.func5, Tryz.ntmps5
    go_wp2_with fail
    obtain ⟨V1, hV1⟩ : ∃ V1, w.alloc (.cells #[.bool false, .slice none 0 0, .int .i64 0] 27) = V1 := ⟨_, rfl⟩
    have R : Ob V1 (w.heap.size) 27 #[.bool false, .slice none 0 0, .int .i64 0] := by rw [← hV1]; exact Ob.mk_ _ _ _
    have sV1 : V1.heap.size = w.heap.size + 1 := by rw [← hV1]; exact (Array.size_push _)
    have uV1 : Up w V1 := by rw [← hV1]; exact (Up.refl _).alloc _
    have ltR : w.heap.size ≤ w.heap.size := by have := U.size; omega
    rw [hV1]
    clear hV1
    replace U := U.trans uV1
    clear uV1
    clear sV1
    have glR := R.lt
    refine (CN.out _ (TT.out.up U) (TF.out.up U)).mono ?_
    rintro _ w2 ⟨A, n0, c0, rfl, N, h2⟩
    replace U := U.trans h2
    replace R := R.up h2
    clear h2
    clear CN
    go_upto_region 4 with fail
    have gBR := R.lt
    obtain ⟨V3, hV3⟩ : ∃ V3, w2.alloc (.cells #[.bool gg, .slice A n0 c0, .int .i64 z, .int .i64 0] 40) = V3 := ⟨_, rfl⟩
    have B : Ob V3 (w2.heap.size) 40 #[.bool gg, .slice A n0 c0, .int .i64 z, .int .i64 0] := by rw [← hV3]; exact Ob.mk_ _ _ _
    have sV3 : V3.heap.size = w2.heap.size + 1 := by rw [← hV3]; exact (Array.size_push _)
    have uV3 : Up w2 V3 := by rw [← hV3]; exact (Up.refl _).alloc _
    have ltB : w.heap.size ≤ w2.heap.size := by have := U.size; omega
    rw [hV3]
    clear hV3
    replace U := U.trans uV3
    replace R := R.up uV3
    replace N := N.up uV3
    clear uV3
    clear sV3
    have glB := B.lt
    go_wp2_with fail
    refine (CL.out _ (TT.out.up U) (TF.out.up U)).mono ?_
    rintro _ w4 ⟨v1, v2, rfl, N1, N2, h4⟩
    replace U := U.trans h4
    replace R := R.up h4
    replace B := B.up h4
    replace N := N.up h4
    clear h4
    clear CL
    obtain ⟨A1, n1, c1, rfl, N1⟩ := N1.sl
    obtain ⟨A2, n2, c2, rfl, N2⟩ := N2.sl
    go_upto_region 7 with fail
    have gL8R := R.lt
    have gL8B := B.lt
    obtain ⟨V5, hV5⟩ : ∃ V5, w4.alloc (.cells #[.bool false, .slice A1 n1 c1, .int .i64 z1, .int .i64 0] 40) = V5 := ⟨_, rfl⟩
    have L8 : Ob V5 (w4.heap.size) 40 #[.bool false, .slice A1 n1 c1, .int .i64 z1, .int .i64 0] := by rw [← hV5]; exact Ob.mk_ _ _ _
    have sV5 : V5.heap.size = w4.heap.size + 1 := by rw [← hV5]; exact (Array.size_push _)
    have uV5 : Up w4 V5 := by rw [← hV5]; exact (Up.refl _).alloc _
    have ltL8 : w.heap.size ≤ w4.heap.size := by have := U.size; omega
    rw [hV5]
    clear hV5
    replace U := U.trans uV5
    replace R := R.up uV5
    replace B := B.up uV5
    replace N := N.up uV5
    replace N1 := N1.up uV5
    replace N2 := N2.up uV5
    clear uV5
    obtain ⟨V6, hV6⟩ : ∃ V6, V5.alloc (.cells #[.bool false, .slice A2 n2 c2, .int .i64 z2, .int .i64 0] 40) = V6 := ⟨_, rfl⟩
    have L9 : Ob V6 (w4.heap.size + 1) 40 #[.bool false, .slice A2 n2 c2, .int .i64 z2, .int .i64 0] := by rw [← sV5, ← hV6]; exact Ob.mk_ _ _ _
    have sV6 : V6.heap.size = w4.heap.size + 1 + 1 := by rw [← hV6]; exact (Array.size_push _).trans (congrArg (· + 1) sV5)
    have uV6 : Up V5 V6 := by rw [← hV6]; exact (Up.refl _).alloc _
    have ltL9 : w.heap.size ≤ w4.heap.size + 1 := Nat.le_succ_of_le ltL8
    rw [hV6]
    clear hV6
    replace L8 := L8.up uV6
    replace U := U.trans uV6
    replace R := R.up uV6
    replace B := B.up uV6
    replace N := N.up uV6
    replace N1 := N1.up uV6
    replace N2 := N2.up uV6
    clear uV6
    clear sV6 sV5
    have glL8 := L8.lt
    have glL9 := L9.lt
    obtain ⟨L80, L81, L82, L83, L8f0, L8f1, L8f2, L8f3, L8l⟩ := L8.c4
    obtain ⟨L90, L91, L92, L93, L9f0, L9f1, L9f2, L9f3, L9l⟩ := L9.c4
    go_upto_region 8 with fail
    clear L80 L8f0 L81 L8f1 L82 L8f2 L83 L8f3 L8l
    clear L90 L9f0 L91 L9f1 L92 L9f2 L93 L9f3 L9l
    clear L8 L9
    have gSR := R.lt
    have gSB := B.lt
    obtain ⟨V7, hV7⟩ : ∃ V7, V6.alloc (.cells #[.bool false, .slice A1 n1 c1, .int .i64 z1, .int .i64 0, .bool false, .slice A2 n2 c2, .int .i64 z2, .int .i64 0, .bool ev] 46) = V7 := ⟨_, rfl⟩
    have S : Ob V7 (V6.heap.size) 46 #[.bool false, .slice A1 n1 c1, .int .i64 z1, .int .i64 0, .bool false, .slice A2 n2 c2, .int .i64 z2, .int .i64 0, .bool ev] := by rw [← hV7]; exact Ob.mk_ _ _ _
    have sV7 : V7.heap.size = V6.heap.size + 1 := by rw [← hV7]; exact (Array.size_push _)
    have uV7 : Up V6 V7 := by rw [← hV7]; exact (Up.refl _).alloc _
    have ltS : w.heap.size ≤ V6.heap.size := by have := U.size; omega
    rw [hV7]
    clear hV7
    replace U := U.trans uV7
    replace R := R.up uV7
    replace B := B.up uV7
    replace N := N.up uV7
    replace N1 := N1.up uV7
    replace N2 := N2.up uV7
    clear uV7
    clear sV7
    have glS := S.lt
    obtain ⟨S0, S1, S2, S3, S4, S5, S6, S7, S8, Sf0, Sf1, Sf2, Sf3, Sf4, Sf5, Sf6, Sf7, Sf8, Sl⟩ := S.c9
    obtain ⟨B0, B1, B2, B3, Bf0, Bf1, Bf2, Bf3, Bl⟩ := B.c4
    go_wp2_with fail
    clear S0 Sf0 S1 Sf1 S2 Sf2 S3 Sf3 S4 Sf4 S5 Sf5 S6 Sf6 S7 Sf7 S8 Sf8 Sl
    clear B0 Bf0 B1 Bf1 B2 Bf2 B3 Bf3 Bl
    refine (CS.out _ (TW.out.up U) _ _ _ _ _ _ _ _ N1 N2 _ _ _ _ N).mono ?_
    rintro _ w8 ⟨A9, n9, c9, rfl, N9, h8⟩
    replace U := U.trans h8
    replace R := R.up h8
    replace B := B.up h8
    replace S := S.up h8
    replace N := N.up h8
    replace N1 := N1.up h8
    replace N2 := N2.up h8
    clear h8
    clear CS N N1 N2
    have r8 := R.lt
    go_wp2_with fail
    refine (CG.out _ _ _ _ _ N9).mono ?_
    rintro _ w9 ⟨vD, rfl, ND, h9⟩
    replace U := U.trans h9
    replace R := R.up h9
    replace B := B.up h9
    replace S := S.up h9
    replace N9 := N9.up h9
    clear h9
    clear CG N9
    obtain ⟨AD, nD, cD, rfl, ND⟩ := ND.sl
    go_wp2_with (refine store_ob2 rfl 27 (.tmp 4) (.tmp 41) rfl _ #[.bool false, .slice none 0 0, .int .i64 0] #[.bool gg, .slice AD nD cD, .int .i64 K] rfl rfl 3 (by kernel_rfl) rfl rfl (by simp [Value.oneCell']) w U ltR 27 R ?_; clear U; intro V9 Z9 U ho; replace ND := Nt.other ND ho (by omega); clear ho R; have R := Z9; clear Z9)
    obtain ⟨R0, R1, R2⟩ := R.g3
    refine bodyPost_ret (v := .tuple #[.agg #[.bool gg, .slice AD nD cD, .int .i64 K], .int .i64 0]) (by simp [results, Tryz.results5, go_sem, R0, R1, R2]) rfl ?_
    exact ⟨_, rfl, ND.lower (by omega), U⟩
end Go.Proofs.YtgpachgnacndoaaGreatDoor
