/-
  The walk of ExactOrder: true, and nothing that was there has turned.
-/
import Derived.Test.YtdokioefcfcfnaaDoorEx7
import Derived.Deep.DeepCutAuto
import Derived.Deep.CutBlock
namespace Go.Proofs.YtdokioefcfcfnaaDoor
open Go.RowKit Go.Shelf
attribute [local go_sem ↓] Go.wp_at_zero Go.wp_at_succ

set_option maxHeartbeats 40000000 in
set_option maxRecDepth 100000 in
theorem xorder_walk (w : World) (hTW : TabW w) (ng0 : Bool) (A0 : Option Addr) (ln0 cp0 : Nat) (xs0 : List Nat) (sr0 : Src w A0 ln0 cp0 xs0) (_mx0 : cp0 ≤ maxLen) (tw0 : Int) (_wt0 : (Lit.int .i64 tw0).wf = true) (fv0 : Int) (_wv0 : (Lit.int .i64 fv0).wf = true) (ng1 : Bool) (A1 : Option Addr) (ln1 cp1 : Nat) (xs1 : List Nat) (sr1 : Src w A1 ln1 cp1 xs1) (_mx1 : cp1 ≤ maxLen) (tw1 : Int) (_wt1 : (Lit.int .i64 tw1).wf = true) (fv1 : Int) (_wv1 : (Lit.int .i64 fv1).wf = true) (ng2 : Bool) (A2 : Option Addr) (ln2 cp2 : Nat) (xs2 : List Nat) (sr2 : Src w A2 ln2 cp2 xs2) (_mx2 : cp2 ≤ maxLen) (tw2 : Int) (_wt2 : (Lit.int .i64 tw2).wf = true) (fv2 : Int) (_wv2 : (Lit.int .i64 fv2).wf = true) :
    Calls Tryd.prog 8 #[xv ng0 (.slice A0 ln0 cp0) tw0 fv0, xv ng1 (.slice A1 ln1 cp1) tw1 fv1, xv ng2 (.slice A2 ln2 cp2) tw2 fv2] w (True_ w) := by
  have U := Up.refl w
  obtain ⟨p0, hp0, pa0, pb0⟩ := tmod_rng_of tw0 (5000 + 1) (by omega)
  obtain ⟨q0, hq0, qa0, qb0⟩ := tmod_rng_of fv0 (5000 + 1) (by omega)
  have Hp0 := Lib.hid hp0
  have Hq0 := Lib.hid hq0
  clear hp0 hq0
  obtain ⟨p1, hp1, pa1, pb1⟩ := tmod_rng_of tw1 (5000 + 1) (by omega)
  obtain ⟨q1, hq1, qa1, qb1⟩ := tmod_rng_of fv1 (5000 + 1) (by omega)
  have Hp1 := Lib.hid hp1
  have Hq1 := Lib.hid hq1
  clear hp1 hq1
  obtain ⟨p2, hp2, pa2, pb2⟩ := tmod_rng_of tw2 (5000 + 1) (by omega)
  obtain ⟨q2, hq2, qa2, qb2⟩ := tmod_rng_of fv2 (5000 + 1) (by omega)
  have Hp2 := Lib.hid hp2
  have Hq2 := Lib.hid hq2
  clear hp2 hq2
  go_enter Tryd.func8, Tryd.ntmps8
  go_wp2_with fail
  obtain ⟨V1, hV1⟩ : ∃ V1, ((w.alloc (.cells #[.bool ng0, .slice A0 ln0 cp0, .int .i64 (tw0), .int .i64 (fv0)] 55)).alloc (.cells #[.bool ng1, .slice A1 ln1 cp1, .int .i64 (tw1), .int .i64 (fv1)] 55)).alloc (.cells #[.bool ng2, .slice A2 ln2 cp2, .int .i64 (tw2), .int .i64 (fv2)] 55) = V1 := ⟨_, rfl⟩
  have uV1 : Up w V1 := by rw [← hV1]; first | exact (Up.refl _).alloc _ | exact ((Up.refl _).alloc _).alloc _ | exact (((Up.refl _).alloc _).alloc _).alloc _ | exact ((((Up.refl _).alloc _).alloc _).alloc _).alloc _
  have b0 : Bx V1 (w.heap.size) ng0 (.slice A0 ln0 cp0) tw0 fv0 := by rw [← hV1]; exact Bx.up (Bx.up (Bx.mk_ w ng0 (.slice A0 ln0 cp0) tw0 fv0) ((Up.refl _).alloc _)) ((Up.refl _).alloc _)
  have b1 : Bx V1 (w.heap.size + 1) ng1 (.slice A1 ln1 cp1) tw1 fv1 := by rw [← hV1]; exact Bx.up (bx_n 1 _ w ng1 (.slice A1 ln1 cp1) tw1 fv1 (by simp)) ((Up.refl _).alloc _)
  have b2 : Bx V1 (w.heap.size + 2) ng2 (.slice A2 ln2 cp2) tw2 fv2 := by rw [← hV1]; exact bx_n 2 _ w ng2 (.slice A2 ln2 cp2) tw2 fv2 (by simp)
  rw [hV1]
  clear hV1
  replace U := U.trans uV1
  clear uV1
  refine (xshown_any _ (hTW.up U)).mono ?_
  rintro _ w2 ⟨rfl, h2⟩
  replace b0 := b0.up h2
  replace b1 := b1.up h2
  replace b2 := b2.up h2
  replace U := U.trans h2
  clear h2
  obtain ⟨⟨b00, b01, b02, b03⟩, b0f0, b0f1, b0f2, b0f3⟩ := id b0
  have b05 := World.block_lt_of_cell? _ _ b00
  simp only at b05
  go_wp2_with fail
  clear b00 b01 b02 b03 b0f0 b0f1 b0f2 b0f3 b05
  have zz0 := World.block_lt_of_cell? _ _ b2.1.1
  simp only at zz0
  refine (small_any _ ng0 A0 ln0 cp0 xs0 tw0 fv0 (sr0.up U) 5000 (by omega) p0 q0 Hp0.out Hq0.out).mono ?_
  rintro _ w3 ⟨_, a0, rfl, n0, h3⟩
  replace b0 := b0.up h3
  replace b1 := b1.up h3
  replace b2 := b2.up h3
  replace U := U.trans h3
  clear h3
  obtain ⟨An0, sn0, cn0, wn0, rfl, n0⟩ := n0
  replace n0 : Nt w3 _ _ (.slice An0 sn0 cn0) (a0) := ⟨An0, sn0, cn0, wn0, rfl, n0⟩
  obtain ⟨⟨b00, b01, b02, b03⟩, b0f0, b0f1, b0f2, b0f3⟩ := id b0
  have b05 := World.block_lt_of_cell? _ _ b00
  simp only at b05
  obtain ⟨⟨b10, b11, b12, b13⟩, b1f0, b1f1, b1f2, b1f3⟩ := id b1
  have b15 := World.block_lt_of_cell? _ _ b10
  simp only at b15
  obtain ⟨⟨b20, b21, b22, b23⟩, b2f0, b2f1, b2f2, b2f3⟩ := id b2
  have b25 := World.block_lt_of_cell? _ _ b20
  simp only at b25
  go_wp2_with fail
  clear b00 b01 b02 b03 b0f0 b0f1 b0f2 b0f3 b05
  clear b10 b11 b12 b13 b1f0 b1f1 b1f2 b1f3 b15
  clear b20 b21 b22 b23 b2f0 b2f1 b2f2 b2f3 b25
  obtain ⟨V4, hV4⟩ : ∃ V4, set4 w3 (w.heap.size) (.bool ng0) (.slice An0 sn0 cn0) (.int .i64 p0) (.int .i64 q0) = V4 := ⟨_, rfl⟩
  rw [show (((w3.setCell ⟨w.heap.size, 0, none⟩ (.bool ng0)).setCell ⟨w.heap.size, 1, none⟩ (.slice An0 sn0 cn0)).setCell ⟨w.heap.size, 2, none⟩ (.int .i64 p0)).setCell ⟨w.heap.size, 3, none⟩ (.int .i64 q0) = V4 from hV4]
  replace b0 : Bx V4 (w.heap.size) ng0 (.slice An0 sn0 cn0) p0 q0 := by rw [← hV4]; exact b0.set4_same
  replace b1 := by have := b1.set4_other (b := w.heap.size) (by omega) (.bool ng0) (.slice An0 sn0 cn0) (.int .i64 p0) (.int .i64 q0); rw [hV4] at this; exact this
  replace b2 := by have := b2.set4_other (b := w.heap.size) (by omega) (.bool ng0) (.slice An0 sn0 cn0) (.int .i64 p0) (.int .i64 q0); rw [hV4] at this; exact this
  replace n0 := by have := n0.set4 (b := w.heap.size) (by omega) (.bool ng0) (.slice An0 sn0 cn0) (.int .i64 p0) (.int .i64 q0); rw [hV4] at this; exact this
  replace U : Up w V4 := by rw [← hV4]; exact U.set4 (by omega) _ _ _ _
  have sz0 : V4.heap.size = w3.heap.size := by rw [← hV4]; simp [World.setCell]
  clear hV4
  obtain ⟨⟨b10, b11, b12, b13⟩, b1f0, b1f1, b1f2, b1f3⟩ := id b1
  have b15 := World.block_lt_of_cell? _ _ b10
  simp only at b15
  go_wp2_with fail
  clear b10 b11 b12 b13 b1f0 b1f1 b1f2 b1f3 b15
  have zz1 := World.block_lt_of_cell? _ _ b2.1.1
  simp only at zz1
  refine (small_any _ ng1 A1 ln1 cp1 xs1 tw1 fv1 (sr1.up U) 5000 (by omega) p1 q1 Hp1.out Hq1.out).mono ?_
  rintro _ w5 ⟨_, a1, rfl, n1, h5⟩
  replace b0 := b0.up h5
  replace b1 := b1.up h5
  replace b2 := b2.up h5
  replace n0 := n0.up h5
  replace U := U.trans h5
  clear h5
  obtain ⟨An1, sn1, cn1, wn1, rfl, n1⟩ := n1
  replace n1 : Nt w5 _ _ (.slice An1 sn1 cn1) (a1) := ⟨An1, sn1, cn1, wn1, rfl, n1⟩
  obtain ⟨⟨b00, b01, b02, b03⟩, b0f0, b0f1, b0f2, b0f3⟩ := id b0
  have b05 := World.block_lt_of_cell? _ _ b00
  simp only at b05
  obtain ⟨⟨b10, b11, b12, b13⟩, b1f0, b1f1, b1f2, b1f3⟩ := id b1
  have b15 := World.block_lt_of_cell? _ _ b10
  simp only at b15
  obtain ⟨⟨b20, b21, b22, b23⟩, b2f0, b2f1, b2f2, b2f3⟩ := id b2
  have b25 := World.block_lt_of_cell? _ _ b20
  simp only at b25
  go_wp2_with fail
  clear b00 b01 b02 b03 b0f0 b0f1 b0f2 b0f3 b05
  clear b10 b11 b12 b13 b1f0 b1f1 b1f2 b1f3 b15
  clear b20 b21 b22 b23 b2f0 b2f1 b2f2 b2f3 b25
  obtain ⟨V6, hV6⟩ : ∃ V6, set4 w5 (w.heap.size + 1) (.bool ng1) (.slice An1 sn1 cn1) (.int .i64 p1) (.int .i64 q1) = V6 := ⟨_, rfl⟩
  rw [show (((w5.setCell ⟨w.heap.size + 1, 0, none⟩ (.bool ng1)).setCell ⟨w.heap.size + 1, 1, none⟩ (.slice An1 sn1 cn1)).setCell ⟨w.heap.size + 1, 2, none⟩ (.int .i64 p1)).setCell ⟨w.heap.size + 1, 3, none⟩ (.int .i64 q1) = V6 from hV6]
  replace b0 := by have := b0.set4_other (b := w.heap.size + 1) (by omega) (.bool ng1) (.slice An1 sn1 cn1) (.int .i64 p1) (.int .i64 q1); rw [hV6] at this; exact this
  replace b1 : Bx V6 (w.heap.size + 1) ng1 (.slice An1 sn1 cn1) p1 q1 := by rw [← hV6]; exact b1.set4_same
  replace b2 := by have := b2.set4_other (b := w.heap.size + 1) (by omega) (.bool ng1) (.slice An1 sn1 cn1) (.int .i64 p1) (.int .i64 q1); rw [hV6] at this; exact this
  replace n0 := by have := n0.set4 (b := w.heap.size + 1) (by omega) (.bool ng1) (.slice An1 sn1 cn1) (.int .i64 p1) (.int .i64 q1); rw [hV6] at this; exact this
  replace n1 := by have := n1.set4 (b := w.heap.size + 1) (by omega) (.bool ng1) (.slice An1 sn1 cn1) (.int .i64 p1) (.int .i64 q1); rw [hV6] at this; exact this
  replace U : Up w V6 := by rw [← hV6]; exact U.set4 (by omega) _ _ _ _
  have sz1 : V6.heap.size = w5.heap.size := by rw [← hV6]; simp [World.setCell]
  clear hV6
  obtain ⟨⟨b20, b21, b22, b23⟩, b2f0, b2f1, b2f2, b2f3⟩ := id b2
  have b25 := World.block_lt_of_cell? _ _ b20
  simp only at b25
  go_wp2_with fail
  clear b20 b21 b22 b23 b2f0 b2f1 b2f2 b2f3 b25
  have zz2 := World.block_lt_of_cell? _ _ b2.1.1
  simp only at zz2
  refine (small_any _ ng2 A2 ln2 cp2 xs2 tw2 fv2 (sr2.up U) 5000 (by omega) p2 q2 Hp2.out Hq2.out).mono ?_
  rintro _ w7 ⟨_, a2, rfl, n2, h7⟩
  replace b0 := b0.up h7
  replace b1 := b1.up h7
  replace b2 := b2.up h7
  replace n0 := n0.up h7
  replace n1 := n1.up h7
  replace U := U.trans h7
  clear h7
  obtain ⟨An2, sn2, cn2, wn2, rfl, n2⟩ := n2
  replace n2 : Nt w7 _ _ (.slice An2 sn2 cn2) (a2) := ⟨An2, sn2, cn2, wn2, rfl, n2⟩
  obtain ⟨⟨b00, b01, b02, b03⟩, b0f0, b0f1, b0f2, b0f3⟩ := id b0
  have b05 := World.block_lt_of_cell? _ _ b00
  simp only at b05
  obtain ⟨⟨b10, b11, b12, b13⟩, b1f0, b1f1, b1f2, b1f3⟩ := id b1
  have b15 := World.block_lt_of_cell? _ _ b10
  simp only at b15
  obtain ⟨⟨b20, b21, b22, b23⟩, b2f0, b2f1, b2f2, b2f3⟩ := id b2
  have b25 := World.block_lt_of_cell? _ _ b20
  simp only at b25
  go_wp2_with fail
  clear b00 b01 b02 b03 b0f0 b0f1 b0f2 b0f3 b05
  clear b10 b11 b12 b13 b1f0 b1f1 b1f2 b1f3 b15
  clear b20 b21 b22 b23 b2f0 b2f1 b2f2 b2f3 b25
  obtain ⟨V8, hV8⟩ : ∃ V8, set4 w7 (w.heap.size + 2) (.bool ng2) (.slice An2 sn2 cn2) (.int .i64 p2) (.int .i64 q2) = V8 := ⟨_, rfl⟩
  rw [show (((w7.setCell ⟨w.heap.size + 2, 0, none⟩ (.bool ng2)).setCell ⟨w.heap.size + 2, 1, none⟩ (.slice An2 sn2 cn2)).setCell ⟨w.heap.size + 2, 2, none⟩ (.int .i64 p2)).setCell ⟨w.heap.size + 2, 3, none⟩ (.int .i64 q2) = V8 from hV8]
  replace b0 := by have := b0.set4_other (b := w.heap.size + 2) (by omega) (.bool ng2) (.slice An2 sn2 cn2) (.int .i64 p2) (.int .i64 q2); rw [hV8] at this; exact this
  replace b1 := by have := b1.set4_other (b := w.heap.size + 2) (by omega) (.bool ng2) (.slice An2 sn2 cn2) (.int .i64 p2) (.int .i64 q2); rw [hV8] at this; exact this
  replace b2 : Bx V8 (w.heap.size + 2) ng2 (.slice An2 sn2 cn2) p2 q2 := by rw [← hV8]; exact b2.set4_same
  replace n0 := by have := n0.set4 (b := w.heap.size + 2) (by omega) (.bool ng2) (.slice An2 sn2 cn2) (.int .i64 p2) (.int .i64 q2); rw [hV8] at this; exact this
  replace n1 := by have := n1.set4 (b := w.heap.size + 2) (by omega) (.bool ng2) (.slice An2 sn2 cn2) (.int .i64 p2) (.int .i64 q2); rw [hV8] at this; exact this
  replace n2 := by have := n2.set4 (b := w.heap.size + 2) (by omega) (.bool ng2) (.slice An2 sn2 cn2) (.int .i64 p2) (.int .i64 q2); rw [hV8] at this; exact this
  replace U : Up w V8 := by rw [← hV8]; exact U.set4 (by omega) _ _ _ _
  have sz2 : V8.heap.size = w7.heap.size := by rw [← hV8]; simp [World.setCell]
  clear hV8
  obtain ⟨S0, hS0⟩ : ∃ S, M.so ng0 (M.ov a0 p0 q0 (-5000)) = S := ⟨_, rfl⟩
  obtain ⟨N0, hN0⟩ : ∃ N, M.ov a0 p0 q0 (-5000) = N := ⟨_, rfl⟩
  obtain ⟨S1, hS1⟩ : ∃ S, M.so ng1 (M.ov a1 p1 q1 (-5000)) = S := ⟨_, rfl⟩
  obtain ⟨N1, hN1⟩ : ∃ N, M.ov a1 p1 q1 (-5000) = N := ⟨_, rfl⟩
  obtain ⟨S2, hS2⟩ : ∃ S, M.so ng2 (M.ov a2 p2 q2 (-5000)) = S := ⟨_, rfl⟩
  obtain ⟨N2, hN2⟩ : ∃ N, M.ov a2 p2 q2 (-5000) = N := ⟨_, rfl⟩
  obtain ⟨z, hz⟩ : ∃ z, M.cmp N0 N1 = z := ⟨_, rfl⟩
  obtain ⟨zb, hzb⟩ : ∃ z, M.cmp N1 N2 = z := ⟨_, rfl⟩
  obtain ⟨zc, hzc⟩ : ∃ z, M.cmp N0 N2 = z := ⟨_, rfl⟩
  obtain ⟨r, hr⟩ : ∃ z, M.icmp S0 S1 = z := ⟨_, rfl⟩
  obtain ⟨rb, hrb⟩ : ∃ z, M.icmp S1 S2 = z := ⟨_, rfl⟩
  obtain ⟨rc, hrc⟩ : ∃ z, M.icmp S0 S2 = z := ⟨_, rfl⟩
  have bz := M.cmp_rng N0 N1
  have bzb := M.cmp_rng N1 N2
  have bzc := M.cmp_rng N0 N2
  have br := M.icmp_rng S0 S1
  have brb := M.icmp_rng S1 S2
  have brc := M.icmp_rng S0 S2
  rw [hz] at bz
  rw [hzb] at bzb
  rw [hzc] at bzc
  rw [hr] at br
  rw [hrb] at brb
  rw [hrc] at brc
  have Hzt : Hid (z ≤ 0 → zb ≤ 0 → zc ≤ 0) := by
    intro h1 h2
    rw [← hz] at h1
    rw [← hzb] at h2
    rw [← hzc]
    exact M.cmp_le.2 (Nat.le_trans (M.cmp_le.1 h1) (M.cmp_le.1 h2))
  have Hrt : Hid (r ≤ 0 → rb ≤ 0 → rc ≤ 0) := by
    intro h1 h2
    rw [← hr] at h1
    rw [← hrb] at h2
    rw [← hrc]
    exact M.icmp_le.2 (Int.le_trans (M.icmp_le.1 h1) (M.icmp_le.1 h2))
  have Cab := Lib.hid (fun w' (hu : Up V8 w') => xcmp_ov (-5000) (by omega) w' _ _ _ _ ng0 ng1 (.slice An0 sn0 cn0) (.slice An1 sn1 cn1) p0 q0 p1 q1 a0 a1 (n0.nw.up hu) (n1.nw.up hu) (by omega) (by omega) (by omega) (by omega) (by omega) (by omega) (z) (by show _ = _; rw [hN0, hN1, hz]))
  have Cba := Lib.hid (fun w' (hu : Up V8 w') => xcmp_ov (-5000) (by omega) w' _ _ _ _ ng1 ng0 (.slice An1 sn1 cn1) (.slice An0 sn0 cn0) p1 q1 p0 q0 a1 a0 (n1.nw.up hu) (n0.nw.up hu) (by omega) (by omega) (by omega) (by omega) (by omega) (by omega) (-z) (by show _ = _; rw [hN0, hN1, M.cmp_swap N0 N1, hz]))
  have Sab := Lib.hid (fun w' (hu : Up V8 w') => xcmps_ov (-5000) (by omega) w' _ _ _ _ ng0 ng1 (.slice An0 sn0 cn0) (.slice An1 sn1 cn1) p0 q0 p1 q1 a0 a1 (n0.nw.up hu) (n1.nw.up hu) (by omega) (by omega) (by omega) (by omega) (by omega) (by omega) (r) (by show _ = _; rw [hS0, hS1, hr]))
  have Sba := Lib.hid (fun w' (hu : Up V8 w') => xcmps_ov (-5000) (by omega) w' _ _ _ _ ng1 ng0 (.slice An1 sn1 cn1) (.slice An0 sn0 cn0) p1 q1 p0 q0 a1 a0 (n1.nw.up hu) (n0.nw.up hu) (by omega) (by omega) (by omega) (by omega) (by omega) (by omega) (-r) (by show _ = _; rw [hS0, hS1, M.icmp_swap S0 S1, hr]))
  have Caa := Lib.hid (fun w' (hu : Up V8 w') => xcmp_ov (-5000) (by omega) w' _ _ _ _ ng0 ng0 (.slice An0 sn0 cn0) (.slice An0 sn0 cn0) p0 q0 p0 q0 a0 a0 (n0.nw.up hu) (n0.nw.up hu) (by omega) (by omega) (by omega) (by omega) (by omega) (by omega) (0) (by show _ = _; exact M.cmp_eq rfl))
  have Saa := Lib.hid (fun w' (hu : Up V8 w') => xcmps_ov (-5000) (by omega) w' _ _ _ _ ng0 ng0 (.slice An0 sn0 cn0) (.slice An0 sn0 cn0) p0 q0 p0 q0 a0 a0 (n0.nw.up hu) (n0.nw.up hu) (by omega) (by omega) (by omega) (by omega) (by omega) (by omega) (0) (by show _ = _; exact M.icmp_self _))
  have wz : IntKind.i64.wrap z = z := by simp [IntKind.wrap, IntKind.bits, IntKind.signed]; omega
  have wr : IntKind.i64.wrap r = r := by simp [IntKind.wrap, IntKind.bits, IntKind.signed]; omega
  have t1 : (z != z) = false := by simp
  have t2 : (r != r) = false := by simp
  obtain ⟨⟨b00, b01, b02, b03⟩, b0f0, b0f1, b0f2, b0f3⟩ := id b0
  have b05 := World.block_lt_of_cell? _ _ b00
  simp only at b05
  obtain ⟨⟨b10, b11, b12, b13⟩, b1f0, b1f1, b1f2, b1f3⟩ := id b1
  have b15 := World.block_lt_of_cell? _ _ b10
  simp only at b15
  go_region_held3 (fun w' => w'.cell? ⟨w.heap.size, 0, none⟩ = some (.bool ng0) ∧ w'.cell? ⟨w.heap.size, 1, none⟩ = some ((.slice An0 sn0 cn0)) ∧ w'.cell? ⟨w.heap.size, 2, none⟩ = some (.int .i64 (p0)) ∧ w'.cell? ⟨w.heap.size, 3, none⟩ = some (.int .i64 (q0)) ∧ w'.cell? ⟨w.heap.size + 1, 0, none⟩ = some (.bool ng1) ∧ w'.cell? ⟨w.heap.size + 1, 1, none⟩ = some ((.slice An1 sn1 cn1)) ∧ w'.cell? ⟨w.heap.size + 1, 2, none⟩ = some (.int .i64 (p1)) ∧ w'.cell? ⟨w.heap.size + 1, 3, none⟩ = some (.int .i64 (q1))) (go_keep) (first
      | (go_at_call 46; (with_reducible refine (Cab.out _ ?_).mono ?_); (first | with_reducible assumption | exact (Up.refl _).drewN 1); rintro _ w9 ⟨rfl, h9⟩; have uw9 : Up V8 w9 := Up.trans (by first | with_reducible assumption | exact (Up.refl V8).drewN 1) h9; have b0c00 := cell_up uw9 b00; have b0c01 := cell_up uw9 b01; have b0c02 := cell_up uw9 b02; have b0c03 := cell_up uw9 b03; have b1c00 := cell_up uw9 b10; have b1c01 := cell_up uw9 b11; have b1c02 := cell_up uw9 b12; have b1c03 := cell_up uw9 b13)
      | (go_at_call 46; (with_reducible refine (Cba.out _ ?_).mono ?_); (first | with_reducible assumption | exact (Up.refl _).drewN 1); rintro _ w10 ⟨rfl, h10⟩; have uw10 : Up V8 w10 := Up.trans (by first | with_reducible assumption | exact (Up.refl V8).drewN 1) h10; have b0c10 := cell_up uw10 b00; have b0c11 := cell_up uw10 b01; have b0c12 := cell_up uw10 b02; have b0c13 := cell_up uw10 b03; have b1c10 := cell_up uw10 b10; have b1c11 := cell_up uw10 b11; have b1c12 := cell_up uw10 b12; have b1c13 := cell_up uw10 b13)
      | (go_at_call 47; (with_reducible refine (Sab.out _ ?_).mono ?_); (first | with_reducible assumption | exact (Up.refl _).drewN 1); rintro _ w11 ⟨rfl, h11⟩; have uw11 : Up V8 w11 := Up.trans (by first | with_reducible assumption | exact (Up.refl V8).drewN 1) h11; have b0c20 := cell_up uw11 b00; have b0c21 := cell_up uw11 b01; have b0c22 := cell_up uw11 b02; have b0c23 := cell_up uw11 b03; have b1c20 := cell_up uw11 b10; have b1c21 := cell_up uw11 b11; have b1c22 := cell_up uw11 b12; have b1c23 := cell_up uw11 b13)
      | (go_at_call 47; (with_reducible refine (Sba.out _ ?_).mono ?_); (first | with_reducible assumption | exact (Up.refl _).drewN 1); rintro _ w12 ⟨rfl, h12⟩; have uw12 : Up V8 w12 := Up.trans (by first | with_reducible assumption | exact (Up.refl V8).drewN 1) h12; have b0c30 := cell_up uw12 b00; have b0c31 := cell_up uw12 b01; have b0c32 := cell_up uw12 b02; have b0c33 := cell_up uw12 b03; have b1c30 := cell_up uw12 b10; have b1c31 := cell_up uw12 b11; have b1c32 := cell_up uw12 b12; have b1c33 := cell_up uw12 b13)
      | (go_at_call 46; (with_reducible refine (Caa.out _ ?_).mono ?_); (first | with_reducible assumption | exact (Up.refl _).drewN 1); rintro _ w13 ⟨rfl, h13⟩; have uw13 : Up V8 w13 := Up.trans (by first | with_reducible assumption | exact (Up.refl V8).drewN 1) h13; have b0c40 := cell_up uw13 b00; have b0c41 := cell_up uw13 b01; have b0c42 := cell_up uw13 b02; have b0c43 := cell_up uw13 b03; have b1c40 := cell_up uw13 b10; have b1c41 := cell_up uw13 b11; have b1c42 := cell_up uw13 b12; have b1c43 := cell_up uw13 b13)
      | (go_at_call 47; (with_reducible refine (Saa.out _ ?_).mono ?_); (first | with_reducible assumption | exact (Up.refl _).drewN 1); rintro _ w14 ⟨rfl, h14⟩; have uw14 : Up V8 w14 := Up.trans (by first | with_reducible assumption | exact (Up.refl V8).drewN 1) h14; have b0c50 := cell_up uw14 b00; have b0c51 := cell_up uw14 b01; have b0c52 := cell_up uw14 b02; have b0c53 := cell_up uw14 b03; have b1c50 := cell_up uw14 b10; have b1c51 := cell_up uw14 b11; have b1c52 := cell_up uw14 b12; have b1c53 := cell_up uw14 b13))
  clear b0c00
  clear b0c01
  clear b0c02
  clear b0c03
  clear b1c00
  clear b1c01
  clear b1c02
  clear b1c03
  clear b0c10
  clear b0c11
  clear b0c12
  clear b0c13
  clear b1c10
  clear b1c11
  clear b1c12
  clear b1c13
  clear b0c20
  clear b0c21
  clear b0c22
  clear b0c23
  clear b1c20
  clear b1c21
  clear b1c22
  clear b1c23
  clear b0c30
  clear b0c31
  clear b0c32
  clear b0c33
  clear b1c30
  clear b1c31
  clear b1c32
  clear b1c33
  clear b0c40
  clear b0c41
  clear b0c42
  clear b0c43
  clear b1c40
  clear b1c41
  clear b1c42
  clear b1c43
  clear b0c50
  clear b0c51
  clear b0c52
  clear b0c53
  clear b1c50
  clear b1c51
  clear b1c52
  clear b1c53
  clear h9
  clear h10
  clear h11
  clear h12
  clear h13
  clear h14
  clear b00 b01 b02 b03 b0f0 b0f1 b0f2 b0f3 b05
  clear b10 b11 b12 b13 b1f0 b1f1 b1f2 b1f3 b15
  replace b0 := b0.up uw14
  replace b1 := b1.up uw14
  replace b2 := b2.up uw14
  replace n0 := n0.up uw14
  replace n1 := n1.up uw14
  replace n2 := n2.up uw14
  replace U := U.trans uw14
  clear uw9
  clear uw10
  clear uw11
  clear uw12
  clear uw13
  clear uw14
  clear Cab Cba Sab Sba Caa Saa
  go_upto_region 7 with (fail)
  have Cab := Lib.hid (fun w' (hu : Up w14 w') => xcmp_ov (-5000) (by omega) w' _ _ _ _ ng0 ng1 (.slice An0 sn0 cn0) (.slice An1 sn1 cn1) p0 q0 p1 q1 a0 a1 (n0.nw.up hu) (n1.nw.up hu) (by omega) (by omega) (by omega) (by omega) (by omega) (by omega) (z) (by show _ = _; rw [hN0, hN1, hz]))
  have Cba := Lib.hid (fun w' (hu : Up w14 w') => xcmp_ov (-5000) (by omega) w' _ _ _ _ ng1 ng0 (.slice An1 sn1 cn1) (.slice An0 sn0 cn0) p1 q1 p0 q0 a1 a0 (n1.nw.up hu) (n0.nw.up hu) (by omega) (by omega) (by omega) (by omega) (by omega) (by omega) (-z) (by show _ = _; rw [hN0, hN1, M.cmp_swap N0 N1, hz]))
  have Sab := Lib.hid (fun w' (hu : Up w14 w') => xcmps_ov (-5000) (by omega) w' _ _ _ _ ng0 ng1 (.slice An0 sn0 cn0) (.slice An1 sn1 cn1) p0 q0 p1 q1 a0 a1 (n0.nw.up hu) (n1.nw.up hu) (by omega) (by omega) (by omega) (by omega) (by omega) (by omega) (r) (by show _ = _; rw [hS0, hS1, hr]))
  have Sba := Lib.hid (fun w' (hu : Up w14 w') => xcmps_ov (-5000) (by omega) w' _ _ _ _ ng1 ng0 (.slice An1 sn1 cn1) (.slice An0 sn0 cn0) p1 q1 p0 q0 a1 a0 (n1.nw.up hu) (n0.nw.up hu) (by omega) (by omega) (by omega) (by omega) (by omega) (by omega) (-r) (by show _ = _; rw [hS0, hS1, M.icmp_swap S0 S1, hr]))
  have Cbc := Lib.hid (fun w' (hu : Up w14 w') => xcmp_ov (-5000) (by omega) w' _ _ _ _ ng1 ng2 (.slice An1 sn1 cn1) (.slice An2 sn2 cn2) p1 q1 p2 q2 a1 a2 (n1.nw.up hu) (n2.nw.up hu) (by omega) (by omega) (by omega) (by omega) (by omega) (by omega) (zb) (by show _ = _; rw [hN1, hN2, hzb]))
  have Cac := Lib.hid (fun w' (hu : Up w14 w') => xcmp_ov (-5000) (by omega) w' _ _ _ _ ng0 ng2 (.slice An0 sn0 cn0) (.slice An2 sn2 cn2) p0 q0 p2 q2 a0 a2 (n0.nw.up hu) (n2.nw.up hu) (by omega) (by omega) (by omega) (by omega) (by omega) (by omega) (zc) (by show _ = _; rw [hN0, hN2, hzc]))
  have Sbc := Lib.hid (fun w' (hu : Up w14 w') => xcmps_ov (-5000) (by omega) w' _ _ _ _ ng1 ng2 (.slice An1 sn1 cn1) (.slice An2 sn2 cn2) p1 q1 p2 q2 a1 a2 (n1.nw.up hu) (n2.nw.up hu) (by omega) (by omega) (by omega) (by omega) (by omega) (by omega) (rb) (by show _ = _; rw [hS1, hS2, hrb]))
  have Sac := Lib.hid (fun w' (hu : Up w14 w') => xcmps_ov (-5000) (by omega) w' _ _ _ _ ng0 ng2 (.slice An0 sn0 cn0) (.slice An2 sn2 cn2) p0 q0 p2 q2 a0 a2 (n0.nw.up hu) (n2.nw.up hu) (by omega) (by omega) (by omega) (by omega) (by omega) (by omega) (rc) (by show _ = _; rw [hS0, hS2, hrc]))
  go_cut [80] (fun sv wx => sv = .bool false ∧ Up w14 wx)
  case first =>
    have uu := Up.refl w14
    rcases (show 0 < z ∨ (z ≤ 0 ∧ 0 < zb) ∨ (z ≤ 0 ∧ zb ≤ 0) by omega) with y0 | ⟨y0, y1⟩ | ⟨y0, y1⟩
    ·
      rcases (show 0 < r ∨ (r ≤ 0 ∧ 0 < rb) ∨ (r ≤ 0 ∧ rb ≤ 0) by omega) with x0 | ⟨x0, x1⟩ | ⟨x0, x1⟩
      ·
        obtain ⟨⟨b00, b01, b02, b03⟩, b0f0, b0f1, b0f2, b0f3⟩ := id b0
        have b05 := World.block_lt_of_cell? _ _ b00
        simp only at b05
        obtain ⟨⟨b10, b11, b12, b13⟩, b1f0, b1f1, b1f2, b1f3⟩ := id b1
        have b15 := World.block_lt_of_cell? _ _ b10
        simp only at b15
        obtain ⟨⟨b20, b21, b22, b23⟩, b2f0, b2f1, b2f2, b2f3⟩ := id b2
        have b25 := World.block_lt_of_cell? _ _ b20
        simp only at b25
        go_wp2_with fail
        clear b00 b01 b02 b03 b0f0 b0f1 b0f2 b0f3 b05
        clear b10 b11 b12 b13 b1f0 b1f1 b1f2 b1f3 b15
        clear b20 b21 b22 b23 b2f0 b2f1 b2f2 b2f3 b25
        refine (Cab.out _ uu).mono ?_
        rintro _ w15 ⟨rfl, h15⟩
        replace b0 := b0.up h15
        replace b1 := b1.up h15
        replace b2 := b2.up h15
        replace n0 := n0.up h15
        replace n1 := n1.up h15
        replace n2 := n2.up h15
        replace U := U.trans h15
        replace uu := uu.trans h15
        clear h15
        obtain ⟨⟨b00, b01, b02, b03⟩, b0f0, b0f1, b0f2, b0f3⟩ := id b0
        have b05 := World.block_lt_of_cell? _ _ b00
        simp only at b05
        obtain ⟨⟨b10, b11, b12, b13⟩, b1f0, b1f1, b1f2, b1f3⟩ := id b1
        have b15 := World.block_lt_of_cell? _ _ b10
        simp only at b15
        obtain ⟨⟨b20, b21, b22, b23⟩, b2f0, b2f1, b2f2, b2f3⟩ := id b2
        have b25 := World.block_lt_of_cell? _ _ b20
        simp only at b25
        go_wp2_with fail
        clear b00 b01 b02 b03 b0f0 b0f1 b0f2 b0f3 b05
        clear b10 b11 b12 b13 b1f0 b1f1 b1f2 b1f3 b15
        clear b20 b21 b22 b23 b2f0 b2f1 b2f2 b2f3 b25
        refine (Sab.out _ uu).mono ?_
        rintro _ w16 ⟨rfl, h16⟩
        replace b0 := b0.up h16
        replace b1 := b1.up h16
        replace b2 := b2.up h16
        replace n0 := n0.up h16
        replace n1 := n1.up h16
        replace n2 := n2.up h16
        replace U := U.trans h16
        replace uu := uu.trans h16
        clear h16
        go_wp2_with fail
        go_meet
        exact ⟨rfl, uu⟩
      ·
        obtain ⟨⟨b00, b01, b02, b03⟩, b0f0, b0f1, b0f2, b0f3⟩ := id b0
        have b05 := World.block_lt_of_cell? _ _ b00
        simp only at b05
        obtain ⟨⟨b10, b11, b12, b13⟩, b1f0, b1f1, b1f2, b1f3⟩ := id b1
        have b15 := World.block_lt_of_cell? _ _ b10
        simp only at b15
        obtain ⟨⟨b20, b21, b22, b23⟩, b2f0, b2f1, b2f2, b2f3⟩ := id b2
        have b25 := World.block_lt_of_cell? _ _ b20
        simp only at b25
        go_wp2_with fail
        clear b00 b01 b02 b03 b0f0 b0f1 b0f2 b0f3 b05
        clear b10 b11 b12 b13 b1f0 b1f1 b1f2 b1f3 b15
        clear b20 b21 b22 b23 b2f0 b2f1 b2f2 b2f3 b25
        refine (Cab.out _ uu).mono ?_
        rintro _ w17 ⟨rfl, h17⟩
        replace b0 := b0.up h17
        replace b1 := b1.up h17
        replace b2 := b2.up h17
        replace n0 := n0.up h17
        replace n1 := n1.up h17
        replace n2 := n2.up h17
        replace U := U.trans h17
        replace uu := uu.trans h17
        clear h17
        obtain ⟨⟨b00, b01, b02, b03⟩, b0f0, b0f1, b0f2, b0f3⟩ := id b0
        have b05 := World.block_lt_of_cell? _ _ b00
        simp only at b05
        obtain ⟨⟨b10, b11, b12, b13⟩, b1f0, b1f1, b1f2, b1f3⟩ := id b1
        have b15 := World.block_lt_of_cell? _ _ b10
        simp only at b15
        obtain ⟨⟨b20, b21, b22, b23⟩, b2f0, b2f1, b2f2, b2f3⟩ := id b2
        have b25 := World.block_lt_of_cell? _ _ b20
        simp only at b25
        go_wp2_with fail
        clear b00 b01 b02 b03 b0f0 b0f1 b0f2 b0f3 b05
        clear b10 b11 b12 b13 b1f0 b1f1 b1f2 b1f3 b15
        clear b20 b21 b22 b23 b2f0 b2f1 b2f2 b2f3 b25
        refine (Sab.out _ uu).mono ?_
        rintro _ w18 ⟨rfl, h18⟩
        replace b0 := b0.up h18
        replace b1 := b1.up h18
        replace b2 := b2.up h18
        replace n0 := n0.up h18
        replace n1 := n1.up h18
        replace n2 := n2.up h18
        replace U := U.trans h18
        replace uu := uu.trans h18
        clear h18
        obtain ⟨⟨b00, b01, b02, b03⟩, b0f0, b0f1, b0f2, b0f3⟩ := id b0
        have b05 := World.block_lt_of_cell? _ _ b00
        simp only at b05
        obtain ⟨⟨b10, b11, b12, b13⟩, b1f0, b1f1, b1f2, b1f3⟩ := id b1
        have b15 := World.block_lt_of_cell? _ _ b10
        simp only at b15
        obtain ⟨⟨b20, b21, b22, b23⟩, b2f0, b2f1, b2f2, b2f3⟩ := id b2
        have b25 := World.block_lt_of_cell? _ _ b20
        simp only at b25
        go_wp2_with fail
        clear b00 b01 b02 b03 b0f0 b0f1 b0f2 b0f3 b05
        clear b10 b11 b12 b13 b1f0 b1f1 b1f2 b1f3 b15
        clear b20 b21 b22 b23 b2f0 b2f1 b2f2 b2f3 b25
        refine (Sbc.out _ uu).mono ?_
        rintro _ w19 ⟨rfl, h19⟩
        replace b0 := b0.up h19
        replace b1 := b1.up h19
        replace b2 := b2.up h19
        replace n0 := n0.up h19
        replace n1 := n1.up h19
        replace n2 := n2.up h19
        replace U := U.trans h19
        replace uu := uu.trans h19
        clear h19
        go_wp2_with fail
        go_meet
        exact ⟨rfl, uu⟩
      ·
        have x2 := Hrt.out x0 x1
        have x3 : decide (0 < rc) = false := by simp; omega
        obtain ⟨⟨b00, b01, b02, b03⟩, b0f0, b0f1, b0f2, b0f3⟩ := id b0
        have b05 := World.block_lt_of_cell? _ _ b00
        simp only at b05
        obtain ⟨⟨b10, b11, b12, b13⟩, b1f0, b1f1, b1f2, b1f3⟩ := id b1
        have b15 := World.block_lt_of_cell? _ _ b10
        simp only at b15
        obtain ⟨⟨b20, b21, b22, b23⟩, b2f0, b2f1, b2f2, b2f3⟩ := id b2
        have b25 := World.block_lt_of_cell? _ _ b20
        simp only at b25
        go_wp2_with fail
        clear b00 b01 b02 b03 b0f0 b0f1 b0f2 b0f3 b05
        clear b10 b11 b12 b13 b1f0 b1f1 b1f2 b1f3 b15
        clear b20 b21 b22 b23 b2f0 b2f1 b2f2 b2f3 b25
        refine (Cab.out _ uu).mono ?_
        rintro _ w20 ⟨rfl, h20⟩
        replace b0 := b0.up h20
        replace b1 := b1.up h20
        replace b2 := b2.up h20
        replace n0 := n0.up h20
        replace n1 := n1.up h20
        replace n2 := n2.up h20
        replace U := U.trans h20
        replace uu := uu.trans h20
        clear h20
        obtain ⟨⟨b00, b01, b02, b03⟩, b0f0, b0f1, b0f2, b0f3⟩ := id b0
        have b05 := World.block_lt_of_cell? _ _ b00
        simp only at b05
        obtain ⟨⟨b10, b11, b12, b13⟩, b1f0, b1f1, b1f2, b1f3⟩ := id b1
        have b15 := World.block_lt_of_cell? _ _ b10
        simp only at b15
        obtain ⟨⟨b20, b21, b22, b23⟩, b2f0, b2f1, b2f2, b2f3⟩ := id b2
        have b25 := World.block_lt_of_cell? _ _ b20
        simp only at b25
        go_wp2_with fail
        clear b00 b01 b02 b03 b0f0 b0f1 b0f2 b0f3 b05
        clear b10 b11 b12 b13 b1f0 b1f1 b1f2 b1f3 b15
        clear b20 b21 b22 b23 b2f0 b2f1 b2f2 b2f3 b25
        refine (Sab.out _ uu).mono ?_
        rintro _ w21 ⟨rfl, h21⟩
        replace b0 := b0.up h21
        replace b1 := b1.up h21
        replace b2 := b2.up h21
        replace n0 := n0.up h21
        replace n1 := n1.up h21
        replace n2 := n2.up h21
        replace U := U.trans h21
        replace uu := uu.trans h21
        clear h21
        obtain ⟨⟨b00, b01, b02, b03⟩, b0f0, b0f1, b0f2, b0f3⟩ := id b0
        have b05 := World.block_lt_of_cell? _ _ b00
        simp only at b05
        obtain ⟨⟨b10, b11, b12, b13⟩, b1f0, b1f1, b1f2, b1f3⟩ := id b1
        have b15 := World.block_lt_of_cell? _ _ b10
        simp only at b15
        obtain ⟨⟨b20, b21, b22, b23⟩, b2f0, b2f1, b2f2, b2f3⟩ := id b2
        have b25 := World.block_lt_of_cell? _ _ b20
        simp only at b25
        go_wp2_with fail
        clear b00 b01 b02 b03 b0f0 b0f1 b0f2 b0f3 b05
        clear b10 b11 b12 b13 b1f0 b1f1 b1f2 b1f3 b15
        clear b20 b21 b22 b23 b2f0 b2f1 b2f2 b2f3 b25
        refine (Sbc.out _ uu).mono ?_
        rintro _ w22 ⟨rfl, h22⟩
        replace b0 := b0.up h22
        replace b1 := b1.up h22
        replace b2 := b2.up h22
        replace n0 := n0.up h22
        replace n1 := n1.up h22
        replace n2 := n2.up h22
        replace U := U.trans h22
        replace uu := uu.trans h22
        clear h22
        obtain ⟨⟨b00, b01, b02, b03⟩, b0f0, b0f1, b0f2, b0f3⟩ := id b0
        have b05 := World.block_lt_of_cell? _ _ b00
        simp only at b05
        obtain ⟨⟨b10, b11, b12, b13⟩, b1f0, b1f1, b1f2, b1f3⟩ := id b1
        have b15 := World.block_lt_of_cell? _ _ b10
        simp only at b15
        obtain ⟨⟨b20, b21, b22, b23⟩, b2f0, b2f1, b2f2, b2f3⟩ := id b2
        have b25 := World.block_lt_of_cell? _ _ b20
        simp only at b25
        go_wp2_with fail
        clear b00 b01 b02 b03 b0f0 b0f1 b0f2 b0f3 b05
        clear b10 b11 b12 b13 b1f0 b1f1 b1f2 b1f3 b15
        clear b20 b21 b22 b23 b2f0 b2f1 b2f2 b2f3 b25
        refine (Sac.out _ uu).mono ?_
        rintro _ w23 ⟨rfl, h23⟩
        replace b0 := b0.up h23
        replace b1 := b1.up h23
        replace b2 := b2.up h23
        replace n0 := n0.up h23
        replace n1 := n1.up h23
        replace n2 := n2.up h23
        replace U := U.trans h23
        replace uu := uu.trans h23
        clear h23
        go_wp2_with fail
        go_meet
        exact ⟨rfl, uu⟩
    ·
      rcases (show 0 < r ∨ (r ≤ 0 ∧ 0 < rb) ∨ (r ≤ 0 ∧ rb ≤ 0) by omega) with x0 | ⟨x0, x1⟩ | ⟨x0, x1⟩
      ·
        obtain ⟨⟨b00, b01, b02, b03⟩, b0f0, b0f1, b0f2, b0f3⟩ := id b0
        have b05 := World.block_lt_of_cell? _ _ b00
        simp only at b05
        obtain ⟨⟨b10, b11, b12, b13⟩, b1f0, b1f1, b1f2, b1f3⟩ := id b1
        have b15 := World.block_lt_of_cell? _ _ b10
        simp only at b15
        obtain ⟨⟨b20, b21, b22, b23⟩, b2f0, b2f1, b2f2, b2f3⟩ := id b2
        have b25 := World.block_lt_of_cell? _ _ b20
        simp only at b25
        go_wp2_with fail
        clear b00 b01 b02 b03 b0f0 b0f1 b0f2 b0f3 b05
        clear b10 b11 b12 b13 b1f0 b1f1 b1f2 b1f3 b15
        clear b20 b21 b22 b23 b2f0 b2f1 b2f2 b2f3 b25
        refine (Cab.out _ uu).mono ?_
        rintro _ w24 ⟨rfl, h24⟩
        replace b0 := b0.up h24
        replace b1 := b1.up h24
        replace b2 := b2.up h24
        replace n0 := n0.up h24
        replace n1 := n1.up h24
        replace n2 := n2.up h24
        replace U := U.trans h24
        replace uu := uu.trans h24
        clear h24
        obtain ⟨⟨b00, b01, b02, b03⟩, b0f0, b0f1, b0f2, b0f3⟩ := id b0
        have b05 := World.block_lt_of_cell? _ _ b00
        simp only at b05
        obtain ⟨⟨b10, b11, b12, b13⟩, b1f0, b1f1, b1f2, b1f3⟩ := id b1
        have b15 := World.block_lt_of_cell? _ _ b10
        simp only at b15
        obtain ⟨⟨b20, b21, b22, b23⟩, b2f0, b2f1, b2f2, b2f3⟩ := id b2
        have b25 := World.block_lt_of_cell? _ _ b20
        simp only at b25
        go_wp2_with fail
        clear b00 b01 b02 b03 b0f0 b0f1 b0f2 b0f3 b05
        clear b10 b11 b12 b13 b1f0 b1f1 b1f2 b1f3 b15
        clear b20 b21 b22 b23 b2f0 b2f1 b2f2 b2f3 b25
        refine (Cbc.out _ uu).mono ?_
        rintro _ w25 ⟨rfl, h25⟩
        replace b0 := b0.up h25
        replace b1 := b1.up h25
        replace b2 := b2.up h25
        replace n0 := n0.up h25
        replace n1 := n1.up h25
        replace n2 := n2.up h25
        replace U := U.trans h25
        replace uu := uu.trans h25
        clear h25
        obtain ⟨⟨b00, b01, b02, b03⟩, b0f0, b0f1, b0f2, b0f3⟩ := id b0
        have b05 := World.block_lt_of_cell? _ _ b00
        simp only at b05
        obtain ⟨⟨b10, b11, b12, b13⟩, b1f0, b1f1, b1f2, b1f3⟩ := id b1
        have b15 := World.block_lt_of_cell? _ _ b10
        simp only at b15
        obtain ⟨⟨b20, b21, b22, b23⟩, b2f0, b2f1, b2f2, b2f3⟩ := id b2
        have b25 := World.block_lt_of_cell? _ _ b20
        simp only at b25
        go_wp2_with fail
        clear b00 b01 b02 b03 b0f0 b0f1 b0f2 b0f3 b05
        clear b10 b11 b12 b13 b1f0 b1f1 b1f2 b1f3 b15
        clear b20 b21 b22 b23 b2f0 b2f1 b2f2 b2f3 b25
        refine (Sab.out _ uu).mono ?_
        rintro _ w26 ⟨rfl, h26⟩
        replace b0 := b0.up h26
        replace b1 := b1.up h26
        replace b2 := b2.up h26
        replace n0 := n0.up h26
        replace n1 := n1.up h26
        replace n2 := n2.up h26
        replace U := U.trans h26
        replace uu := uu.trans h26
        clear h26
        go_wp2_with fail
        go_meet
        exact ⟨rfl, uu⟩
      ·
        obtain ⟨⟨b00, b01, b02, b03⟩, b0f0, b0f1, b0f2, b0f3⟩ := id b0
        have b05 := World.block_lt_of_cell? _ _ b00
        simp only at b05
        obtain ⟨⟨b10, b11, b12, b13⟩, b1f0, b1f1, b1f2, b1f3⟩ := id b1
        have b15 := World.block_lt_of_cell? _ _ b10
        simp only at b15
        obtain ⟨⟨b20, b21, b22, b23⟩, b2f0, b2f1, b2f2, b2f3⟩ := id b2
        have b25 := World.block_lt_of_cell? _ _ b20
        simp only at b25
        go_wp2_with fail
        clear b00 b01 b02 b03 b0f0 b0f1 b0f2 b0f3 b05
        clear b10 b11 b12 b13 b1f0 b1f1 b1f2 b1f3 b15
        clear b20 b21 b22 b23 b2f0 b2f1 b2f2 b2f3 b25
        refine (Cab.out _ uu).mono ?_
        rintro _ w27 ⟨rfl, h27⟩
        replace b0 := b0.up h27
        replace b1 := b1.up h27
        replace b2 := b2.up h27
        replace n0 := n0.up h27
        replace n1 := n1.up h27
        replace n2 := n2.up h27
        replace U := U.trans h27
        replace uu := uu.trans h27
        clear h27
        obtain ⟨⟨b00, b01, b02, b03⟩, b0f0, b0f1, b0f2, b0f3⟩ := id b0
        have b05 := World.block_lt_of_cell? _ _ b00
        simp only at b05
        obtain ⟨⟨b10, b11, b12, b13⟩, b1f0, b1f1, b1f2, b1f3⟩ := id b1
        have b15 := World.block_lt_of_cell? _ _ b10
        simp only at b15
        obtain ⟨⟨b20, b21, b22, b23⟩, b2f0, b2f1, b2f2, b2f3⟩ := id b2
        have b25 := World.block_lt_of_cell? _ _ b20
        simp only at b25
        go_wp2_with fail
        clear b00 b01 b02 b03 b0f0 b0f1 b0f2 b0f3 b05
        clear b10 b11 b12 b13 b1f0 b1f1 b1f2 b1f3 b15
        clear b20 b21 b22 b23 b2f0 b2f1 b2f2 b2f3 b25
        refine (Cbc.out _ uu).mono ?_
        rintro _ w28 ⟨rfl, h28⟩
        replace b0 := b0.up h28
        replace b1 := b1.up h28
        replace b2 := b2.up h28
        replace n0 := n0.up h28
        replace n1 := n1.up h28
        replace n2 := n2.up h28
        replace U := U.trans h28
        replace uu := uu.trans h28
        clear h28
        obtain ⟨⟨b00, b01, b02, b03⟩, b0f0, b0f1, b0f2, b0f3⟩ := id b0
        have b05 := World.block_lt_of_cell? _ _ b00
        simp only at b05
        obtain ⟨⟨b10, b11, b12, b13⟩, b1f0, b1f1, b1f2, b1f3⟩ := id b1
        have b15 := World.block_lt_of_cell? _ _ b10
        simp only at b15
        obtain ⟨⟨b20, b21, b22, b23⟩, b2f0, b2f1, b2f2, b2f3⟩ := id b2
        have b25 := World.block_lt_of_cell? _ _ b20
        simp only at b25
        go_wp2_with fail
        clear b00 b01 b02 b03 b0f0 b0f1 b0f2 b0f3 b05
        clear b10 b11 b12 b13 b1f0 b1f1 b1f2 b1f3 b15
        clear b20 b21 b22 b23 b2f0 b2f1 b2f2 b2f3 b25
        refine (Sab.out _ uu).mono ?_
        rintro _ w29 ⟨rfl, h29⟩
        replace b0 := b0.up h29
        replace b1 := b1.up h29
        replace b2 := b2.up h29
        replace n0 := n0.up h29
        replace n1 := n1.up h29
        replace n2 := n2.up h29
        replace U := U.trans h29
        replace uu := uu.trans h29
        clear h29
        obtain ⟨⟨b00, b01, b02, b03⟩, b0f0, b0f1, b0f2, b0f3⟩ := id b0
        have b05 := World.block_lt_of_cell? _ _ b00
        simp only at b05
        obtain ⟨⟨b10, b11, b12, b13⟩, b1f0, b1f1, b1f2, b1f3⟩ := id b1
        have b15 := World.block_lt_of_cell? _ _ b10
        simp only at b15
        obtain ⟨⟨b20, b21, b22, b23⟩, b2f0, b2f1, b2f2, b2f3⟩ := id b2
        have b25 := World.block_lt_of_cell? _ _ b20
        simp only at b25
        go_wp2_with fail
        clear b00 b01 b02 b03 b0f0 b0f1 b0f2 b0f3 b05
        clear b10 b11 b12 b13 b1f0 b1f1 b1f2 b1f3 b15
        clear b20 b21 b22 b23 b2f0 b2f1 b2f2 b2f3 b25
        refine (Sbc.out _ uu).mono ?_
        rintro _ w30 ⟨rfl, h30⟩
        replace b0 := b0.up h30
        replace b1 := b1.up h30
        replace b2 := b2.up h30
        replace n0 := n0.up h30
        replace n1 := n1.up h30
        replace n2 := n2.up h30
        replace U := U.trans h30
        replace uu := uu.trans h30
        clear h30
        go_wp2_with fail
        go_meet
        exact ⟨rfl, uu⟩
      ·
        have x2 := Hrt.out x0 x1
        have x3 : decide (0 < rc) = false := by simp; omega
        obtain ⟨⟨b00, b01, b02, b03⟩, b0f0, b0f1, b0f2, b0f3⟩ := id b0
        have b05 := World.block_lt_of_cell? _ _ b00
        simp only at b05
        obtain ⟨⟨b10, b11, b12, b13⟩, b1f0, b1f1, b1f2, b1f3⟩ := id b1
        have b15 := World.block_lt_of_cell? _ _ b10
        simp only at b15
        obtain ⟨⟨b20, b21, b22, b23⟩, b2f0, b2f1, b2f2, b2f3⟩ := id b2
        have b25 := World.block_lt_of_cell? _ _ b20
        simp only at b25
        go_wp2_with fail
        clear b00 b01 b02 b03 b0f0 b0f1 b0f2 b0f3 b05
        clear b10 b11 b12 b13 b1f0 b1f1 b1f2 b1f3 b15
        clear b20 b21 b22 b23 b2f0 b2f1 b2f2 b2f3 b25
        refine (Cab.out _ uu).mono ?_
        rintro _ w31 ⟨rfl, h31⟩
        replace b0 := b0.up h31
        replace b1 := b1.up h31
        replace b2 := b2.up h31
        replace n0 := n0.up h31
        replace n1 := n1.up h31
        replace n2 := n2.up h31
        replace U := U.trans h31
        replace uu := uu.trans h31
        clear h31
        obtain ⟨⟨b00, b01, b02, b03⟩, b0f0, b0f1, b0f2, b0f3⟩ := id b0
        have b05 := World.block_lt_of_cell? _ _ b00
        simp only at b05
        obtain ⟨⟨b10, b11, b12, b13⟩, b1f0, b1f1, b1f2, b1f3⟩ := id b1
        have b15 := World.block_lt_of_cell? _ _ b10
        simp only at b15
        obtain ⟨⟨b20, b21, b22, b23⟩, b2f0, b2f1, b2f2, b2f3⟩ := id b2
        have b25 := World.block_lt_of_cell? _ _ b20
        simp only at b25
        go_wp2_with fail
        clear b00 b01 b02 b03 b0f0 b0f1 b0f2 b0f3 b05
        clear b10 b11 b12 b13 b1f0 b1f1 b1f2 b1f3 b15
        clear b20 b21 b22 b23 b2f0 b2f1 b2f2 b2f3 b25
        refine (Cbc.out _ uu).mono ?_
        rintro _ w32 ⟨rfl, h32⟩
        replace b0 := b0.up h32
        replace b1 := b1.up h32
        replace b2 := b2.up h32
        replace n0 := n0.up h32
        replace n1 := n1.up h32
        replace n2 := n2.up h32
        replace U := U.trans h32
        replace uu := uu.trans h32
        clear h32
        obtain ⟨⟨b00, b01, b02, b03⟩, b0f0, b0f1, b0f2, b0f3⟩ := id b0
        have b05 := World.block_lt_of_cell? _ _ b00
        simp only at b05
        obtain ⟨⟨b10, b11, b12, b13⟩, b1f0, b1f1, b1f2, b1f3⟩ := id b1
        have b15 := World.block_lt_of_cell? _ _ b10
        simp only at b15
        obtain ⟨⟨b20, b21, b22, b23⟩, b2f0, b2f1, b2f2, b2f3⟩ := id b2
        have b25 := World.block_lt_of_cell? _ _ b20
        simp only at b25
        go_wp2_with fail
        clear b00 b01 b02 b03 b0f0 b0f1 b0f2 b0f3 b05
        clear b10 b11 b12 b13 b1f0 b1f1 b1f2 b1f3 b15
        clear b20 b21 b22 b23 b2f0 b2f1 b2f2 b2f3 b25
        refine (Sab.out _ uu).mono ?_
        rintro _ w33 ⟨rfl, h33⟩
        replace b0 := b0.up h33
        replace b1 := b1.up h33
        replace b2 := b2.up h33
        replace n0 := n0.up h33
        replace n1 := n1.up h33
        replace n2 := n2.up h33
        replace U := U.trans h33
        replace uu := uu.trans h33
        clear h33
        obtain ⟨⟨b00, b01, b02, b03⟩, b0f0, b0f1, b0f2, b0f3⟩ := id b0
        have b05 := World.block_lt_of_cell? _ _ b00
        simp only at b05
        obtain ⟨⟨b10, b11, b12, b13⟩, b1f0, b1f1, b1f2, b1f3⟩ := id b1
        have b15 := World.block_lt_of_cell? _ _ b10
        simp only at b15
        obtain ⟨⟨b20, b21, b22, b23⟩, b2f0, b2f1, b2f2, b2f3⟩ := id b2
        have b25 := World.block_lt_of_cell? _ _ b20
        simp only at b25
        go_wp2_with fail
        clear b00 b01 b02 b03 b0f0 b0f1 b0f2 b0f3 b05
        clear b10 b11 b12 b13 b1f0 b1f1 b1f2 b1f3 b15
        clear b20 b21 b22 b23 b2f0 b2f1 b2f2 b2f3 b25
        refine (Sbc.out _ uu).mono ?_
        rintro _ w34 ⟨rfl, h34⟩
        replace b0 := b0.up h34
        replace b1 := b1.up h34
        replace b2 := b2.up h34
        replace n0 := n0.up h34
        replace n1 := n1.up h34
        replace n2 := n2.up h34
        replace U := U.trans h34
        replace uu := uu.trans h34
        clear h34
        obtain ⟨⟨b00, b01, b02, b03⟩, b0f0, b0f1, b0f2, b0f3⟩ := id b0
        have b05 := World.block_lt_of_cell? _ _ b00
        simp only at b05
        obtain ⟨⟨b10, b11, b12, b13⟩, b1f0, b1f1, b1f2, b1f3⟩ := id b1
        have b15 := World.block_lt_of_cell? _ _ b10
        simp only at b15
        obtain ⟨⟨b20, b21, b22, b23⟩, b2f0, b2f1, b2f2, b2f3⟩ := id b2
        have b25 := World.block_lt_of_cell? _ _ b20
        simp only at b25
        go_wp2_with fail
        clear b00 b01 b02 b03 b0f0 b0f1 b0f2 b0f3 b05
        clear b10 b11 b12 b13 b1f0 b1f1 b1f2 b1f3 b15
        clear b20 b21 b22 b23 b2f0 b2f1 b2f2 b2f3 b25
        refine (Sac.out _ uu).mono ?_
        rintro _ w35 ⟨rfl, h35⟩
        replace b0 := b0.up h35
        replace b1 := b1.up h35
        replace b2 := b2.up h35
        replace n0 := n0.up h35
        replace n1 := n1.up h35
        replace n2 := n2.up h35
        replace U := U.trans h35
        replace uu := uu.trans h35
        clear h35
        go_wp2_with fail
        go_meet
        exact ⟨rfl, uu⟩
    ·
      have y2 := Hzt.out y0 y1
      have y3 : decide (0 < zc) = false := by simp; omega
      rcases (show 0 < r ∨ (r ≤ 0 ∧ 0 < rb) ∨ (r ≤ 0 ∧ rb ≤ 0) by omega) with x0 | ⟨x0, x1⟩ | ⟨x0, x1⟩
      ·
        obtain ⟨⟨b00, b01, b02, b03⟩, b0f0, b0f1, b0f2, b0f3⟩ := id b0
        have b05 := World.block_lt_of_cell? _ _ b00
        simp only at b05
        obtain ⟨⟨b10, b11, b12, b13⟩, b1f0, b1f1, b1f2, b1f3⟩ := id b1
        have b15 := World.block_lt_of_cell? _ _ b10
        simp only at b15
        obtain ⟨⟨b20, b21, b22, b23⟩, b2f0, b2f1, b2f2, b2f3⟩ := id b2
        have b25 := World.block_lt_of_cell? _ _ b20
        simp only at b25
        go_wp2_with fail
        clear b00 b01 b02 b03 b0f0 b0f1 b0f2 b0f3 b05
        clear b10 b11 b12 b13 b1f0 b1f1 b1f2 b1f3 b15
        clear b20 b21 b22 b23 b2f0 b2f1 b2f2 b2f3 b25
        refine (Cab.out _ uu).mono ?_
        rintro _ w36 ⟨rfl, h36⟩
        replace b0 := b0.up h36
        replace b1 := b1.up h36
        replace b2 := b2.up h36
        replace n0 := n0.up h36
        replace n1 := n1.up h36
        replace n2 := n2.up h36
        replace U := U.trans h36
        replace uu := uu.trans h36
        clear h36
        obtain ⟨⟨b00, b01, b02, b03⟩, b0f0, b0f1, b0f2, b0f3⟩ := id b0
        have b05 := World.block_lt_of_cell? _ _ b00
        simp only at b05
        obtain ⟨⟨b10, b11, b12, b13⟩, b1f0, b1f1, b1f2, b1f3⟩ := id b1
        have b15 := World.block_lt_of_cell? _ _ b10
        simp only at b15
        obtain ⟨⟨b20, b21, b22, b23⟩, b2f0, b2f1, b2f2, b2f3⟩ := id b2
        have b25 := World.block_lt_of_cell? _ _ b20
        simp only at b25
        go_wp2_with fail
        clear b00 b01 b02 b03 b0f0 b0f1 b0f2 b0f3 b05
        clear b10 b11 b12 b13 b1f0 b1f1 b1f2 b1f3 b15
        clear b20 b21 b22 b23 b2f0 b2f1 b2f2 b2f3 b25
        refine (Cbc.out _ uu).mono ?_
        rintro _ w37 ⟨rfl, h37⟩
        replace b0 := b0.up h37
        replace b1 := b1.up h37
        replace b2 := b2.up h37
        replace n0 := n0.up h37
        replace n1 := n1.up h37
        replace n2 := n2.up h37
        replace U := U.trans h37
        replace uu := uu.trans h37
        clear h37
        obtain ⟨⟨b00, b01, b02, b03⟩, b0f0, b0f1, b0f2, b0f3⟩ := id b0
        have b05 := World.block_lt_of_cell? _ _ b00
        simp only at b05
        obtain ⟨⟨b10, b11, b12, b13⟩, b1f0, b1f1, b1f2, b1f3⟩ := id b1
        have b15 := World.block_lt_of_cell? _ _ b10
        simp only at b15
        obtain ⟨⟨b20, b21, b22, b23⟩, b2f0, b2f1, b2f2, b2f3⟩ := id b2
        have b25 := World.block_lt_of_cell? _ _ b20
        simp only at b25
        go_wp2_with fail
        clear b00 b01 b02 b03 b0f0 b0f1 b0f2 b0f3 b05
        clear b10 b11 b12 b13 b1f0 b1f1 b1f2 b1f3 b15
        clear b20 b21 b22 b23 b2f0 b2f1 b2f2 b2f3 b25
        refine (Cac.out _ uu).mono ?_
        rintro _ w38 ⟨rfl, h38⟩
        replace b0 := b0.up h38
        replace b1 := b1.up h38
        replace b2 := b2.up h38
        replace n0 := n0.up h38
        replace n1 := n1.up h38
        replace n2 := n2.up h38
        replace U := U.trans h38
        replace uu := uu.trans h38
        clear h38
        obtain ⟨⟨b00, b01, b02, b03⟩, b0f0, b0f1, b0f2, b0f3⟩ := id b0
        have b05 := World.block_lt_of_cell? _ _ b00
        simp only at b05
        obtain ⟨⟨b10, b11, b12, b13⟩, b1f0, b1f1, b1f2, b1f3⟩ := id b1
        have b15 := World.block_lt_of_cell? _ _ b10
        simp only at b15
        obtain ⟨⟨b20, b21, b22, b23⟩, b2f0, b2f1, b2f2, b2f3⟩ := id b2
        have b25 := World.block_lt_of_cell? _ _ b20
        simp only at b25
        go_wp2_with fail
        clear b00 b01 b02 b03 b0f0 b0f1 b0f2 b0f3 b05
        clear b10 b11 b12 b13 b1f0 b1f1 b1f2 b1f3 b15
        clear b20 b21 b22 b23 b2f0 b2f1 b2f2 b2f3 b25
        refine (Sab.out _ uu).mono ?_
        rintro _ w39 ⟨rfl, h39⟩
        replace b0 := b0.up h39
        replace b1 := b1.up h39
        replace b2 := b2.up h39
        replace n0 := n0.up h39
        replace n1 := n1.up h39
        replace n2 := n2.up h39
        replace U := U.trans h39
        replace uu := uu.trans h39
        clear h39
        go_wp2_with fail
        go_meet
        exact ⟨rfl, uu⟩
      ·
        obtain ⟨⟨b00, b01, b02, b03⟩, b0f0, b0f1, b0f2, b0f3⟩ := id b0
        have b05 := World.block_lt_of_cell? _ _ b00
        simp only at b05
        obtain ⟨⟨b10, b11, b12, b13⟩, b1f0, b1f1, b1f2, b1f3⟩ := id b1
        have b15 := World.block_lt_of_cell? _ _ b10
        simp only at b15
        obtain ⟨⟨b20, b21, b22, b23⟩, b2f0, b2f1, b2f2, b2f3⟩ := id b2
        have b25 := World.block_lt_of_cell? _ _ b20
        simp only at b25
        go_wp2_with fail
        clear b00 b01 b02 b03 b0f0 b0f1 b0f2 b0f3 b05
        clear b10 b11 b12 b13 b1f0 b1f1 b1f2 b1f3 b15
        clear b20 b21 b22 b23 b2f0 b2f1 b2f2 b2f3 b25
        refine (Cab.out _ uu).mono ?_
        rintro _ w40 ⟨rfl, h40⟩
        replace b0 := b0.up h40
        replace b1 := b1.up h40
        replace b2 := b2.up h40
        replace n0 := n0.up h40
        replace n1 := n1.up h40
        replace n2 := n2.up h40
        replace U := U.trans h40
        replace uu := uu.trans h40
        clear h40
        obtain ⟨⟨b00, b01, b02, b03⟩, b0f0, b0f1, b0f2, b0f3⟩ := id b0
        have b05 := World.block_lt_of_cell? _ _ b00
        simp only at b05
        obtain ⟨⟨b10, b11, b12, b13⟩, b1f0, b1f1, b1f2, b1f3⟩ := id b1
        have b15 := World.block_lt_of_cell? _ _ b10
        simp only at b15
        obtain ⟨⟨b20, b21, b22, b23⟩, b2f0, b2f1, b2f2, b2f3⟩ := id b2
        have b25 := World.block_lt_of_cell? _ _ b20
        simp only at b25
        go_wp2_with fail
        clear b00 b01 b02 b03 b0f0 b0f1 b0f2 b0f3 b05
        clear b10 b11 b12 b13 b1f0 b1f1 b1f2 b1f3 b15
        clear b20 b21 b22 b23 b2f0 b2f1 b2f2 b2f3 b25
        refine (Cbc.out _ uu).mono ?_
        rintro _ w41 ⟨rfl, h41⟩
        replace b0 := b0.up h41
        replace b1 := b1.up h41
        replace b2 := b2.up h41
        replace n0 := n0.up h41
        replace n1 := n1.up h41
        replace n2 := n2.up h41
        replace U := U.trans h41
        replace uu := uu.trans h41
        clear h41
        obtain ⟨⟨b00, b01, b02, b03⟩, b0f0, b0f1, b0f2, b0f3⟩ := id b0
        have b05 := World.block_lt_of_cell? _ _ b00
        simp only at b05
        obtain ⟨⟨b10, b11, b12, b13⟩, b1f0, b1f1, b1f2, b1f3⟩ := id b1
        have b15 := World.block_lt_of_cell? _ _ b10
        simp only at b15
        obtain ⟨⟨b20, b21, b22, b23⟩, b2f0, b2f1, b2f2, b2f3⟩ := id b2
        have b25 := World.block_lt_of_cell? _ _ b20
        simp only at b25
        go_wp2_with fail
        clear b00 b01 b02 b03 b0f0 b0f1 b0f2 b0f3 b05
        clear b10 b11 b12 b13 b1f0 b1f1 b1f2 b1f3 b15
        clear b20 b21 b22 b23 b2f0 b2f1 b2f2 b2f3 b25
        refine (Cac.out _ uu).mono ?_
        rintro _ w42 ⟨rfl, h42⟩
        replace b0 := b0.up h42
        replace b1 := b1.up h42
        replace b2 := b2.up h42
        replace n0 := n0.up h42
        replace n1 := n1.up h42
        replace n2 := n2.up h42
        replace U := U.trans h42
        replace uu := uu.trans h42
        clear h42
        obtain ⟨⟨b00, b01, b02, b03⟩, b0f0, b0f1, b0f2, b0f3⟩ := id b0
        have b05 := World.block_lt_of_cell? _ _ b00
        simp only at b05
        obtain ⟨⟨b10, b11, b12, b13⟩, b1f0, b1f1, b1f2, b1f3⟩ := id b1
        have b15 := World.block_lt_of_cell? _ _ b10
        simp only at b15
        obtain ⟨⟨b20, b21, b22, b23⟩, b2f0, b2f1, b2f2, b2f3⟩ := id b2
        have b25 := World.block_lt_of_cell? _ _ b20
        simp only at b25
        go_wp2_with fail
        clear b00 b01 b02 b03 b0f0 b0f1 b0f2 b0f3 b05
        clear b10 b11 b12 b13 b1f0 b1f1 b1f2 b1f3 b15
        clear b20 b21 b22 b23 b2f0 b2f1 b2f2 b2f3 b25
        refine (Sab.out _ uu).mono ?_
        rintro _ w43 ⟨rfl, h43⟩
        replace b0 := b0.up h43
        replace b1 := b1.up h43
        replace b2 := b2.up h43
        replace n0 := n0.up h43
        replace n1 := n1.up h43
        replace n2 := n2.up h43
        replace U := U.trans h43
        replace uu := uu.trans h43
        clear h43
        obtain ⟨⟨b00, b01, b02, b03⟩, b0f0, b0f1, b0f2, b0f3⟩ := id b0
        have b05 := World.block_lt_of_cell? _ _ b00
        simp only at b05
        obtain ⟨⟨b10, b11, b12, b13⟩, b1f0, b1f1, b1f2, b1f3⟩ := id b1
        have b15 := World.block_lt_of_cell? _ _ b10
        simp only at b15
        obtain ⟨⟨b20, b21, b22, b23⟩, b2f0, b2f1, b2f2, b2f3⟩ := id b2
        have b25 := World.block_lt_of_cell? _ _ b20
        simp only at b25
        go_wp2_with fail
        clear b00 b01 b02 b03 b0f0 b0f1 b0f2 b0f3 b05
        clear b10 b11 b12 b13 b1f0 b1f1 b1f2 b1f3 b15
        clear b20 b21 b22 b23 b2f0 b2f1 b2f2 b2f3 b25
        refine (Sbc.out _ uu).mono ?_
        rintro _ w44 ⟨rfl, h44⟩
        replace b0 := b0.up h44
        replace b1 := b1.up h44
        replace b2 := b2.up h44
        replace n0 := n0.up h44
        replace n1 := n1.up h44
        replace n2 := n2.up h44
        replace U := U.trans h44
        replace uu := uu.trans h44
        clear h44
        go_wp2_with fail
        go_meet
        exact ⟨rfl, uu⟩
      ·
        have x2 := Hrt.out x0 x1
        have x3 : decide (0 < rc) = false := by simp; omega
        obtain ⟨⟨b00, b01, b02, b03⟩, b0f0, b0f1, b0f2, b0f3⟩ := id b0
        have b05 := World.block_lt_of_cell? _ _ b00
        simp only at b05
        obtain ⟨⟨b10, b11, b12, b13⟩, b1f0, b1f1, b1f2, b1f3⟩ := id b1
        have b15 := World.block_lt_of_cell? _ _ b10
        simp only at b15
        obtain ⟨⟨b20, b21, b22, b23⟩, b2f0, b2f1, b2f2, b2f3⟩ := id b2
        have b25 := World.block_lt_of_cell? _ _ b20
        simp only at b25
        go_wp2_with fail
        clear b00 b01 b02 b03 b0f0 b0f1 b0f2 b0f3 b05
        clear b10 b11 b12 b13 b1f0 b1f1 b1f2 b1f3 b15
        clear b20 b21 b22 b23 b2f0 b2f1 b2f2 b2f3 b25
        refine (Cab.out _ uu).mono ?_
        rintro _ w45 ⟨rfl, h45⟩
        replace b0 := b0.up h45
        replace b1 := b1.up h45
        replace b2 := b2.up h45
        replace n0 := n0.up h45
        replace n1 := n1.up h45
        replace n2 := n2.up h45
        replace U := U.trans h45
        replace uu := uu.trans h45
        clear h45
        obtain ⟨⟨b00, b01, b02, b03⟩, b0f0, b0f1, b0f2, b0f3⟩ := id b0
        have b05 := World.block_lt_of_cell? _ _ b00
        simp only at b05
        obtain ⟨⟨b10, b11, b12, b13⟩, b1f0, b1f1, b1f2, b1f3⟩ := id b1
        have b15 := World.block_lt_of_cell? _ _ b10
        simp only at b15
        obtain ⟨⟨b20, b21, b22, b23⟩, b2f0, b2f1, b2f2, b2f3⟩ := id b2
        have b25 := World.block_lt_of_cell? _ _ b20
        simp only at b25
        go_wp2_with fail
        clear b00 b01 b02 b03 b0f0 b0f1 b0f2 b0f3 b05
        clear b10 b11 b12 b13 b1f0 b1f1 b1f2 b1f3 b15
        clear b20 b21 b22 b23 b2f0 b2f1 b2f2 b2f3 b25
        refine (Cbc.out _ uu).mono ?_
        rintro _ w46 ⟨rfl, h46⟩
        replace b0 := b0.up h46
        replace b1 := b1.up h46
        replace b2 := b2.up h46
        replace n0 := n0.up h46
        replace n1 := n1.up h46
        replace n2 := n2.up h46
        replace U := U.trans h46
        replace uu := uu.trans h46
        clear h46
        obtain ⟨⟨b00, b01, b02, b03⟩, b0f0, b0f1, b0f2, b0f3⟩ := id b0
        have b05 := World.block_lt_of_cell? _ _ b00
        simp only at b05
        obtain ⟨⟨b10, b11, b12, b13⟩, b1f0, b1f1, b1f2, b1f3⟩ := id b1
        have b15 := World.block_lt_of_cell? _ _ b10
        simp only at b15
        obtain ⟨⟨b20, b21, b22, b23⟩, b2f0, b2f1, b2f2, b2f3⟩ := id b2
        have b25 := World.block_lt_of_cell? _ _ b20
        simp only at b25
        go_wp2_with fail
        clear b00 b01 b02 b03 b0f0 b0f1 b0f2 b0f3 b05
        clear b10 b11 b12 b13 b1f0 b1f1 b1f2 b1f3 b15
        clear b20 b21 b22 b23 b2f0 b2f1 b2f2 b2f3 b25
        refine (Cac.out _ uu).mono ?_
        rintro _ w47 ⟨rfl, h47⟩
        replace b0 := b0.up h47
        replace b1 := b1.up h47
        replace b2 := b2.up h47
        replace n0 := n0.up h47
        replace n1 := n1.up h47
        replace n2 := n2.up h47
        replace U := U.trans h47
        replace uu := uu.trans h47
        clear h47
        obtain ⟨⟨b00, b01, b02, b03⟩, b0f0, b0f1, b0f2, b0f3⟩ := id b0
        have b05 := World.block_lt_of_cell? _ _ b00
        simp only at b05
        obtain ⟨⟨b10, b11, b12, b13⟩, b1f0, b1f1, b1f2, b1f3⟩ := id b1
        have b15 := World.block_lt_of_cell? _ _ b10
        simp only at b15
        obtain ⟨⟨b20, b21, b22, b23⟩, b2f0, b2f1, b2f2, b2f3⟩ := id b2
        have b25 := World.block_lt_of_cell? _ _ b20
        simp only at b25
        go_wp2_with fail
        clear b00 b01 b02 b03 b0f0 b0f1 b0f2 b0f3 b05
        clear b10 b11 b12 b13 b1f0 b1f1 b1f2 b1f3 b15
        clear b20 b21 b22 b23 b2f0 b2f1 b2f2 b2f3 b25
        refine (Sab.out _ uu).mono ?_
        rintro _ w48 ⟨rfl, h48⟩
        replace b0 := b0.up h48
        replace b1 := b1.up h48
        replace b2 := b2.up h48
        replace n0 := n0.up h48
        replace n1 := n1.up h48
        replace n2 := n2.up h48
        replace U := U.trans h48
        replace uu := uu.trans h48
        clear h48
        obtain ⟨⟨b00, b01, b02, b03⟩, b0f0, b0f1, b0f2, b0f3⟩ := id b0
        have b05 := World.block_lt_of_cell? _ _ b00
        simp only at b05
        obtain ⟨⟨b10, b11, b12, b13⟩, b1f0, b1f1, b1f2, b1f3⟩ := id b1
        have b15 := World.block_lt_of_cell? _ _ b10
        simp only at b15
        obtain ⟨⟨b20, b21, b22, b23⟩, b2f0, b2f1, b2f2, b2f3⟩ := id b2
        have b25 := World.block_lt_of_cell? _ _ b20
        simp only at b25
        go_wp2_with fail
        clear b00 b01 b02 b03 b0f0 b0f1 b0f2 b0f3 b05
        clear b10 b11 b12 b13 b1f0 b1f1 b1f2 b1f3 b15
        clear b20 b21 b22 b23 b2f0 b2f1 b2f2 b2f3 b25
        refine (Sbc.out _ uu).mono ?_
        rintro _ w49 ⟨rfl, h49⟩
        replace b0 := b0.up h49
        replace b1 := b1.up h49
        replace b2 := b2.up h49
        replace n0 := n0.up h49
        replace n1 := n1.up h49
        replace n2 := n2.up h49
        replace U := U.trans h49
        replace uu := uu.trans h49
        clear h49
        obtain ⟨⟨b00, b01, b02, b03⟩, b0f0, b0f1, b0f2, b0f3⟩ := id b0
        have b05 := World.block_lt_of_cell? _ _ b00
        simp only at b05
        obtain ⟨⟨b10, b11, b12, b13⟩, b1f0, b1f1, b1f2, b1f3⟩ := id b1
        have b15 := World.block_lt_of_cell? _ _ b10
        simp only at b15
        obtain ⟨⟨b20, b21, b22, b23⟩, b2f0, b2f1, b2f2, b2f3⟩ := id b2
        have b25 := World.block_lt_of_cell? _ _ b20
        simp only at b25
        go_wp2_with fail
        clear b00 b01 b02 b03 b0f0 b0f1 b0f2 b0f3 b05
        clear b10 b11 b12 b13 b1f0 b1f1 b1f2 b1f3 b15
        clear b20 b21 b22 b23 b2f0 b2f1 b2f2 b2f3 b25
        refine (Sac.out _ uu).mono ?_
        rintro _ w50 ⟨rfl, h50⟩
        replace b0 := b0.up h50
        replace b1 := b1.up h50
        replace b2 := b2.up h50
        replace n0 := n0.up h50
        replace n1 := n1.up h50
        replace n2 := n2.up h50
        replace U := U.trans h50
        replace uu := uu.trans h50
        clear h50
        go_wp2_with fail
        go_meet
        exact ⟨rfl, uu⟩
  case rest =>
    obtain ⟨rfl, hcu⟩ := hcut
    replace b0 := b0.up hcu
    replace b1 := b1.up hcu
    replace b2 := b2.up hcu
    replace n0 := n0.up hcu
    replace n1 := n1.up hcu
    replace n2 := n2.up hcu
    replace U := U.trans hcu
    clear hcu Cab Cba Sab Sba Cbc Cac Sbc Sac
    obtain ⟨⟨b00, b01, b02, b03⟩, b0f0, b0f1, b0f2, b0f3⟩ := id b0
    have b05 := World.block_lt_of_cell? _ _ b00
    simp only at b05
    obtain ⟨⟨b10, b11, b12, b13⟩, b1f0, b1f1, b1f2, b1f3⟩ := id b1
    have b15 := World.block_lt_of_cell? _ _ b10
    simp only at b15
    go_wp2_with fail
    clear b00 b01 b02 b03 b0f0 b0f1 b0f2 b0f3 b05
    clear b10 b11 b12 b13 b1f0 b1f1 b1f2 b1f3 b15
    obtain ⟨V51, hV51⟩ : ∃ V51, (wc.alloc (.cells #[.bool (!ng0), (.slice An0 sn0 cn0), .int .i64 (p0), .int .i64 (q0)] 55)).alloc (.cells #[.bool (!ng1), (.slice An1 sn1 cn1), .int .i64 (p1), .int .i64 (q1)] 55) = V51 := ⟨_, rfl⟩
    have uV51 : Up wc V51 := by rw [← hV51]; first | exact (Up.refl _).alloc _ | exact ((Up.refl _).alloc _).alloc _ | exact (((Up.refl _).alloc _).alloc _).alloc _ | exact ((((Up.refl _).alloc _).alloc _).alloc _).alloc _
    have bv : Bx V51 wc.heap.size (!ng0) (.slice An0 sn0 cn0) p0 q0 := by rw [← hV51]; exact (Bx.mk_ _ _ _ _ _).up ((Up.refl _).alloc _)
    have bw : Bx V51 (wc.heap.size + 1) (!ng1) (.slice An1 sn1 cn1) p1 q1 := by rw [← hV51]; exact bx_n 1 _ wc _ _ _ _ (by simp)
    rw [hV51]
    clear hV51
    replace b0 := b0.up uV51
    replace b1 := b1.up uV51
    replace b2 := b2.up uV51
    replace n0 := n0.up uV51
    replace n1 := n1.up uV51
    replace n2 := n2.up uV51
    replace U := U.trans uV51
    clear uV51
    have Cxy := Lib.hid (fun w' (hu : Up V51 w') => xcmp_ov (-5000) (by omega) w' _ _ _ _ (!ng0) (!ng1) (.slice An0 sn0 cn0) (.slice An1 sn1 cn1) p0 q0 p1 q1 a0 a1 (n0.nw.up hu) (n1.nw.up hu) (by omega) (by omega) (by omega) (by omega) (by omega) (by omega) (z) (by show _ = _; rw [hN0, hN1, hz]))
    have Cab := Lib.hid (fun w' (hu : Up V51 w') => xcmp_ov (-5000) (by omega) w' _ _ _ _ ng0 ng1 (.slice An0 sn0 cn0) (.slice An1 sn1 cn1) p0 q0 p1 q1 a0 a1 (n0.nw.up hu) (n1.nw.up hu) (by omega) (by omega) (by omega) (by omega) (by omega) (by omega) (z) (by show _ = _; rw [hN0, hN1, hz]))
    have Sxy := Lib.hid (fun w' (hu : Up V51 w') => xcmps_ov (-5000) (by omega) w' _ _ _ _ (!ng0) (!ng1) (.slice An0 sn0 cn0) (.slice An1 sn1 cn1) p0 q0 p1 q1 a0 a1 (n0.nw.up hu) (n1.nw.up hu) (by omega) (by omega) (by omega) (by omega) (by omega) (by omega) (-r) (by show _ = _; rw [M.so_not, M.so_not, hS0, hS1, M.icmp_neg, M.icmp_swap S0 S1, hr]))
    have Sba := Lib.hid (fun w' (hu : Up V51 w') => xcmps_ov (-5000) (by omega) w' _ _ _ _ ng1 ng0 (.slice An1 sn1 cn1) (.slice An0 sn0 cn0) p1 q1 p0 q0 a1 a0 (n1.nw.up hu) (n0.nw.up hu) (by omega) (by omega) (by omega) (by omega) (by omega) (by omega) (-r) (by show _ = _; rw [hS0, hS1, M.icmp_swap S0 S1, hr]))
    have t3 : ((z : Int) == z) = true := by simp
    have t4 : ((-r : Int) == -r) = true := by simp
    obtain ⟨⟨b00, b01, b02, b03⟩, b0f0, b0f1, b0f2, b0f3⟩ := id b0
    have b05 := World.block_lt_of_cell? _ _ b00
    simp only at b05
    obtain ⟨⟨b10, b11, b12, b13⟩, b1f0, b1f1, b1f2, b1f3⟩ := id b1
    have b15 := World.block_lt_of_cell? _ _ b10
    simp only at b15
    obtain ⟨⟨bv0, bv1, bv2, bv3⟩, bvf0, bvf1, bvf2, bvf3⟩ := id bv
    have bv5 := World.block_lt_of_cell? _ _ bv0
    simp only at bv5
    obtain ⟨⟨bw0, bw1, bw2, bw3⟩, bwf0, bwf1, bwf2, bwf3⟩ := id bw
    have bw5 := World.block_lt_of_cell? _ _ bw0
    simp only at bw5
    go_region_held3 (fun w' => w'.cell? ⟨w.heap.size, 0, none⟩ = some (.bool ng0) ∧ w'.cell? ⟨w.heap.size, 1, none⟩ = some ((.slice An0 sn0 cn0)) ∧ w'.cell? ⟨w.heap.size, 2, none⟩ = some (.int .i64 (p0)) ∧ w'.cell? ⟨w.heap.size, 3, none⟩ = some (.int .i64 (q0)) ∧ w'.cell? ⟨w.heap.size + 1, 0, none⟩ = some (.bool ng1) ∧ w'.cell? ⟨w.heap.size + 1, 1, none⟩ = some ((.slice An1 sn1 cn1)) ∧ w'.cell? ⟨w.heap.size + 1, 2, none⟩ = some (.int .i64 (p1)) ∧ w'.cell? ⟨w.heap.size + 1, 3, none⟩ = some (.int .i64 (q1)) ∧ w'.cell? ⟨wc.heap.size, 0, none⟩ = some (.bool (!ng0)) ∧ w'.cell? ⟨wc.heap.size, 1, none⟩ = some ((.slice An0 sn0 cn0)) ∧ w'.cell? ⟨wc.heap.size, 2, none⟩ = some (.int .i64 (p0)) ∧ w'.cell? ⟨wc.heap.size, 3, none⟩ = some (.int .i64 (q0)) ∧ w'.cell? ⟨wc.heap.size + 1, 0, none⟩ = some (.bool (!ng1)) ∧ w'.cell? ⟨wc.heap.size + 1, 1, none⟩ = some ((.slice An1 sn1 cn1)) ∧ w'.cell? ⟨wc.heap.size + 1, 2, none⟩ = some (.int .i64 (p1)) ∧ w'.cell? ⟨wc.heap.size + 1, 3, none⟩ = some (.int .i64 (q1))) (go_keep) (first
        | (go_at_call 47; (with_reducible refine (Sxy.out _ ?_).mono ?_); (first | with_reducible assumption | exact (Up.refl _).drewN 1); rintro _ w52 ⟨rfl, h52⟩; have uw52 : Up V51 w52 := Up.trans (by first | with_reducible assumption | exact (Up.refl V51).drewN 1) h52; have b0c00 := cell_up uw52 b00; have b0c01 := cell_up uw52 b01; have b0c02 := cell_up uw52 b02; have b0c03 := cell_up uw52 b03; have b1c00 := cell_up uw52 b10; have b1c01 := cell_up uw52 b11; have b1c02 := cell_up uw52 b12; have b1c03 := cell_up uw52 b13; have bvc00 := cell_up uw52 bv0; have bvc01 := cell_up uw52 bv1; have bvc02 := cell_up uw52 bv2; have bvc03 := cell_up uw52 bv3; have bwc00 := cell_up uw52 bw0; have bwc01 := cell_up uw52 bw1; have bwc02 := cell_up uw52 bw2; have bwc03 := cell_up uw52 bw3)
        | (go_at_call 47; (with_reducible refine (Sba.out _ ?_).mono ?_); (first | with_reducible assumption | exact (Up.refl _).drewN 1); rintro _ w53 ⟨rfl, h53⟩; have uw53 : Up V51 w53 := Up.trans (by first | with_reducible assumption | exact (Up.refl V51).drewN 1) h53; have b0c10 := cell_up uw53 b00; have b0c11 := cell_up uw53 b01; have b0c12 := cell_up uw53 b02; have b0c13 := cell_up uw53 b03; have b1c10 := cell_up uw53 b10; have b1c11 := cell_up uw53 b11; have b1c12 := cell_up uw53 b12; have b1c13 := cell_up uw53 b13; have bvc10 := cell_up uw53 bv0; have bvc11 := cell_up uw53 bv1; have bvc12 := cell_up uw53 bv2; have bvc13 := cell_up uw53 bv3; have bwc10 := cell_up uw53 bw0; have bwc11 := cell_up uw53 bw1; have bwc12 := cell_up uw53 bw2; have bwc13 := cell_up uw53 bw3)
        | (go_at_call 46; (with_reducible refine (Cxy.out _ ?_).mono ?_); (first | with_reducible assumption | exact (Up.refl _).drewN 1); rintro _ w54 ⟨rfl, h54⟩; have uw54 : Up V51 w54 := Up.trans (by first | with_reducible assumption | exact (Up.refl V51).drewN 1) h54; have b0c20 := cell_up uw54 b00; have b0c21 := cell_up uw54 b01; have b0c22 := cell_up uw54 b02; have b0c23 := cell_up uw54 b03; have b1c20 := cell_up uw54 b10; have b1c21 := cell_up uw54 b11; have b1c22 := cell_up uw54 b12; have b1c23 := cell_up uw54 b13; have bvc20 := cell_up uw54 bv0; have bvc21 := cell_up uw54 bv1; have bvc22 := cell_up uw54 bv2; have bvc23 := cell_up uw54 bv3; have bwc20 := cell_up uw54 bw0; have bwc21 := cell_up uw54 bw1; have bwc22 := cell_up uw54 bw2; have bwc23 := cell_up uw54 bw3)
        | (go_at_call 46; (with_reducible refine (Cab.out _ ?_).mono ?_); (first | with_reducible assumption | exact (Up.refl _).drewN 1); rintro _ w55 ⟨rfl, h55⟩; have uw55 : Up V51 w55 := Up.trans (by first | with_reducible assumption | exact (Up.refl V51).drewN 1) h55; have b0c30 := cell_up uw55 b00; have b0c31 := cell_up uw55 b01; have b0c32 := cell_up uw55 b02; have b0c33 := cell_up uw55 b03; have b1c30 := cell_up uw55 b10; have b1c31 := cell_up uw55 b11; have b1c32 := cell_up uw55 b12; have b1c33 := cell_up uw55 b13; have bvc30 := cell_up uw55 bv0; have bvc31 := cell_up uw55 bv1; have bvc32 := cell_up uw55 bv2; have bvc33 := cell_up uw55 bv3; have bwc30 := cell_up uw55 bw0; have bwc31 := cell_up uw55 bw1; have bwc32 := cell_up uw55 bw2; have bwc33 := cell_up uw55 bw3))
    clear b0c00
    clear b0c01
    clear b0c02
    clear b0c03
    clear b1c00
    clear b1c01
    clear b1c02
    clear b1c03
    clear bvc00
    clear bvc01
    clear bvc02
    clear bvc03
    clear bwc00
    clear bwc01
    clear bwc02
    clear bwc03
    clear b0c10
    clear b0c11
    clear b0c12
    clear b0c13
    clear b1c10
    clear b1c11
    clear b1c12
    clear b1c13
    clear bvc10
    clear bvc11
    clear bvc12
    clear bvc13
    clear bwc10
    clear bwc11
    clear bwc12
    clear bwc13
    clear b0c20
    clear b0c21
    clear b0c22
    clear b0c23
    clear b1c20
    clear b1c21
    clear b1c22
    clear b1c23
    clear bvc20
    clear bvc21
    clear bvc22
    clear bvc23
    clear bwc20
    clear bwc21
    clear bwc22
    clear bwc23
    clear b0c30
    clear b0c31
    clear b0c32
    clear b0c33
    clear b1c30
    clear b1c31
    clear b1c32
    clear b1c33
    clear bvc30
    clear bvc31
    clear bvc32
    clear bvc33
    clear bwc30
    clear bwc31
    clear bwc32
    clear bwc33
    clear h52
    clear h53
    clear h54
    clear h55
    clear b00 b01 b02 b03 b0f0 b0f1 b0f2 b0f3 b05
    clear b10 b11 b12 b13 b1f0 b1f1 b1f2 b1f3 b15
    clear bv0 bv1 bv2 bv3 bvf0 bvf1 bvf2 bvf3 bv5
    clear bw0 bw1 bw2 bw3 bwf0 bwf1 bwf2 bwf3 bw5
    replace b0 := b0.up uw55
    replace b1 := b1.up uw55
    replace b2 := b2.up uw55
    replace n0 := n0.up uw55
    replace n1 := n1.up uw55
    replace n2 := n2.up uw55
    replace bv := bv.up uw55
    replace bw := bw.up uw55
    replace U := U.trans uw55
    clear uw52
    clear uw53
    clear uw54
    clear uw55
    clear Cxy Cab Sxy Sba
    go_wp2_with fail
    go_ret
    exact ⟨rfl, U⟩
end Go.Proofs.YtdokioefcfcfnaaDoor
