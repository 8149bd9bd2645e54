/-
  The walk of ShortTells: true, and nothing that was there has turned.
-/
import Derived.Test.YtgpachgnacndoaaGreatDoorUKp
import Derived.Test.YtgpachgnacndoaaGreatDoorUKq
import Derived.OwnWalk
import Derived.Deep.RegionHeld3
import Derived.Deep.DrawnRows
namespace Go.Proofs.YtgpachgnacndoaaGreatDoor
open Go.RowKit
set_option linter.unusedSimpArgs false
set_option linter.unusedVariables false

set_option maxHeartbeats 16000000 in
set_option maxRecDepth 100000 in
theorem stells11_walk (w : World) (L : Hid (Lk w)) (x0 : Int) (_wx0 : (Lit.int .i64 x0).wf = true) (x1 : Int) (_wx1 : (Lit.int .u64 x1).wf = true)  : Calls Tryz.prog 3 #[.int .i64 x0, .int .u64 x1] w (True11 w) := by
  obtain ⟨p, rfl, pb⟩ := wf_u64 _wx1
  obtain ⟨gg, D, K, x, hs⟩ := M.shc_ex x0 p
  have CH := Lib.hid (fun W (l : Lk W) => shown11_any W (Lib.hid l.low) (Lib.hid l.form) (Lib.hid l.ten))
  have SC := Lib.hid (fun W (l : Lk W) => short_any W (Lib.hid l.low) (Lib.hid l.form) (Lib.hid l.ten) x0 p pb gg D K x hs)
  obtain ⟨gg', D', K', x', hu⟩ := M.uc_ex x0 p
  obtain ⟨rfl, rfl⟩ := M.shc_uc hs hu
  have FC := Lib.hid (fun W (l : Lk W) => full_any W (Lib.hid l.low) (Lib.hid l.form) x0 p pb gg D' K' x hu)
  rcases hs with ⟨x00, he, rfl, rfl, rfl⟩ | ⟨rfl, i, rfl, i1, i2, m, z, m1, z1, m2, z2, ev, t, n, k, d, r, y, hq⟩
  ·
    obtain ⟨c, g9, m, z, x9, hd, hx⟩ := he
    obtain ⟨rfl, rfl⟩ : D' = 0 ∧ K' = 0 := by
      rcases hu with ⟨_, _, _, a, b⟩ | ⟨e, _⟩
      · exact ⟨a, b⟩
      · exact absurd e x00
    have CV := Lib.hid (fun W => rdecode_any W x0 p pb c g9 m z x9 hd)
    have CE := Lib.hid (fun W lo (A : Option Addr) (n c : Nat) (N : Nt W lo 128 (.slice A n c) 0) => same11_any W lo 0 128 128 false A none n c 0 0 0 0 N (Nt.nil W 0 128) (by omega))
    have x5 : (x == x) = true := by simp
    have d1 : (x != 0) = true := by simpa using x00
    have d2 : (x == 0) = false := by simpa using x00
    clear hu hd pb
    rcases hx with ⟨h1, rfl⟩ | ⟨rfl, h2, rfl⟩
    ·
      clear h1 x00
      have U := Up.refl w
      go_enter Tryz.func3, Tryz.ntmps3
      go_wp2_with fail
      refine (CH.out _ (L.out.up U)).mono ?_
      rintro _ w1 ⟨rfl, h1⟩
      replace U := U.trans h1
      clear h1
      clear CH
      go_wp2_with fail
      refine (SC.out _ (L.out.up U)).mono ?_
      rintro _ w2 ⟨vS, rfl, NS, h2⟩
      replace U := U.trans h2
      clear h2
      clear SC
      obtain ⟨AS, nS, cS, rfl, NS⟩ := NS.sl
      go_upto_region 3 with fail
      obtain ⟨V3, hV3⟩ : ∃ V3, w2.alloc (.cells #[.bool false, .slice AS nS cS, .int .i64 0] 27) = V3 := ⟨_, rfl⟩
      have BS : Ob V3 (w2.heap.size) 27 #[.bool false, .slice AS nS cS, .int .i64 0] := by rw [← hV3]; exact Ob.mk_ _ _ _
      have sV3 : V3.heap.size = w2.heap.size + 1 := by rw [← hV3]; exact (Array.size_push _)
      have uV3 : Up w2 V3 := by rw [← hV3]; exact (Up.refl _).alloc _
      have ltBS : w.heap.size ≤ w2.heap.size := by have := U.size; omega
      rw [hV3]
      clear hV3
      replace U := U.trans uV3
      replace NS := NS.up uV3
      clear uV3
      clear sV3
      have glBS := BS.lt
      go_wp2_with fail
      refine (FC.out _ (L.out.up U)).mono ?_
      rintro _ w4 ⟨vF, rfl, NF, h4⟩
      replace U := U.trans h4
      replace BS := BS.up h4
      replace NS := NS.up h4
      clear h4
      clear FC
      obtain ⟨AF, nF, cF, rfl, NF⟩ := NF.sl
      go_upto_region 4 with fail
      have gBFBS := BS.lt
      obtain ⟨V5, hV5⟩ : ∃ V5, w4.alloc (.cells #[.bool false, .slice AF nF cF, .int .i64 0] 27) = V5 := ⟨_, rfl⟩
      have BF : Ob V5 (w4.heap.size) 27 #[.bool false, .slice AF nF cF, .int .i64 0] := by rw [← hV5]; exact Ob.mk_ _ _ _
      have sV5 : V5.heap.size = w4.heap.size + 1 := by rw [← hV5]; exact (Array.size_push _)
      have uV5 : Up w4 V5 := by rw [← hV5]; exact (Up.refl _).alloc _
      have ltBF : w.heap.size ≤ w4.heap.size := by have := U.size; omega
      rw [hV5]
      clear hV5
      replace U := U.trans uV5
      replace BS := BS.up uV5
      replace NS := NS.up uV5
      replace NF := NF.up uV5
      clear uV5
      clear sV5
      have glBF := BF.lt
      go_wp2_with fail
      refine (CV.out _).mono ?_
      rintro _ w6 ⟨rfl, h6⟩
      replace U := U.trans h6
      replace BS := BS.up h6
      replace BF := BF.up h6
      replace NS := NS.up h6
      replace NF := NF.up h6
      clear h6
      clear CV
      go_upto_region 5 with fail
      have gVBS := BS.lt
      have gVBF := BF.lt
      obtain ⟨V7, hV7⟩ : ∃ V7, w6.alloc (.cells #[.int .i64 c, .bool g9, u64 m, .int .i64 z] 32) = V7 := ⟨_, rfl⟩
      have V : Ob V7 (w6.heap.size) 32 #[.int .i64 c, .bool g9, u64 m, .int .i64 z] := by rw [← hV7]; exact Ob.mk_ _ _ _
      have sV7 : V7.heap.size = w6.heap.size + 1 := by rw [← hV7]; exact (Array.size_push _)
      have uV7 : Up w6 V7 := by rw [← hV7]; exact (Up.refl _).alloc _
      have ltV : w.heap.size ≤ w6.heap.size := by have := U.size; omega
      rw [hV7]
      clear hV7
      replace U := U.trans uV7
      replace BS := BS.up uV7
      replace BF := BF.up uV7
      replace NS := NS.up uV7
      replace NF := NF.up uV7
      clear uV7
      clear sV7
      have glV := V.lt
      obtain ⟨V0, V1, V2, V3, Vf0, Vf1, Vf2, Vf3, Vl⟩ := V.c4
      obtain ⟨BS0, BS1, BS2, BSf0, BSf1, BSf2, BSl⟩ := BS.c3
      go_wp2_with fail
      clear V0 Vf0 V1 Vf1 V2 Vf2 V3 Vf3 Vl
      clear BS0 BSf0 BS1 BSf1 BS2 BSf2 BSl
      refine (CE.out _ _ _ _ _ NS).mono ?_
      rintro _ w8 ⟨rfl, h8⟩
      replace U := U.trans h8
      replace BS := BS.up h8
      replace BF := BF.up h8
      replace V := V.up h8
      replace NS := NS.up h8
      replace NF := NF.up h8
      clear h8
      obtain ⟨BF0, BF1, BF2, BFf0, BFf1, BFf2, BFl⟩ := BF.c3
      go_wp2_with fail
      clear BF0 BFf0 BF1 BFf1 BF2 BFf2 BFl
      refine (CE.out _ _ _ _ _ NF).mono ?_
      rintro _ w9 ⟨rfl, h9⟩
      replace U := U.trans h9
      replace BS := BS.up h9
      replace BF := BF.up h9
      replace V := V.up h9
      replace NS := NS.up h9
      replace NF := NF.up h9
      clear h9
      clear CE
      go_wp2_with fail
      go_ret
      exact ⟨rfl, U⟩
    ·
      have d3 : (c != 2) = true := by simpa using h2
      clear h2 x00
      have U := Up.refl w
      go_enter Tryz.func3, Tryz.ntmps3
      go_wp2_with fail
      refine (CH.out _ (L.out.up U)).mono ?_
      rintro _ w1 ⟨rfl, h1⟩
      replace U := U.trans h1
      clear h1
      clear CH
      go_wp2_with fail
      refine (SC.out _ (L.out.up U)).mono ?_
      rintro _ w2 ⟨vS, rfl, NS, h2⟩
      replace U := U.trans h2
      clear h2
      clear SC
      obtain ⟨AS, nS, cS, rfl, NS⟩ := NS.sl
      go_upto_region 3 with fail
      obtain ⟨V3, hV3⟩ : ∃ V3, w2.alloc (.cells #[.bool false, .slice AS nS cS, .int .i64 0] 27) = V3 := ⟨_, rfl⟩
      have BS : Ob V3 (w2.heap.size) 27 #[.bool false, .slice AS nS cS, .int .i64 0] := by rw [← hV3]; exact Ob.mk_ _ _ _
      have sV3 : V3.heap.size = w2.heap.size + 1 := by rw [← hV3]; exact (Array.size_push _)
      have uV3 : Up w2 V3 := by rw [← hV3]; exact (Up.refl _).alloc _
      have ltBS : w.heap.size ≤ w2.heap.size := by have := U.size; omega
      rw [hV3]
      clear hV3
      replace U := U.trans uV3
      replace NS := NS.up uV3
      clear uV3
      clear sV3
      have glBS := BS.lt
      go_wp2_with fail
      refine (FC.out _ (L.out.up U)).mono ?_
      rintro _ w4 ⟨vF, rfl, NF, h4⟩
      replace U := U.trans h4
      replace BS := BS.up h4
      replace NS := NS.up h4
      clear h4
      clear FC
      obtain ⟨AF, nF, cF, rfl, NF⟩ := NF.sl
      go_upto_region 4 with fail
      have gBFBS := BS.lt
      obtain ⟨V5, hV5⟩ : ∃ V5, w4.alloc (.cells #[.bool false, .slice AF nF cF, .int .i64 0] 27) = V5 := ⟨_, rfl⟩
      have BF : Ob V5 (w4.heap.size) 27 #[.bool false, .slice AF nF cF, .int .i64 0] := by rw [← hV5]; exact Ob.mk_ _ _ _
      have sV5 : V5.heap.size = w4.heap.size + 1 := by rw [← hV5]; exact (Array.size_push _)
      have uV5 : Up w4 V5 := by rw [← hV5]; exact (Up.refl _).alloc _
      have ltBF : w.heap.size ≤ w4.heap.size := by have := U.size; omega
      rw [hV5]
      clear hV5
      replace U := U.trans uV5
      replace BS := BS.up uV5
      replace NS := NS.up uV5
      replace NF := NF.up uV5
      clear uV5
      clear sV5
      have glBF := BF.lt
      go_wp2_with fail
      refine (CV.out _).mono ?_
      rintro _ w6 ⟨rfl, h6⟩
      replace U := U.trans h6
      replace BS := BS.up h6
      replace BF := BF.up h6
      replace NS := NS.up h6
      replace NF := NF.up h6
      clear h6
      clear CV
      go_upto_region 5 with fail
      have gVBS := BS.lt
      have gVBF := BF.lt
      obtain ⟨V7, hV7⟩ : ∃ V7, w6.alloc (.cells #[.int .i64 c, .bool g9, u64 m, .int .i64 z] 32) = V7 := ⟨_, rfl⟩
      have V : Ob V7 (w6.heap.size) 32 #[.int .i64 c, .bool g9, u64 m, .int .i64 z] := by rw [← hV7]; exact Ob.mk_ _ _ _
      have sV7 : V7.heap.size = w6.heap.size + 1 := by rw [← hV7]; exact (Array.size_push _)
      have uV7 : Up w6 V7 := by rw [← hV7]; exact (Up.refl _).alloc _
      have ltV : w.heap.size ≤ w6.heap.size := by have := U.size; omega
      rw [hV7]
      clear hV7
      replace U := U.trans uV7
      replace BS := BS.up uV7
      replace BF := BF.up uV7
      replace NS := NS.up uV7
      replace NF := NF.up uV7
      clear uV7
      clear sV7
      have glV := V.lt
      obtain ⟨V0, V1, V2, V3, Vf0, Vf1, Vf2, Vf3, Vl⟩ := V.c4
      obtain ⟨BS0, BS1, BS2, BSf0, BSf1, BSf2, BSl⟩ := BS.c3
      go_wp2_with fail
      clear V0 Vf0 V1 Vf1 V2 Vf2 V3 Vf3 Vl
      clear BS0 BSf0 BS1 BSf1 BS2 BSf2 BSl
      refine (CE.out _ _ _ _ _ NS).mono ?_
      rintro _ w8 ⟨rfl, h8⟩
      replace U := U.trans h8
      replace BS := BS.up h8
      replace BF := BF.up h8
      replace V := V.up h8
      replace NS := NS.up h8
      replace NF := NF.up h8
      clear h8
      obtain ⟨BF0, BF1, BF2, BFf0, BFf1, BFf2, BFl⟩ := BF.c3
      go_wp2_with fail
      clear BF0 BFf0 BF1 BFf1 BF2 BFf2 BFl
      refine (CE.out _ _ _ _ _ NF).mono ?_
      rintro _ w9 ⟨rfl, h9⟩
      replace U := U.trans h9
      replace BS := BS.up h9
      replace BF := BF.up h9
      replace V := V.up h9
      replace NS := NS.up h9
      replace NF := NF.up h9
      clear h9
      clear CE
      go_wp2_with fail
      go_ret
      exact ⟨rfl, U⟩
  ·
    obtain ⟨i', e, _, _, hp, m', z', hd, hg⟩ : ∃ i' : Nat, (i : Int) = i' ∧ 1 ≤ i' ∧ i' ≤ 14 ∧ (p : Int) ≤ M.msk (M.tb i') ∧ ∃ m z, M.Dv (M.tb i') p 2 gg m z ∧ M.Dgs (M.sz m z 0) D' K' := by
      rcases hu with ⟨h, _⟩ | ⟨_, h⟩
      · exact absurd rfl h
      · exact h
    obtain rfl : i = i' := by omega
    have CV := Lib.hid (fun W => rdecode_any W (i : Int) p pb 2 gg m z 0 (.inr ⟨i, rfl, i1, i2, .inr ⟨hq.pt.fit, hq.pt.dv, rfl⟩⟩))
    have CR := Lib.hid (fun W => rshort11_any W i i1 i2 p pb gg m z m1 z1 m2 z2 ev t n k d r y D K hq)
    have CU := Lib.hid (fun W => rfull11_any W i i1 i2 p pb hp gg m' z' hd D' K' hg)
    have CE := Lib.hid (fun W lo lo' (A A' : Option Addr) (n c n' c' : Nat) (K a) (N : Nt W lo 128 (.slice A n c) a) (N' : Nt W lo' 128 (.slice A' n' c') a) => same11_any W lo lo' 128 128 gg A A' n c n' c' K a N N' (by omega))
    clear hq hd hg hu hp i1 i2 pb e
    have U := Up.refl w
    go_enter Tryz.func3, Tryz.ntmps3
    go_wp2_with fail
    refine (CH.out _ (L.out.up U)).mono ?_
    rintro _ w1 ⟨rfl, h1⟩
    replace U := U.trans h1
    clear h1
    clear CH
    go_wp2_with fail
    refine (SC.out _ (L.out.up U)).mono ?_
    rintro _ w2 ⟨vS, rfl, NS, h2⟩
    replace U := U.trans h2
    clear h2
    clear SC
    obtain ⟨AS, nS, cS, rfl, NS⟩ := NS.sl
    go_upto_region 3 with fail
    obtain ⟨V3, hV3⟩ : ∃ V3, w2.alloc (.cells #[.bool gg, .slice AS nS cS, .int .i64 K] 27) = V3 := ⟨_, rfl⟩
    have BS : Ob V3 (w2.heap.size) 27 #[.bool gg, .slice AS nS cS, .int .i64 K] := by rw [← hV3]; exact Ob.mk_ _ _ _
    have sV3 : V3.heap.size = w2.heap.size + 1 := by rw [← hV3]; exact (Array.size_push _)
    have uV3 : Up w2 V3 := by rw [← hV3]; exact (Up.refl _).alloc _
    have ltBS : w.heap.size ≤ w2.heap.size := by have := U.size; omega
    rw [hV3]
    clear hV3
    replace U := U.trans uV3
    replace NS := NS.up uV3
    clear uV3
    clear sV3
    have glBS := BS.lt
    go_wp2_with fail
    refine (FC.out _ (L.out.up U)).mono ?_
    rintro _ w4 ⟨vF, rfl, NF, h4⟩
    replace U := U.trans h4
    replace BS := BS.up h4
    replace NS := NS.up h4
    clear h4
    clear FC
    obtain ⟨AF, nF, cF, rfl, NF⟩ := NF.sl
    go_upto_region 4 with fail
    have gBFBS := BS.lt
    obtain ⟨V5, hV5⟩ : ∃ V5, w4.alloc (.cells #[.bool gg, .slice AF nF cF, .int .i64 K'] 27) = V5 := ⟨_, rfl⟩
    have BF : Ob V5 (w4.heap.size) 27 #[.bool gg, .slice AF nF cF, .int .i64 K'] := by rw [← hV5]; exact Ob.mk_ _ _ _
    have sV5 : V5.heap.size = w4.heap.size + 1 := by rw [← hV5]; exact (Array.size_push _)
    have uV5 : Up w4 V5 := by rw [← hV5]; exact (Up.refl _).alloc _
    have ltBF : w.heap.size ≤ w4.heap.size := by have := U.size; omega
    rw [hV5]
    clear hV5
    replace U := U.trans uV5
    replace BS := BS.up uV5
    replace NS := NS.up uV5
    replace NF := NF.up uV5
    clear uV5
    clear sV5
    have glBF := BF.lt
    go_wp2_with fail
    refine (CV.out _).mono ?_
    rintro _ w6 ⟨rfl, h6⟩
    replace U := U.trans h6
    replace BS := BS.up h6
    replace BF := BF.up h6
    replace NS := NS.up h6
    replace NF := NF.up h6
    clear h6
    clear CV
    go_upto_region 5 with fail
    have gVBS := BS.lt
    have gVBF := BF.lt
    obtain ⟨V7, hV7⟩ : ∃ V7, w6.alloc (.cells #[.int .i64 2, .bool gg, u64 m, .int .i64 z] 32) = V7 := ⟨_, rfl⟩
    have V : Ob V7 (w6.heap.size) 32 #[.int .i64 2, .bool gg, u64 m, .int .i64 z] := by rw [← hV7]; exact Ob.mk_ _ _ _
    have sV7 : V7.heap.size = w6.heap.size + 1 := by rw [← hV7]; exact (Array.size_push _)
    have uV7 : Up w6 V7 := by rw [← hV7]; exact (Up.refl _).alloc _
    have ltV : w.heap.size ≤ w6.heap.size := by have := U.size; omega
    rw [hV7]
    clear hV7
    replace U := U.trans uV7
    replace BS := BS.up uV7
    replace BF := BF.up uV7
    replace NS := NS.up uV7
    replace NF := NF.up uV7
    clear uV7
    clear sV7
    have glV := V.lt
    obtain ⟨V0, V1, V2, V3, Vf0, Vf1, Vf2, Vf3, Vl⟩ := V.c4
    go_wp2_with fail
    clear V0 Vf0 V1 Vf1 V2 Vf2 V3 Vf3 Vl
    obtain ⟨BS0, BS1, BS2, BSf0, BSf1, BSf2, BSl⟩ := BS.c3
    obtain ⟨BF0, BF1, BF2, BFf0, BFf1, BFf2, BFl⟩ := BF.c3
    go_region_held3 (fun w' => w'.cell? ⟨w2.heap.size, 0, none⟩ = some (.bool gg) ∧ w'.cell? ⟨w2.heap.size, 1, none⟩ = some (.slice AS nS cS) ∧ w'.cell? ⟨w2.heap.size, 2, none⟩ = some (.int .i64 K) ∧ w'.cell? ⟨w4.heap.size, 0, none⟩ = some (.bool gg) ∧ w'.cell? ⟨w4.heap.size, 1, none⟩ = some (.slice AF nF cF) ∧ w'.cell? ⟨w4.heap.size, 2, none⟩ = some (.int .i64 K')) (go_keep) (first
      | (go_at_call 9; (with_reducible refine (CR.out _).mono ?_); rintro _ wA ⟨Ar, nr, cr, rfl, Nr, v_wA⟩; have u_wA : Up V7 wA := Up.trans (by first | with_reducible assumption | exact (Up.refl _).drewN 1 | exact Up.refl _) v_wA; have wA_BS0 := cell_up u_wA BS0; have wA_BS1 := cell_up u_wA BS1; have wA_BS2 := cell_up u_wA BS2; have wA_BF0 := cell_up u_wA BF0; have wA_BF1 := cell_up u_wA BF1; have wA_BF2 := cell_up u_wA BF2)
      | (go_at_call_of 8 (Value.slice AS nS cS); (with_reducible refine (CE.out _ _ _ _ _ _ _ _ _ _ _ (NS.up (by first | exact u_wA | exact u_wA.drewN 1)) (by first | exact Nr | exact Nr.up ((Up.refl _).drewN 1))).mono ?_); rintro _ wB ⟨rfl, v_wB⟩; have u_wB : Up V7 wB := Up.trans (by first | exact u_wA | exact u_wA.drewN 1) v_wB; have wB_BS0 := cell_up u_wB BS0; have wB_BS1 := cell_up u_wB BS1; have wB_BS2 := cell_up u_wB BS2; have wB_BF0 := cell_up u_wB BF0; have wB_BF1 := cell_up u_wB BF1; have wB_BF2 := cell_up u_wB BF2)
      | (go_at_call 10; (with_reducible refine (CU.out _).mono ?_); rintro _ wC ⟨Aq, nq, cq, rfl, Nq, v_wC⟩; have u_wC : Up V7 wC := Up.trans (by first | exact u_wB | exact u_wB.drewN 1) v_wC; have wC_BS0 := cell_up u_wC BS0; have wC_BS1 := cell_up u_wC BS1; have wC_BS2 := cell_up u_wC BS2; have wC_BF0 := cell_up u_wC BF0; have wC_BF1 := cell_up u_wC BF1; have wC_BF2 := cell_up u_wC BF2)
      | (go_at_call_of 8 (Value.slice AF nF cF); (with_reducible refine (CE.out _ _ _ _ _ _ _ _ _ _ _ (NF.up (by first | exact u_wC | exact u_wC.drewN 1)) (by first | exact Nq | exact Nq.up ((Up.refl _).drewN 1))).mono ?_); rintro _ wD ⟨rfl, v_wD⟩; have u_wD : Up V7 wD := Up.trans (by first | exact u_wC | exact u_wC.drewN 1) v_wD; have wD_BS0 := cell_up u_wD BS0; have wD_BS1 := cell_up u_wD BS1; have wD_BS2 := cell_up u_wD BS2; have wD_BF0 := cell_up u_wD BF0; have wD_BF1 := cell_up u_wD BF1; have wD_BF2 := cell_up u_wD BF2))
    have U9 := U.trans u_wD
    go_wp2_with fail
    go_ret
    exact ⟨rfl, by first | exact U9 | exact U9.drewN _⟩
end Go.Proofs.YtgpachgnacndoaaGreatDoor
