/-
  The walk of ParseModes: true, and nothing that was there has turned.
-/
import Derived.Test.YtbbjlcgfaigmdaaGreatDoorJd
namespace Go.Proofs.YtbbjlcgfaigmdaaGreatDoor
open Go.RowKit Go.Shelf
set_option linter.unusedSimpArgs false
set_option linter.unusedVariables false

set_option maxHeartbeats 4000000 in
set_option maxRecDepth 100000 in
theorem pmodes_walk (w : World) (L : Hid (Lp w)) (x0 : Int) (_wx0 : (Lit.int .i64 x0).wf = true) (s : ByteArray) (_ws : s.size ≤ maxLen) :
    Calls Tryz.prog 8 #[.int .i64 x0, .string s] w (True10 w) := by
  obtain ⟨k, hk, hk1, hk2⟩ : ∃ k : Nat, min (s.size : Int) 300 = (k : Int) ∧ k ≤ s.size ∧ k ≤ 300 := ⟨min s.size 300, by omega, by omega, by omega⟩
  obtain ⟨T, hT⟩ : ∃ T, s.extract 0 k = T := ⟨_, rfl⟩
  obtain ⟨l, hl⟩ : ∃ l, T.data.toList = l := ⟨_, rfl⟩
  have hTk : T.size = k := by rw [← hT]; simp; omega
  have hll : T.size = l.length := by rw [← hl]; exact (Array.length_toList).symm
  have hT1 : T.size ≤ 1000000 := by omega
  have HL := Lib.hid hl
  clear hl
  obtain ⟨p, n, e, hj⟩ := M.jc_ex x0 1 l
  obtain ⟨q, m, e2, hj2⟩ := M.jc_ex x0 2 l
  obtain ⟨rfl, rfl, h⟩ := M.jc_modes hj hj2
  have CP := Lib.hid (fun W (U : Up w W) => jparse_any W (Lib.hid (L.out.up U)) x0 1 T l HL hT1 p m e2 hj)
  have CQ := Lib.hid (fun W (U : Up w W) => jparse_any W (Lib.hid (L.out.up U)) x0 2 T l HL hT1 q m e2 hj2)
  clear hj hj2 hll HL
  have h' : ((e2 != 0) = true) ∨ ((e2 != 0) = false ∧ (p == q) = true) ∨ ((e2 != 0) = false ∧ (p == q) = false) := by
    by_cases a : e2 = 0
    · by_cases b : p = q
      · exact .inr (.inl ⟨by simpa using a, by simpa using b⟩)
      · exact .inr (.inr ⟨by simpa using a, by simpa using b⟩)
    · exact .inl (by simpa using a)
  rcases h' with d0 | ⟨d0, d1⟩ | ⟨d0, d1⟩
  · clear h
    have U := Up.refl w
    go_enter Tryz.func8, Tryz.ntmps8
    go_wp2_with fail
    refine (shown10_any _ L).mono ?_
    rintro _ w1 ⟨rfl, u1⟩
    replace U := U.trans u1
    clear u1
    go_wp2_with fail
    refine (CP.out _ U).mono ?_
    rintro _ w2 ⟨rfl, u_⟩
    replace U := U.trans u_
    clear u_
    go_wp2_with fail
    refine (CQ.out _ U).mono ?_
    rintro _ w3 ⟨rfl, u_⟩
    replace U := U.trans u_
    clear u_
    go_wp2_with fail
    go_ret
    exact ⟨rfl, U⟩
  · clear h
    have U := Up.refl w
    go_enter Tryz.func8, Tryz.ntmps8
    go_wp2_with fail
    refine (shown10_any _ L).mono ?_
    rintro _ w1 ⟨rfl, u1⟩
    replace U := U.trans u1
    clear u1
    go_wp2_with fail
    refine (CP.out _ U).mono ?_
    rintro _ w2 ⟨rfl, u_⟩
    replace U := U.trans u_
    clear u_
    go_wp2_with fail
    refine (CQ.out _ U).mono ?_
    rintro _ w3 ⟨rfl, u_⟩
    replace U := U.trans u_
    clear u_
    go_wp2_with fail
    go_ret
    exact ⟨rfl, U⟩
  · have h := h.resolve_left (fun a => by rw [bne_eq_false_iff_eq] at d0; exact a d0)
    have h := h.resolve_left (fun a => by rw [beq_eq_false_iff_ne] at d1; exact d1 a)
    obtain ⟨rfl, i, g, kk, rfl, i1, i2, p1, p2, q1, q2, cp, gp, kp, mk, n4, hq⟩ := h
    have ok := M.ok i i1 i2
    have ok2 := M.ok2 i i1 i2
    have hb := ok.hm
    obtain ⟨P, rfl⟩ := Int.eq_ofNat_of_zero_le p1
    obtain ⟨Q, rfl⟩ := Int.eq_ofNat_of_zero_le q1
    have kn := (M.cls_key ok ok2 p1 p2 (.inr cp)).2.2.2 cp
    have kt := (M.cls_key ok ok2 p1 p2 (.inr cp)).2.1
    obtain ⟨m0, z0, hmg⟩ := M.mg_ex ok ok2 (k := kk) (by omega) (by omega)
    have CD := Lib.hid (fun W (T : Tz W) (F : TabF W) => vdecode_any W (Lib.hid T) (Lib.hid F) (i : Int) P (by omega) 2 g m0 z0 0 (.inr ⟨i, rfl, i1, i2, .inr ⟨p2, .inr (.inr (.inr ⟨cp, rfl, gp.symm, kk, kp, hmg⟩)), rfl⟩⟩))
    have CM := Lib.hid (fun W (F : TabF W) => vmost_any W (Lib.hid F) (i : Int) g (kk : Int) 0 (.inr ⟨i, rfl, i1, i2, .inr ⟨n4, mk.symm, rfl⟩⟩))
    have CK := Lib.hid (fun W (T : Tz W) (F : TabF W) => vkey_any W (Lib.hid T) (Lib.hid F) (i : Int) P (by omega) g kk 0 (.inr ⟨i, rfl, i1, i2, .inr ⟨p2, .inr (.inr ⟨cp, gp.symm, kp, rfl⟩)⟩⟩))
    have CE : Hid (∃ c g2, ((c = 3 ∧ g2 = g) ∨ (c = 4 ∧ g2 = false)) ∧ ∀ W (T : Tz W) (F : TabF W), Calls Tryz.prog 26 #[.int .i64 (i : Int), u64 Q] W (Vd c g2 0 0 0 W)) := by
      show ∃ _, _
      rcases hq with ⟨h3, hg⟩ | h4
      · exact ⟨3, g, .inl ⟨rfl, rfl⟩, fun W T F => vdecode_any W (Lib.hid T) (Lib.hid F) (i : Int) Q (by omega) 3 g 0 0 0 (.inr ⟨i, rfl, i1, i2, .inr ⟨q2, .inr (.inl ⟨h3, rfl, hg.symm, rfl, rfl⟩), rfl⟩⟩)⟩
      · exact ⟨4, false, .inr ⟨rfl, rfl⟩, fun W T F => vdecode_any W (Lib.hid T) (Lib.hid F) (i : Int) Q (by omega) 4 false 0 0 0 (.inr ⟨i, rfl, i1, i2, .inr ⟨q2, .inl ⟨h4, rfl, rfl, rfl, rfl⟩, rfl⟩⟩)⟩
    obtain ⟨c, g2, hcg, CE⟩ := CE.out
    have CE := Lib.hid CE
    clear ok ok2 hb kn kt hmg cp gp kp mk n4 hq p1 p2 q1 q2 i1 i2
    have U := Up.refl w
    go_enter Tryz.func8, Tryz.ntmps8
    go_wp2_with fail
    refine (shown10_any _ L).mono ?_
    rintro _ w1 ⟨rfl, u1⟩
    replace U := U.trans u1
    clear u1
    go_wp2_with fail
    refine (CP.out _ U).mono ?_
    rintro _ w2 ⟨rfl, u_⟩
    replace U := U.trans u_
    clear u_
    go_wp2_with fail
    refine (CQ.out _ U).mono ?_
    rintro _ w3 ⟨rfl, u_⟩
    replace U := U.trans u_
    clear u_
    go_wp2_with fail
    refine (CD.out _ (L.out.up U).low (L.out.up U).form).mono ?_
    rintro _ w4 ⟨rfl, u_⟩
    replace U := U.trans u_
    clear u_ CP CQ CD
    go_wp2_with fail
    obtain ⟨V1, hV1⟩ : ∃ V, w4.alloc (.cells #[.int .i64 2, .bool g, u64 m0, .int .i64 z0] 60) = V := ⟨_, rfl⟩
    have B1 : Ob V1 w4.heap.size 60 #[.int .i64 2, .bool g, u64 m0, .int .i64 z0] := by rw [← hV1]; exact Ob.mk_ _ _ _
    have u_ : Up w4 V1 := by rw [← hV1]; exact (Up.refl _).alloc _
    rw [hV1]
    clear hV1
    replace U := U.trans u_
    clear u_
    refine (CE.out _ (L.out.up U).low (L.out.up U).form).mono ?_
    rintro _ w5 ⟨rfl, u_⟩
    replace U := U.trans u_
    replace B1 := B1.up u_
    clear u_ CE
    go_upto_region 11 with fail
    obtain ⟨V2, hV2⟩ : ∃ V, w5.alloc (.cells #[.int .i64 c, .bool g2, .int .u64 0, .int .i64 0] 60) = V := ⟨_, rfl⟩
    have B2 : Ob V2 w5.heap.size 60 #[.int .i64 c, .bool g2, .int .u64 0, .int .i64 0] := by rw [← hV2]; exact Ob.mk_ _ _ _
    have u_ : Up w5 V2 := by rw [← hV2]; exact (Up.refl _).alloc _
    rw [hV2]
    clear hV2
    replace U := U.trans u_
    replace B1 := B1.up u_
    clear u_
    have b1 := B1.get 1
    simp only [List.getElem?_toArray, List.getElem?_cons_zero, List.getElem?_cons_succ] at b1
    go_wp2_with fail
    refine (CM.out _ (L.out.up U).form).mono ?_
    rintro _ w6 ⟨rfl, u_⟩
    replace U := U.trans u_
    replace B1 := B1.up u_
    replace B2 := B2.up u_
    clear u_ CM b1
    go_wp2_with fail
    refine (CK.out _ (L.out.up U).low (L.out.up U).form).mono ?_
    rintro _ w7 ⟨rfl, u_⟩
    replace U := U.trans u_
    replace B1 := B1.up u_
    replace B2 := B2.up u_
    clear u_ CK
    have b1 := B1.get 1
    have c0 := B2.get 0
    have c1 := B2.get 1
    simp only [List.getElem?_toArray, List.getElem?_cons_zero, List.getElem?_cons_succ] at b1 c0 c1
    clear B1 B2 d0 d1
    rcases hcg with ⟨rfl, rfl⟩ | ⟨rfl, rfl⟩
    all_goals
      go_wp2_with fail
      go_ret
      exact ⟨rfl, U⟩
end Go.Proofs.YtbbjlcgfaigmdaaGreatDoor
