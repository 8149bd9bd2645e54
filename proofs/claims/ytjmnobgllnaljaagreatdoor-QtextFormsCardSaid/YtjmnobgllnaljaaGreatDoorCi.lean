/-
  QtextForms: its walk.
-/
import Derived.Test.YtjmnobgllnaljaaGreatDoorCo
namespace Go.Proofs.YtjmnobgllnaljaaGreatDoor
open Go.RowKit Go.Shelf
set_option linter.unusedVariables false
set_option linter.unusedSimpArgs false

set_option maxHeartbeats 8000000 in
set_option maxRecDepth 100000 in
theorem qtforms_walk (F : Qtx) (w : World) (L : Lt w) (x0 : Bool) (A : Option Addr) (n c : Nat) (xs : List Nat) (h : Src w A n c xs) (hz : Fz w A n) (x2 : Int) (_wx2 : (Lit.int .i64 x2).wf = true) (x3 : Int) (_wx3 : (Lit.int .i64 x3).wf = true) : Calls Tryz.prog 8 #[.bool x0, .slice A n c, .int .i64 x2, .int .i64 x3] w (True16 w) := by
  have CH := Lib.hid (fun W (u : Up w W) => shown16_any F W (L.up u))
  have U := Up.refl w
  obtain ⟨a, ha0, CF⟩ := few16_ex w A n c xs h hz 8 (by decide)
  have ha : a < 2 ^ 2048 := M.lt_2048 (M.words_two (s := 8) (k := 512) ha0 rfl) (by decide)
  obtain ⟨e, he, he1, he2⟩ := tmod_rng_of x2 201 (by decide)
  obtain ⟨z, hz0, hz1⟩ := and_15c x3
  have hw1 : IntKind.i64.wrap e = e := wrap_small (by omega)
  obtain ⟨ng, W, R, q1, hW, hW0, hR, hl, r0, r1⟩ := M.forms16 x0 ha (show -1200 ≤ e ∧ e ≤ 1200 by omega)
  obtain ⟨BD, hBD⟩ : ∃ BD, W ++ (if R = [] then [] else 46 :: R) = BD := ⟨_, rfl⟩
  rw [hBD] at q1 hl r0
  have hpn := M.pnt_parts hW hR
  rw [hBD] at hpn
  have hfst : 0 < BD.length ∧ BD.getD 0 0 ≠ 45 := by
    obtain ⟨d, r, e⟩ : ∃ d r, W = d :: r := by
      cases W with
      | nil => exact absurd rfl hW0
      | cons d r => exact ⟨d, r, rfl⟩
    rw [← hBD, e]
    refine ⟨by simp, ?_⟩
    show d ≠ 45
    intro h
    have := M.isD_rng (List.all_eq_true.1 hW d (by rw [e]; simp))
    rw [h] at this
    revert this; decide
  replace r1 := r1 z
  have hll : (M.wide16 ng z W R).length ≤ 100000 := by
    have h1 : (M.sgt ng ++ BD).length ≤ 5000 := hl
    have h2 : W.length + R.length ≤ BD.length := by
      rw [← hBD, List.length_append]
      by_cases h : R = []
      · rw [if_pos h, h]; simp
      · rw [if_neg h, List.length_cons]; omega
    unfold M.wide16
    rw [List.length_append] at h1 ⊢
    simp only [List.length_append, List.length_cons, List.length_replicate, List.length_nil]
    omega
  have hWR : (R = [] ∧ BD = W) ∨ (R ≠ [] ∧ BD = W ++ 46 :: R) := by
    by_cases h : R = []
    · exact .inl ⟨h, by rw [← hBD, if_pos h]; simp⟩
    · exact .inr ⟨h, by rw [← hBD, if_neg h]⟩
  have hlb : BD.length ≤ 5000 := by rw [List.length_append] at hl; omega
  obtain ⟨ST, hST⟩ : ∃ ST : ByteArray, ⟨(M.sgt ng ++ BD).toArray⟩ = ST := ⟨_, rfl⟩
  have tS : Tx ST (M.sgt ng ++ BD) := by rw [← hST]; exact Tx.lit _
  have HSZ := tS.size
  have C1 := Lib.hid (fun W (u : Up w W) lo v (N : Nt W lo 8 v a) => (F.text W (L.up u) x0 lo v a e (N.more (by decide)) (wf_small (by omega)) _ 0 q1).mono fun _ _ h => h.lit)
  rw [hST] at C1
  have C2 := Lib.hid (fun V (u : Up w V) => F.parse V (L.up u) ST _ e tS (by omega) (wf_small (by omega)) _ _ _ r0)
  have C3 := Lib.hid (fun V (u : Up w V) Z (tZ : Hid (Tx Z (M.wide16 ng z W R))) => F.parse V (L.up u) Z _ e tZ.out hll (wf_small (by omega)) _ _ _ r1)
  have CC := Lib.hid (fun W (_u : Up w W) lo lo' s s' v v' b (N : Nt W lo s v b) (N' : Nt W lo' s' v' b) => (cmp_same W lo lo' s s' v v' b b N.nw N'.nw rfl).mono (fun (e : Ending) (w' : World) ⟨h1, k, h2⟩ => show e = Ending.returned (.int .i64 0) ∧ Up W w' from ⟨h1, h2 ▸ (Up.refl W).drewN k⟩))
  have HT := Lib.hid tS
  clear h hz ha0 ha he1 he2 q1 r0 r1 hll hST tS hBD hW hW0 hR F L
  cases ng
  · replace HT : Hid (Tx ST ([] ++ BD)) := HT
    replace HSZ : ST.size = ([] ++ BD).length := HSZ
    rw [List.length_append] at HSZ
    replace HSZ : ST.size = BD.length := by simpa using HSZ
    have hs0 : 0 < ST.size := by omega
    have b1 : decide ((ST.size : Int) > 0) = true := decide_eq_true (by omega)
    have b2 : decide (0 < ST.size) = true := decide_eq_true hs0
    obtain ⟨c0, hc0⟩ : ∃ c0, BD.getD 0 0 = c0 := ⟨_, rfl⟩
    have b3 : ((ST[0]).toNat : Int) = (c0.toNat : Int) := by rw [HT.out.get 0 hs0, ← hc0]; rfl
    have b4 : ((c0.toNat : Int) == 45) = false := by
      rw [beq_eq_false_iff_ne]
      intro h
      have := hfst.2
      rw [hc0] at this
      exact this (UInt8.toNat_inj.1 (by show c0.toNat = 45; omega))
    obtain ⟨TB, e1⟩ : ∃ TB, TB = ST := ⟨_, rfl⟩
    subst e1
    have TT : Hid (Tx TB BD) := HT
    have hTB := TT.out.size
    have hTs : TB.size ≤ 5000 := by rw [hTB]; exact hlb
    have hb1 : BD.length ≤ 5000 := hlb
    clear hfst
    have HTB := Lib.hid hTB
    clear hTB HSZ
    go_enter Tryz.func8, Tryz.ntmps8
    go_wp2_with fail
    refine (CH.out _ (by first | exact U | exact U.drew | exact U.drewN _)).mono ?_
    rintro _ w1 ⟨rfl, h1⟩
    replace U := Up.trans (by first | exact U | exact U.drew | exact U.drewN _) h1
    clear h1
    go_wp2_with fail
    refine (CF.out _ (by first | exact U | exact U.drew | exact U.drewN _)).mono ?_
    rintro _ w2 ⟨vN, rfl, N, h2⟩
    replace U := Up.trans (by first | exact U | exact U.drew | exact U.drewN _) h2
    clear h2
    obtain ⟨AN, nN, cN, rfl, N⟩ := N.slr
    go_wp2_with fail
    refine (C1.out _ (by first | exact U | exact U.drew | exact U.drewN _) _ _ (by first | exact N | exact N.up ((Up.refl _).drew) | exact N.up ((Up.refl _).drewN _))).mono ?_
    rintro _ w3 ⟨rfl, h3⟩
    replace U := Up.trans (by first | exact U | exact U.drew | exact U.drewN _) h3
    replace N := N.up (Up.trans (by first | exact Up.refl _ | exact (Up.refl _).drew | exact (Up.refl _).drewN _) h3)
    clear h3
    go_wp2_with fail
    go_loopw [12, 13] (fun zv iv wr => ∃ (j : Nat) (D : ByteArray), j ≤ z ∧ zv = .string D ∧ iv = .int .i64 (j : Int) ∧ Hid (Tx D (List.replicate j 48)) ∧ Nt wr w1.heap.size 8 (.slice AN nN cN) a ∧ Up w wr) (fun _ iv _ => z - (Lib.intOf iv).toNat)
    case atStart => exact ⟨0, _, Nat.zero_le _, rfl, rfl, Lib.hid (Tx.lit []), by first | exact N | exact N.up ((Up.refl _).drewN _), by first | exact U | exact U.drewN _⟩
    case round =>
      clear N U
      obtain ⟨j, D, hj, rfl, rfl, HD, N, U⟩ := hrel
      have hDs : D.size ≤ 15 := by
        rw [HD.out.size, List.length_replicate]; omega
      by_cases hjz : j < z
      · have d1 : decide ((j : Int) < (z : Int)) = true := decide_eq_true (by omega)
        obtain ⟨D2, g2, T2, y2⟩ := cat16 D ⟨#[48]⟩ _ _ 16 HD (Lib.hid (Tx.lit [48])) (by show D.size + 1 ≤ 16; omega)
        go_wp2_with fail
        go_roundw
        case rel => exact ⟨j + 1, D2, by omega, by first | rfl | rw [g2], by go_num, by rw [List.replicate_succ']; exact T2, N, U⟩
        case measure => simp [Lib.intOf]; omega
      · have d1 : decide ((j : Int) < (z : Int)) = false := decide_eq_false (by omega)
        have hjz2 : j = z := by omega
        subst hjz2
        clear hjz hj d1
        have d1 : decide ((j : Int) < (j : Int)) = false := decide_eq_false (by omega)
        go_wp2_with fail
        go_loopw [16, 17] (fun pv iv wr => ∃ (i : Nat), i ≤ BD.length ∧ pv = .string (ppt (M.pnt (BD.take i))) ∧ iv = .int .i64 (i : Int) ∧ Nt wr w1.heap.size 8 (.slice AN nN cN) a ∧ Up w wr) (fun _ iv _ => BD.length - (Lib.intOf iv).toNat)
        case atStart => exact ⟨0, Nat.zero_le _, rfl, rfl, by first | exact N | exact N.up ((Up.refl _).drewN _), by first | exact U | exact U.drewN _⟩
        case round =>
          clear N U
          obtain ⟨i, hi, rfl, rfl, N, U⟩ := hrel
          have hTB := HTB.out
          by_cases hlt : i < BD.length
          · have d2 : decide ((i : Int) < (TB.size : Int)) = true := decide_eq_true (by omega)
            have d3 : decide (i < TB.size) = true := decide_eq_true (by omega)
            obtain ⟨cc, hcc⟩ : ∃ cc, BD.getD i 0 = cc := ⟨_, rfl⟩
            have hit : i < TB.size := by omega
            have hix : ((TB[i]).toNat : Int) = (cc.toNat : Int) := by rw [TT.out.get i hit, hcc]
            have hp := M.pnt_take hlt
            rw [hcc] at hp
            obtain ⟨PB, hPB⟩ : ∃ PB, ppt (M.pnt (BD.take i)) = PB := ⟨_, rfl⟩
            rw [hPB]
            by_cases c1 : cc = 46
            · have k1 : ((cc.toNat : Int) == 46) = true := by rw [c1]; rfl
              have E1 : ppt (M.pnt (BD.take (i + 1))) = ⟨#[46]⟩ := by rw [hp, c1]; simp [ppt]
              have E2 := Lib.hid E1
              clear E1 hp hPB c1 hcc hTB
              go_wp2_with fail
              go_roundw
              case rel => exact ⟨i + 1, by omega, by rw [E2.out], by go_num, N, U⟩
              case measure => simp [Lib.intOf]; omega
            · have k1 : ((cc.toNat : Int) == 46) = false := by rw [beq_eq_false_iff_ne]; intro h; exact c1 (UInt8.toNat_inj.1 (by show cc.toNat = 46; omega))
              have E1 : ppt (M.pnt (BD.take (i + 1))) = PB := by rw [← hPB, hp, beq_eq_false_iff_ne.2 c1, Bool.or_false]
              have E2 := Lib.hid E1
              clear E1 hp hPB c1 hcc hTB
              go_wp2_with fail
              go_roundw
              case rel => exact ⟨i + 1, by omega, by rw [E2.out], by go_num, N, U⟩
              case measure => simp [Lib.intOf]; omega
          · have d2 : decide ((i : Int) < (TB.size : Int)) = false := decide_eq_false (by omega)
            have d3 : decide (i < TB.size) = false := decide_eq_false (by omega)
            rw [show BD.take i = BD from List.take_of_length_le (by omega), hpn]
            clear hlt hi hTB
            obtain ⟨D1, f1, T1, y1⟩ := cat16 ⟨#[]⟩ D [] _ 20 (Lib.hid (Tx.lit [])) HD (by show 0 + D.size ≤ 20; omega)
            rcases hWR with ⟨hR, hB⟩ | ⟨hR, hB⟩
            · have e5 : ppt (decide (R ≠ [])) = ⟨#[]⟩ := by rw [hR]; rfl
              rw [e5]
              obtain ⟨TC, f5, T5, y5⟩ := cat16 TB ⟨#[46]⟩ _ _ 5001 TT (Lib.hid (Tx.lit [46])) (by show TB.size + 1 ≤ 5001; omega)
              obtain ⟨D2, f2, T2, y2⟩ := cat16 D1 TC _ _ 5100 T1 T5 (by omega)
              obtain ⟨D3, f3, T3, y3⟩ := cat16 D2 D _ _ 5200 T2 HD (by omega)
              obtain ⟨D4, f4, T4, y4⟩ := cat16 D3 ⟨#[101, 48]⟩ _ _ 5300 T3 (Lib.hid (Tx.lit [101, 48])) (by show D3.size + 2 ≤ 5300; omega)
              replace T4 : Hid (Tx D4 (M.wide16 false j W R)) := by
                have := T4.out
                show Tx _ _
                rw [hB] at this
                refine this.to16 ?_
                unfold M.wide16
                rw [hR]
                simp [M.sgt]
              clear hR hB e5 T1 T2 T3 HD T5 TT
              go_wp2_with fail
              refine (C3.out _ (by first | exact U | exact U.drew | exact U.drewN _) D4 T4).mono ?_
              rintro _ w21 ⟨vX, rfl, X, h21⟩
              replace U := Up.trans (by first | exact U | exact U.drew | exact U.drewN _) h21
              replace N := N.up (Up.trans (by first | exact Up.refl _ | exact (Up.refl _).drew | exact (Up.refl _).drewN _) h21)
              clear h21
              obtain ⟨AX, nX, cX, rfl, X⟩ := X.slr
              go_wp2_with fail
              refine (C2.out _ (by first | exact U | exact U.drew | exact U.drewN _)).mono ?_
              rintro _ w22 ⟨vY, rfl, Y, h22⟩
              replace U := Up.trans (by first | exact U | exact U.drew | exact U.drewN _) h22
              replace N := N.up (Up.trans (by first | exact Up.refl _ | exact (Up.refl _).drew | exact (Up.refl _).drewN _) h22)
              replace X := X.up (Up.trans (by first | exact Up.refl _ | exact (Up.refl _).drew | exact (Up.refl _).drewN _) h22)
              clear h22
              obtain ⟨AY, nY, cY, rfl, Y⟩ := Y.slr
              go_wp2_with fail
              refine (CC.out _ (by first | exact U | exact U.drew | exact U.drewN _) _ _ _ _ _ _ _ (by first | exact X | exact X.up ((Up.refl _).drew) | exact X.up ((Up.refl _).drewN _)) (by first | exact Y | exact Y.up ((Up.refl _).drew) | exact Y.up ((Up.refl _).drewN _))).mono ?_
              rintro _ w23 ⟨rfl, h23⟩
              replace U := Up.trans (by first | exact U | exact U.drew | exact U.drewN _) h23
              replace N := N.up (Up.trans (by first | exact Up.refl _ | exact (Up.refl _).drew | exact (Up.refl _).drewN _) h23)
              replace X := X.up (Up.trans (by first | exact Up.refl _ | exact (Up.refl _).drew | exact (Up.refl _).drewN _) h23)
              replace Y := Y.up (Up.trans (by first | exact Up.refl _ | exact (Up.refl _).drew | exact (Up.refl _).drewN _) h23)
              clear h23
              go_wp2_with fail
              refine (CC.out _ (by first | exact U | exact U.drew | exact U.drewN _) _ _ _ _ _ _ _ (by first | exact X | exact X.up ((Up.refl _).drew) | exact X.up ((Up.refl _).drewN _)) (by first | exact N | exact N.up ((Up.refl _).drew) | exact N.up ((Up.refl _).drewN _))).mono ?_
              rintro _ w24 ⟨rfl, h24⟩
              replace U := Up.trans (by first | exact U | exact U.drew | exact U.drewN _) h24
              replace N := N.up (Up.trans (by first | exact Up.refl _ | exact (Up.refl _).drew | exact (Up.refl _).drewN _) h24)
              replace X := X.up (Up.trans (by first | exact Up.refl _ | exact (Up.refl _).drew | exact (Up.refl _).drewN _) h24)
              replace Y := Y.up (Up.trans (by first | exact Up.refl _ | exact (Up.refl _).drew | exact (Up.refl _).drewN _) h24)
              clear h24
              go_wp2_with fail
              go_ret
              exact ⟨by first | rfl | (simp; done) | (simp; assumption) | (simp; omega), by first | exact U | exact U.drew | exact U.drewN _⟩
            · have e5 : ppt (decide (R ≠ [])) = ⟨#[46]⟩ := by rw [decide_eq_true hR]; rfl
              rw [e5]
              have T5 := TT
              obtain ⟨D2, f2, T2, y2⟩ := cat16 D1 TB _ _ 5100 T1 TT (by omega)
              obtain ⟨D3, f3, T3, y3⟩ := cat16 D2 D _ _ 5200 T2 HD (by omega)
              obtain ⟨D4, f4, T4, y4⟩ := cat16 D3 ⟨#[101, 48]⟩ _ _ 5300 T3 (Lib.hid (Tx.lit [101, 48])) (by show D3.size + 2 ≤ 5300; omega)
              replace T4 : Hid (Tx D4 (M.wide16 false j W R)) := by
                have := T4.out
                show Tx _ _
                rw [hB] at this
                refine this.to16 ?_
                unfold M.wide16
                skip
                simp [M.sgt]
              clear hR hB e5 T1 T2 T3 HD T5 TT
              go_wp2_with fail
              refine (C3.out _ (by first | exact U | exact U.drew | exact U.drewN _) D4 T4).mono ?_
              rintro _ w21 ⟨vX, rfl, X, h21⟩
              replace U := Up.trans (by first | exact U | exact U.drew | exact U.drewN _) h21
              replace N := N.up (Up.trans (by first | exact Up.refl _ | exact (Up.refl _).drew | exact (Up.refl _).drewN _) h21)
              clear h21
              obtain ⟨AX, nX, cX, rfl, X⟩ := X.slr
              go_wp2_with fail
              refine (C2.out _ (by first | exact U | exact U.drew | exact U.drewN _)).mono ?_
              rintro _ w22 ⟨vY, rfl, Y, h22⟩
              replace U := Up.trans (by first | exact U | exact U.drew | exact U.drewN _) h22
              replace N := N.up (Up.trans (by first | exact Up.refl _ | exact (Up.refl _).drew | exact (Up.refl _).drewN _) h22)
              replace X := X.up (Up.trans (by first | exact Up.refl _ | exact (Up.refl _).drew | exact (Up.refl _).drewN _) h22)
              clear h22
              obtain ⟨AY, nY, cY, rfl, Y⟩ := Y.slr
              go_wp2_with fail
              refine (CC.out _ (by first | exact U | exact U.drew | exact U.drewN _) _ _ _ _ _ _ _ (by first | exact X | exact X.up ((Up.refl _).drew) | exact X.up ((Up.refl _).drewN _)) (by first | exact Y | exact Y.up ((Up.refl _).drew) | exact Y.up ((Up.refl _).drewN _))).mono ?_
              rintro _ w23 ⟨rfl, h23⟩
              replace U := Up.trans (by first | exact U | exact U.drew | exact U.drewN _) h23
              replace N := N.up (Up.trans (by first | exact Up.refl _ | exact (Up.refl _).drew | exact (Up.refl _).drewN _) h23)
              replace X := X.up (Up.trans (by first | exact Up.refl _ | exact (Up.refl _).drew | exact (Up.refl _).drewN _) h23)
              replace Y := Y.up (Up.trans (by first | exact Up.refl _ | exact (Up.refl _).drew | exact (Up.refl _).drewN _) h23)
              clear h23
              go_wp2_with fail
              refine (CC.out _ (by first | exact U | exact U.drew | exact U.drewN _) _ _ _ _ _ _ _ (by first | exact X | exact X.up ((Up.refl _).drew) | exact X.up ((Up.refl _).drewN _)) (by first | exact N | exact N.up ((Up.refl _).drew) | exact N.up ((Up.refl _).drewN _))).mono ?_
              rintro _ w24 ⟨rfl, h24⟩
              replace U := Up.trans (by first | exact U | exact U.drew | exact U.drewN _) h24
              replace N := N.up (Up.trans (by first | exact Up.refl _ | exact (Up.refl _).drew | exact (Up.refl _).drewN _) h24)
              replace X := X.up (Up.trans (by first | exact Up.refl _ | exact (Up.refl _).drew | exact (Up.refl _).drewN _) h24)
              replace Y := Y.up (Up.trans (by first | exact Up.refl _ | exact (Up.refl _).drew | exact (Up.refl _).drewN _) h24)
              clear h24
              go_wp2_with fail
              go_ret
              exact ⟨by first | rfl | (simp; done) | (simp; assumption) | (simp; omega), by first | exact U | exact U.drew | exact U.drewN _⟩
  · replace HT : Hid (Tx ST ([45] ++ BD)) := HT
    replace HSZ : ST.size = ([45] ++ BD).length := HSZ
    rw [List.length_append] at HSZ
    replace HSZ : ST.size = 1 + BD.length := HSZ
    have hs0 : 0 < ST.size := by omega
    have b1 : decide ((ST.size : Int) > 0) = true := decide_eq_true (by omega)
    have b2 : decide (0 < ST.size) = true := decide_eq_true hs0
    have b3 : ((ST[0]).toNat : Int) = 45 := by rw [HT.out.get 0 hs0]; rfl
    obtain ⟨TB, e1, TT⟩ := ext16 ST _ HT 1 ST.size
    replace TT : Hid (Tx TB BD) := by
      have e : (([45] ++ BD).drop 1).take (ST.size - 1) = BD := by
        show BD.take _ = BD
        exact List.take_of_length_le (by omega)
      rw [e] at TT
      exact TT
    have hTB := TT.out.size
    have hTs : TB.size ≤ 5000 := by rw [hTB]; exact hlb
    have hb1 : BD.length ≤ 5000 := hlb
    clear hfst
    have HTB := Lib.hid hTB
    clear hTB HSZ
    go_enter Tryz.func8, Tryz.ntmps8
    go_wp2_with fail
    refine (CH.out _ (by first | exact U | exact U.drew | exact U.drewN _)).mono ?_
    rintro _ w1 ⟨rfl, h1⟩
    replace U := Up.trans (by first | exact U | exact U.drew | exact U.drewN _) h1
    clear h1
    go_wp2_with fail
    refine (CF.out _ (by first | exact U | exact U.drew | exact U.drewN _)).mono ?_
    rintro _ w2 ⟨vN, rfl, N, h2⟩
    replace U := Up.trans (by first | exact U | exact U.drew | exact U.drewN _) h2
    clear h2
    obtain ⟨AN, nN, cN, rfl, N⟩ := N.slr
    go_wp2_with fail
    refine (C1.out _ (by first | exact U | exact U.drew | exact U.drewN _) _ _ (by first | exact N | exact N.up ((Up.refl _).drew) | exact N.up ((Up.refl _).drewN _))).mono ?_
    rintro _ w3 ⟨rfl, h3⟩
    replace U := Up.trans (by first | exact U | exact U.drew | exact U.drewN _) h3
    replace N := N.up (Up.trans (by first | exact Up.refl _ | exact (Up.refl _).drew | exact (Up.refl _).drewN _) h3)
    clear h3
    go_wp2_with fail
    go_loopw [12, 13] (fun zv iv wr => ∃ (j : Nat) (D : ByteArray), j ≤ z ∧ zv = .string D ∧ iv = .int .i64 (j : Int) ∧ Hid (Tx D (List.replicate j 48)) ∧ Nt wr w1.heap.size 8 (.slice AN nN cN) a ∧ Up w wr) (fun _ iv _ => z - (Lib.intOf iv).toNat)
    case atStart => exact ⟨0, _, Nat.zero_le _, rfl, rfl, Lib.hid (Tx.lit []), by first | exact N | exact N.up ((Up.refl _).drewN _), by first | exact U | exact U.drewN _⟩
    case round =>
      clear N U
      obtain ⟨j, D, hj, rfl, rfl, HD, N, U⟩ := hrel
      have hDs : D.size ≤ 15 := by
        rw [HD.out.size, List.length_replicate]; omega
      by_cases hjz : j < z
      · have d1 : decide ((j : Int) < (z : Int)) = true := decide_eq_true (by omega)
        obtain ⟨D2, g2, T2, y2⟩ := cat16 D ⟨#[48]⟩ _ _ 16 HD (Lib.hid (Tx.lit [48])) (by show D.size + 1 ≤ 16; omega)
        go_wp2_with fail
        go_roundw
        case rel => exact ⟨j + 1, D2, by omega, by first | rfl | rw [g2], by go_num, by rw [List.replicate_succ']; exact T2, N, U⟩
        case measure => simp [Lib.intOf]; omega
      · have d1 : decide ((j : Int) < (z : Int)) = false := decide_eq_false (by omega)
        have hjz2 : j = z := by omega
        subst hjz2
        clear hjz hj d1
        have d1 : decide ((j : Int) < (j : Int)) = false := decide_eq_false (by omega)
        go_wp2_with fail
        go_loopw [16, 17] (fun pv iv wr => ∃ (i : Nat), i ≤ BD.length ∧ pv = .string (ppt (M.pnt (BD.take i))) ∧ iv = .int .i64 (i : Int) ∧ Nt wr w1.heap.size 8 (.slice AN nN cN) a ∧ Up w wr) (fun _ iv _ => BD.length - (Lib.intOf iv).toNat)
        case atStart => exact ⟨0, Nat.zero_le _, rfl, rfl, by first | exact N | exact N.up ((Up.refl _).drewN _), by first | exact U | exact U.drewN _⟩
        case round =>
          clear N U
          obtain ⟨i, hi, rfl, rfl, N, U⟩ := hrel
          have hTB := HTB.out
          by_cases hlt : i < BD.length
          · have d2 : decide ((i : Int) < (TB.size : Int)) = true := decide_eq_true (by omega)
            have d3 : decide (i < TB.size) = true := decide_eq_true (by omega)
            obtain ⟨cc, hcc⟩ : ∃ cc, BD.getD i 0 = cc := ⟨_, rfl⟩
            have hit : i < TB.size := by omega
            have hix : ((TB[i]).toNat : Int) = (cc.toNat : Int) := by rw [TT.out.get i hit, hcc]
            have hp := M.pnt_take hlt
            rw [hcc] at hp
            obtain ⟨PB, hPB⟩ : ∃ PB, ppt (M.pnt (BD.take i)) = PB := ⟨_, rfl⟩
            rw [hPB]
            by_cases c1 : cc = 46
            · have k1 : ((cc.toNat : Int) == 46) = true := by rw [c1]; rfl
              have E1 : ppt (M.pnt (BD.take (i + 1))) = ⟨#[46]⟩ := by rw [hp, c1]; simp [ppt]
              have E2 := Lib.hid E1
              clear E1 hp hPB c1 hcc hTB
              go_wp2_with fail
              go_roundw
              case rel => exact ⟨i + 1, by omega, by rw [E2.out], by go_num, N, U⟩
              case measure => simp [Lib.intOf]; omega
            · have k1 : ((cc.toNat : Int) == 46) = false := by rw [beq_eq_false_iff_ne]; intro h; exact c1 (UInt8.toNat_inj.1 (by show cc.toNat = 46; omega))
              have E1 : ppt (M.pnt (BD.take (i + 1))) = PB := by rw [← hPB, hp, beq_eq_false_iff_ne.2 c1, Bool.or_false]
              have E2 := Lib.hid E1
              clear E1 hp hPB c1 hcc hTB
              go_wp2_with fail
              go_roundw
              case rel => exact ⟨i + 1, by omega, by rw [E2.out], by go_num, N, U⟩
              case measure => simp [Lib.intOf]; omega
          · have d2 : decide ((i : Int) < (TB.size : Int)) = false := decide_eq_false (by omega)
            have d3 : decide (i < TB.size) = false := decide_eq_false (by omega)
            rw [show BD.take i = BD from List.take_of_length_le (by omega), hpn]
            clear hlt hi hTB
            obtain ⟨D1, f1, T1, y1⟩ := cat16 ⟨#[45]⟩ D [45] _ 20 (Lib.hid (Tx.lit [45])) HD (by show 1 + D.size ≤ 20; omega)
            rcases hWR with ⟨hR, hB⟩ | ⟨hR, hB⟩
            · have e5 : ppt (decide (R ≠ [])) = ⟨#[]⟩ := by rw [hR]; rfl
              rw [e5]
              obtain ⟨TC, f5, T5, y5⟩ := cat16 TB ⟨#[46]⟩ _ _ 5001 TT (Lib.hid (Tx.lit [46])) (by show TB.size + 1 ≤ 5001; omega)
              obtain ⟨D2, f2, T2, y2⟩ := cat16 D1 TC _ _ 5100 T1 T5 (by omega)
              obtain ⟨D3, f3, T3, y3⟩ := cat16 D2 D _ _ 5200 T2 HD (by omega)
              obtain ⟨D4, f4, T4, y4⟩ := cat16 D3 ⟨#[101, 48]⟩ _ _ 5300 T3 (Lib.hid (Tx.lit [101, 48])) (by show D3.size + 2 ≤ 5300; omega)
              replace T4 : Hid (Tx D4 (M.wide16 true j W R)) := by
                have := T4.out
                show Tx _ _
                rw [hB] at this
                refine this.to16 ?_
                unfold M.wide16
                rw [hR]
                simp [M.sgt]
              clear hR hB e5 T1 T2 T3 HD T5 TT
              go_wp2_with fail
              refine (C3.out _ (by first | exact U | exact U.drew | exact U.drewN _) D4 T4).mono ?_
              rintro _ w21 ⟨vX, rfl, X, h21⟩
              replace U := Up.trans (by first | exact U | exact U.drew | exact U.drewN _) h21
              replace N := N.up (Up.trans (by first | exact Up.refl _ | exact (Up.refl _).drew | exact (Up.refl _).drewN _) h21)
              clear h21
              obtain ⟨AX, nX, cX, rfl, X⟩ := X.slr
              go_wp2_with fail
              refine (C2.out _ (by first | exact U | exact U.drew | exact U.drewN _)).mono ?_
              rintro _ w22 ⟨vY, rfl, Y, h22⟩
              replace U := Up.trans (by first | exact U | exact U.drew | exact U.drewN _) h22
              replace N := N.up (Up.trans (by first | exact Up.refl _ | exact (Up.refl _).drew | exact (Up.refl _).drewN _) h22)
              replace X := X.up (Up.trans (by first | exact Up.refl _ | exact (Up.refl _).drew | exact (Up.refl _).drewN _) h22)
              clear h22
              obtain ⟨AY, nY, cY, rfl, Y⟩ := Y.slr
              go_wp2_with fail
              refine (CC.out _ (by first | exact U | exact U.drew | exact U.drewN _) _ _ _ _ _ _ _ (by first | exact X | exact X.up ((Up.refl _).drew) | exact X.up ((Up.refl _).drewN _)) (by first | exact Y | exact Y.up ((Up.refl _).drew) | exact Y.up ((Up.refl _).drewN _))).mono ?_
              rintro _ w23 ⟨rfl, h23⟩
              replace U := Up.trans (by first | exact U | exact U.drew | exact U.drewN _) h23
              replace N := N.up (Up.trans (by first | exact Up.refl _ | exact (Up.refl _).drew | exact (Up.refl _).drewN _) h23)
              replace X := X.up (Up.trans (by first | exact Up.refl _ | exact (Up.refl _).drew | exact (Up.refl _).drewN _) h23)
              replace Y := Y.up (Up.trans (by first | exact Up.refl _ | exact (Up.refl _).drew | exact (Up.refl _).drewN _) h23)
              clear h23
              go_wp2_with fail
              refine (CC.out _ (by first | exact U | exact U.drew | exact U.drewN _) _ _ _ _ _ _ _ (by first | exact X | exact X.up ((Up.refl _).drew) | exact X.up ((Up.refl _).drewN _)) (by first | exact N | exact N.up ((Up.refl _).drew) | exact N.up ((Up.refl _).drewN _))).mono ?_
              rintro _ w24 ⟨rfl, h24⟩
              replace U := Up.trans (by first | exact U | exact U.drew | exact U.drewN _) h24
              replace N := N.up (Up.trans (by first | exact Up.refl _ | exact (Up.refl _).drew | exact (Up.refl _).drewN _) h24)
              replace X := X.up (Up.trans (by first | exact Up.refl _ | exact (Up.refl _).drew | exact (Up.refl _).drewN _) h24)
              replace Y := Y.up (Up.trans (by first | exact Up.refl _ | exact (Up.refl _).drew | exact (Up.refl _).drewN _) h24)
              clear h24
              go_wp2_with fail
              go_ret
              exact ⟨by first | rfl | (simp; done) | (simp; assumption) | (simp; omega), by first | exact U | exact U.drew | exact U.drewN _⟩
            · have e5 : ppt (decide (R ≠ [])) = ⟨#[46]⟩ := by rw [decide_eq_true hR]; rfl
              rw [e5]
              have T5 := TT
              obtain ⟨D2, f2, T2, y2⟩ := cat16 D1 TB _ _ 5100 T1 TT (by omega)
              obtain ⟨D3, f3, T3, y3⟩ := cat16 D2 D _ _ 5200 T2 HD (by omega)
              obtain ⟨D4, f4, T4, y4⟩ := cat16 D3 ⟨#[101, 48]⟩ _ _ 5300 T3 (Lib.hid (Tx.lit [101, 48])) (by show D3.size + 2 ≤ 5300; omega)
              replace T4 : Hid (Tx D4 (M.wide16 true j W R)) := by
                have := T4.out
                show Tx _ _
                rw [hB] at this
                refine this.to16 ?_
                unfold M.wide16
                skip
                simp [M.sgt]
              clear hR hB e5 T1 T2 T3 HD T5 TT
              go_wp2_with fail
              refine (C3.out _ (by first | exact U | exact U.drew | exact U.drewN _) D4 T4).mono ?_
              rintro _ w21 ⟨vX, rfl, X, h21⟩
              replace U := Up.trans (by first | exact U | exact U.drew | exact U.drewN _) h21
              replace N := N.up (Up.trans (by first | exact Up.refl _ | exact (Up.refl _).drew | exact (Up.refl _).drewN _) h21)
              clear h21
              obtain ⟨AX, nX, cX, rfl, X⟩ := X.slr
              go_wp2_with fail
              refine (C2.out _ (by first | exact U | exact U.drew | exact U.drewN _)).mono ?_
              rintro _ w22 ⟨vY, rfl, Y, h22⟩
              replace U := Up.trans (by first | exact U | exact U.drew | exact U.drewN _) h22
              replace N := N.up (Up.trans (by first | exact Up.refl _ | exact (Up.refl _).drew | exact (Up.refl _).drewN _) h22)
              replace X := X.up (Up.trans (by first | exact Up.refl _ | exact (Up.refl _).drew | exact (Up.refl _).drewN _) h22)
              clear h22
              obtain ⟨AY, nY, cY, rfl, Y⟩ := Y.slr
              go_wp2_with fail
              refine (CC.out _ (by first | exact U | exact U.drew | exact U.drewN _) _ _ _ _ _ _ _ (by first | exact X | exact X.up ((Up.refl _).drew) | exact X.up ((Up.refl _).drewN _)) (by first | exact Y | exact Y.up ((Up.refl _).drew) | exact Y.up ((Up.refl _).drewN _))).mono ?_
              rintro _ w23 ⟨rfl, h23⟩
              replace U := Up.trans (by first | exact U | exact U.drew | exact U.drewN _) h23
              replace N := N.up (Up.trans (by first | exact Up.refl _ | exact (Up.refl _).drew | exact (Up.refl _).drewN _) h23)
              replace X := X.up (Up.trans (by first | exact Up.refl _ | exact (Up.refl _).drew | exact (Up.refl _).drewN _) h23)
              replace Y := Y.up (Up.trans (by first | exact Up.refl _ | exact (Up.refl _).drew | exact (Up.refl _).drewN _) h23)
              clear h23
              go_wp2_with fail
              refine (CC.out _ (by first | exact U | exact U.drew | exact U.drewN _) _ _ _ _ _ _ _ (by first | exact X | exact X.up ((Up.refl _).drew) | exact X.up ((Up.refl _).drewN _)) (by first | exact N | exact N.up ((Up.refl _).drew) | exact N.up ((Up.refl _).drewN _))).mono ?_
              rintro _ w24 ⟨rfl, h24⟩
              replace U := Up.trans (by first | exact U | exact U.drew | exact U.drewN _) h24
              replace N := N.up (Up.trans (by first | exact Up.refl _ | exact (Up.refl _).drew | exact (Up.refl _).drewN _) h24)
              replace X := X.up (Up.trans (by first | exact Up.refl _ | exact (Up.refl _).drew | exact (Up.refl _).drewN _) h24)
              replace Y := Y.up (Up.trans (by first | exact Up.refl _ | exact (Up.refl _).drew | exact (Up.refl _).drewN _) h24)
              clear h24
              go_wp2_with fail
              go_ret
              exact ⟨by first | rfl | (simp; done) | (simp; assumption) | (simp; omega), by first | exact U | exact U.drew | exact U.drewN _⟩

end Go.Proofs.YtjmnobgllnaljaaGreatDoor
