/-
  QtextBack: its walk.
-/
import Derived.Test.YtjmnobgllnaljaaGreatDoorCe
import Derived.Test.YtjmnobgllnaljaaGreatDoorShr
namespace Go.Proofs.YtjmnobgllnaljaaGreatDoor
open Go.RowKit Go.Shelf
set_option linter.unusedVariables false
set_option linter.unusedSimpArgs false

set_option maxHeartbeats 8000000 in
set_option maxRecDepth 100000 in
theorem qtback_walk (F : Qtx) (w : World) (L : Lt w) (x0 : Bool) (A : Option Addr) (n c : Nat) (xs : List Nat) (h : Src w A n c xs) (hz : Fz w A n) (x2 : Int) (_wx2 : (Lit.int .i64 x2).wf = true) (x3 : Int) (_wx3 : (Lit.int .i64 x3).wf = true) : Calls Tryz.prog 5 #[.bool x0, .slice A n c, .int .i64 x2, .int .i64 x3] w (True16 w) := by
  have CH := Lib.hid (fun W (u : Up w W) => shown16_any F W (L.up u))
  have U := Up.refl w
  obtain ⟨a, ha0, CF⟩ := few16_ex w A n c xs h hz 32 (by decide)
  have ha : a < 2 ^ 2048 := M.words_two (s := 32) (k := 2048) ha0 rfl
  obtain ⟨e, he, he1, he2⟩ := tmod_rng_of x2 1201 (by decide)
  obtain ⟨t0, ht0, ht1⟩ := and_65535c x3
  obtain ⟨T, hT⟩ : ∃ T, t0 % 101 = T := ⟨_, rfl⟩
  have hT3 : T ≤ 100 := by omega
  have hT4 : (t0 : Int).tmod 101 = (T : Int) := by rw [Int.tmod_eq_emod_of_nonneg (by omega)]; omega
  obtain ⟨e1, hm1⟩ : ∃ e1, max (e - (T : Int)) (-1200) = e1 := ⟨_, rfl⟩
  obtain ⟨j, hj⟩ : ∃ j : Nat, e - e1 = (j : Int) := ⟨(e - e1).toNat, by omega⟩
  obtain ⟨e2, hp2⟩ : ∃ e2, e + (T : Int) = e2 := ⟨_, rfl⟩
  obtain ⟨e3, hp3⟩ : ∃ e3, e - (T : Int) = e3 := ⟨_, rfl⟩
  rw [hp3] at hm1
  have hw1 : IntKind.i64.wrap e = e := wrap_small (by omega)
  have hw2 : IntKind.i64.wrap e2 = e2 := wrap_small (by omega)
  have hw3 : IntKind.i64.wrap e3 = e3 := wrap_small (by omega)
  have hw4 : IntKind.i64.wrap (T : Int) = T := wrap_small (by omega)
  have hw5 : IntKind.i64.wrap (j : Int) = j := wrap_small (by omega)
  obtain ⟨l, y, q1⟩ := M.qt_ex x0 a e
  obtain rfl : y = 0 := by
    rcases q1 with ⟨hh, _⟩ | ⟨_, hh, _⟩
    · exact absurd ⟨ha, by omega⟩ hh
    · exact hh
  have hl := M.qt_len q1
  obtain ⟨g0, m0, y0, r0⟩ := M.qr_ex l e
  obtain ⟨ey, em, eg⟩ := M.qr_own q1 r0
  replace em := em.symm
  subst ey em eg
  obtain ⟨dz, hdz⟩ : ∃ d, decide (a ≠ 0) = d := ⟨_, rfl⟩
  rw [hdz] at r0
  obtain ⟨g1, m1, y1, r1⟩ := M.qr_ex l e1
  have k1 := M.qr_less q1 j (by omega) (by omega) r1
  obtain ⟨P, hP⟩ : ∃ P, a * 2 ^ j = P := ⟨_, rfl⟩
  rw [hP] at k1
  obtain ⟨B, hB⟩ : ∃ B : Nat, M.bits P = B := ⟨_, rfl⟩
  have hBT : P < 2 ^ 2048 ↔ B ≤ 2048 := by
    rw [← hB]
    exact ⟨fun h => M.bits_le_of_lt h, fun h => M.lt_2048 (M.bits_lt P) h⟩
  obtain ⟨ST, hST⟩ : ∃ ST : ByteArray, ⟨l.toArray⟩ = ST := ⟨_, rfl⟩
  have tS : Tx ST l := by rw [← hST]; exact Tx.lit l
  have C1 := Lib.hid (fun W (u : Up w W) lo v (N : Nt W lo 32 v a) => (F.text W (L.up u) x0 lo v a e (N.more (by decide)) (wf_small (by omega)) l 0 q1).mono fun _ _ h => h.lit)
  rw [hST] at C1
  have C2 := Lib.hid (fun W (u : Up w W) => F.parse W (L.up u) ST l e tS hl (wf_small (by omega)) _ _ _ r0)
  have C3 := Lib.hid (fun W (u : Up w W) => F.parse W (L.up u) ST l e1 tS hl (wf_small (by omega)) _ _ _ r1)
  have CS := Lib.hid (fun W (u : Up w W) lo v (N : Nt W lo 32 v a) => shl_any W lo 32 v a N.nw (by decide) (j : Int) j (by omega))
  rw [hP] at CS
  have CB := Lib.hid (fun W lo s v (N : Nt W lo s v P) => bits_at2 W lo s v P (B : Int) N.nw (Lib.hid (by rw [hB])))
  have CC := Lib.hid (fun W (_u : Up w W) lo lo' s s' v v' b (N : Nt W lo s v b) (N' : Nt W lo' s' v' b) => (cmp_same W lo lo' s s' v v' b b N.nw N'.nw rfl).mono (fun (e : Ending) (w' : World) ⟨h1, k, h2⟩ => show e = Ending.returned (.int .i64 0) ∧ Up W w' from ⟨h1, h2 ▸ (Up.refl W).drewN k⟩))
  have CN := Lib.hid (fun W lo lo' s s' v v' b b' (N : Nt W lo s v b) (N' : Nt W lo' s' v' b') => (cmp_any W lo lo' s s' v v' b b' N.nw N'.nw).mono (fun (e : Ending) (w' : World) ⟨h1, k, h2⟩ => show e = Ending.returned (.int .i64 (M.cmp b b')) ∧ Up W w' from ⟨h1, h2 ▸ (Up.refl W).drewN k⟩))
  have hlen : ∀ {V : World} {lo s : Nat} {A : Option Addr} {n c : Nat}, Nt V lo s (.slice A n c) a → ((0 : Int) < (n : Int) ↔ dz = true) := fun N => by
    rw [← hdz, decide_eq_true_iff]
    have := N.nil16
    omega
  clear h hz ha0 ha hdz
  rcases k1 with ⟨k0, rfl, rfl⟩ | ⟨k0, rfl⟩
  · rw [hBT] at k0
    by_cases hb : (1200 : Int) < e2
    · have d3 : ¬ (2048 : Int) < B := by omega
      have d4 : (1200 : Int) < e2 := by omega
      clear hBT F L hST tS hl q1 r0 r1 hP ht1 he1 he2 hT3
      cases x0
      all_goals
        cases dz
        · go_enter Tryz.func5, Tryz.ntmps5
          go_wp2_with fail
          refine (CH.out _ (by first | exact U | exact U.drew | exact U.drewN _)).mono ?_
          rintro _ w1 ⟨rfl, h1⟩
          replace U := Up.trans (by first | exact U | exact U.drew | exact U.drewN _) h1
          clear h1
          go_wp2_with fail
          refine (CF.out _ (by first | exact U | exact U.drew | exact U.drewN _)).mono ?_
          rintro _ w2 ⟨vN, rfl, N, h2⟩
          replace U := Up.trans (by first | exact U | exact U.drew | exact U.drewN _) h2
          clear h2
          obtain ⟨AN, nN, cN, rfl, N⟩ := N.slr
          have hn := hlen N
          clear hlen
          obtain rfl : nN = 0 := by (simp at hn; omega)
          go_wp2_with fail
          refine (C1.out _ (by first | exact U | exact U.drew | exact U.drewN _) _ _ (by first | exact N | exact N.up ((Up.refl _).drew) | exact N.up ((Up.refl _).drewN _))).mono ?_
          rintro _ w3 ⟨rfl, h3⟩
          replace U := Up.trans (by first | exact U | exact U.drew | exact U.drewN _) h3
          replace N := N.up (Up.trans (by first | exact Up.refl _ | exact (Up.refl _).drew | exact (Up.refl _).drewN _) h3)
          clear h3
          go_wp2_with fail
          refine (C2.out _ (by first | exact U | exact U.drew | exact U.drewN _)).mono ?_
          rintro _ w4 ⟨vQ, rfl, Q, h4⟩
          replace U := Up.trans (by first | exact U | exact U.drew | exact U.drewN _) h4
          replace N := N.up (Up.trans (by first | exact Up.refl _ | exact (Up.refl _).drew | exact (Up.refl _).drewN _) h4)
          clear h4
          obtain ⟨AQ, nQ, cQ, rfl, Q⟩ := Q.slr
          go_wp2_with fail
          refine (CC.out _ (by first | exact U | exact U.drew | exact U.drewN _) _ _ _ _ _ _ _ (by first | exact Q | exact Q.up ((Up.refl _).drew) | exact Q.up ((Up.refl _).drewN _)) (by first | exact N | exact N.up ((Up.refl _).drew) | exact N.up ((Up.refl _).drewN _))).mono ?_
          rintro _ w5 ⟨rfl, h5⟩
          replace U := Up.trans (by first | exact U | exact U.drew | exact U.drewN _) h5
          replace N := N.up (Up.trans (by first | exact Up.refl _ | exact (Up.refl _).drew | exact (Up.refl _).drewN _) h5)
          replace Q := Q.up (Up.trans (by first | exact Up.refl _ | exact (Up.refl _).drew | exact (Up.refl _).drewN _) h5)
          clear h5
          go_wp2_with fail
          refine (C3.out _ (by first | exact U | exact U.drew | exact U.drewN _)).mono ?_
          rintro _ w6 ⟨vX, rfl, X, h6⟩
          replace U := Up.trans (by first | exact U | exact U.drew | exact U.drewN _) h6
          replace N := N.up (Up.trans (by first | exact Up.refl _ | exact (Up.refl _).drew | exact (Up.refl _).drewN _) h6)
          replace Q := Q.up (Up.trans (by first | exact Up.refl _ | exact (Up.refl _).drew | exact (Up.refl _).drewN _) h6)
          clear h6
          obtain ⟨AX, nX, cX, rfl, X⟩ := X.slr
          go_wp2_with fail
          refine (CS.out _ (by first | exact U | exact U.drew | exact U.drewN _) _ _ (by first | exact N | exact N.up ((Up.refl _).drew) | exact N.up ((Up.refl _).drewN _))).mono ?_
          rintro _ w7 ⟨vY, rfl, Y, h7⟩
          replace U := Up.trans (by first | exact U | exact U.drew | exact U.drewN _) h7
          replace N := N.up (Up.trans (by first | exact Up.refl _ | exact (Up.refl _).drew | exact (Up.refl _).drewN _) h7)
          replace Q := Q.up (Up.trans (by first | exact Up.refl _ | exact (Up.refl _).drew | exact (Up.refl _).drewN _) h7)
          replace X := X.up (Up.trans (by first | exact Up.refl _ | exact (Up.refl _).drew | exact (Up.refl _).drewN _) h7)
          clear h7
          obtain ⟨AY, nY, cY, rfl, Y⟩ := Y.slr
          go_wp2_with fail
          refine (CB.out _ _ _ _ (by first | exact Y | exact Y.up ((Up.refl _).drew) | exact Y.up ((Up.refl _).drewN _))).mono ?_
          rintro _ _ ⟨rfl, rfl⟩
          go_wp2_with fail
          refine (CC.out _ (by first | exact U | exact U.drew | exact U.drewN _) _ _ _ _ _ _ _ (by first | exact X | exact X.up ((Up.refl _).drew) | exact X.up ((Up.refl _).drewN _)) (by first | exact Y | exact Y.up ((Up.refl _).drew) | exact Y.up ((Up.refl _).drewN _))).mono ?_
          rintro _ w8 ⟨rfl, h8⟩
          replace U := Up.trans (by first | exact U | exact U.drew | exact U.drewN _) h8
          replace N := N.up (Up.trans (by first | exact Up.refl _ | exact (Up.refl _).drew | exact (Up.refl _).drewN _) h8)
          replace Q := Q.up (Up.trans (by first | exact Up.refl _ | exact (Up.refl _).drew | exact (Up.refl _).drewN _) h8)
          replace X := X.up (Up.trans (by first | exact Up.refl _ | exact (Up.refl _).drew | exact (Up.refl _).drewN _) h8)
          replace Y := Y.up (Up.trans (by first | exact Up.refl _ | exact (Up.refl _).drew | exact (Up.refl _).drewN _) h8)
          clear h8
          go_wp2_with fail
          refine (CC.out _ (by first | exact U | exact U.drew | exact U.drewN _) _ _ _ _ _ _ _ (by first | exact X | exact X.up ((Up.refl _).drew) | exact X.up ((Up.refl _).drewN _)) (by first | exact Y | exact Y.up ((Up.refl _).drew) | exact Y.up ((Up.refl _).drewN _))).mono ?_
          rintro _ w9 ⟨rfl, h9⟩
          replace U := Up.trans (by first | exact U | exact U.drew | exact U.drewN _) h9
          replace N := N.up (Up.trans (by first | exact Up.refl _ | exact (Up.refl _).drew | exact (Up.refl _).drewN _) h9)
          replace Q := Q.up (Up.trans (by first | exact Up.refl _ | exact (Up.refl _).drew | exact (Up.refl _).drewN _) h9)
          replace X := X.up (Up.trans (by first | exact Up.refl _ | exact (Up.refl _).drew | exact (Up.refl _).drewN _) h9)
          replace Y := Y.up (Up.trans (by first | exact Up.refl _ | exact (Up.refl _).drew | exact (Up.refl _).drewN _) h9)
          clear h9
          go_wp2_with fail
          go_ret
          exact ⟨by first | rfl | (simp; done) | (simp; assumption) | (simp; omega), by first | exact U | exact U.drew | exact U.drewN _⟩
        · go_enter Tryz.func5, Tryz.ntmps5
          go_wp2_with fail
          refine (CH.out _ (by first | exact U | exact U.drew | exact U.drewN _)).mono ?_
          rintro _ w1 ⟨rfl, h1⟩
          replace U := Up.trans (by first | exact U | exact U.drew | exact U.drewN _) h1
          clear h1
          go_wp2_with fail
          refine (CF.out _ (by first | exact U | exact U.drew | exact U.drewN _)).mono ?_
          rintro _ w2 ⟨vN, rfl, N, h2⟩
          replace U := Up.trans (by first | exact U | exact U.drew | exact U.drewN _) h2
          clear h2
          obtain ⟨AN, nN, cN, rfl, N⟩ := N.slr
          have hn := hlen N
          clear hlen
          replace hn : (0 : Int) < (nN : Int) := hn.2 (by first | rfl | trivial)
          go_wp2_with fail
          refine (C1.out _ (by first | exact U | exact U.drew | exact U.drewN _) _ _ (by first | exact N | exact N.up ((Up.refl _).drew) | exact N.up ((Up.refl _).drewN _))).mono ?_
          rintro _ w3 ⟨rfl, h3⟩
          replace U := Up.trans (by first | exact U | exact U.drew | exact U.drewN _) h3
          replace N := N.up (Up.trans (by first | exact Up.refl _ | exact (Up.refl _).drew | exact (Up.refl _).drewN _) h3)
          clear h3
          go_wp2_with fail
          refine (C2.out _ (by first | exact U | exact U.drew | exact U.drewN _)).mono ?_
          rintro _ w4 ⟨vQ, rfl, Q, h4⟩
          replace U := Up.trans (by first | exact U | exact U.drew | exact U.drewN _) h4
          replace N := N.up (Up.trans (by first | exact Up.refl _ | exact (Up.refl _).drew | exact (Up.refl _).drewN _) h4)
          clear h4
          obtain ⟨AQ, nQ, cQ, rfl, Q⟩ := Q.slr
          go_wp2_with fail
          refine (CC.out _ (by first | exact U | exact U.drew | exact U.drewN _) _ _ _ _ _ _ _ (by first | exact Q | exact Q.up ((Up.refl _).drew) | exact Q.up ((Up.refl _).drewN _)) (by first | exact N | exact N.up ((Up.refl _).drew) | exact N.up ((Up.refl _).drewN _))).mono ?_
          rintro _ w5 ⟨rfl, h5⟩
          replace U := Up.trans (by first | exact U | exact U.drew | exact U.drewN _) h5
          replace N := N.up (Up.trans (by first | exact Up.refl _ | exact (Up.refl _).drew | exact (Up.refl _).drewN _) h5)
          replace Q := Q.up (Up.trans (by first | exact Up.refl _ | exact (Up.refl _).drew | exact (Up.refl _).drewN _) h5)
          clear h5
          go_wp2_with fail
          refine (C3.out _ (by first | exact U | exact U.drew | exact U.drewN _)).mono ?_
          rintro _ w6 ⟨vX, rfl, X, h6⟩
          replace U := Up.trans (by first | exact U | exact U.drew | exact U.drewN _) h6
          replace N := N.up (Up.trans (by first | exact Up.refl _ | exact (Up.refl _).drew | exact (Up.refl _).drewN _) h6)
          replace Q := Q.up (Up.trans (by first | exact Up.refl _ | exact (Up.refl _).drew | exact (Up.refl _).drewN _) h6)
          clear h6
          obtain ⟨AX, nX, cX, rfl, X⟩ := X.slr
          go_wp2_with fail
          refine (CS.out _ (by first | exact U | exact U.drew | exact U.drewN _) _ _ (by first | exact N | exact N.up ((Up.refl _).drew) | exact N.up ((Up.refl _).drewN _))).mono ?_
          rintro _ w7 ⟨vY, rfl, Y, h7⟩
          replace U := Up.trans (by first | exact U | exact U.drew | exact U.drewN _) h7
          replace N := N.up (Up.trans (by first | exact Up.refl _ | exact (Up.refl _).drew | exact (Up.refl _).drewN _) h7)
          replace Q := Q.up (Up.trans (by first | exact Up.refl _ | exact (Up.refl _).drew | exact (Up.refl _).drewN _) h7)
          replace X := X.up (Up.trans (by first | exact Up.refl _ | exact (Up.refl _).drew | exact (Up.refl _).drewN _) h7)
          clear h7
          obtain ⟨AY, nY, cY, rfl, Y⟩ := Y.slr
          go_wp2_with fail
          refine (CB.out _ _ _ _ (by first | exact Y | exact Y.up ((Up.refl _).drew) | exact Y.up ((Up.refl _).drewN _))).mono ?_
          rintro _ _ ⟨rfl, rfl⟩
          go_wp2_with fail
          refine (CC.out _ (by first | exact U | exact U.drew | exact U.drewN _) _ _ _ _ _ _ _ (by first | exact X | exact X.up ((Up.refl _).drew) | exact X.up ((Up.refl _).drewN _)) (by first | exact Y | exact Y.up ((Up.refl _).drew) | exact Y.up ((Up.refl _).drewN _))).mono ?_
          rintro _ w8 ⟨rfl, h8⟩
          replace U := Up.trans (by first | exact U | exact U.drew | exact U.drewN _) h8
          replace N := N.up (Up.trans (by first | exact Up.refl _ | exact (Up.refl _).drew | exact (Up.refl _).drewN _) h8)
          replace Q := Q.up (Up.trans (by first | exact Up.refl _ | exact (Up.refl _).drew | exact (Up.refl _).drewN _) h8)
          replace X := X.up (Up.trans (by first | exact Up.refl _ | exact (Up.refl _).drew | exact (Up.refl _).drewN _) h8)
          replace Y := Y.up (Up.trans (by first | exact Up.refl _ | exact (Up.refl _).drew | exact (Up.refl _).drewN _) h8)
          clear h8
          go_wp2_with fail
          refine (CC.out _ (by first | exact U | exact U.drew | exact U.drewN _) _ _ _ _ _ _ _ (by first | exact X | exact X.up ((Up.refl _).drew) | exact X.up ((Up.refl _).drewN _)) (by first | exact Y | exact Y.up ((Up.refl _).drew) | exact Y.up ((Up.refl _).drewN _))).mono ?_
          rintro _ w9 ⟨rfl, h9⟩
          replace U := Up.trans (by first | exact U | exact U.drew | exact U.drewN _) h9
          replace N := N.up (Up.trans (by first | exact Up.refl _ | exact (Up.refl _).drew | exact (Up.refl _).drewN _) h9)
          replace Q := Q.up (Up.trans (by first | exact Up.refl _ | exact (Up.refl _).drew | exact (Up.refl _).drewN _) h9)
          replace X := X.up (Up.trans (by first | exact Up.refl _ | exact (Up.refl _).drew | exact (Up.refl _).drewN _) h9)
          replace Y := Y.up (Up.trans (by first | exact Up.refl _ | exact (Up.refl _).drew | exact (Up.refl _).drewN _) h9)
          clear h9
          go_wp2_with fail
          go_ret
          exact ⟨by first | rfl | (simp; done) | (simp; assumption) | (simp; omega), by first | exact U | exact U.drew | exact U.drewN _⟩
    · have d3 : ¬ (2048 : Int) < B := by omega
      have d4 : ¬ (1200 : Int) < e2 := by omega
      obtain ⟨g2, m2, y2, r2⟩ := M.qr_ex l e2
      have k2 := M.qr_more q1 T (by omega) (by omega) r2
      have C4 := Lib.hid (fun W (u : Up w W) => F.parse W (L.up u) ST l e2 tS hl (wf_small (by omega)) _ _ _ r2)
      obtain ⟨R, hR⟩ : ∃ R, a / 2 ^ T = R := ⟨_, rfl⟩
      have CR := Lib.hid (fun W (u : Up w W) lo v (N : Nt W lo 32 v a) => shr_any W lo 32 v a N.nw (T : Int) T (by omega))
      rw [hR] at CR k2
      obtain ⟨G, hG⟩ : ∃ G, R * 2 ^ T = G := ⟨_, rfl⟩
      have CG := Lib.hid (fun W (u : Up w W) lo v (N : Nt W lo 32 v R) => shl_any W lo 32 v R N.nw (by decide) (T : Int) T (by omega))
      rw [hG] at CG k2
      clear hBT F L hST tS hl q1 r0 r1 hP ht1 he1 he2 hT3 r2 hR hG
      rcases k2 with ⟨rfl, rfl, rfl⟩ | ⟨k2, rfl⟩
      · cases x0
        all_goals
          cases dz
          · go_enter Tryz.func5, Tryz.ntmps5
            go_wp2_with fail
            refine (CH.out _ (by first | exact U | exact U.drew | exact U.drewN _)).mono ?_
            rintro _ w1 ⟨rfl, h1⟩
            replace U := Up.trans (by first | exact U | exact U.drew | exact U.drewN _) h1
            clear h1
            go_wp2_with fail
            refine (CF.out _ (by first | exact U | exact U.drew | exact U.drewN _)).mono ?_
            rintro _ w2 ⟨vN, rfl, N, h2⟩
            replace U := Up.trans (by first | exact U | exact U.drew | exact U.drewN _) h2
            clear h2
            obtain ⟨AN, nN, cN, rfl, N⟩ := N.slr
            have hn := hlen N
            clear hlen
            obtain rfl : nN = 0 := by (simp at hn; omega)
            go_wp2_with fail
            refine (C1.out _ (by first | exact U | exact U.drew | exact U.drewN _) _ _ (by first | exact N | exact N.up ((Up.refl _).drew) | exact N.up ((Up.refl _).drewN _))).mono ?_
            rintro _ w3 ⟨rfl, h3⟩
            replace U := Up.trans (by first | exact U | exact U.drew | exact U.drewN _) h3
            replace N := N.up (Up.trans (by first | exact Up.refl _ | exact (Up.refl _).drew | exact (Up.refl _).drewN _) h3)
            clear h3
            go_wp2_with fail
            refine (C2.out _ (by first | exact U | exact U.drew | exact U.drewN _)).mono ?_
            rintro _ w4 ⟨vQ, rfl, Q, h4⟩
            replace U := Up.trans (by first | exact U | exact U.drew | exact U.drewN _) h4
            replace N := N.up (Up.trans (by first | exact Up.refl _ | exact (Up.refl _).drew | exact (Up.refl _).drewN _) h4)
            clear h4
            obtain ⟨AQ, nQ, cQ, rfl, Q⟩ := Q.slr
            go_wp2_with fail
            refine (CC.out _ (by first | exact U | exact U.drew | exact U.drewN _) _ _ _ _ _ _ _ (by first | exact Q | exact Q.up ((Up.refl _).drew) | exact Q.up ((Up.refl _).drewN _)) (by first | exact N | exact N.up ((Up.refl _).drew) | exact N.up ((Up.refl _).drewN _))).mono ?_
            rintro _ w5 ⟨rfl, h5⟩
            replace U := Up.trans (by first | exact U | exact U.drew | exact U.drewN _) h5
            replace N := N.up (Up.trans (by first | exact Up.refl _ | exact (Up.refl _).drew | exact (Up.refl _).drewN _) h5)
            replace Q := Q.up (Up.trans (by first | exact Up.refl _ | exact (Up.refl _).drew | exact (Up.refl _).drewN _) h5)
            clear h5
            go_wp2_with fail
            refine (C3.out _ (by first | exact U | exact U.drew | exact U.drewN _)).mono ?_
            rintro _ w6 ⟨vX, rfl, X, h6⟩
            replace U := Up.trans (by first | exact U | exact U.drew | exact U.drewN _) h6
            replace N := N.up (Up.trans (by first | exact Up.refl _ | exact (Up.refl _).drew | exact (Up.refl _).drewN _) h6)
            replace Q := Q.up (Up.trans (by first | exact Up.refl _ | exact (Up.refl _).drew | exact (Up.refl _).drewN _) h6)
            clear h6
            obtain ⟨AX, nX, cX, rfl, X⟩ := X.slr
            go_wp2_with fail
            refine (CS.out _ (by first | exact U | exact U.drew | exact U.drewN _) _ _ (by first | exact N | exact N.up ((Up.refl _).drew) | exact N.up ((Up.refl _).drewN _))).mono ?_
            rintro _ w7 ⟨vY, rfl, Y, h7⟩
            replace U := Up.trans (by first | exact U | exact U.drew | exact U.drewN _) h7
            replace N := N.up (Up.trans (by first | exact Up.refl _ | exact (Up.refl _).drew | exact (Up.refl _).drewN _) h7)
            replace Q := Q.up (Up.trans (by first | exact Up.refl _ | exact (Up.refl _).drew | exact (Up.refl _).drewN _) h7)
            replace X := X.up (Up.trans (by first | exact Up.refl _ | exact (Up.refl _).drew | exact (Up.refl _).drewN _) h7)
            clear h7
            obtain ⟨AY, nY, cY, rfl, Y⟩ := Y.slr
            go_wp2_with fail
            refine (CB.out _ _ _ _ (by first | exact Y | exact Y.up ((Up.refl _).drew) | exact Y.up ((Up.refl _).drewN _))).mono ?_
            rintro _ _ ⟨rfl, rfl⟩
            go_wp2_with fail
            refine (CC.out _ (by first | exact U | exact U.drew | exact U.drewN _) _ _ _ _ _ _ _ (by first | exact X | exact X.up ((Up.refl _).drew) | exact X.up ((Up.refl _).drewN _)) (by first | exact Y | exact Y.up ((Up.refl _).drew) | exact Y.up ((Up.refl _).drewN _))).mono ?_
            rintro _ w8 ⟨rfl, h8⟩
            replace U := Up.trans (by first | exact U | exact U.drew | exact U.drewN _) h8
            replace N := N.up (Up.trans (by first | exact Up.refl _ | exact (Up.refl _).drew | exact (Up.refl _).drewN _) h8)
            replace Q := Q.up (Up.trans (by first | exact Up.refl _ | exact (Up.refl _).drew | exact (Up.refl _).drewN _) h8)
            replace X := X.up (Up.trans (by first | exact Up.refl _ | exact (Up.refl _).drew | exact (Up.refl _).drewN _) h8)
            replace Y := Y.up (Up.trans (by first | exact Up.refl _ | exact (Up.refl _).drew | exact (Up.refl _).drewN _) h8)
            clear h8
            go_wp2_with fail
            refine (C4.out _ (by first | exact U | exact U.drew | exact U.drewN _)).mono ?_
            rintro _ w9 ⟨vZ, rfl, Z, h9⟩
            replace U := Up.trans (by first | exact U | exact U.drew | exact U.drewN _) h9
            replace N := N.up (Up.trans (by first | exact Up.refl _ | exact (Up.refl _).drew | exact (Up.refl _).drewN _) h9)
            replace Q := Q.up (Up.trans (by first | exact Up.refl _ | exact (Up.refl _).drew | exact (Up.refl _).drewN _) h9)
            replace X := X.up (Up.trans (by first | exact Up.refl _ | exact (Up.refl _).drew | exact (Up.refl _).drewN _) h9)
            replace Y := Y.up (Up.trans (by first | exact Up.refl _ | exact (Up.refl _).drew | exact (Up.refl _).drewN _) h9)
            clear h9
            obtain ⟨AZ, nZ, cZ, rfl, Z⟩ := Z.slr
            go_wp2_with fail
            refine (CR.out _ (by first | exact U | exact U.drew | exact U.drewN _) _ _ (by first | exact N | exact N.up ((Up.refl _).drew) | exact N.up ((Up.refl _).drewN _))).mono ?_
            rintro _ w10 ⟨vV, rfl, V, h10⟩
            replace U := Up.trans (by first | exact U | exact U.drew | exact U.drewN _) h10
            replace N := N.up (Up.trans (by first | exact Up.refl _ | exact (Up.refl _).drew | exact (Up.refl _).drewN _) h10)
            replace Q := Q.up (Up.trans (by first | exact Up.refl _ | exact (Up.refl _).drew | exact (Up.refl _).drewN _) h10)
            replace X := X.up (Up.trans (by first | exact Up.refl _ | exact (Up.refl _).drew | exact (Up.refl _).drewN _) h10)
            replace Y := Y.up (Up.trans (by first | exact Up.refl _ | exact (Up.refl _).drew | exact (Up.refl _).drewN _) h10)
            replace Z := Z.up (Up.trans (by first | exact Up.refl _ | exact (Up.refl _).drew | exact (Up.refl _).drewN _) h10)
            clear h10
            obtain ⟨AV, nV, cV, rfl, V⟩ := V.slr
            go_wp2_with fail
            refine (CG.out _ (by first | exact U | exact U.drew | exact U.drewN _) _ _ (by first | exact V | exact V.up ((Up.refl _).drew) | exact V.up ((Up.refl _).drewN _))).mono ?_
            rintro _ w11 ⟨vG, rfl, G, h11⟩
            replace U := Up.trans (by first | exact U | exact U.drew | exact U.drewN _) h11
            replace N := N.up (Up.trans (by first | exact Up.refl _ | exact (Up.refl _).drew | exact (Up.refl _).drewN _) h11)
            replace Q := Q.up (Up.trans (by first | exact Up.refl _ | exact (Up.refl _).drew | exact (Up.refl _).drewN _) h11)
            replace X := X.up (Up.trans (by first | exact Up.refl _ | exact (Up.refl _).drew | exact (Up.refl _).drewN _) h11)
            replace Y := Y.up (Up.trans (by first | exact Up.refl _ | exact (Up.refl _).drew | exact (Up.refl _).drewN _) h11)
            replace Z := Z.up (Up.trans (by first | exact Up.refl _ | exact (Up.refl _).drew | exact (Up.refl _).drewN _) h11)
            replace V := V.up (Up.trans (by first | exact Up.refl _ | exact (Up.refl _).drew | exact (Up.refl _).drewN _) h11)
            clear h11
            obtain ⟨AG, nG, cG, rfl, G⟩ := G.slr
            go_wp2_with fail
            refine (CC.out _ (by first | exact U | exact U.drew | exact U.drewN _) _ _ _ _ _ _ _ (by first | exact G | exact G.up ((Up.refl _).drew) | exact G.up ((Up.refl _).drewN _)) (by first | exact N | exact N.up ((Up.refl _).drew) | exact N.up ((Up.refl _).drewN _))).mono ?_
            rintro _ w12 ⟨rfl, h12⟩
            replace U := Up.trans (by first | exact U | exact U.drew | exact U.drewN _) h12
            replace N := N.up (Up.trans (by first | exact Up.refl _ | exact (Up.refl _).drew | exact (Up.refl _).drewN _) h12)
            replace Q := Q.up (Up.trans (by first | exact Up.refl _ | exact (Up.refl _).drew | exact (Up.refl _).drewN _) h12)
            replace X := X.up (Up.trans (by first | exact Up.refl _ | exact (Up.refl _).drew | exact (Up.refl _).drewN _) h12)
            replace Y := Y.up (Up.trans (by first | exact Up.refl _ | exact (Up.refl _).drew | exact (Up.refl _).drewN _) h12)
            replace Z := Z.up (Up.trans (by first | exact Up.refl _ | exact (Up.refl _).drew | exact (Up.refl _).drewN _) h12)
            replace V := V.up (Up.trans (by first | exact Up.refl _ | exact (Up.refl _).drew | exact (Up.refl _).drewN _) h12)
            replace G := G.up (Up.trans (by first | exact Up.refl _ | exact (Up.refl _).drew | exact (Up.refl _).drewN _) h12)
            clear h12
            go_wp2_with fail
            refine (CC.out _ (by first | exact U | exact U.drew | exact U.drewN _) _ _ _ _ _ _ _ (by first | exact Z | exact Z.up ((Up.refl _).drew) | exact Z.up ((Up.refl _).drewN _)) (by first | exact V | exact V.up ((Up.refl _).drew) | exact V.up ((Up.refl _).drewN _))).mono ?_
            rintro _ w13 ⟨rfl, h13⟩
            replace U := Up.trans (by first | exact U | exact U.drew | exact U.drewN _) h13
            replace N := N.up (Up.trans (by first | exact Up.refl _ | exact (Up.refl _).drew | exact (Up.refl _).drewN _) h13)
            replace Q := Q.up (Up.trans (by first | exact Up.refl _ | exact (Up.refl _).drew | exact (Up.refl _).drewN _) h13)
            replace X := X.up (Up.trans (by first | exact Up.refl _ | exact (Up.refl _).drew | exact (Up.refl _).drewN _) h13)
            replace Y := Y.up (Up.trans (by first | exact Up.refl _ | exact (Up.refl _).drew | exact (Up.refl _).drewN _) h13)
            replace Z := Z.up (Up.trans (by first | exact Up.refl _ | exact (Up.refl _).drew | exact (Up.refl _).drewN _) h13)
            replace V := V.up (Up.trans (by first | exact Up.refl _ | exact (Up.refl _).drew | exact (Up.refl _).drewN _) h13)
            replace G := G.up (Up.trans (by first | exact Up.refl _ | exact (Up.refl _).drew | exact (Up.refl _).drewN _) h13)
            clear h13
            go_wp2_with fail
            go_ret
            exact ⟨by first | rfl | (simp; done) | (simp; assumption) | (simp; omega), by first | exact U | exact U.drew | exact U.drewN _⟩
          · go_enter Tryz.func5, Tryz.ntmps5
            go_wp2_with fail
            refine (CH.out _ (by first | exact U | exact U.drew | exact U.drewN _)).mono ?_
            rintro _ w1 ⟨rfl, h1⟩
            replace U := Up.trans (by first | exact U | exact U.drew | exact U.drewN _) h1
            clear h1
            go_wp2_with fail
            refine (CF.out _ (by first | exact U | exact U.drew | exact U.drewN _)).mono ?_
            rintro _ w2 ⟨vN, rfl, N, h2⟩
            replace U := Up.trans (by first | exact U | exact U.drew | exact U.drewN _) h2
            clear h2
            obtain ⟨AN, nN, cN, rfl, N⟩ := N.slr
            have hn := hlen N
            clear hlen
            replace hn : (0 : Int) < (nN : Int) := hn.2 (by first | rfl | trivial)
            go_wp2_with fail
            refine (C1.out _ (by first | exact U | exact U.drew | exact U.drewN _) _ _ (by first | exact N | exact N.up ((Up.refl _).drew) | exact N.up ((Up.refl _).drewN _))).mono ?_
            rintro _ w3 ⟨rfl, h3⟩
            replace U := Up.trans (by first | exact U | exact U.drew | exact U.drewN _) h3
            replace N := N.up (Up.trans (by first | exact Up.refl _ | exact (Up.refl _).drew | exact (Up.refl _).drewN _) h3)
            clear h3
            go_wp2_with fail
            refine (C2.out _ (by first | exact U | exact U.drew | exact U.drewN _)).mono ?_
            rintro _ w4 ⟨vQ, rfl, Q, h4⟩
            replace U := Up.trans (by first | exact U | exact U.drew | exact U.drewN _) h4
            replace N := N.up (Up.trans (by first | exact Up.refl _ | exact (Up.refl _).drew | exact (Up.refl _).drewN _) h4)
            clear h4
            obtain ⟨AQ, nQ, cQ, rfl, Q⟩ := Q.slr
            go_wp2_with fail
            refine (CC.out _ (by first | exact U | exact U.drew | exact U.drewN _) _ _ _ _ _ _ _ (by first | exact Q | exact Q.up ((Up.refl _).drew) | exact Q.up ((Up.refl _).drewN _)) (by first | exact N | exact N.up ((Up.refl _).drew) | exact N.up ((Up.refl _).drewN _))).mono ?_
            rintro _ w5 ⟨rfl, h5⟩
            replace U := Up.trans (by first | exact U | exact U.drew | exact U.drewN _) h5
            replace N := N.up (Up.trans (by first | exact Up.refl _ | exact (Up.refl _).drew | exact (Up.refl _).drewN _) h5)
            replace Q := Q.up (Up.trans (by first | exact Up.refl _ | exact (Up.refl _).drew | exact (Up.refl _).drewN _) h5)
            clear h5
            go_wp2_with fail
            refine (C3.out _ (by first | exact U | exact U.drew | exact U.drewN _)).mono ?_
            rintro _ w6 ⟨vX, rfl, X, h6⟩
            replace U := Up.trans (by first | exact U | exact U.drew | exact U.drewN _) h6
            replace N := N.up (Up.trans (by first | exact Up.refl _ | exact (Up.refl _).drew | exact (Up.refl _).drewN _) h6)
            replace Q := Q.up (Up.trans (by first | exact Up.refl _ | exact (Up.refl _).drew | exact (Up.refl _).drewN _) h6)
            clear h6
            obtain ⟨AX, nX, cX, rfl, X⟩ := X.slr
            go_wp2_with fail
            refine (CS.out _ (by first | exact U | exact U.drew | exact U.drewN _) _ _ (by first | exact N | exact N.up ((Up.refl _).drew) | exact N.up ((Up.refl _).drewN _))).mono ?_
            rintro _ w7 ⟨vY, rfl, Y, h7⟩
            replace U := Up.trans (by first | exact U | exact U.drew | exact U.drewN _) h7
            replace N := N.up (Up.trans (by first | exact Up.refl _ | exact (Up.refl _).drew | exact (Up.refl _).drewN _) h7)
            replace Q := Q.up (Up.trans (by first | exact Up.refl _ | exact (Up.refl _).drew | exact (Up.refl _).drewN _) h7)
            replace X := X.up (Up.trans (by first | exact Up.refl _ | exact (Up.refl _).drew | exact (Up.refl _).drewN _) h7)
            clear h7
            obtain ⟨AY, nY, cY, rfl, Y⟩ := Y.slr
            go_wp2_with fail
            refine (CB.out _ _ _ _ (by first | exact Y | exact Y.up ((Up.refl _).drew) | exact Y.up ((Up.refl _).drewN _))).mono ?_
            rintro _ _ ⟨rfl, rfl⟩
            go_wp2_with fail
            refine (CC.out _ (by first | exact U | exact U.drew | exact U.drewN _) _ _ _ _ _ _ _ (by first | exact X | exact X.up ((Up.refl _).drew) | exact X.up ((Up.refl _).drewN _)) (by first | exact Y | exact Y.up ((Up.refl _).drew) | exact Y.up ((Up.refl _).drewN _))).mono ?_
            rintro _ w8 ⟨rfl, h8⟩
            replace U := Up.trans (by first | exact U | exact U.drew | exact U.drewN _) h8
            replace N := N.up (Up.trans (by first | exact Up.refl _ | exact (Up.refl _).drew | exact (Up.refl _).drewN _) h8)
            replace Q := Q.up (Up.trans (by first | exact Up.refl _ | exact (Up.refl _).drew | exact (Up.refl _).drewN _) h8)
            replace X := X.up (Up.trans (by first | exact Up.refl _ | exact (Up.refl _).drew | exact (Up.refl _).drewN _) h8)
            replace Y := Y.up (Up.trans (by first | exact Up.refl _ | exact (Up.refl _).drew | exact (Up.refl _).drewN _) h8)
            clear h8
            go_wp2_with fail
            refine (C4.out _ (by first | exact U | exact U.drew | exact U.drewN _)).mono ?_
            rintro _ w9 ⟨vZ, rfl, Z, h9⟩
            replace U := Up.trans (by first | exact U | exact U.drew | exact U.drewN _) h9
            replace N := N.up (Up.trans (by first | exact Up.refl _ | exact (Up.refl _).drew | exact (Up.refl _).drewN _) h9)
            replace Q := Q.up (Up.trans (by first | exact Up.refl _ | exact (Up.refl _).drew | exact (Up.refl _).drewN _) h9)
            replace X := X.up (Up.trans (by first | exact Up.refl _ | exact (Up.refl _).drew | exact (Up.refl _).drewN _) h9)
            replace Y := Y.up (Up.trans (by first | exact Up.refl _ | exact (Up.refl _).drew | exact (Up.refl _).drewN _) h9)
            clear h9
            obtain ⟨AZ, nZ, cZ, rfl, Z⟩ := Z.slr
            go_wp2_with fail
            refine (CR.out _ (by first | exact U | exact U.drew | exact U.drewN _) _ _ (by first | exact N | exact N.up ((Up.refl _).drew) | exact N.up ((Up.refl _).drewN _))).mono ?_
            rintro _ w10 ⟨vV, rfl, V, h10⟩
            replace U := Up.trans (by first | exact U | exact U.drew | exact U.drewN _) h10
            replace N := N.up (Up.trans (by first | exact Up.refl _ | exact (Up.refl _).drew | exact (Up.refl _).drewN _) h10)
            replace Q := Q.up (Up.trans (by first | exact Up.refl _ | exact (Up.refl _).drew | exact (Up.refl _).drewN _) h10)
            replace X := X.up (Up.trans (by first | exact Up.refl _ | exact (Up.refl _).drew | exact (Up.refl _).drewN _) h10)
            replace Y := Y.up (Up.trans (by first | exact Up.refl _ | exact (Up.refl _).drew | exact (Up.refl _).drewN _) h10)
            replace Z := Z.up (Up.trans (by first | exact Up.refl _ | exact (Up.refl _).drew | exact (Up.refl _).drewN _) h10)
            clear h10
            obtain ⟨AV, nV, cV, rfl, V⟩ := V.slr
            go_wp2_with fail
            refine (CG.out _ (by first | exact U | exact U.drew | exact U.drewN _) _ _ (by first | exact V | exact V.up ((Up.refl _).drew) | exact V.up ((Up.refl _).drewN _))).mono ?_
            rintro _ w11 ⟨vG, rfl, G, h11⟩
            replace U := Up.trans (by first | exact U | exact U.drew | exact U.drewN _) h11
            replace N := N.up (Up.trans (by first | exact Up.refl _ | exact (Up.refl _).drew | exact (Up.refl _).drewN _) h11)
            replace Q := Q.up (Up.trans (by first | exact Up.refl _ | exact (Up.refl _).drew | exact (Up.refl _).drewN _) h11)
            replace X := X.up (Up.trans (by first | exact Up.refl _ | exact (Up.refl _).drew | exact (Up.refl _).drewN _) h11)
            replace Y := Y.up (Up.trans (by first | exact Up.refl _ | exact (Up.refl _).drew | exact (Up.refl _).drewN _) h11)
            replace Z := Z.up (Up.trans (by first | exact Up.refl _ | exact (Up.refl _).drew | exact (Up.refl _).drewN _) h11)
            replace V := V.up (Up.trans (by first | exact Up.refl _ | exact (Up.refl _).drew | exact (Up.refl _).drewN _) h11)
            clear h11
            obtain ⟨AG, nG, cG, rfl, G⟩ := G.slr
            go_wp2_with fail
            refine (CC.out _ (by first | exact U | exact U.drew | exact U.drewN _) _ _ _ _ _ _ _ (by first | exact G | exact G.up ((Up.refl _).drew) | exact G.up ((Up.refl _).drewN _)) (by first | exact N | exact N.up ((Up.refl _).drew) | exact N.up ((Up.refl _).drewN _))).mono ?_
            rintro _ w12 ⟨rfl, h12⟩
            replace U := Up.trans (by first | exact U | exact U.drew | exact U.drewN _) h12
            replace N := N.up (Up.trans (by first | exact Up.refl _ | exact (Up.refl _).drew | exact (Up.refl _).drewN _) h12)
            replace Q := Q.up (Up.trans (by first | exact Up.refl _ | exact (Up.refl _).drew | exact (Up.refl _).drewN _) h12)
            replace X := X.up (Up.trans (by first | exact Up.refl _ | exact (Up.refl _).drew | exact (Up.refl _).drewN _) h12)
            replace Y := Y.up (Up.trans (by first | exact Up.refl _ | exact (Up.refl _).drew | exact (Up.refl _).drewN _) h12)
            replace Z := Z.up (Up.trans (by first | exact Up.refl _ | exact (Up.refl _).drew | exact (Up.refl _).drewN _) h12)
            replace V := V.up (Up.trans (by first | exact Up.refl _ | exact (Up.refl _).drew | exact (Up.refl _).drewN _) h12)
            replace G := G.up (Up.trans (by first | exact Up.refl _ | exact (Up.refl _).drew | exact (Up.refl _).drewN _) h12)
            clear h12
            go_wp2_with fail
            refine (CC.out _ (by first | exact U | exact U.drew | exact U.drewN _) _ _ _ _ _ _ _ (by first | exact Z | exact Z.up ((Up.refl _).drew) | exact Z.up ((Up.refl _).drewN _)) (by first | exact V | exact V.up ((Up.refl _).drew) | exact V.up ((Up.refl _).drewN _))).mono ?_
            rintro _ w13 ⟨rfl, h13⟩
            replace U := Up.trans (by first | exact U | exact U.drew | exact U.drewN _) h13
            replace N := N.up (Up.trans (by first | exact Up.refl _ | exact (Up.refl _).drew | exact (Up.refl _).drewN _) h13)
            replace Q := Q.up (Up.trans (by first | exact Up.refl _ | exact (Up.refl _).drew | exact (Up.refl _).drewN _) h13)
            replace X := X.up (Up.trans (by first | exact Up.refl _ | exact (Up.refl _).drew | exact (Up.refl _).drewN _) h13)
            replace Y := Y.up (Up.trans (by first | exact Up.refl _ | exact (Up.refl _).drew | exact (Up.refl _).drewN _) h13)
            replace Z := Z.up (Up.trans (by first | exact Up.refl _ | exact (Up.refl _).drew | exact (Up.refl _).drewN _) h13)
            replace V := V.up (Up.trans (by first | exact Up.refl _ | exact (Up.refl _).drew | exact (Up.refl _).drewN _) h13)
            replace G := G.up (Up.trans (by first | exact Up.refl _ | exact (Up.refl _).drew | exact (Up.refl _).drewN _) h13)
            clear h13
            go_wp2_with fail
            go_ret
            exact ⟨by first | rfl | (simp; done) | (simp; assumption) | (simp; omega), by first | exact U | exact U.drew | exact U.drewN _⟩
      · obtain ⟨z, hz⟩ : ∃ z, M.cmp G a = z := ⟨_, rfl⟩
        have hz0 : z ≠ 0 := fun e => k2 (M.cmp_zero (hz.trans e))
        have CM := Lib.hid (fun W (_u : Up w W) lo lo' s s' v v' (N : Nt W lo s v G) (N' : Nt W lo' s' v' a) => by have := CN.out W lo lo' s s' v v' G a N N'; rw [hz] at this; exact this)
        clear hz k2
        cases x0
        all_goals
          cases dz
          · go_enter Tryz.func5, Tryz.ntmps5
            go_wp2_with fail
            refine (CH.out _ (by first | exact U | exact U.drew | exact U.drewN _)).mono ?_
            rintro _ w1 ⟨rfl, h1⟩
            replace U := Up.trans (by first | exact U | exact U.drew | exact U.drewN _) h1
            clear h1
            go_wp2_with fail
            refine (CF.out _ (by first | exact U | exact U.drew | exact U.drewN _)).mono ?_
            rintro _ w2 ⟨vN, rfl, N, h2⟩
            replace U := Up.trans (by first | exact U | exact U.drew | exact U.drewN _) h2
            clear h2
            obtain ⟨AN, nN, cN, rfl, N⟩ := N.slr
            have hn := hlen N
            clear hlen
            obtain rfl : nN = 0 := by (simp at hn; omega)
            go_wp2_with fail
            refine (C1.out _ (by first | exact U | exact U.drew | exact U.drewN _) _ _ (by first | exact N | exact N.up ((Up.refl _).drew) | exact N.up ((Up.refl _).drewN _))).mono ?_
            rintro _ w3 ⟨rfl, h3⟩
            replace U := Up.trans (by first | exact U | exact U.drew | exact U.drewN _) h3
            replace N := N.up (Up.trans (by first | exact Up.refl _ | exact (Up.refl _).drew | exact (Up.refl _).drewN _) h3)
            clear h3
            go_wp2_with fail
            refine (C2.out _ (by first | exact U | exact U.drew | exact U.drewN _)).mono ?_
            rintro _ w4 ⟨vQ, rfl, Q, h4⟩
            replace U := Up.trans (by first | exact U | exact U.drew | exact U.drewN _) h4
            replace N := N.up (Up.trans (by first | exact Up.refl _ | exact (Up.refl _).drew | exact (Up.refl _).drewN _) h4)
            clear h4
            obtain ⟨AQ, nQ, cQ, rfl, Q⟩ := Q.slr
            go_wp2_with fail
            refine (CC.out _ (by first | exact U | exact U.drew | exact U.drewN _) _ _ _ _ _ _ _ (by first | exact Q | exact Q.up ((Up.refl _).drew) | exact Q.up ((Up.refl _).drewN _)) (by first | exact N | exact N.up ((Up.refl _).drew) | exact N.up ((Up.refl _).drewN _))).mono ?_
            rintro _ w5 ⟨rfl, h5⟩
            replace U := Up.trans (by first | exact U | exact U.drew | exact U.drewN _) h5
            replace N := N.up (Up.trans (by first | exact Up.refl _ | exact (Up.refl _).drew | exact (Up.refl _).drewN _) h5)
            replace Q := Q.up (Up.trans (by first | exact Up.refl _ | exact (Up.refl _).drew | exact (Up.refl _).drewN _) h5)
            clear h5
            go_wp2_with fail
            refine (C3.out _ (by first | exact U | exact U.drew | exact U.drewN _)).mono ?_
            rintro _ w6 ⟨vX, rfl, X, h6⟩
            replace U := Up.trans (by first | exact U | exact U.drew | exact U.drewN _) h6
            replace N := N.up (Up.trans (by first | exact Up.refl _ | exact (Up.refl _).drew | exact (Up.refl _).drewN _) h6)
            replace Q := Q.up (Up.trans (by first | exact Up.refl _ | exact (Up.refl _).drew | exact (Up.refl _).drewN _) h6)
            clear h6
            obtain ⟨AX, nX, cX, rfl, X⟩ := X.slr
            go_wp2_with fail
            refine (CS.out _ (by first | exact U | exact U.drew | exact U.drewN _) _ _ (by first | exact N | exact N.up ((Up.refl _).drew) | exact N.up ((Up.refl _).drewN _))).mono ?_
            rintro _ w7 ⟨vY, rfl, Y, h7⟩
            replace U := Up.trans (by first | exact U | exact U.drew | exact U.drewN _) h7
            replace N := N.up (Up.trans (by first | exact Up.refl _ | exact (Up.refl _).drew | exact (Up.refl _).drewN _) h7)
            replace Q := Q.up (Up.trans (by first | exact Up.refl _ | exact (Up.refl _).drew | exact (Up.refl _).drewN _) h7)
            replace X := X.up (Up.trans (by first | exact Up.refl _ | exact (Up.refl _).drew | exact (Up.refl _).drewN _) h7)
            clear h7
            obtain ⟨AY, nY, cY, rfl, Y⟩ := Y.slr
            go_wp2_with fail
            refine (CB.out _ _ _ _ (by first | exact Y | exact Y.up ((Up.refl _).drew) | exact Y.up ((Up.refl _).drewN _))).mono ?_
            rintro _ _ ⟨rfl, rfl⟩
            go_wp2_with fail
            refine (CC.out _ (by first | exact U | exact U.drew | exact U.drewN _) _ _ _ _ _ _ _ (by first | exact X | exact X.up ((Up.refl _).drew) | exact X.up ((Up.refl _).drewN _)) (by first | exact Y | exact Y.up ((Up.refl _).drew) | exact Y.up ((Up.refl _).drewN _))).mono ?_
            rintro _ w8 ⟨rfl, h8⟩
            replace U := Up.trans (by first | exact U | exact U.drew | exact U.drewN _) h8
            replace N := N.up (Up.trans (by first | exact Up.refl _ | exact (Up.refl _).drew | exact (Up.refl _).drewN _) h8)
            replace Q := Q.up (Up.trans (by first | exact Up.refl _ | exact (Up.refl _).drew | exact (Up.refl _).drewN _) h8)
            replace X := X.up (Up.trans (by first | exact Up.refl _ | exact (Up.refl _).drew | exact (Up.refl _).drewN _) h8)
            replace Y := Y.up (Up.trans (by first | exact Up.refl _ | exact (Up.refl _).drew | exact (Up.refl _).drewN _) h8)
            clear h8
            go_wp2_with fail
            refine (C4.out _ (by first | exact U | exact U.drew | exact U.drewN _)).mono ?_
            rintro _ w9 ⟨vZ, rfl, Z, h9⟩
            replace U := Up.trans (by first | exact U | exact U.drew | exact U.drewN _) h9
            replace N := N.up (Up.trans (by first | exact Up.refl _ | exact (Up.refl _).drew | exact (Up.refl _).drewN _) h9)
            replace Q := Q.up (Up.trans (by first | exact Up.refl _ | exact (Up.refl _).drew | exact (Up.refl _).drewN _) h9)
            replace X := X.up (Up.trans (by first | exact Up.refl _ | exact (Up.refl _).drew | exact (Up.refl _).drewN _) h9)
            replace Y := Y.up (Up.trans (by first | exact Up.refl _ | exact (Up.refl _).drew | exact (Up.refl _).drewN _) h9)
            clear h9
            obtain ⟨AZ, nZ, cZ, rfl, Z⟩ := Z.slr
            go_wp2_with fail
            refine (CR.out _ (by first | exact U | exact U.drew | exact U.drewN _) _ _ (by first | exact N | exact N.up ((Up.refl _).drew) | exact N.up ((Up.refl _).drewN _))).mono ?_
            rintro _ w10 ⟨vV, rfl, V, h10⟩
            replace U := Up.trans (by first | exact U | exact U.drew | exact U.drewN _) h10
            replace N := N.up (Up.trans (by first | exact Up.refl _ | exact (Up.refl _).drew | exact (Up.refl _).drewN _) h10)
            replace Q := Q.up (Up.trans (by first | exact Up.refl _ | exact (Up.refl _).drew | exact (Up.refl _).drewN _) h10)
            replace X := X.up (Up.trans (by first | exact Up.refl _ | exact (Up.refl _).drew | exact (Up.refl _).drewN _) h10)
            replace Y := Y.up (Up.trans (by first | exact Up.refl _ | exact (Up.refl _).drew | exact (Up.refl _).drewN _) h10)
            replace Z := Z.up (Up.trans (by first | exact Up.refl _ | exact (Up.refl _).drew | exact (Up.refl _).drewN _) h10)
            clear h10
            obtain ⟨AV, nV, cV, rfl, V⟩ := V.slr
            go_wp2_with fail
            refine (CG.out _ (by first | exact U | exact U.drew | exact U.drewN _) _ _ (by first | exact V | exact V.up ((Up.refl _).drew) | exact V.up ((Up.refl _).drewN _))).mono ?_
            rintro _ w11 ⟨vG, rfl, G, h11⟩
            replace U := Up.trans (by first | exact U | exact U.drew | exact U.drewN _) h11
            replace N := N.up (Up.trans (by first | exact Up.refl _ | exact (Up.refl _).drew | exact (Up.refl _).drewN _) h11)
            replace Q := Q.up (Up.trans (by first | exact Up.refl _ | exact (Up.refl _).drew | exact (Up.refl _).drewN _) h11)
            replace X := X.up (Up.trans (by first | exact Up.refl _ | exact (Up.refl _).drew | exact (Up.refl _).drewN _) h11)
            replace Y := Y.up (Up.trans (by first | exact Up.refl _ | exact (Up.refl _).drew | exact (Up.refl _).drewN _) h11)
            replace Z := Z.up (Up.trans (by first | exact Up.refl _ | exact (Up.refl _).drew | exact (Up.refl _).drewN _) h11)
            replace V := V.up (Up.trans (by first | exact Up.refl _ | exact (Up.refl _).drew | exact (Up.refl _).drewN _) h11)
            clear h11
            obtain ⟨AG, nG, cG, rfl, G⟩ := G.slr
            go_wp2_with fail
            refine (CM.out _ (by first | exact U | exact U.drew | exact U.drewN _) _ _ _ _ _ _ (by first | exact G | exact G.up ((Up.refl _).drew) | exact G.up ((Up.refl _).drewN _)) (by first | exact N | exact N.up ((Up.refl _).drew) | exact N.up ((Up.refl _).drewN _))).mono ?_
            rintro _ w12 ⟨rfl, h12⟩
            replace U := Up.trans (by first | exact U | exact U.drew | exact U.drewN _) h12
            replace N := N.up (Up.trans (by first | exact Up.refl _ | exact (Up.refl _).drew | exact (Up.refl _).drewN _) h12)
            replace Q := Q.up (Up.trans (by first | exact Up.refl _ | exact (Up.refl _).drew | exact (Up.refl _).drewN _) h12)
            replace X := X.up (Up.trans (by first | exact Up.refl _ | exact (Up.refl _).drew | exact (Up.refl _).drewN _) h12)
            replace Y := Y.up (Up.trans (by first | exact Up.refl _ | exact (Up.refl _).drew | exact (Up.refl _).drewN _) h12)
            replace Z := Z.up (Up.trans (by first | exact Up.refl _ | exact (Up.refl _).drew | exact (Up.refl _).drewN _) h12)
            replace V := V.up (Up.trans (by first | exact Up.refl _ | exact (Up.refl _).drew | exact (Up.refl _).drewN _) h12)
            replace G := G.up (Up.trans (by first | exact Up.refl _ | exact (Up.refl _).drew | exact (Up.refl _).drewN _) h12)
            clear h12
            go_wp2_with fail
            go_ret
            exact ⟨by first | rfl | (simp; done) | (simp; assumption) | (simp; omega), by first | exact U | exact U.drew | exact U.drewN _⟩
          · go_enter Tryz.func5, Tryz.ntmps5
            go_wp2_with fail
            refine (CH.out _ (by first | exact U | exact U.drew | exact U.drewN _)).mono ?_
            rintro _ w1 ⟨rfl, h1⟩
            replace U := Up.trans (by first | exact U | exact U.drew | exact U.drewN _) h1
            clear h1
            go_wp2_with fail
            refine (CF.out _ (by first | exact U | exact U.drew | exact U.drewN _)).mono ?_
            rintro _ w2 ⟨vN, rfl, N, h2⟩
            replace U := Up.trans (by first | exact U | exact U.drew | exact U.drewN _) h2
            clear h2
            obtain ⟨AN, nN, cN, rfl, N⟩ := N.slr
            have hn := hlen N
            clear hlen
            replace hn : (0 : Int) < (nN : Int) := hn.2 (by first | rfl | trivial)
            go_wp2_with fail
            refine (C1.out _ (by first | exact U | exact U.drew | exact U.drewN _) _ _ (by first | exact N | exact N.up ((Up.refl _).drew) | exact N.up ((Up.refl _).drewN _))).mono ?_
            rintro _ w3 ⟨rfl, h3⟩
            replace U := Up.trans (by first | exact U | exact U.drew | exact U.drewN _) h3
            replace N := N.up (Up.trans (by first | exact Up.refl _ | exact (Up.refl _).drew | exact (Up.refl _).drewN _) h3)
            clear h3
            go_wp2_with fail
            refine (C2.out _ (by first | exact U | exact U.drew | exact U.drewN _)).mono ?_
            rintro _ w4 ⟨vQ, rfl, Q, h4⟩
            replace U := Up.trans (by first | exact U | exact U.drew | exact U.drewN _) h4
            replace N := N.up (Up.trans (by first | exact Up.refl _ | exact (Up.refl _).drew | exact (Up.refl _).drewN _) h4)
            clear h4
            obtain ⟨AQ, nQ, cQ, rfl, Q⟩ := Q.slr
            go_wp2_with fail
            refine (CC.out _ (by first | exact U | exact U.drew | exact U.drewN _) _ _ _ _ _ _ _ (by first | exact Q | exact Q.up ((Up.refl _).drew) | exact Q.up ((Up.refl _).drewN _)) (by first | exact N | exact N.up ((Up.refl _).drew) | exact N.up ((Up.refl _).drewN _))).mono ?_
            rintro _ w5 ⟨rfl, h5⟩
            replace U := Up.trans (by first | exact U | exact U.drew | exact U.drewN _) h5
            replace N := N.up (Up.trans (by first | exact Up.refl _ | exact (Up.refl _).drew | exact (Up.refl _).drewN _) h5)
            replace Q := Q.up (Up.trans (by first | exact Up.refl _ | exact (Up.refl _).drew | exact (Up.refl _).drewN _) h5)
            clear h5
            go_wp2_with fail
            refine (C3.out _ (by first | exact U | exact U.drew | exact U.drewN _)).mono ?_
            rintro _ w6 ⟨vX, rfl, X, h6⟩
            replace U := Up.trans (by first | exact U | exact U.drew | exact U.drewN _) h6
            replace N := N.up (Up.trans (by first | exact Up.refl _ | exact (Up.refl _).drew | exact (Up.refl _).drewN _) h6)
            replace Q := Q.up (Up.trans (by first | exact Up.refl _ | exact (Up.refl _).drew | exact (Up.refl _).drewN _) h6)
            clear h6
            obtain ⟨AX, nX, cX, rfl, X⟩ := X.slr
            go_wp2_with fail
            refine (CS.out _ (by first | exact U | exact U.drew | exact U.drewN _) _ _ (by first | exact N | exact N.up ((Up.refl _).drew) | exact N.up ((Up.refl _).drewN _))).mono ?_
            rintro _ w7 ⟨vY, rfl, Y, h7⟩
            replace U := Up.trans (by first | exact U | exact U.drew | exact U.drewN _) h7
            replace N := N.up (Up.trans (by first | exact Up.refl _ | exact (Up.refl _).drew | exact (Up.refl _).drewN _) h7)
            replace Q := Q.up (Up.trans (by first | exact Up.refl _ | exact (Up.refl _).drew | exact (Up.refl _).drewN _) h7)
            replace X := X.up (Up.trans (by first | exact Up.refl _ | exact (Up.refl _).drew | exact (Up.refl _).drewN _) h7)
            clear h7
            obtain ⟨AY, nY, cY, rfl, Y⟩ := Y.slr
            go_wp2_with fail
            refine (CB.out _ _ _ _ (by first | exact Y | exact Y.up ((Up.refl _).drew) | exact Y.up ((Up.refl _).drewN _))).mono ?_
            rintro _ _ ⟨rfl, rfl⟩
            go_wp2_with fail
            refine (CC.out _ (by first | exact U | exact U.drew | exact U.drewN _) _ _ _ _ _ _ _ (by first | exact X | exact X.up ((Up.refl _).drew) | exact X.up ((Up.refl _).drewN _)) (by first | exact Y | exact Y.up ((Up.refl _).drew) | exact Y.up ((Up.refl _).drewN _))).mono ?_
            rintro _ w8 ⟨rfl, h8⟩
            replace U := Up.trans (by first | exact U | exact U.drew | exact U.drewN _) h8
            replace N := N.up (Up.trans (by first | exact Up.refl _ | exact (Up.refl _).drew | exact (Up.refl _).drewN _) h8)
            replace Q := Q.up (Up.trans (by first | exact Up.refl _ | exact (Up.refl _).drew | exact (Up.refl _).drewN _) h8)
            replace X := X.up (Up.trans (by first | exact Up.refl _ | exact (Up.refl _).drew | exact (Up.refl _).drewN _) h8)
            replace Y := Y.up (Up.trans (by first | exact Up.refl _ | exact (Up.refl _).drew | exact (Up.refl _).drewN _) h8)
            clear h8
            go_wp2_with fail
            refine (C4.out _ (by first | exact U | exact U.drew | exact U.drewN _)).mono ?_
            rintro _ w9 ⟨vZ, rfl, Z, h9⟩
            replace U := Up.trans (by first | exact U | exact U.drew | exact U.drewN _) h9
            replace N := N.up (Up.trans (by first | exact Up.refl _ | exact (Up.refl _).drew | exact (Up.refl _).drewN _) h9)
            replace Q := Q.up (Up.trans (by first | exact Up.refl _ | exact (Up.refl _).drew | exact (Up.refl _).drewN _) h9)
            replace X := X.up (Up.trans (by first | exact Up.refl _ | exact (Up.refl _).drew | exact (Up.refl _).drewN _) h9)
            replace Y := Y.up (Up.trans (by first | exact Up.refl _ | exact (Up.refl _).drew | exact (Up.refl _).drewN _) h9)
            clear h9
            obtain ⟨AZ, nZ, cZ, rfl, Z⟩ := Z.slr
            go_wp2_with fail
            refine (CR.out _ (by first | exact U | exact U.drew | exact U.drewN _) _ _ (by first | exact N | exact N.up ((Up.refl _).drew) | exact N.up ((Up.refl _).drewN _))).mono ?_
            rintro _ w10 ⟨vV, rfl, V, h10⟩
            replace U := Up.trans (by first | exact U | exact U.drew | exact U.drewN _) h10
            replace N := N.up (Up.trans (by first | exact Up.refl _ | exact (Up.refl _).drew | exact (Up.refl _).drewN _) h10)
            replace Q := Q.up (Up.trans (by first | exact Up.refl _ | exact (Up.refl _).drew | exact (Up.refl _).drewN _) h10)
            replace X := X.up (Up.trans (by first | exact Up.refl _ | exact (Up.refl _).drew | exact (Up.refl _).drewN _) h10)
            replace Y := Y.up (Up.trans (by first | exact Up.refl _ | exact (Up.refl _).drew | exact (Up.refl _).drewN _) h10)
            replace Z := Z.up (Up.trans (by first | exact Up.refl _ | exact (Up.refl _).drew | exact (Up.refl _).drewN _) h10)
            clear h10
            obtain ⟨AV, nV, cV, rfl, V⟩ := V.slr
            go_wp2_with fail
            refine (CG.out _ (by first | exact U | exact U.drew | exact U.drewN _) _ _ (by first | exact V | exact V.up ((Up.refl _).drew) | exact V.up ((Up.refl _).drewN _))).mono ?_
            rintro _ w11 ⟨vG, rfl, G, h11⟩
            replace U := Up.trans (by first | exact U | exact U.drew | exact U.drewN _) h11
            replace N := N.up (Up.trans (by first | exact Up.refl _ | exact (Up.refl _).drew | exact (Up.refl _).drewN _) h11)
            replace Q := Q.up (Up.trans (by first | exact Up.refl _ | exact (Up.refl _).drew | exact (Up.refl _).drewN _) h11)
            replace X := X.up (Up.trans (by first | exact Up.refl _ | exact (Up.refl _).drew | exact (Up.refl _).drewN _) h11)
            replace Y := Y.up (Up.trans (by first | exact Up.refl _ | exact (Up.refl _).drew | exact (Up.refl _).drewN _) h11)
            replace Z := Z.up (Up.trans (by first | exact Up.refl _ | exact (Up.refl _).drew | exact (Up.refl _).drewN _) h11)
            replace V := V.up (Up.trans (by first | exact Up.refl _ | exact (Up.refl _).drew | exact (Up.refl _).drewN _) h11)
            clear h11
            obtain ⟨AG, nG, cG, rfl, G⟩ := G.slr
            go_wp2_with fail
            refine (CM.out _ (by first | exact U | exact U.drew | exact U.drewN _) _ _ _ _ _ _ (by first | exact G | exact G.up ((Up.refl _).drew) | exact G.up ((Up.refl _).drewN _)) (by first | exact N | exact N.up ((Up.refl _).drew) | exact N.up ((Up.refl _).drewN _))).mono ?_
            rintro _ w12 ⟨rfl, h12⟩
            replace U := Up.trans (by first | exact U | exact U.drew | exact U.drewN _) h12
            replace N := N.up (Up.trans (by first | exact Up.refl _ | exact (Up.refl _).drew | exact (Up.refl _).drewN _) h12)
            replace Q := Q.up (Up.trans (by first | exact Up.refl _ | exact (Up.refl _).drew | exact (Up.refl _).drewN _) h12)
            replace X := X.up (Up.trans (by first | exact Up.refl _ | exact (Up.refl _).drew | exact (Up.refl _).drewN _) h12)
            replace Y := Y.up (Up.trans (by first | exact Up.refl _ | exact (Up.refl _).drew | exact (Up.refl _).drewN _) h12)
            replace Z := Z.up (Up.trans (by first | exact Up.refl _ | exact (Up.refl _).drew | exact (Up.refl _).drewN _) h12)
            replace V := V.up (Up.trans (by first | exact Up.refl _ | exact (Up.refl _).drew | exact (Up.refl _).drewN _) h12)
            replace G := G.up (Up.trans (by first | exact Up.refl _ | exact (Up.refl _).drew | exact (Up.refl _).drewN _) h12)
            clear h12
            go_wp2_with fail
            go_ret
            exact ⟨by first | rfl | (simp; done) | (simp; assumption) | (simp; omega), by first | exact U | exact U.drew | exact U.drewN _⟩

  · rw [hBT] at k0
    have d3 : (2048 : Int) < B := by omega
    clear hBT F L hST tS hl q1 r0 r1 hP ht1 he1 he2 hT3
    cases x0
    all_goals
      cases dz
      · go_enter Tryz.func5, Tryz.ntmps5
        go_wp2_with fail
        refine (CH.out _ (by first | exact U | exact U.drew | exact U.drewN _)).mono ?_
        rintro _ w1 ⟨rfl, h1⟩
        replace U := Up.trans (by first | exact U | exact U.drew | exact U.drewN _) h1
        clear h1
        go_wp2_with fail
        refine (CF.out _ (by first | exact U | exact U.drew | exact U.drewN _)).mono ?_
        rintro _ w2 ⟨vN, rfl, N, h2⟩
        replace U := Up.trans (by first | exact U | exact U.drew | exact U.drewN _) h2
        clear h2
        obtain ⟨AN, nN, cN, rfl, N⟩ := N.slr
        have hn := hlen N
        clear hlen
        obtain rfl : nN = 0 := by (simp at hn; omega)
        go_wp2_with fail
        refine (C1.out _ (by first | exact U | exact U.drew | exact U.drewN _) _ _ (by first | exact N | exact N.up ((Up.refl _).drew) | exact N.up ((Up.refl _).drewN _))).mono ?_
        rintro _ w3 ⟨rfl, h3⟩
        replace U := Up.trans (by first | exact U | exact U.drew | exact U.drewN _) h3
        replace N := N.up (Up.trans (by first | exact Up.refl _ | exact (Up.refl _).drew | exact (Up.refl _).drewN _) h3)
        clear h3
        go_wp2_with fail
        refine (C2.out _ (by first | exact U | exact U.drew | exact U.drewN _)).mono ?_
        rintro _ w4 ⟨vQ, rfl, Q, h4⟩
        replace U := Up.trans (by first | exact U | exact U.drew | exact U.drewN _) h4
        replace N := N.up (Up.trans (by first | exact Up.refl _ | exact (Up.refl _).drew | exact (Up.refl _).drewN _) h4)
        clear h4
        obtain ⟨AQ, nQ, cQ, rfl, Q⟩ := Q.slr
        go_wp2_with fail
        refine (CC.out _ (by first | exact U | exact U.drew | exact U.drewN _) _ _ _ _ _ _ _ (by first | exact Q | exact Q.up ((Up.refl _).drew) | exact Q.up ((Up.refl _).drewN _)) (by first | exact N | exact N.up ((Up.refl _).drew) | exact N.up ((Up.refl _).drewN _))).mono ?_
        rintro _ w5 ⟨rfl, h5⟩
        replace U := Up.trans (by first | exact U | exact U.drew | exact U.drewN _) h5
        replace N := N.up (Up.trans (by first | exact Up.refl _ | exact (Up.refl _).drew | exact (Up.refl _).drewN _) h5)
        replace Q := Q.up (Up.trans (by first | exact Up.refl _ | exact (Up.refl _).drew | exact (Up.refl _).drewN _) h5)
        clear h5
        go_wp2_with fail
        refine (C3.out _ (by first | exact U | exact U.drew | exact U.drewN _)).mono ?_
        rintro _ w6 ⟨vX, rfl, X, h6⟩
        replace U := Up.trans (by first | exact U | exact U.drew | exact U.drewN _) h6
        replace N := N.up (Up.trans (by first | exact Up.refl _ | exact (Up.refl _).drew | exact (Up.refl _).drewN _) h6)
        replace Q := Q.up (Up.trans (by first | exact Up.refl _ | exact (Up.refl _).drew | exact (Up.refl _).drewN _) h6)
        clear h6
        obtain ⟨AX, nX, cX, rfl, X⟩ := X.slr
        go_wp2_with fail
        refine (CS.out _ (by first | exact U | exact U.drew | exact U.drewN _) _ _ (by first | exact N | exact N.up ((Up.refl _).drew) | exact N.up ((Up.refl _).drewN _))).mono ?_
        rintro _ w7 ⟨vY, rfl, Y, h7⟩
        replace U := Up.trans (by first | exact U | exact U.drew | exact U.drewN _) h7
        replace N := N.up (Up.trans (by first | exact Up.refl _ | exact (Up.refl _).drew | exact (Up.refl _).drewN _) h7)
        replace Q := Q.up (Up.trans (by first | exact Up.refl _ | exact (Up.refl _).drew | exact (Up.refl _).drewN _) h7)
        replace X := X.up (Up.trans (by first | exact Up.refl _ | exact (Up.refl _).drew | exact (Up.refl _).drewN _) h7)
        clear h7
        obtain ⟨AY, nY, cY, rfl, Y⟩ := Y.slr
        go_wp2_with fail
        refine (CB.out _ _ _ _ (by first | exact Y | exact Y.up ((Up.refl _).drew) | exact Y.up ((Up.refl _).drewN _))).mono ?_
        rintro _ _ ⟨rfl, rfl⟩
        go_wp2_with fail
        go_ret
        exact ⟨by first | rfl | (simp; done) | (simp; assumption) | (simp; omega), by first | exact U | exact U.drew | exact U.drewN _⟩
      · go_enter Tryz.func5, Tryz.ntmps5
        go_wp2_with fail
        refine (CH.out _ (by first | exact U | exact U.drew | exact U.drewN _)).mono ?_
        rintro _ w1 ⟨rfl, h1⟩
        replace U := Up.trans (by first | exact U | exact U.drew | exact U.drewN _) h1
        clear h1
        go_wp2_with fail
        refine (CF.out _ (by first | exact U | exact U.drew | exact U.drewN _)).mono ?_
        rintro _ w2 ⟨vN, rfl, N, h2⟩
        replace U := Up.trans (by first | exact U | exact U.drew | exact U.drewN _) h2
        clear h2
        obtain ⟨AN, nN, cN, rfl, N⟩ := N.slr
        have hn := hlen N
        clear hlen
        replace hn : (0 : Int) < (nN : Int) := hn.2 (by first | rfl | trivial)
        go_wp2_with fail
        refine (C1.out _ (by first | exact U | exact U.drew | exact U.drewN _) _ _ (by first | exact N | exact N.up ((Up.refl _).drew) | exact N.up ((Up.refl _).drewN _))).mono ?_
        rintro _ w3 ⟨rfl, h3⟩
        replace U := Up.trans (by first | exact U | exact U.drew | exact U.drewN _) h3
        replace N := N.up (Up.trans (by first | exact Up.refl _ | exact (Up.refl _).drew | exact (Up.refl _).drewN _) h3)
        clear h3
        go_wp2_with fail
        refine (C2.out _ (by first | exact U | exact U.drew | exact U.drewN _)).mono ?_
        rintro _ w4 ⟨vQ, rfl, Q, h4⟩
        replace U := Up.trans (by first | exact U | exact U.drew | exact U.drewN _) h4
        replace N := N.up (Up.trans (by first | exact Up.refl _ | exact (Up.refl _).drew | exact (Up.refl _).drewN _) h4)
        clear h4
        obtain ⟨AQ, nQ, cQ, rfl, Q⟩ := Q.slr
        go_wp2_with fail
        refine (CC.out _ (by first | exact U | exact U.drew | exact U.drewN _) _ _ _ _ _ _ _ (by first | exact Q | exact Q.up ((Up.refl _).drew) | exact Q.up ((Up.refl _).drewN _)) (by first | exact N | exact N.up ((Up.refl _).drew) | exact N.up ((Up.refl _).drewN _))).mono ?_
        rintro _ w5 ⟨rfl, h5⟩
        replace U := Up.trans (by first | exact U | exact U.drew | exact U.drewN _) h5
        replace N := N.up (Up.trans (by first | exact Up.refl _ | exact (Up.refl _).drew | exact (Up.refl _).drewN _) h5)
        replace Q := Q.up (Up.trans (by first | exact Up.refl _ | exact (Up.refl _).drew | exact (Up.refl _).drewN _) h5)
        clear h5
        go_wp2_with fail
        refine (C3.out _ (by first | exact U | exact U.drew | exact U.drewN _)).mono ?_
        rintro _ w6 ⟨vX, rfl, X, h6⟩
        replace U := Up.trans (by first | exact U | exact U.drew | exact U.drewN _) h6
        replace N := N.up (Up.trans (by first | exact Up.refl _ | exact (Up.refl _).drew | exact (Up.refl _).drewN _) h6)
        replace Q := Q.up (Up.trans (by first | exact Up.refl _ | exact (Up.refl _).drew | exact (Up.refl _).drewN _) h6)
        clear h6
        obtain ⟨AX, nX, cX, rfl, X⟩ := X.slr
        go_wp2_with fail
        refine (CS.out _ (by first | exact U | exact U.drew | exact U.drewN _) _ _ (by first | exact N | exact N.up ((Up.refl _).drew) | exact N.up ((Up.refl _).drewN _))).mono ?_
        rintro _ w7 ⟨vY, rfl, Y, h7⟩
        replace U := Up.trans (by first | exact U | exact U.drew | exact U.drewN _) h7
        replace N := N.up (Up.trans (by first | exact Up.refl _ | exact (Up.refl _).drew | exact (Up.refl _).drewN _) h7)
        replace Q := Q.up (Up.trans (by first | exact Up.refl _ | exact (Up.refl _).drew | exact (Up.refl _).drewN _) h7)
        replace X := X.up (Up.trans (by first | exact Up.refl _ | exact (Up.refl _).drew | exact (Up.refl _).drewN _) h7)
        clear h7
        obtain ⟨AY, nY, cY, rfl, Y⟩ := Y.slr
        go_wp2_with fail
        refine (CB.out _ _ _ _ (by first | exact Y | exact Y.up ((Up.refl _).drew) | exact Y.up ((Up.refl _).drewN _))).mono ?_
        rintro _ _ ⟨rfl, rfl⟩
        go_wp2_with fail
        go_ret
        exact ⟨by first | rfl | (simp; done) | (simp; assumption) | (simp; omega), by first | exact U | exact U.drew | exact U.drewN _⟩

end Go.Proofs.YtjmnobgllnaljaaGreatDoor
