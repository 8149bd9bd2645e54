/-
  The walk of ExactTells: true, and nothing that was there has turned.
-/
import Derived.Test.YteeepfhjbemgoaaGreatDoorRef7
import Derived.Test.YteeepfhjbemgoaaGreatDoorXlog
namespace Go.Proofs.YteeepfhjbemgoaaGreatDoor
open Go.RowKit Go.Shelf
attribute [local go_sem ↓] Go.wp_at_zero Go.wp_at_succ

/-- The reference's Log10, of any number. -/
theorem rlog_all (w : World) (lo s : Nat) (neg : Bool) (A : Option Addr) (n c : Nat) (t f : Int) (a : Nat) (h : Nt w lo s (.slice A n c) a) (hs : s ≤ 100000) (bt : -1000 ≤ t ∧ t ≤ 1000) (bf : -1000 ≤ f ∧ f ≤ 1000)
    (K : Int) (h0 : Hid (a = 0 → K = 0)) (HK : Hid (0 < a → -2500 ≤ K ∧ K ≤ 2740 ∧ M.cmp (M.ov 1 K K (-5000)) (M.ov a t f (-5000)) ≤ 0 ∧ M.cmp (M.ov a t f (-5000)) (M.ov 1 (K + 1) (K + 1) (-5000)) = -1)) :
    Calls Tryz.prog 27 #[xv neg (.slice A n c) t f] w (Num K w) := by
  rcases Nat.eq_zero_or_pos a with ha | ha
  · obtain rfl := h.zn0.2 ha
    rw [h0.out ha]
    exact rlog_zero w neg A c t f
  · obtain ⟨k1, k2, hz, hy⟩ := HK.out ha
    have hn : 0 < n := by
      rcases Nat.eq_zero_or_pos n with e | e
      · have := h.zn0.1 e; omega
      · exact e
    have mono : ∀ i j : Int, -5000 ≤ i → i ≤ j → M.ov 1 i i (-5000) ≤ M.ov 1 j j (-5000) := by
      intro i j h1 h2
      unfold M.ov
      rw [Nat.one_mul, Nat.one_mul]
      exact Nat.mul_le_mul (Nat.pow_le_pow_right (by omega) (by omega)) (Nat.pow_le_pow_right (by omega) (by omega))
    have h1 : M.ov 1 K K (-5000) ≤ M.ov a t f (-5000) := M.cmp_le.1 hz
    have h2 : M.ov a t f (-5000) < M.ov 1 (K + 1) (K + 1) (-5000) := by
      rcases Nat.lt_trichotomy (M.ov a t f (-5000)) (M.ov 1 (K + 1) (K + 1) (-5000)) with e | e | e
      · exact e
      · rw [M.cmp_eq e] at hy; omega
      · rw [M.cmp_gt e] at hy; omega
    refine rlog_any w lo s neg A n c t f a h hs hn bt bf K (by omega) (fun k b1 b2 => ⟨fun hlt => ?_, fun hlt => ?_⟩)
    · rcases (show K < k ∨ k ≤ K by omega) with e | e
      · exact e
      · have := mono k K (by omega) e
        omega
    · have := mono (K + 1) k (by omega) (by omega)
      omega

set_option maxHeartbeats 40000000 in
set_option maxRecDepth 100000 in
theorem tells_walk (w : World) (hTW : TabW w) (ng0 : Bool) (A0 : Option Addr) (ln0 cp0 : Nat) (xs0 : List Nat) (sr0 : Src w A0 ln0 cp0 xs0) (_mx0 : cp0 ≤ maxLen) (tw0 : Int) (_wt0 : (Lit.int .i64 tw0).wf = true) (fv0 : Int) (_wv0 : (Lit.int .i64 fv0).wf = true) (ng1 : Bool) (A1 : Option Addr) (ln1 cp1 : Nat) (xs1 : List Nat) (sr1 : Src w A1 ln1 cp1 xs1) (_mx1 : cp1 ≤ maxLen) (tw1 : Int) (_wt1 : (Lit.int .i64 tw1).wf = true) (fv1 : Int) (_wv1 : (Lit.int .i64 fv1).wf = true) (x2 : Int) (_wx2 : (Lit.int .i64 x2).wf = true) :
    Calls Tryz.prog 4 #[xv ng0 (.slice A0 ln0 cp0) tw0 fv0, xv ng1 (.slice A1 ln1 cp1) tw1 fv1, .int .i64 x2] w (True_ w) := by
  obtain ⟨k, hk, hk1, hk2⟩ := tmod_rng_of x2 151 (by omega)
  have U := Up.refl w
  obtain ⟨p0, hp0, pa0, pb0⟩ := tmod_rng_of tw0 (150 + 1) (by omega)
  obtain ⟨q0, hq0, qa0, qb0⟩ := tmod_rng_of fv0 (150 + 1) (by omega)
  have Hp0 := Lib.hid hp0
  have Hq0 := Lib.hid hq0
  clear hp0 hq0
  obtain ⟨p1, hp1, pa1, pb1⟩ := tmod_rng_of tw1 (150 + 1) (by omega)
  obtain ⟨q1, hq1, qa1, qb1⟩ := tmod_rng_of fv1 (150 + 1) (by omega)
  have Hp1 := Lib.hid hp1
  have Hq1 := Lib.hid hq1
  clear hp1 hq1
  go_enter Tryz.func4, Tryz.ntmps4
  go_wp2_with fail
  obtain ⟨V1, hV1⟩ : ∃ V1, (w.alloc (.cells #[.bool ng0, .slice A0 ln0 cp0, .int .i64 (tw0), .int .i64 (fv0)] 40)).alloc (.cells #[.bool ng1, .slice A1 ln1 cp1, .int .i64 (tw1), .int .i64 (fv1)] 40) = V1 := ⟨_, rfl⟩
  have uV1 : Up w V1 := by rw [← hV1]; first | exact (Up.refl _).alloc _ | exact ((Up.refl _).alloc _).alloc _ | exact (((Up.refl _).alloc _).alloc _).alloc _ | exact ((((Up.refl _).alloc _).alloc _).alloc _).alloc _ | ((repeat (refine Up.alloc ?_ _)); exact Up.refl _)
  have b0 : Bx V1 (w.heap.size) ng0 (.slice A0 ln0 cp0) tw0 fv0 := by rw [← hV1]; exact Bx.up (Bx.mk_ w ng0 (.slice A0 ln0 cp0) tw0 fv0) ((Up.refl _).alloc _)
  have b1 : Bx V1 (w.heap.size + 1) ng1 (.slice A1 ln1 cp1) tw1 fv1 := by rw [← hV1]; exact bx_n 1 _ w ng1 (.slice A1 ln1 cp1) tw1 fv1 (by simp)
  rw [hV1]
  clear hV1
  replace U := U.trans uV1
  clear uV1
  refine (xshown_any _ (hTW.up U)).mono ?_
  rintro _ w2 ⟨rfl, h2⟩
  replace b0 := b0.up h2
  replace b1 := b1.up h2
  replace U := U.trans h2
  clear h2
  obtain ⟨⟨b00, b01, b02, b03⟩, b0f0, b0f1, b0f2, b0f3⟩ := id b0
  have b05 := World.block_lt_of_cell? _ _ b00
  simp only at b05
  go_wp2_with fail
  clear b00 b01 b02 b03 b0f0 b0f1 b0f2 b0f3 b05
  have zz0 := World.block_lt_of_cell? _ _ b1.1.1
  simp only at zz0
  refine (small_any _ ng0 A0 ln0 cp0 xs0 tw0 fv0 (sr0.up U) 150 (by omega) p0 q0 Hp0.out Hq0.out).mono ?_
  rintro _ w3 ⟨_, a0, rfl, n0, h3⟩
  replace b0 := b0.up h3
  replace b1 := b1.up h3
  replace U := U.trans h3
  clear h3
  obtain ⟨An0, sn0, cn0, wn0, rfl, n0⟩ := n0
  replace n0 : Nt w3 _ _ (.slice An0 sn0 cn0) (a0) := ⟨An0, sn0, cn0, wn0, rfl, n0⟩
  obtain ⟨⟨b00, b01, b02, b03⟩, b0f0, b0f1, b0f2, b0f3⟩ := id b0
  have b05 := World.block_lt_of_cell? _ _ b00
  simp only at b05
  obtain ⟨⟨b10, b11, b12, b13⟩, b1f0, b1f1, b1f2, b1f3⟩ := id b1
  have b15 := World.block_lt_of_cell? _ _ b10
  simp only at b15
  go_wp2_with fail
  clear b00 b01 b02 b03 b0f0 b0f1 b0f2 b0f3 b05
  clear b10 b11 b12 b13 b1f0 b1f1 b1f2 b1f3 b15
  obtain ⟨V4, hV4⟩ : ∃ V4, set4 w3 (w.heap.size) (.bool ng0) (.slice An0 sn0 cn0) (.int .i64 p0) (.int .i64 q0) = V4 := ⟨_, rfl⟩
  rw [show (((w3.setCell ⟨w.heap.size, 0, none⟩ (.bool ng0)).setCell ⟨w.heap.size, 1, none⟩ (.slice An0 sn0 cn0)).setCell ⟨w.heap.size, 2, none⟩ (.int .i64 p0)).setCell ⟨w.heap.size, 3, none⟩ (.int .i64 q0) = V4 from hV4]
  replace b0 : Bx V4 (w.heap.size) ng0 (.slice An0 sn0 cn0) p0 q0 := by rw [← hV4]; exact b0.set4_same
  replace b1 := by have := b1.set4_other (b := w.heap.size) (by omega) (.bool ng0) (.slice An0 sn0 cn0) (.int .i64 p0) (.int .i64 q0); rw [hV4] at this; exact this
  replace n0 := by have := n0.set4 (b := w.heap.size) (by omega) (.bool ng0) (.slice An0 sn0 cn0) (.int .i64 p0) (.int .i64 q0); rw [hV4] at this; exact this
  replace U : Up w V4 := by rw [← hV4]; exact U.set4 (by omega) _ _ _ _
  have sz0 : V4.heap.size = w3.heap.size := by rw [← hV4]; simp [World.setCell]
  clear hV4
  obtain ⟨⟨b10, b11, b12, b13⟩, b1f0, b1f1, b1f2, b1f3⟩ := id b1
  have b15 := World.block_lt_of_cell? _ _ b10
  simp only at b15
  go_wp2_with fail
  clear b10 b11 b12 b13 b1f0 b1f1 b1f2 b1f3 b15
  have zz1 := World.block_lt_of_cell? _ _ b1.1.1
  simp only at zz1
  refine (small_any _ ng1 A1 ln1 cp1 xs1 tw1 fv1 (sr1.up U) 150 (by omega) p1 q1 Hp1.out Hq1.out).mono ?_
  rintro _ w5 ⟨_, a1, rfl, n1, h5⟩
  replace b0 := b0.up h5
  replace b1 := b1.up h5
  replace n0 := n0.up h5
  replace U := U.trans h5
  clear h5
  obtain ⟨An1, sn1, cn1, wn1, rfl, n1⟩ := n1
  replace n1 : Nt w5 _ _ (.slice An1 sn1 cn1) (a1) := ⟨An1, sn1, cn1, wn1, rfl, n1⟩
  obtain ⟨⟨b00, b01, b02, b03⟩, b0f0, b0f1, b0f2, b0f3⟩ := id b0
  have b05 := World.block_lt_of_cell? _ _ b00
  simp only at b05
  obtain ⟨⟨b10, b11, b12, b13⟩, b1f0, b1f1, b1f2, b1f3⟩ := id b1
  have b15 := World.block_lt_of_cell? _ _ b10
  simp only at b15
  go_wp2_with fail
  clear b00 b01 b02 b03 b0f0 b0f1 b0f2 b0f3 b05
  clear b10 b11 b12 b13 b1f0 b1f1 b1f2 b1f3 b15
  obtain ⟨V6, hV6⟩ : ∃ V6, set4 w5 (w.heap.size + 1) (.bool ng1) (.slice An1 sn1 cn1) (.int .i64 p1) (.int .i64 q1) = V6 := ⟨_, rfl⟩
  rw [show (((w5.setCell ⟨w.heap.size + 1, 0, none⟩ (.bool ng1)).setCell ⟨w.heap.size + 1, 1, none⟩ (.slice An1 sn1 cn1)).setCell ⟨w.heap.size + 1, 2, none⟩ (.int .i64 p1)).setCell ⟨w.heap.size + 1, 3, none⟩ (.int .i64 q1) = V6 from hV6]
  replace b0 := by have := b0.set4_other (b := w.heap.size + 1) (by omega) (.bool ng1) (.slice An1 sn1 cn1) (.int .i64 p1) (.int .i64 q1); rw [hV6] at this; exact this
  replace b1 : Bx V6 (w.heap.size + 1) ng1 (.slice An1 sn1 cn1) p1 q1 := by rw [← hV6]; exact b1.set4_same
  replace n0 := by have := n0.set4 (b := w.heap.size + 1) (by omega) (.bool ng1) (.slice An1 sn1 cn1) (.int .i64 p1) (.int .i64 q1); rw [hV6] at this; exact this
  replace n1 := by have := n1.set4 (b := w.heap.size + 1) (by omega) (.bool ng1) (.slice An1 sn1 cn1) (.int .i64 p1) (.int .i64 q1); rw [hV6] at this; exact this
  replace U : Up w V6 := by rw [← hV6]; exact U.set4 (by omega) _ _ _ _
  have sz1 : V6.heap.size = w5.heap.size := by rw [← hV6]; simp [World.setCell]
  clear hV6
  have hlt := n0.nw.lt
  obtain ⟨T, hT⟩ : ∃ T : Nat, max 0 (min (p0 - k) 131072) = (T : Int) := ⟨(max 0 (min (p0 - k) 131072)).toNat, by omega⟩
  obtain ⟨F, hF⟩ : ∃ F : Nat, max 0 (min (q0 - k) 10000) = (F : Int) := ⟨(max 0 (min (q0 - k) 10000)).toNat, by omega⟩
  obtain ⟨T', hT'⟩ : ∃ T : Nat, max 0 (min (-(p0 - k)) 131072) = (T : Int) := ⟨(max 0 (min (-(p0 - k)) 131072)).toNat, by omega⟩
  obtain ⟨F', hF'⟩ : ∃ F : Nat, max 0 (min (-(q0 - k)) 10000) = (F : Int) := ⟨(max 0 (min (-(q0 - k)) 10000)).toNat, by omega⟩
  have bT : T ≤ 400 ∧ F ≤ 400 ∧ T' ≤ 400 ∧ F' ≤ 400 := by omega
  have RT : Hid (max (p0 - k) 0 = (T : Int)) := by show _ = _; omega
  have RF : Hid (max (q0 - k) 0 = (F : Int)) := by show _ = _; omega
  have RT' : Hid (max (-(p0 - k)) 0 = (T' : Int)) := by show _ = _; omega
  have RF' : Hid (max (-(q0 - k)) 0 = (F' : Int)) := by show _ = _; omega
  have HT := Lib.hid hT
  have HF := Lib.hid hF
  have HT' := Lib.hid hT'
  have HF' := Lib.hid hF'
  clear hT hF hT' hF'
  obtain ⟨q, hq⟩ : ∃ q, a0 * 5 ^ F * 2 ^ T / (1 * 5 ^ F' * 2 ^ T') = q := ⟨_, rfl⟩
  obtain ⟨r, hr⟩ : ∃ r, a0 * 5 ^ F * 2 ^ T % (1 * 5 ^ F' * 2 ^ T') = r := ⟨_, rfl⟩
  obtain ⟨z, hz⟩ : ∃ z, M.part r (1 * 5 ^ F' * 2 ^ T') = z := ⟨_, rfl⟩
  have HQ := Lib.hid hq
  have HR := Lib.hid hr
  have HZ := Lib.hid hz
  rw [Nat.one_mul] at hq hr hz
  have RQ := Lib.hid hq
  have RR := Lib.hid hr
  have RZ := Lib.hid hz
  clear hq hr hz
  obtain ⟨y, hy⟩ : ∃ y, M.cmp (M.ov a0 p0 q0 (-5000)) (M.ov a1 p1 q1 (-5000)) = y := ⟨_, rfl⟩
  have HY := Lib.hid hy
  clear hy
  obtain ⟨m, hm⟩ : ∃ m, min p0 q0 = m := ⟨_, rfl⟩
  obtain ⟨T2, hT2⟩ : ∃ T : Nat, (T : Int) = p0 - m := ⟨(p0 - m).toNat, by omega⟩
  obtain ⟨F2, hF2⟩ : ∃ F : Nat, (F : Int) = q0 - m := ⟨(q0 - m).toNat, by omega⟩
  obtain ⟨l, hl⟩ : ∃ k, M.log10 a0 F2 T2 m = k := ⟨_, rfl⟩
  have HM := Lib.hid hm
  have HT2 : Hid (max 0 (min (p0 - m) 131072) = (T2 : Int)) := by show _ = _; omega
  have HF2 : Hid (max 0 (min (q0 - m) 10000) = (F2 : Int)) := by show _ = _; omega
  have HL := Lib.hid hl
  have KEY : Hid (0 < a0 → -2500 ≤ l ∧ l ≤ 2740 ∧ M.cmp (M.ov 1 l l (-5000)) (M.ov a0 p0 q0 (-5000)) ≤ 0 ∧ M.cmp (M.ov a0 p0 q0 (-5000)) (M.ov 1 (l + 1) (l + 1) (-5000)) = -1) := fun h => M.log_ov h hlt (by omega) hm hT2 hF2 hl (by omega) (by omega) rfl
  have hl0 : Hid (a0 = 0 → l = 0) := fun h => by rw [← hl, M.log10, if_pos h]
  clear hm hT2 hF2 hl hlt
  refine (floor_any _ _ 12 ng0 _ p0 q0 a0 n0.nw (by omega) (by omega) (by omega) k k (by show _ = _; omega) T F T' F' HT HF HT' HF' q r HQ HR z HZ).mono ?_
  rintro _ w7 ⟨vq, rfl, nq, h7⟩
  replace b0 := b0.up h7
  replace b1 := b1.up h7
  replace n0 := n0.up h7
  replace n1 := n1.up h7
  replace U := U.trans h7
  clear h7
  obtain ⟨Anq, snq, cnq, wnq, rfl, nq⟩ := nq
  replace nq : Nt w7 _ _ (.slice Anq snq cnq) (q) := ⟨Anq, snq, cnq, wnq, rfl, nq⟩
  clear hk
  obtain ⟨⟨b00, b01, b02, b03⟩, b0f0, b0f1, b0f2, b0f3⟩ := id b0
  have b05 := World.block_lt_of_cell? _ _ b00
  simp only at b05
  obtain ⟨⟨b10, b11, b12, b13⟩, b1f0, b1f1, b1f2, b1f3⟩ := id b1
  have b15 := World.block_lt_of_cell? _ _ b10
  simp only at b15
  go_wp2_with fail
  clear b00 b01 b02 b03 b0f0 b0f1 b0f2 b0f3 b05
  clear b10 b11 b12 b13 b1f0 b1f1 b1f2 b1f3 b15
  refine (rfloor_any _ _ 12 ng0 _ p0 q0 a0 n0.nw (by omega) k ⟨by omega, by omega⟩ ⟨by omega, by omega⟩ ⟨by omega, by omega⟩ T F T' F' RT RF RT' RF' q r RQ RR z RZ).mono ?_
  rintro _ w8 ⟨vp, rfl, np, h8⟩
  replace b0 := b0.up h8
  replace b1 := b1.up h8
  replace n0 := n0.up h8
  replace n1 := n1.up h8
  replace nq := nq.up h8
  replace U := U.trans h8
  clear h8
  obtain ⟨Anp, snp, cnp, wnp, rfl, np⟩ := np
  replace np : Nt w8 _ _ (.slice Anp snp cnp) (q) := ⟨Anp, snp, cnp, wnp, rfl, np⟩
  obtain ⟨⟨b00, b01, b02, b03⟩, b0f0, b0f1, b0f2, b0f3⟩ := id b0
  have b05 := World.block_lt_of_cell? _ _ b00
  simp only at b05
  obtain ⟨⟨b10, b11, b12, b13⟩, b1f0, b1f1, b1f2, b1f3⟩ := id b1
  have b15 := World.block_lt_of_cell? _ _ b10
  simp only at b15
  go_wp2_with fail
  clear b00 b01 b02 b03 b0f0 b0f1 b0f2 b0f3 b05
  clear b10 b11 b12 b13 b1f0 b1f1 b1f2 b1f3 b15
  have C1 := Lib.hid (fun w' (hu : Up w8 w') => xcmp_ov (-5000) ⟨by omega, by omega⟩ w' _ _ 12 12 ng0 ng1 (.slice An0 sn0 cn0) (.slice An1 sn1 cn1) p0 q0 p1 q1 a0 a1 (n0.nw.up hu) (n1.nw.up hu) (by omega) (by omega) ⟨by omega, by omega⟩ ⟨by omega, by omega⟩ ⟨by omega, by omega⟩ ⟨by omega, by omega⟩ y HY)
  have C2 := Lib.hid (fun w' (hu : Up w8 w') => rxcmp_any (-5000) w' _ _ 12 12 ng0 ng1 (.slice An0 sn0 cn0) (.slice An1 sn1 cn1) p0 q0 p1 q1 a0 a1 (n0.nw.up hu) (n1.nw.up hu) (by omega) (by omega) ⟨by omega, by omega, by omega⟩ ⟨by omega, by omega, by omega⟩ ⟨by omega, by omega, by omega⟩ ⟨by omega, by omega, by omega⟩ y HY)
  have C3 := Lib.hid (fun w' (hu : Up w8 w') => halves_of w' _ _ (.slice Anp snp cnp) q (np.nw.up hu) (by omega))
  have C4 := Lib.hid (fun w' v lo s (h : Nh w' lo s v q) (hu : Up w8 w') => same_any w' _ lo _ s (.slice Anq snq cnq) v q (nq.up hu) h (by omega))
  have C5 := Lib.hid (fun w' (hu : Up w8 w') => log10_any w' ((hTW.up U).up hu) _ _ ng0 (.slice An0 sn0 cn0) p0 q0 a0 (n0.nw.up hu) (by omega) (by omega) (by omega) m HM T2 F2 HT2 HF2 l HL)
  have C6 := Lib.hid (fun w' (hu : Up w8 w') => rlog_all w' _ 12 ng0 _ _ _ p0 q0 a0 (n0.up hu) (by omega) ⟨by omega, by omega⟩ ⟨by omega, by omega⟩ l hl0 KEY)
  clear HT HF HT' HF' RT RF RT' RF' HQ HR HZ RQ RR RZ HY HM HT2 HF2 HL KEY hl0
  have hyy : (y == y) = true := by simp
  have hzz : (z == z) = true := by simp
  have hll : (l == l) = true := by simp
  obtain ⟨⟨b00, b01, b02, b03⟩, b0f0, b0f1, b0f2, b0f3⟩ := id b0
  have b05 := World.block_lt_of_cell? _ _ b00
  simp only at b05
  obtain ⟨⟨b10, b11, b12, b13⟩, b1f0, b1f1, b1f2, b1f3⟩ := id b1
  have b15 := World.block_lt_of_cell? _ _ b10
  simp only at b15
  go_region_held3 (fun w' => w'.cell? ⟨w.heap.size, 0, none⟩ = some (.bool ng0) ∧ w'.cell? ⟨w.heap.size, 1, none⟩ = some ((.slice An0 sn0 cn0)) ∧ w'.cell? ⟨w.heap.size, 2, none⟩ = some (.int .i64 (p0)) ∧ w'.cell? ⟨w.heap.size, 3, none⟩ = some (.int .i64 (q0)) ∧ w'.cell? ⟨w.heap.size + 1, 0, none⟩ = some (.bool ng1) ∧ w'.cell? ⟨w.heap.size + 1, 1, none⟩ = some ((.slice An1 sn1 cn1)) ∧ w'.cell? ⟨w.heap.size + 1, 2, none⟩ = some (.int .i64 (p1)) ∧ w'.cell? ⟨w.heap.size + 1, 3, none⟩ = some (.int .i64 (q1))) (go_keep) (first
      | (go_at_call 23; (with_reducible refine (C1.out _ ?_).mono ?_); (first | with_reducible assumption | exact (Up.refl _).drewN 1); rintro _ w91 ⟨rfl, h91⟩; have uw91 : Up w8 w91 := Up.trans (by first | with_reducible assumption | exact (Up.refl w8).drewN 1) h91; have b0c10 := cell_up uw91 b00; have b0c11 := cell_up uw91 b01; have b0c12 := cell_up uw91 b02; have b0c13 := cell_up uw91 b03; have b1c10 := cell_up uw91 b10; have b1c11 := cell_up uw91 b11; have b1c12 := cell_up uw91 b12; have b1c13 := cell_up uw91 b13)
      | (go_at_call 24; (with_reducible refine (C2.out _ ?_).mono ?_); (first | with_reducible assumption | exact (Up.refl _).drewN 1); rintro _ w92 ⟨rfl, h92⟩; have uw92 : Up w8 w92 := Up.trans (by first | with_reducible assumption | exact (Up.refl w8).drewN 1) h92; have b0c20 := cell_up uw92 b00; have b0c21 := cell_up uw92 b01; have b0c22 := cell_up uw92 b02; have b0c23 := cell_up uw92 b03; have b1c20 := cell_up uw92 b10; have b1c21 := cell_up uw92 b11; have b1c22 := cell_up uw92 b12; have b1c23 := cell_up uw92 b13)
      | (go_at_call 7; (with_reducible refine (C3.out _ ?_).mono ?_); (first | with_reducible assumption | exact (Up.refl _).drewN 1); rintro _ w93 ⟨vh, rfl, nh, h93⟩; have uw93 : Up w8 w93 := Up.trans (by first | with_reducible assumption | exact (Up.refl w8).drewN 1) h93; have b0c30 := cell_up uw93 b00; have b0c31 := cell_up uw93 b01; have b0c32 := cell_up uw93 b02; have b0c33 := cell_up uw93 b03; have b1c30 := cell_up uw93 b10; have b1c31 := cell_up uw93 b11; have b1c32 := cell_up uw93 b12; have b1c33 := cell_up uw93 b13)
      | (go_at_call 25; (with_reducible refine (C4.out _ _ _ _ nh ?_).mono ?_); (first | with_reducible assumption | exact (Up.refl _).drewN 1); rintro _ w94 ⟨rfl, h94⟩; have uw94 : Up w8 w94 := Up.trans (by first | with_reducible assumption | exact (Up.refl w8).drewN 1) h94; have b0c40 := cell_up uw94 b00; have b0c41 := cell_up uw94 b01; have b0c42 := cell_up uw94 b02; have b0c43 := cell_up uw94 b03; have b1c40 := cell_up uw94 b10; have b1c41 := cell_up uw94 b11; have b1c42 := cell_up uw94 b12; have b1c43 := cell_up uw94 b13)
      | (go_at_call 26; (with_reducible refine (C5.out _ ?_).mono ?_); (first | with_reducible assumption | exact (Up.refl _).drewN 1); rintro _ w95 ⟨rfl, h95⟩; have uw95 : Up w8 w95 := Up.trans (by first | with_reducible assumption | exact (Up.refl w8).drewN 1) h95; have b0c50 := cell_up uw95 b00; have b0c51 := cell_up uw95 b01; have b0c52 := cell_up uw95 b02; have b0c53 := cell_up uw95 b03; have b1c50 := cell_up uw95 b10; have b1c51 := cell_up uw95 b11; have b1c52 := cell_up uw95 b12; have b1c53 := cell_up uw95 b13)
      | (go_at_call 27; (with_reducible refine (C6.out _ ?_).mono ?_); (first | with_reducible assumption | exact (Up.refl _).drewN 1); rintro _ w96 ⟨rfl, h96⟩; have uw96 : Up w8 w96 := Up.trans (by first | with_reducible assumption | exact (Up.refl w8).drewN 1) h96; have b0c60 := cell_up uw96 b00; have b0c61 := cell_up uw96 b01; have b0c62 := cell_up uw96 b02; have b0c63 := cell_up uw96 b03; have b1c60 := cell_up uw96 b10; have b1c61 := cell_up uw96 b11; have b1c62 := cell_up uw96 b12; have b1c63 := cell_up uw96 b13))
  all_goals
    replace U := U.trans uw96
    go_wp2_with fail
    go_ret
    exact ⟨rfl, U⟩
end Go.Proofs.YteeepfhjbemgoaaGreatDoor
