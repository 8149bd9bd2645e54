/-
  The walk of ExactFloor: true, and nothing that was there has turned.
-/
import Derived.Test.YtdokioefcfcfnaaDoorEx7
namespace Go.Proofs.YtdokioefcfcfnaaDoor
open Go.RowKit Go.Shelf
attribute [local go_sem ↓] Go.wp_at_zero Go.wp_at_succ

namespace M
theorem ov_parts {a F T F' T' u v K : Nat} (hf : u + F' = K + F) (ht : v + T' = K + T) :
    a * 5 ^ u * 2 ^ v * (1 * 5 ^ F' * 2 ^ T') = a * 5 ^ F * 2 ^ T * (1 * 5 ^ K * 2 ^ K) := by
  have e5 : 5 ^ u * 5 ^ F' = 5 ^ K * 5 ^ F := by rw [← Nat.pow_add, hf, Nat.pow_add]
  have e2 : 2 ^ v * 2 ^ T' = 2 ^ K * 2 ^ T := by rw [← Nat.pow_add, ht, Nat.pow_add]
  have l : a * 5 ^ u * 2 ^ v * (1 * 5 ^ F' * 2 ^ T') = a * (5 ^ u * 5 ^ F') * (2 ^ v * 2 ^ T') := by
    rw [Nat.one_mul]
    ac_rfl
  rw [l, e5, e2, Nat.one_mul]
  ac_rfl
/-- What Floor tells, as the order tells it. -/
theorem floor_cmp {A B P X H q r : Nat} (hB : 0 < B) (hP : 0 < P) (hX : X * B = A * P) (hH : H * 10 = (q * 10 + 5) * P) (hq : A / B = q) (hr : A % B = r) :
    cmp X ((q + 1) * P) = -1 ∧ ((part r B = 0 ∧ cmp (q * P) X = 0 ∧ cmp X H = cmp X H) ∨ (part r B = 1 ∧ cmp (q * P) X = -1 ∧ cmp X H = -1) ∨ (part r B = 2 ∧ cmp (q * P) X = -1 ∧ cmp X H = 0) ∨ (part r B = 3 ∧ cmp (q * P) X = -1 ∧ cmp X H = 1)) := by
  have hA := Nat.div_add_mod A B
  rw [hq, hr] at hA
  have hrB : r < B := by rw [← hr]; exact Nat.mod_lt _ hB
  obtain ⟨u, hu⟩ : ∃ u, B * q = u := ⟨_, rfl⟩
  rw [hu] at hA
  rw [← hA] at hX
  clear hA hq hr
  have e1 : (q + 1) * P * B = (u + B) * P := by rw [Nat.mul_right_comm, ← hu, Nat.mul_comm (q + 1) B, Nat.mul_succ]
  have e0 : q * P * B = u * P := by rw [Nat.mul_right_comm, ← hu, Nat.mul_comm q B]
  have eH : H * 2 = (q * 2 + 1) * P := by
    have : (q * 10 + 5) * P = ((q * 2 + 1) * P) * 5 := by rw [Nat.mul_right_comm]; congr 1; omega
    omega
  have e2 : H * 2 * B = (u * 2 + B) * P := by
    rw [eH, Nat.mul_right_comm, ← hu]
    congr 1
    rw [Nat.add_mul, Nat.one_mul, Nat.mul_right_comm, Nat.mul_comm q B]
  have c1 : cmp X ((q + 1) * P) = -1 := by
    rw [← cmp_times _ _ B hB, hX, e1, cmp_times _ _ P hP]
    exact cmp_lt (by omega)
  have c0 : cmp (q * P) X = cmp u (u + r) := by rw [← cmp_times _ X B hB, hX, e0, cmp_times _ _ P hP]
  have c2 : cmp X H = cmp ((u + r) * 2) (u * 2 + B) := by
    rw [← cmp_times X H 2 (by omega), ← cmp_times (X * 2) (H * 2) B hB, e2, Nat.mul_right_comm, hX, Nat.mul_right_comm, cmp_times _ _ P hP]
  refine ⟨c1, ?_⟩
  rw [c0, c2]
  by_cases h0 : r = 0
  · left
    refine ⟨by rw [part, if_pos h0], cmp_eq (by omega), rfl⟩
  · right
    have e : cmp u (u + r) = -1 := cmp_lt (by omega)
    rw [e, part, if_neg h0]
    rcases Nat.lt_trichotomy (r * 2) B with h | h | h
    · left
      rw [cmp_lt h]
      exact ⟨rfl, rfl, cmp_lt (by omega)⟩
    · right
      left
      rw [cmp_eq h]
      exact ⟨rfl, rfl, cmp_eq (by omega)⟩
    · right
      right
      rw [cmp_gt h]
      exact ⟨rfl, rfl, cmp_gt (by omega)⟩
theorem floor_lt {a F T B q : Nat} (ha : a < 18446744073709551616 ^ 12) (hF : F ≤ 832) (hT : T ≤ 832) (hq : a * 5 ^ F * 2 ^ T / B = q) : q * 10 + 5 < 18446744073709551616 ^ 128 := by
  have hw : (18446744073709551616 : Nat) = 2 ^ 64 := by decide
  rw [hw, ← Nat.pow_mul] at ha ⊢
  obtain ⟨G, hG⟩ : ∃ G, 64 * 128 = G := ⟨_, rfl⟩
  obtain ⟨M, hM⟩ : ∃ M, 64 * 12 = M := ⟨_, rfl⟩
  rw [hG]
  rw [hM] at ha
  have h5 : 5 ^ F ≤ 2 ^ (3 * F) := by
    rw [Nat.pow_mul]
    exact Nat.pow_le_pow_left (by decide) F
  have h1 : a * 5 ^ F * 2 ^ T ≤ 2 ^ M * 2 ^ (3 * F) * 2 ^ T := Nat.mul_le_mul (Nat.mul_le_mul (Nat.le_of_lt ha) h5) (Nat.le_refl _)
  rw [← Nat.pow_add, ← Nat.pow_add] at h1
  have h3 : q ≤ 2 ^ (M + 3 * F + T) := by rw [← hq]; exact Nat.le_trans (Nat.div_le_self _ _) h1
  obtain ⟨E, hE⟩ : ∃ E, M + 3 * F + T = E := ⟨_, rfl⟩
  rw [hE] at h3
  have hEG : E + 4 ≤ G - 1 := by omega
  have h4 : 2 ^ E * 2 ^ 4 ≤ 2 ^ (G - 1) := by rw [← Nat.pow_add]; exact Nat.pow_le_pow_right (by omega) hEG
  have h6 : 2 ^ G = 2 ^ (G - 1) * 2 := by rw [← Nat.pow_succ]; congr 1; omega
  have h7 : 2 ^ 4 ≤ 2 ^ (G - 1) := Nat.pow_le_pow_right (by omega) (by omega)
  rw [h6]
  clear ha h5 h1 hw hq
  generalize 2 ^ (G - 1) = Y at *
  generalize 2 ^ E = Z at *
  omega
end M
theorem setb_now {w : World} {b : Nat} {neg neg' : Bool} {v : Value} {t f : Int} (h : Bx w b neg v t f) : Bx (w.setCell ⟨b, 0, none⟩ (.bool neg')) b neg' v t f := by
  obtain ⟨⟨a0, a1, a2, a3⟩, b0, b1, b2, b3⟩ := h
  have e : ∀ (i j : Nat), i ≠ j → (⟨b, i, none⟩ : Addr) ≠ ⟨b, j, none⟩ := by
    intro i j hij e
    injection e with _ e _
    exact hij e
  refine ⟨⟨World.cell?_setCell_same w _ _ a0, ?_, ?_, ?_⟩, ?_, ?_, ?_, ?_⟩
  · rw [World.cell?_setCell_other _ _ _ _ (e 0 1 (by omega))]; exact a1
  · rw [World.cell?_setCell_other _ _ _ _ (e 0 2 (by omega))]; exact a2
  · rw [World.cell?_setCell_other _ _ _ _ (e 0 3 (by omega))]; exact a3
  all_goals simp only [World.frozen?_setCell]; assumption
theorem Nt.set_now {w : World} {lo s : Nat} {v : Value} {a : Nat} (h : Nt w lo s v a) {b : Nat} (hb : b < lo) (u : Value) : Nt (w.setCell ⟨b, 0, none⟩ u) lo s v a := by
  obtain ⟨A, n, c, xs, e, h1, h2⟩ := h
  exact ⟨A, n, c, xs, e, h1.set_other (p := ⟨b, 0, none⟩) hb u, h2⟩

set_option maxHeartbeats 16000000 in
set_option maxRecDepth 100000 in
theorem floor_walk (w : World) (hTW : TabW w) (ng0 : Bool) (A0 : Option Addr) (ln0 cp0 : Nat) (xs0 : List Nat) (sr0 : Src w A0 ln0 cp0 xs0) (_mx0 : cp0 ≤ maxLen) (tw0 : Int) (_wt0 : (Lit.int .i64 tw0).wf = true) (fv0 : Int) (_wv0 : (Lit.int .i64 fv0).wf = true) (x1 : Int) (_wx1 : (Lit.int .i64 x1).wf = true) :
    Calls Tryd.prog 9 #[xv ng0 (.slice A0 ln0 cp0) tw0 fv0, .int .i64 x1] w (True_ w) := by
  obtain ⟨k, hk, hk1, hk2⟩ := tmod_rng_of x1 401 (by omega)
  have U := Up.refl w
  obtain ⟨p0, hp0, pa0, pb0⟩ := tmod_rng_of tw0 (400 + 1) (by omega)
  obtain ⟨q0, hq0, qa0, qb0⟩ := tmod_rng_of fv0 (400 + 1) (by omega)
  have Hp0 := Lib.hid hp0
  have Hq0 := Lib.hid hq0
  clear hp0 hq0
  go_enter Tryd.func9, Tryd.ntmps9
  go_wp2_with fail
  obtain ⟨V1, hV1⟩ : ∃ V1, w.alloc (.cells #[.bool ng0, .slice A0 ln0 cp0, .int .i64 (tw0), .int .i64 (fv0)] 55) = V1 := ⟨_, rfl⟩
  have uV1 : Up w V1 := by rw [← hV1]; first | exact (Up.refl _).alloc _ | exact ((Up.refl _).alloc _).alloc _ | exact (((Up.refl _).alloc _).alloc _).alloc _ | exact ((((Up.refl _).alloc _).alloc _).alloc _).alloc _
  have b0 : Bx V1 (w.heap.size) ng0 (.slice A0 ln0 cp0) tw0 fv0 := by rw [← hV1]; exact Bx.mk_ w ng0 (.slice A0 ln0 cp0) tw0 fv0
  rw [hV1]
  clear hV1
  replace U := U.trans uV1
  clear uV1
  refine (xshown_any _ (hTW.up U)).mono ?_
  rintro _ w2 ⟨rfl, h2⟩
  replace b0 := b0.up h2
  replace U := U.trans h2
  clear h2
  obtain ⟨⟨b00, b01, b02, b03⟩, b0f0, b0f1, b0f2, b0f3⟩ := id b0
  have b05 := World.block_lt_of_cell? _ _ b00
  simp only at b05
  go_wp2_with fail
  clear b00 b01 b02 b03 b0f0 b0f1 b0f2 b0f3 b05
  have zz0 := World.block_lt_of_cell? _ _ b0.1.1
  simp only at zz0
  refine (small_any _ ng0 A0 ln0 cp0 xs0 tw0 fv0 (sr0.up U) 400 (by omega) p0 q0 Hp0.out Hq0.out).mono ?_
  rintro _ w3 ⟨_, a0, rfl, n0, h3⟩
  replace b0 := b0.up h3
  replace U := U.trans h3
  clear h3
  obtain ⟨An0, sn0, cn0, wn0, rfl, n0⟩ := n0
  replace n0 : Nt w3 _ _ (.slice An0 sn0 cn0) (a0) := ⟨An0, sn0, cn0, wn0, rfl, n0⟩
  obtain ⟨⟨b00, b01, b02, b03⟩, b0f0, b0f1, b0f2, b0f3⟩ := id b0
  have b05 := World.block_lt_of_cell? _ _ b00
  simp only at b05
  go_wp2_with fail
  clear b00 b01 b02 b03 b0f0 b0f1 b0f2 b0f3 b05
  obtain ⟨V4, hV4⟩ : ∃ V4, set4 w3 (w.heap.size) (.bool ng0) (.slice An0 sn0 cn0) (.int .i64 p0) (.int .i64 q0) = V4 := ⟨_, rfl⟩
  rw [show (((w3.setCell ⟨w.heap.size, 0, none⟩ (.bool ng0)).setCell ⟨w.heap.size, 1, none⟩ (.slice An0 sn0 cn0)).setCell ⟨w.heap.size, 2, none⟩ (.int .i64 p0)).setCell ⟨w.heap.size, 3, none⟩ (.int .i64 q0) = V4 from hV4]
  replace b0 : Bx V4 (w.heap.size) ng0 (.slice An0 sn0 cn0) p0 q0 := by rw [← hV4]; exact b0.set4_same
  replace n0 := by have := n0.set4 (b := w.heap.size) (by omega) (.bool ng0) (.slice An0 sn0 cn0) (.int .i64 p0) (.int .i64 q0); rw [hV4] at this; exact this
  replace U : Up w V4 := by rw [← hV4]; exact U.set4 (by omega) _ _ _ _
  have sz0 : V4.heap.size = w3.heap.size := by rw [← hV4]; simp [World.setCell]
  clear hV4
  obtain ⟨V90, hV⟩ : ∃ V, V4.setCell ⟨w.heap.size, 0, none⟩ (.bool false) = V := ⟨_, rfl⟩
  rw [hV]
  replace b0 : Bx V90 (w.heap.size) false (.slice An0 sn0 cn0) p0 q0 := by rw [← hV]; exact setb_now b0
  replace n0 := by have := n0.set_now (b := w.heap.size) (by omega) (.bool false); rw [hV] at this; exact this
  replace U : Up w V90 := by rw [← hV]; exact U.setCell (Nat.le_refl _) _
  clear hV
  have hlt := n0.nw.lt
  obtain ⟨T, hT⟩ : ∃ T : Nat, max 0 (min (p0 - k) 131072) = (T : Int) := ⟨(max 0 (min (p0 - k) 131072)).toNat, by omega⟩
  obtain ⟨F, hF⟩ : ∃ F : Nat, max 0 (min (q0 - k) 10000) = (F : Int) := ⟨(max 0 (min (q0 - k) 10000)).toNat, by omega⟩
  obtain ⟨T', hT'⟩ : ∃ T : Nat, max 0 (min (-(p0 - k)) 131072) = (T : Int) := ⟨(max 0 (min (-(p0 - k)) 131072)).toNat, by omega⟩
  obtain ⟨F', hF'⟩ : ∃ F : Nat, max 0 (min (-(q0 - k)) 10000) = (F : Int) := ⟨(max 0 (min (-(q0 - k)) 10000)).toNat, by omega⟩
  have bT : T ≤ 832 ∧ F ≤ 832 := by omega
  obtain ⟨c, hc⟩ : ∃ c : Nat, (k - -5000).toNat = c := ⟨_, rfl⟩
  have hX := M.ov_parts (a := a0) (F := F) (T := T) (F' := F') (T' := T') (u := (q0 - -5000).toNat) (v := (p0 - -5000).toNat) (K := c) (by omega) (by omega)
  have hB : 0 < 1 * 5 ^ F' * 2 ^ T' := Nat.mul_pos (Nat.mul_pos (by omega) (Nat.pow_pos (by omega))) (Nat.pow_pos (by omega))
  have hP : 0 < 1 * 5 ^ c * 2 ^ c := Nat.mul_pos (Nat.mul_pos (by omega) (Nat.pow_pos (by omega))) (Nat.pow_pos (by omega))
  obtain ⟨q, hq⟩ : ∃ q, a0 * 5 ^ F * 2 ^ T / (1 * 5 ^ F' * 2 ^ T') = q := ⟨_, rfl⟩
  obtain ⟨r, hr⟩ : ∃ r, a0 * 5 ^ F * 2 ^ T % (1 * 5 ^ F' * 2 ^ T') = r := ⟨_, rfl⟩
  have hov : ∀ n, M.ov n k k (-5000) = n * (1 * 5 ^ c * 2 ^ c) := by
    intro n
    rw [M.ov, hc, Nat.one_mul, Nat.mul_assoc]
  have hovh : ∀ n, M.ov n (k - 1) (k - 1) (-5000) * 10 = n * (1 * 5 ^ c * 2 ^ c) := by
    intro n
    obtain ⟨c', rfl⟩ : ∃ c', c = c' + 1 := ⟨c - 1, by omega⟩
    rw [M.ov, show (k - 1 - -5000).toNat = c' by omega, Nat.pow_succ, Nat.pow_succ, Nat.one_mul, show (10 : Nat) = 5 * 2 from rfl]
    ac_rfl
  have FC := M.floor_cmp (X := M.ov a0 p0 q0 (-5000)) (H := M.ov (q * 10 + 5) (k - 1) (k - 1) (-5000)) hB hP hX (hovh _) hq hr
  rw [← hov, ← hov] at FC
  have q128 := M.floor_lt (by have := n0.nw.lt; exact this) bT.2 bT.1 hq
  clear hX hB hP hc hov hovh hlt
  have HT := Lib.hid hT
  have HF := Lib.hid hF
  have HT' := Lib.hid hT'
  have HF' := Lib.hid hF'
  have HQ := Lib.hid hq
  have HR := Lib.hid hr
  clear hT hF hT' hF' hq hr
  obtain ⟨z, hz⟩ : ∃ z, M.part r (1 * 5 ^ F' * 2 ^ T') = z := ⟨_, rfl⟩
  rw [hz] at FC
  have HZ := Lib.hid hz
  have HC := Lib.hid FC
  have HQ1 := Lib.hid (show q < 18446744073709551616 ^ 128 by omega)
  have HQ2 := Lib.hid (show q + 1 < 18446744073709551616 ^ 128 by omega)
  have HQ3 := Lib.hid q128
  clear hz FC q128
  refine (floor_any _ _ 12 false _ p0 q0 a0 n0.nw (by omega) (by omega) (by omega) k k (by show _ = _; omega) T F T' F' HT HF HT' HF' q r HQ HR z HZ).mono ?_
  rintro _ w5 ⟨vq, rfl, nq, h5⟩
  replace b0 := b0.up h5
  replace n0 := n0.up h5
  replace U := U.trans h5
  clear h5
  obtain ⟨Anq, snq, cnq, wnq, rfl, nq⟩ := nq
  replace nq : Nt w5 _ _ (.slice Anq snq cnq) (q) := ⟨Anq, snq, cnq, wnq, rfl, nq⟩
  obtain ⟨⟨b00, b01, b02, b03⟩, b0f0, b0f1, b0f2, b0f3⟩ := id b0
  have b05 := World.block_lt_of_cell? _ _ b00
  simp only at b05
  go_wp2_with fail
  clear b00 b01 b02 b03 b0f0 b0f1 b0f2 b0f3 b05
  refine (dec_yes _ _ _ false _ q k nq.nw HQ1.out ⟨by omega, by omega⟩).mono ?_
  rintro _ w6 ⟨vl, rfl, nl, h6⟩
  replace b0 := b0.up h6
  replace n0 := n0.up h6
  replace nq := nq.up h6
  replace U := U.trans h6
  clear h6
  obtain ⟨Anl, snl, cnl, wnl, rfl, nl⟩ := nl
  replace nl : Nt w6 _ _ (.slice Anl snl cnl) (q) := ⟨Anl, snl, cnl, wnl, rfl, nl⟩
  go_wp2_with fail
  obtain ⟨V7, hV7⟩ : ∃ V7, (w6.alloc (.cells #[.bool false, (.slice Anl snl cnl), .int .i64 (k), .int .i64 (k)] 55)).alloc (.cells #[.int .u64 1] 24) = V7 := ⟨_, rfl⟩
  have uV7 : Up w6 V7 := by rw [← hV7]; first | exact (Up.refl _).alloc _ | exact ((Up.refl _).alloc _).alloc _ | exact (((Up.refl _).alloc _).alloc _).alloc _ | exact ((((Up.refl _).alloc _).alloc _).alloc _).alloc _
  have bl : Bx V7 w6.heap.size false (.slice Anl snl cnl) (k) (k) := by rw [← hV7]; exact (Bx.mk_ _ _ _ _ _).up ((Up.refl _).alloc _)
  have n1 : Nt V7 (w6.heap.size + 1) 1 (.slice (some ⟨w6.heap.size + 1, 0, none⟩) 1 1) 1 := by rw [← hV7]; exact lit1_at (.cells #[.bool false, (.slice Anl snl cnl), .int .i64 (k), .int .i64 (k)] 55) w6 1 1 rfl (by omega) (by omega)
  rw [hV7]
  clear hV7
  replace b0 := b0.up uV7
  replace n0 := n0.up uV7
  replace nq := nq.up uV7
  replace nl := nl.up uV7
  replace U := U.trans uV7
  clear uV7
  refine (add_of _ _ _ _ 1 (12 + F + T / 64 + 4) _ _ q 1 nq.nw n1.nw (by omega) (by omega) (by omega)).mono ?_
  rintro _ w8 ⟨vs, rfl, ns, h8⟩
  replace b0 := b0.up h8
  replace n0 := n0.up h8
  replace nq := nq.up h8
  replace nl := nl.up h8
  replace bl := bl.up h8
  replace n1 := n1.up h8
  replace U := U.trans h8
  clear h8
  clear n1
  obtain ⟨Ans, sns, cns, wns, rfl, ns⟩ := ns
  replace ns : Nt w8 _ _ (.slice Ans sns cns) (q + 1) := ⟨Ans, sns, cns, wns, rfl, ns⟩
  go_wp2_with fail
  refine (dec_yes _ _ _ false _ (q + 1) k ns.nw HQ2.out ⟨by omega, by omega⟩).mono ?_
  rintro _ w9 ⟨vh, rfl, nh, h9⟩
  replace b0 := b0.up h9
  replace n0 := n0.up h9
  replace nq := nq.up h9
  replace nl := nl.up h9
  replace bl := bl.up h9
  replace ns := ns.up h9
  replace U := U.trans h9
  clear h9
  clear ns
  obtain ⟨Anh, snh, cnh, wnh, rfl, nh⟩ := nh
  replace nh : Nt w9 _ _ (.slice Anh snh cnh) (q + 1) := ⟨Anh, snh, cnh, wnh, rfl, nh⟩
  go_wp2_with fail
  obtain ⟨V10, hV10⟩ : ∃ V10, (w9.alloc (.cells #[.bool false, (.slice Anh snh cnh), .int .i64 (k), .int .i64 (k)] 55)).alloc (.cells #[.int .u64 10] 24) = V10 := ⟨_, rfl⟩
  have uV10 : Up w9 V10 := by rw [← hV10]; first | exact (Up.refl _).alloc _ | exact ((Up.refl _).alloc _).alloc _ | exact (((Up.refl _).alloc _).alloc _).alloc _ | exact ((((Up.refl _).alloc _).alloc _).alloc _).alloc _
  have bh : Bx V10 w9.heap.size false (.slice Anh snh cnh) (k) (k) := by rw [← hV10]; exact (Bx.mk_ _ _ _ _ _).up ((Up.refl _).alloc _)
  have n10 : Nt V10 (w9.heap.size + 1) 1 (.slice (some ⟨w9.heap.size + 1, 0, none⟩) 1 1) 10 := by rw [← hV10]; exact lit1_at (.cells #[.bool false, (.slice Anh snh cnh), .int .i64 (k), .int .i64 (k)] 55) w9 10 10 rfl (by omega) (by omega)
  rw [hV10]
  clear hV10
  replace b0 := b0.up uV10
  replace n0 := n0.up uV10
  replace nq := nq.up uV10
  replace nl := nl.up uV10
  replace bl := bl.up uV10
  replace nh := nh.up uV10
  replace U := U.trans uV10
  clear uV10
  refine (mul_any _ _ _ _ _ _ _ q 10 nq.nw n10.nw (by omega) (by omega)).mono ?_
  rintro _ w11 ⟨vm, rfl, nm, h11⟩
  replace b0 := b0.up h11
  replace n0 := n0.up h11
  replace nq := nq.up h11
  replace nl := nl.up h11
  replace bl := bl.up h11
  replace nh := nh.up h11
  replace bh := bh.up h11
  replace n10 := n10.up h11
  replace U := U.trans h11
  clear h11
  clear n10
  obtain ⟨Anm, snm, cnm, wnm, rfl, nm⟩ := nm
  replace nm : Nt w11 _ _ (.slice Anm snm cnm) (q * 10) := ⟨Anm, snm, cnm, wnm, rfl, nm⟩
  go_wp2_with fail
  obtain ⟨V12, hV12⟩ : ∃ V12, w11.alloc (.cells #[.int .u64 5] 24) = V12 := ⟨_, rfl⟩
  have uV12 : Up w11 V12 := by rw [← hV12]; first | exact (Up.refl _).alloc _ | exact ((Up.refl _).alloc _).alloc _ | exact (((Up.refl _).alloc _).alloc _).alloc _ | exact ((((Up.refl _).alloc _).alloc _).alloc _).alloc _
  have n5 : Nt V12 w11.heap.size 1 (.slice (some ⟨w11.heap.size, 0, none⟩) 1 1) 5 := by rw [← hV12]; exact lit1n w11 5 5 rfl (by omega) (by omega)
  rw [hV12]
  clear hV12
  replace b0 := b0.up uV12
  replace n0 := n0.up uV12
  replace nq := nq.up uV12
  replace nl := nl.up uV12
  replace bl := bl.up uV12
  replace nh := nh.up uV12
  replace bh := bh.up uV12
  replace nm := nm.up uV12
  replace U := U.trans uV12
  clear uV12
  refine (add_of _ _ _ _ 1 (12 + F + T / 64 + 4 + 1) _ _ (q * 10) 5 nm.nw n5.nw (by omega) (by omega) (by omega)).mono ?_
  rintro _ w13 ⟨vt, rfl, nt, h13⟩
  replace b0 := b0.up h13
  replace n0 := n0.up h13
  replace nq := nq.up h13
  replace nl := nl.up h13
  replace bl := bl.up h13
  replace nh := nh.up h13
  replace bh := bh.up h13
  replace nm := nm.up h13
  replace n5 := n5.up h13
  replace U := U.trans h13
  clear h13
  clear n5
  clear nm
  obtain ⟨Ant, snt, cnt, wnt, rfl, nt⟩ := nt
  replace nt : Nt w13 _ _ (.slice Ant snt cnt) (q * 10 + 5) := ⟨Ant, snt, cnt, wnt, rfl, nt⟩
  have wk : IntKind.i64.wrap (k - 1) = k - 1 := by simp [IntKind.wrap, IntKind.bits, IntKind.signed]; omega
  go_wp2_with fail
  refine (dec_yes _ _ _ false _ (q * 10 + 5) (k - 1) nt.nw HQ3.out ⟨by omega, by omega⟩).mono ?_
  rintro _ w14 ⟨vf, rfl, nf, h14⟩
  replace b0 := b0.up h14
  replace n0 := n0.up h14
  replace nq := nq.up h14
  replace nl := nl.up h14
  replace bl := bl.up h14
  replace nh := nh.up h14
  replace bh := bh.up h14
  replace nt := nt.up h14
  replace U := U.trans h14
  clear h14
  clear nt
  obtain ⟨Anf, snf, cnf, wnf, rfl, nf⟩ := nf
  replace nf : Nt w14 _ _ (.slice Anf snf cnf) (q * 10 + 5) := ⟨Anf, snf, cnf, wnf, rfl, nf⟩
  clear HQ1 HQ2 HQ3
  obtain ⟨⟨bl0, bl1, bl2, bl3⟩, blf0, blf1, blf2, blf3⟩ := id bl
  have bl5 := World.block_lt_of_cell? _ _ bl0
  simp only at bl5
  obtain ⟨⟨b00, b01, b02, b03⟩, b0f0, b0f1, b0f2, b0f3⟩ := id b0
  have b05 := World.block_lt_of_cell? _ _ b00
  simp only at b05
  go_wp2_with fail
  clear bl0 bl1 bl2 bl3 blf0 blf1 blf2 blf3 bl5
  clear b00 b01 b02 b03 b0f0 b0f1 b0f2 b0f3 b05
  obtain ⟨V15, hV15⟩ : ∃ V15, w14.alloc (.cells #[.bool false, (.slice Anf snf cnf), .int .i64 (k - 1), .int .i64 (k - 1)] 55) = V15 := ⟨_, rfl⟩
  have uV15 : Up w14 V15 := by rw [← hV15]; first | exact (Up.refl _).alloc _ | exact ((Up.refl _).alloc _).alloc _ | exact (((Up.refl _).alloc _).alloc _).alloc _ | exact ((((Up.refl _).alloc _).alloc _).alloc _).alloc _
  have bf : Bx V15 w14.heap.size false (.slice Anf snf cnf) (k - 1) (k - 1) := by rw [← hV15]; exact Bx.mk_ _ _ _ _ _
  rw [hV15]
  clear hV15
  replace b0 := b0.up uV15
  replace n0 := n0.up uV15
  replace nq := nq.up uV15
  replace nl := nl.up uV15
  replace bl := bl.up uV15
  replace nh := nh.up uV15
  replace bh := bh.up uV15
  replace nf := nf.up uV15
  replace U := U.trans uV15
  clear uV15
  obtain ⟨c2, fc⟩ := HC.out
  have C2 := Lib.hid c2
  clear c2 HC HQ HR HT HF HT' HF' HZ
  rcases fc with ⟨rfl, c1, c3⟩ | ⟨rfl, c1, c3⟩ | ⟨rfl, c1, c3⟩ | ⟨rfl, c1, c3⟩
  ·
    have C1 := Lib.hid c1
    have C3 := Lib.hid c3
    clear c1 c3
    refine (xcmp_ov (-5000) ⟨by omega, by omega⟩ _ _ _ _ _ false false _ _ k k p0 q0 q a0 nl.nw n0.nw (by omega) (by omega) ⟨by omega, by omega⟩ ⟨by omega, by omega⟩ ⟨by omega, by omega⟩ ⟨by omega, by omega⟩ 0 C1).mono ?_
    rintro _ w16 ⟨rfl, h16⟩
    replace b0 := b0.up h16
    replace n0 := n0.up h16
    replace nq := nq.up h16
    replace nl := nl.up h16
    replace bl := bl.up h16
    replace nh := nh.up h16
    replace bh := bh.up h16
    replace nf := nf.up h16
    replace bf := bf.up h16
    replace U := U.trans h16
    clear h16
    obtain ⟨⟨b00, b01, b02, b03⟩, b0f0, b0f1, b0f2, b0f3⟩ := id b0
    have b05 := World.block_lt_of_cell? _ _ b00
    simp only at b05
    obtain ⟨⟨bh0, bh1, bh2, bh3⟩, bhf0, bhf1, bhf2, bhf3⟩ := id bh
    have bh5 := World.block_lt_of_cell? _ _ bh0
    simp only at bh5
    go_wp2_with fail
    clear b00 b01 b02 b03 b0f0 b0f1 b0f2 b0f3 b05
    clear bh0 bh1 bh2 bh3 bhf0 bhf1 bhf2 bhf3 bh5
    refine (xcmp_ov (-5000) ⟨by omega, by omega⟩ _ _ _ _ _ false false _ _ p0 q0 k k a0 (q + 1) n0.nw nh.nw (by omega) (by omega) ⟨by omega, by omega⟩ ⟨by omega, by omega⟩ ⟨by omega, by omega⟩ ⟨by omega, by omega⟩ (-1) C2).mono ?_
    rintro _ w17 ⟨rfl, h17⟩
    replace b0 := b0.up h17
    replace n0 := n0.up h17
    replace nq := nq.up h17
    replace nl := nl.up h17
    replace bl := bl.up h17
    replace nh := nh.up h17
    replace bh := bh.up h17
    replace nf := nf.up h17
    replace bf := bf.up h17
    replace U := U.trans h17
    clear h17
    obtain ⟨⟨b00, b01, b02, b03⟩, b0f0, b0f1, b0f2, b0f3⟩ := id b0
    have b05 := World.block_lt_of_cell? _ _ b00
    simp only at b05
    obtain ⟨⟨bl0, bl1, bl2, bl3⟩, blf0, blf1, blf2, blf3⟩ := id bl
    have bl5 := World.block_lt_of_cell? _ _ bl0
    simp only at bl5
    go_wp2_with fail
    clear b00 b01 b02 b03 b0f0 b0f1 b0f2 b0f3 b05
    clear bl0 bl1 bl2 bl3 blf0 blf1 blf2 blf3 bl5
    refine (xcmp_ov (-5000) ⟨by omega, by omega⟩ _ _ _ _ _ false false _ _ k k p0 q0 q a0 nl.nw n0.nw (by omega) (by omega) ⟨by omega, by omega⟩ ⟨by omega, by omega⟩ ⟨by omega, by omega⟩ ⟨by omega, by omega⟩ 0 C1).mono ?_
    rintro _ w18 ⟨rfl, h18⟩
    replace b0 := b0.up h18
    replace n0 := n0.up h18
    replace nq := nq.up h18
    replace nl := nl.up h18
    replace bl := bl.up h18
    replace nh := nh.up h18
    replace bh := bh.up h18
    replace nf := nf.up h18
    replace bf := bf.up h18
    replace U := U.trans h18
    clear h18
    obtain ⟨⟨b00, b01, b02, b03⟩, b0f0, b0f1, b0f2, b0f3⟩ := id b0
    have b05 := World.block_lt_of_cell? _ _ b00
    simp only at b05
    obtain ⟨⟨bf0, bf1, bf2, bf3⟩, bff0, bff1, bff2, bff3⟩ := id bf
    have bf5 := World.block_lt_of_cell? _ _ bf0
    simp only at bf5
    go_wp2_with fail
    clear b00 b01 b02 b03 b0f0 b0f1 b0f2 b0f3 b05
    clear bf0 bf1 bf2 bf3 bff0 bff1 bff2 bff3 bf5
    go_ret
    exact ⟨rfl, U⟩
  ·
    have C1 := Lib.hid c1
    have C3 := Lib.hid c3
    clear c1 c3
    refine (xcmp_ov (-5000) ⟨by omega, by omega⟩ _ _ _ _ _ false false _ _ k k p0 q0 q a0 nl.nw n0.nw (by omega) (by omega) ⟨by omega, by omega⟩ ⟨by omega, by omega⟩ ⟨by omega, by omega⟩ ⟨by omega, by omega⟩ (-1) C1).mono ?_
    rintro _ w16 ⟨rfl, h16⟩
    replace b0 := b0.up h16
    replace n0 := n0.up h16
    replace nq := nq.up h16
    replace nl := nl.up h16
    replace bl := bl.up h16
    replace nh := nh.up h16
    replace bh := bh.up h16
    replace nf := nf.up h16
    replace bf := bf.up h16
    replace U := U.trans h16
    clear h16
    obtain ⟨⟨b00, b01, b02, b03⟩, b0f0, b0f1, b0f2, b0f3⟩ := id b0
    have b05 := World.block_lt_of_cell? _ _ b00
    simp only at b05
    obtain ⟨⟨bh0, bh1, bh2, bh3⟩, bhf0, bhf1, bhf2, bhf3⟩ := id bh
    have bh5 := World.block_lt_of_cell? _ _ bh0
    simp only at bh5
    go_wp2_with fail
    clear b00 b01 b02 b03 b0f0 b0f1 b0f2 b0f3 b05
    clear bh0 bh1 bh2 bh3 bhf0 bhf1 bhf2 bhf3 bh5
    refine (xcmp_ov (-5000) ⟨by omega, by omega⟩ _ _ _ _ _ false false _ _ p0 q0 k k a0 (q + 1) n0.nw nh.nw (by omega) (by omega) ⟨by omega, by omega⟩ ⟨by omega, by omega⟩ ⟨by omega, by omega⟩ ⟨by omega, by omega⟩ (-1) C2).mono ?_
    rintro _ w17 ⟨rfl, h17⟩
    replace b0 := b0.up h17
    replace n0 := n0.up h17
    replace nq := nq.up h17
    replace nl := nl.up h17
    replace bl := bl.up h17
    replace nh := nh.up h17
    replace bh := bh.up h17
    replace nf := nf.up h17
    replace bf := bf.up h17
    replace U := U.trans h17
    clear h17
    obtain ⟨⟨b00, b01, b02, b03⟩, b0f0, b0f1, b0f2, b0f3⟩ := id b0
    have b05 := World.block_lt_of_cell? _ _ b00
    simp only at b05
    obtain ⟨⟨bl0, bl1, bl2, bl3⟩, blf0, blf1, blf2, blf3⟩ := id bl
    have bl5 := World.block_lt_of_cell? _ _ bl0
    simp only at bl5
    go_wp2_with fail
    clear b00 b01 b02 b03 b0f0 b0f1 b0f2 b0f3 b05
    clear bl0 bl1 bl2 bl3 blf0 blf1 blf2 blf3 bl5
    refine (xcmp_ov (-5000) ⟨by omega, by omega⟩ _ _ _ _ _ false false _ _ k k p0 q0 q a0 nl.nw n0.nw (by omega) (by omega) ⟨by omega, by omega⟩ ⟨by omega, by omega⟩ ⟨by omega, by omega⟩ ⟨by omega, by omega⟩ (-1) C1).mono ?_
    rintro _ w18 ⟨rfl, h18⟩
    replace b0 := b0.up h18
    replace n0 := n0.up h18
    replace nq := nq.up h18
    replace nl := nl.up h18
    replace bl := bl.up h18
    replace nh := nh.up h18
    replace bh := bh.up h18
    replace nf := nf.up h18
    replace bf := bf.up h18
    replace U := U.trans h18
    clear h18
    obtain ⟨⟨b00, b01, b02, b03⟩, b0f0, b0f1, b0f2, b0f3⟩ := id b0
    have b05 := World.block_lt_of_cell? _ _ b00
    simp only at b05
    obtain ⟨⟨bf0, bf1, bf2, bf3⟩, bff0, bff1, bff2, bff3⟩ := id bf
    have bf5 := World.block_lt_of_cell? _ _ bf0
    simp only at bf5
    go_wp2_with fail
    clear b00 b01 b02 b03 b0f0 b0f1 b0f2 b0f3 b05
    clear bf0 bf1 bf2 bf3 bff0 bff1 bff2 bff3 bf5
    refine (xcmp_ov (-5000) ⟨by omega, by omega⟩ _ _ _ _ _ false false _ _ p0 q0 (k - 1) (k - 1) a0 (q * 10 + 5) n0.nw nf.nw (by omega) (by omega) ⟨by omega, by omega⟩ ⟨by omega, by omega⟩ ⟨by omega, by omega⟩ ⟨by omega, by omega⟩ (-1) C3).mono ?_
    rintro _ w19 ⟨rfl, h19⟩
    replace b0 := b0.up h19
    replace n0 := n0.up h19
    replace nq := nq.up h19
    replace nl := nl.up h19
    replace bl := bl.up h19
    replace nh := nh.up h19
    replace bh := bh.up h19
    replace nf := nf.up h19
    replace bf := bf.up h19
    replace U := U.trans h19
    clear h19
    go_wp2_with fail
    go_ret
    exact ⟨rfl, U⟩
  ·
    have C1 := Lib.hid c1
    have C3 := Lib.hid c3
    clear c1 c3
    refine (xcmp_ov (-5000) ⟨by omega, by omega⟩ _ _ _ _ _ false false _ _ k k p0 q0 q a0 nl.nw n0.nw (by omega) (by omega) ⟨by omega, by omega⟩ ⟨by omega, by omega⟩ ⟨by omega, by omega⟩ ⟨by omega, by omega⟩ (-1) C1).mono ?_
    rintro _ w16 ⟨rfl, h16⟩
    replace b0 := b0.up h16
    replace n0 := n0.up h16
    replace nq := nq.up h16
    replace nl := nl.up h16
    replace bl := bl.up h16
    replace nh := nh.up h16
    replace bh := bh.up h16
    replace nf := nf.up h16
    replace bf := bf.up h16
    replace U := U.trans h16
    clear h16
    obtain ⟨⟨b00, b01, b02, b03⟩, b0f0, b0f1, b0f2, b0f3⟩ := id b0
    have b05 := World.block_lt_of_cell? _ _ b00
    simp only at b05
    obtain ⟨⟨bh0, bh1, bh2, bh3⟩, bhf0, bhf1, bhf2, bhf3⟩ := id bh
    have bh5 := World.block_lt_of_cell? _ _ bh0
    simp only at bh5
    go_wp2_with fail
    clear b00 b01 b02 b03 b0f0 b0f1 b0f2 b0f3 b05
    clear bh0 bh1 bh2 bh3 bhf0 bhf1 bhf2 bhf3 bh5
    refine (xcmp_ov (-5000) ⟨by omega, by omega⟩ _ _ _ _ _ false false _ _ p0 q0 k k a0 (q + 1) n0.nw nh.nw (by omega) (by omega) ⟨by omega, by omega⟩ ⟨by omega, by omega⟩ ⟨by omega, by omega⟩ ⟨by omega, by omega⟩ (-1) C2).mono ?_
    rintro _ w17 ⟨rfl, h17⟩
    replace b0 := b0.up h17
    replace n0 := n0.up h17
    replace nq := nq.up h17
    replace nl := nl.up h17
    replace bl := bl.up h17
    replace nh := nh.up h17
    replace bh := bh.up h17
    replace nf := nf.up h17
    replace bf := bf.up h17
    replace U := U.trans h17
    clear h17
    obtain ⟨⟨b00, b01, b02, b03⟩, b0f0, b0f1, b0f2, b0f3⟩ := id b0
    have b05 := World.block_lt_of_cell? _ _ b00
    simp only at b05
    obtain ⟨⟨bl0, bl1, bl2, bl3⟩, blf0, blf1, blf2, blf3⟩ := id bl
    have bl5 := World.block_lt_of_cell? _ _ bl0
    simp only at bl5
    go_wp2_with fail
    clear b00 b01 b02 b03 b0f0 b0f1 b0f2 b0f3 b05
    clear bl0 bl1 bl2 bl3 blf0 blf1 blf2 blf3 bl5
    refine (xcmp_ov (-5000) ⟨by omega, by omega⟩ _ _ _ _ _ false false _ _ k k p0 q0 q a0 nl.nw n0.nw (by omega) (by omega) ⟨by omega, by omega⟩ ⟨by omega, by omega⟩ ⟨by omega, by omega⟩ ⟨by omega, by omega⟩ (-1) C1).mono ?_
    rintro _ w18 ⟨rfl, h18⟩
    replace b0 := b0.up h18
    replace n0 := n0.up h18
    replace nq := nq.up h18
    replace nl := nl.up h18
    replace bl := bl.up h18
    replace nh := nh.up h18
    replace bh := bh.up h18
    replace nf := nf.up h18
    replace bf := bf.up h18
    replace U := U.trans h18
    clear h18
    obtain ⟨⟨b00, b01, b02, b03⟩, b0f0, b0f1, b0f2, b0f3⟩ := id b0
    have b05 := World.block_lt_of_cell? _ _ b00
    simp only at b05
    obtain ⟨⟨bf0, bf1, bf2, bf3⟩, bff0, bff1, bff2, bff3⟩ := id bf
    have bf5 := World.block_lt_of_cell? _ _ bf0
    simp only at bf5
    go_wp2_with fail
    clear b00 b01 b02 b03 b0f0 b0f1 b0f2 b0f3 b05
    clear bf0 bf1 bf2 bf3 bff0 bff1 bff2 bff3 bf5
    refine (xcmp_ov (-5000) ⟨by omega, by omega⟩ _ _ _ _ _ false false _ _ p0 q0 (k - 1) (k - 1) a0 (q * 10 + 5) n0.nw nf.nw (by omega) (by omega) ⟨by omega, by omega⟩ ⟨by omega, by omega⟩ ⟨by omega, by omega⟩ ⟨by omega, by omega⟩ (0) C3).mono ?_
    rintro _ w19 ⟨rfl, h19⟩
    replace b0 := b0.up h19
    replace n0 := n0.up h19
    replace nq := nq.up h19
    replace nl := nl.up h19
    replace bl := bl.up h19
    replace nh := nh.up h19
    replace bh := bh.up h19
    replace nf := nf.up h19
    replace bf := bf.up h19
    replace U := U.trans h19
    clear h19
    go_wp2_with fail
    go_ret
    exact ⟨rfl, U⟩
  ·
    have C1 := Lib.hid c1
    have C3 := Lib.hid c3
    clear c1 c3
    refine (xcmp_ov (-5000) ⟨by omega, by omega⟩ _ _ _ _ _ false false _ _ k k p0 q0 q a0 nl.nw n0.nw (by omega) (by omega) ⟨by omega, by omega⟩ ⟨by omega, by omega⟩ ⟨by omega, by omega⟩ ⟨by omega, by omega⟩ (-1) C1).mono ?_
    rintro _ w16 ⟨rfl, h16⟩
    replace b0 := b0.up h16
    replace n0 := n0.up h16
    replace nq := nq.up h16
    replace nl := nl.up h16
    replace bl := bl.up h16
    replace nh := nh.up h16
    replace bh := bh.up h16
    replace nf := nf.up h16
    replace bf := bf.up h16
    replace U := U.trans h16
    clear h16
    obtain ⟨⟨b00, b01, b02, b03⟩, b0f0, b0f1, b0f2, b0f3⟩ := id b0
    have b05 := World.block_lt_of_cell? _ _ b00
    simp only at b05
    obtain ⟨⟨bh0, bh1, bh2, bh3⟩, bhf0, bhf1, bhf2, bhf3⟩ := id bh
    have bh5 := World.block_lt_of_cell? _ _ bh0
    simp only at bh5
    go_wp2_with fail
    clear b00 b01 b02 b03 b0f0 b0f1 b0f2 b0f3 b05
    clear bh0 bh1 bh2 bh3 bhf0 bhf1 bhf2 bhf3 bh5
    refine (xcmp_ov (-5000) ⟨by omega, by omega⟩ _ _ _ _ _ false false _ _ p0 q0 k k a0 (q + 1) n0.nw nh.nw (by omega) (by omega) ⟨by omega, by omega⟩ ⟨by omega, by omega⟩ ⟨by omega, by omega⟩ ⟨by omega, by omega⟩ (-1) C2).mono ?_
    rintro _ w17 ⟨rfl, h17⟩
    replace b0 := b0.up h17
    replace n0 := n0.up h17
    replace nq := nq.up h17
    replace nl := nl.up h17
    replace bl := bl.up h17
    replace nh := nh.up h17
    replace bh := bh.up h17
    replace nf := nf.up h17
    replace bf := bf.up h17
    replace U := U.trans h17
    clear h17
    obtain ⟨⟨b00, b01, b02, b03⟩, b0f0, b0f1, b0f2, b0f3⟩ := id b0
    have b05 := World.block_lt_of_cell? _ _ b00
    simp only at b05
    obtain ⟨⟨bl0, bl1, bl2, bl3⟩, blf0, blf1, blf2, blf3⟩ := id bl
    have bl5 := World.block_lt_of_cell? _ _ bl0
    simp only at bl5
    go_wp2_with fail
    clear b00 b01 b02 b03 b0f0 b0f1 b0f2 b0f3 b05
    clear bl0 bl1 bl2 bl3 blf0 blf1 blf2 blf3 bl5
    refine (xcmp_ov (-5000) ⟨by omega, by omega⟩ _ _ _ _ _ false false _ _ k k p0 q0 q a0 nl.nw n0.nw (by omega) (by omega) ⟨by omega, by omega⟩ ⟨by omega, by omega⟩ ⟨by omega, by omega⟩ ⟨by omega, by omega⟩ (-1) C1).mono ?_
    rintro _ w18 ⟨rfl, h18⟩
    replace b0 := b0.up h18
    replace n0 := n0.up h18
    replace nq := nq.up h18
    replace nl := nl.up h18
    replace bl := bl.up h18
    replace nh := nh.up h18
    replace bh := bh.up h18
    replace nf := nf.up h18
    replace bf := bf.up h18
    replace U := U.trans h18
    clear h18
    obtain ⟨⟨b00, b01, b02, b03⟩, b0f0, b0f1, b0f2, b0f3⟩ := id b0
    have b05 := World.block_lt_of_cell? _ _ b00
    simp only at b05
    obtain ⟨⟨bf0, bf1, bf2, bf3⟩, bff0, bff1, bff2, bff3⟩ := id bf
    have bf5 := World.block_lt_of_cell? _ _ bf0
    simp only at bf5
    go_wp2_with fail
    clear b00 b01 b02 b03 b0f0 b0f1 b0f2 b0f3 b05
    clear bf0 bf1 bf2 bf3 bff0 bff1 bff2 bff3 bf5
    refine (xcmp_ov (-5000) ⟨by omega, by omega⟩ _ _ _ _ _ false false _ _ p0 q0 (k - 1) (k - 1) a0 (q * 10 + 5) n0.nw nf.nw (by omega) (by omega) ⟨by omega, by omega⟩ ⟨by omega, by omega⟩ ⟨by omega, by omega⟩ ⟨by omega, by omega⟩ (1) C3).mono ?_
    rintro _ w19 ⟨rfl, h19⟩
    replace b0 := b0.up h19
    replace n0 := n0.up h19
    replace nq := nq.up h19
    replace nl := nl.up h19
    replace bl := bl.up h19
    replace nh := nh.up h19
    replace bh := bh.up h19
    replace nf := nf.up h19
    replace bf := bf.up h19
    replace U := U.trans h19
    clear h19
    go_wp2_with fail
    go_ret
    exact ⟨rfl, U⟩
end Go.Proofs.YtdokioefcfcfnaaDoor
