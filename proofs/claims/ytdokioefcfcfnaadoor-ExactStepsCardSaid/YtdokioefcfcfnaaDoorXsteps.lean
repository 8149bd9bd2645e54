/-
  The walk of ExactSteps: true, and nothing that was there has turned.
-/
import Derived.Test.YtdokioefcfcfnaaDoorEx7
namespace Go.Proofs.YtdokioefcfcfnaaDoor
open Go.RowKit Go.Shelf
attribute [local go_sem ↓] Go.wp_at_zero Go.wp_at_succ

namespace M
/-- What is told of the next step, by the last digit and what is told of this one. -/
def rest (d : Nat) (z : Int) : Int := if d = 0 ∧ z = 0 then 0 else if d < 5 then 1 else if d = 5 ∧ z = 0 then 2 else 3
theorem step_eq {a F T F' T' F1 T1 F1' T1' : Nat} (hf : F1 + F' = F + F1' + 1) (ht : T1 + T' = T + T1' + 1) :
    a * 5 ^ F1 * 2 ^ T1 * (1 * 5 ^ F' * 2 ^ T') = 10 * (a * 5 ^ F * 2 ^ T) * (1 * 5 ^ F1' * 2 ^ T1') := by
  have e5 : 5 ^ F1 * 5 ^ F' = 5 * (5 ^ F * 5 ^ F1') := by rw [← Nat.pow_add, hf, Nat.pow_succ, Nat.pow_add, Nat.mul_comm]
  have e2 : 2 ^ T1 * 2 ^ T' = 2 * (2 ^ T * 2 ^ T1') := by rw [← Nat.pow_add, ht, Nat.pow_succ, Nat.pow_add, Nat.mul_comm]
  have l : a * 5 ^ F1 * 2 ^ T1 * (1 * 5 ^ F' * 2 ^ T') = a * (5 ^ F1 * 5 ^ F') * (2 ^ T1 * 2 ^ T') := by
    rw [Nat.one_mul]
    ac_rfl
  rw [l, e5, e2, show (10 : Nat) = 5 * 2 from rfl, Nat.one_mul]
  ac_rfl
theorem part_same {A1 B1 C B : Nat} (hB : 0 < B) (hB1 : 0 < B1) (h : A1 * B = C * B1) : A1 / B1 = C / B ∧ part (A1 % B1) B1 = part (C % B) B := by
  have e1 : A1 / B1 = C / B := by rw [← Nat.mul_div_mul_right A1 B1 hB, h, Nat.mul_comm B1 B, Nat.mul_div_mul_right _ _ hB1]
  have e2 : (A1 % B1) * B = (C % B) * B1 := by rw [← Nat.mul_mod_mul_right, h, Nat.mul_comm B1 B, Nat.mul_mod_mul_right]
  refine ⟨e1, ?_⟩
  obtain ⟨r, hr⟩ : ∃ r, A1 % B1 = r := ⟨_, rfl⟩
  obtain ⟨s, hs⟩ : ∃ s, C % B = s := ⟨_, rfl⟩
  rw [hr, hs] at e2 ⊢
  have ez : r = 0 ↔ s = 0 := by
    constructor
    · intro e
      rw [e, Nat.zero_mul] at e2
      rcases Nat.mul_eq_zero.1 e2.symm with e | e
      · exact e
      · omega
    · intro e
      rw [e, Nat.zero_mul] at e2
      rcases Nat.mul_eq_zero.1 e2 with e | e
      · exact e
      · omega
  unfold part
  by_cases h0 : s = 0
  · rw [if_pos h0, if_pos (ez.2 h0)]
  · rw [if_neg h0, if_neg (fun e => h0 (ez.1 e))]
    rw [← cmp_times (r * 2) B1 B hB, ← cmp_times (s * 2) B B1 hB1]
    rw [show r * 2 * B = s * 2 * B1 by rw [Nat.mul_right_comm r 2 B, e2, Nat.mul_right_comm], Nat.mul_comm B1 B]
theorem step {A B A1 B1 : Nat} (hB : 0 < B) (hB1 : 0 < B1) (h : A1 * B = 10 * A * B1) :
    A1 / B1 / 10 = A / B ∧ part (A % B) B = rest (A1 / B1 % 10) (part (A1 % B1) B1) := by
  obtain ⟨h1, h2⟩ := part_same hB hB1 h
  rw [h1, h2]
  obtain ⟨q, hq⟩ : ∃ q, A / B = q := ⟨_, rfl⟩
  obtain ⟨R, hR⟩ : ∃ R, A % B = R := ⟨_, rfl⟩
  have hA := Nat.div_add_mod A B
  rw [hq, hR] at hA ⊢
  have hRB : R < B := by rw [← hR]; exact Nat.mod_lt _ hB
  have eA : 10 * A = B * (10 * q) + 10 * R := by rw [← hA, Nat.mul_add, Nat.mul_left_comm]
  rw [eA, Nat.mul_add_div hB, Nat.mul_add_mod B]
  obtain ⟨d, hd⟩ : ∃ d, 10 * R / B = d := ⟨_, rfl⟩
  obtain ⟨e, he⟩ : ∃ e, 10 * R % B = e := ⟨_, rfl⟩
  have hD := Nat.div_add_mod (10 * R) B
  have heB : e < B := by rw [← he]; exact Nat.mod_lt _ hB
  have hd10 : d < 10 := by rw [← hd]; exact Nat.div_lt_of_lt_mul (by omega)
  rw [hd, he] at hD ⊢
  clear hd he hq hR hA eA h1 h2 h
  refine ⟨by omega, ?_⟩
  rw [show (10 * q + d) % 10 = d by omega]
  have hd' : d = 0 ∨ d = 1 ∨ d = 2 ∨ d = 3 ∨ d = 4 ∨ d = 5 ∨ d = 6 ∨ d = 7 ∨ d = 8 ∨ d = 9 := by omega
  have pz : part e B = 0 ↔ e = 0 := by
    unfold part
    by_cases h0 : e = 0
    · rw [if_pos h0]
      simp [h0]
    · rw [if_neg h0]
      have := cmp_rng (e * 2) B
      omega
  obtain ⟨z, hz⟩ : ∃ z, part e B = z := ⟨_, rfl⟩
  rw [hz] at pz ⊢
  clear hz
  have c : (R = 0 ∧ d = 0 ∧ e = 0) ∨ (R ≠ 0 ∧ R * 2 < B ∧ d < 5 ∧ ¬ (d = 0 ∧ e = 0)) ∨ (R ≠ 0 ∧ R * 2 = B ∧ d = 5 ∧ e = 0) ∨ (R ≠ 0 ∧ B < R * 2 ∧ 5 ≤ d ∧ ¬ (d = 5 ∧ e = 0)) := by
    rcases hd' with rfl | rfl | rfl | rfl | rfl | rfl | rfl | rfl | rfl | rfl <;> omega
  rcases c with ⟨h1, h2, h3⟩ | ⟨h1, h2, h3, h4⟩ | ⟨h1, h2, h3, h4⟩ | ⟨h1, h2, h3, h4⟩
  · rw [part, if_pos h1, rest, if_pos ⟨h2, pz.2 h3⟩]
  · rw [part, if_neg h1, cmp_lt h2, rest, if_neg (fun x => h4 ⟨x.1, pz.1 x.2⟩), if_pos h3]
    rfl
  · rw [part, if_neg h1, cmp_eq h2, rest, if_neg (fun x => by omega), if_neg (by omega), if_pos ⟨h3, pz.2 h4⟩]
    rfl
  · rw [part, if_neg h1, cmp_gt h2, rest, if_neg (fun x => by omega), if_neg (by omega), if_neg (fun x => h4 ⟨x.1, pz.1 x.2⟩)]
    rfl
end M

set_option maxHeartbeats 16000000 in
set_option maxRecDepth 100000 in
theorem steps_walk (w : World) (hTW : TabW w) (ng0 : Bool) (A0 : Option Addr) (ln0 cp0 : Nat) (xs0 : List Nat) (sr0 : Src w A0 ln0 cp0 xs0) (_mx0 : cp0 ≤ maxLen) (tw0 : Int) (_wt0 : (Lit.int .i64 tw0).wf = true) (fv0 : Int) (_wv0 : (Lit.int .i64 fv0).wf = true) (x1 : Int) (_wx1 : (Lit.int .i64 x1).wf = true) :
    Calls Tryd.prog 12 #[xv ng0 (.slice A0 ln0 cp0) tw0 fv0, .int .i64 x1] w (True_ w) := by
  obtain ⟨k, hk, hk1, hk2⟩ := tmod_rng_of x1 301 (by omega)
  have U := Up.refl w
  obtain ⟨p0, hp0, pa0, pb0⟩ := tmod_rng_of tw0 (300 + 1) (by omega)
  obtain ⟨q0, hq0, qa0, qb0⟩ := tmod_rng_of fv0 (300 + 1) (by omega)
  have Hp0 := Lib.hid hp0
  have Hq0 := Lib.hid hq0
  clear hp0 hq0
  go_enter Tryd.func12, Tryd.ntmps12
  go_wp2_with fail
  obtain ⟨V1, hV1⟩ : ∃ V1, w.alloc (.cells #[.bool ng0, .slice A0 ln0 cp0, .int .i64 (tw0), .int .i64 (fv0)] 55) = V1 := ⟨_, rfl⟩
  have uV1 : Up w V1 := by rw [← hV1]; first | exact (Up.refl _).alloc _ | exact ((Up.refl _).alloc _).alloc _ | exact (((Up.refl _).alloc _).alloc _).alloc _ | exact ((((Up.refl _).alloc _).alloc _).alloc _).alloc _
  have b0 : Bx V1 (w.heap.size) ng0 (.slice A0 ln0 cp0) tw0 fv0 := by rw [← hV1]; exact Bx.mk_ w ng0 (.slice A0 ln0 cp0) tw0 fv0
  rw [hV1]
  clear hV1
  replace U := U.trans uV1
  clear uV1
  refine (xshown_any _ (hTW.up U)).mono ?_
  rintro _ w2 ⟨rfl, h2⟩
  replace b0 := b0.up h2
  replace U := U.trans h2
  clear h2
  obtain ⟨⟨b00, b01, b02, b03⟩, b0f0, b0f1, b0f2, b0f3⟩ := id b0
  have b05 := World.block_lt_of_cell? _ _ b00
  simp only at b05
  go_wp2_with fail
  clear b00 b01 b02 b03 b0f0 b0f1 b0f2 b0f3 b05
  have zz0 := World.block_lt_of_cell? _ _ b0.1.1
  simp only at zz0
  refine (small_any _ ng0 A0 ln0 cp0 xs0 tw0 fv0 (sr0.up U) 300 (by omega) p0 q0 Hp0.out Hq0.out).mono ?_
  rintro _ w3 ⟨_, a0, rfl, n0, h3⟩
  replace b0 := b0.up h3
  replace U := U.trans h3
  clear h3
  obtain ⟨An0, sn0, cn0, wn0, rfl, n0⟩ := n0
  replace n0 : Nt w3 _ _ (.slice An0 sn0 cn0) (a0) := ⟨An0, sn0, cn0, wn0, rfl, n0⟩
  obtain ⟨⟨b00, b01, b02, b03⟩, b0f0, b0f1, b0f2, b0f3⟩ := id b0
  have b05 := World.block_lt_of_cell? _ _ b00
  simp only at b05
  go_wp2_with fail
  clear b00 b01 b02 b03 b0f0 b0f1 b0f2 b0f3 b05
  obtain ⟨V4, hV4⟩ : ∃ V4, set4 w3 (w.heap.size) (.bool ng0) (.slice An0 sn0 cn0) (.int .i64 p0) (.int .i64 q0) = V4 := ⟨_, rfl⟩
  rw [show (((w3.setCell ⟨w.heap.size, 0, none⟩ (.bool ng0)).setCell ⟨w.heap.size, 1, none⟩ (.slice An0 sn0 cn0)).setCell ⟨w.heap.size, 2, none⟩ (.int .i64 p0)).setCell ⟨w.heap.size, 3, none⟩ (.int .i64 q0) = V4 from hV4]
  replace b0 : Bx V4 (w.heap.size) ng0 (.slice An0 sn0 cn0) p0 q0 := by rw [← hV4]; exact b0.set4_same
  replace n0 := by have := n0.set4 (b := w.heap.size) (by omega) (.bool ng0) (.slice An0 sn0 cn0) (.int .i64 p0) (.int .i64 q0); rw [hV4] at this; exact this
  replace U : Up w V4 := by rw [← hV4]; exact U.set4 (by omega) _ _ _ _
  have sz0 : V4.heap.size = w3.heap.size := by rw [← hV4]; simp [World.setCell]
  clear hV4
  obtain ⟨T, hT⟩ : ∃ T : Nat, max 0 (min (p0 - k) 131072) = (T : Int) := ⟨(max 0 (min (p0 - k) 131072)).toNat, by omega⟩
  obtain ⟨F, hF⟩ : ∃ F : Nat, max 0 (min (q0 - k) 10000) = (F : Int) := ⟨(max 0 (min (q0 - k) 10000)).toNat, by omega⟩
  obtain ⟨T', hT'⟩ : ∃ T : Nat, max 0 (min (-(p0 - k)) 131072) = (T : Int) := ⟨(max 0 (min (-(p0 - k)) 131072)).toNat, by omega⟩
  obtain ⟨F', hF'⟩ : ∃ F : Nat, max 0 (min (-(q0 - k)) 10000) = (F : Int) := ⟨(max 0 (min (-(q0 - k)) 10000)).toNat, by omega⟩
  obtain ⟨T1, hT1⟩ : ∃ T : Nat, max 0 (min (p0 - (k - 1)) 131072) = (T : Int) := ⟨(max 0 (min (p0 - (k - 1)) 131072)).toNat, by omega⟩
  obtain ⟨F1, hF1⟩ : ∃ F : Nat, max 0 (min (q0 - (k - 1)) 10000) = (F : Int) := ⟨(max 0 (min (q0 - (k - 1)) 10000)).toNat, by omega⟩
  obtain ⟨T1', hT1'⟩ : ∃ T : Nat, max 0 (min (-(p0 - (k - 1))) 131072) = (T : Int) := ⟨(max 0 (min (-(p0 - (k - 1))) 131072)).toNat, by omega⟩
  obtain ⟨F1', hF1'⟩ : ∃ F : Nat, max 0 (min (-(q0 - (k - 1))) 10000) = (F : Int) := ⟨(max 0 (min (-(q0 - (k - 1))) 10000)).toNat, by omega⟩
  have bT : T ≤ 1000 ∧ F ≤ 1000 ∧ T1 ≤ 1000 ∧ F1 ≤ 1000 := by omega
  have st := M.step_eq (a := a0) (F := F) (T := T) (F' := F') (T' := T') (F1 := F1) (T1 := T1) (F1' := F1') (T1' := T1') (by omega) (by omega)
  have hB : 0 < 1 * 5 ^ F' * 2 ^ T' := Nat.mul_pos (Nat.mul_pos (by omega) (Nat.pow_pos (by omega))) (Nat.pow_pos (by omega))
  have hB1 : 0 < 1 * 5 ^ F1' * 2 ^ T1' := Nat.mul_pos (Nat.mul_pos (by omega) (Nat.pow_pos (by omega))) (Nat.pow_pos (by omega))
  obtain ⟨s1, s2⟩ := M.step hB hB1 st
  have hz1 := M.part_rng (a0 * 5 ^ F1 * 2 ^ T1 % (1 * 5 ^ F1' * 2 ^ T1')) (1 * 5 ^ F1' * 2 ^ T1')
  clear st hB hB1
  have HT := Lib.hid hT
  have HF := Lib.hid hF
  have HT' := Lib.hid hT'
  have HF' := Lib.hid hF'
  have HT1 := Lib.hid hT1
  have HF1 := Lib.hid hF1
  have HT1' := Lib.hid hT1'
  have HF1' := Lib.hid hF1'
  clear hT hF hT' hF' hT1 hF1 hT1' hF1'
  obtain ⟨q, hq⟩ : ∃ q, a0 * 5 ^ F * 2 ^ T / (1 * 5 ^ F' * 2 ^ T') = q := ⟨_, rfl⟩
  obtain ⟨r, hr⟩ : ∃ r, a0 * 5 ^ F * 2 ^ T % (1 * 5 ^ F' * 2 ^ T') = r := ⟨_, rfl⟩
  obtain ⟨q1, hq1⟩ : ∃ q, a0 * 5 ^ F1 * 2 ^ T1 / (1 * 5 ^ F1' * 2 ^ T1') = q := ⟨_, rfl⟩
  obtain ⟨r1, hr1⟩ : ∃ r, a0 * 5 ^ F1 * 2 ^ T1 % (1 * 5 ^ F1' * 2 ^ T1') = r := ⟨_, rfl⟩
  rw [hr, hq1, hr1] at s2
  rw [hr1] at hz1
  rw [hq, hq1] at s1
  have HQ := Lib.hid hq
  have HR := Lib.hid hr
  have HQ1 := Lib.hid hq1
  have HR1 := Lib.hid hr1
  clear hq hr hq1 hr1
  obtain ⟨z, hz⟩ : ∃ z, M.part r (1 * 5 ^ F' * 2 ^ T') = z := ⟨_, rfl⟩
  obtain ⟨y, hy⟩ : ∃ y, M.part r1 (1 * 5 ^ F1' * 2 ^ T1') = y := ⟨_, rfl⟩
  obtain ⟨d, hd⟩ : ∃ d, q1 % 10 = d := ⟨_, rfl⟩
  rw [hy] at hz1
  rw [hz, hy, hd] at s2
  have hd10 : d < 10 := by omega
  have HZ := Lib.hid hz
  have HY := Lib.hid hy
  have HS := Lib.hid s2
  have HS1 := Lib.hid s1
  have HD := Lib.hid hd
  clear hz hy s2 s1 hd
  refine (floor_any _ _ 12 ng0 _ p0 q0 a0 n0.nw (by omega) (by omega) (by omega) k k (by show _ = _; omega) T F T' F' HT HF HT' HF' q r HQ HR z HZ).mono ?_
  rintro _ w5 ⟨vq, rfl, nq, h5⟩
  replace b0 := b0.up h5
  replace n0 := n0.up h5
  replace U := U.trans h5
  clear h5
  obtain ⟨Anq, snq, cnq, wnq, rfl, nq⟩ := nq
  replace nq : Nt w5 _ _ (.slice Anq snq cnq) (q) := ⟨Anq, snq, cnq, wnq, rfl, nq⟩
  have wk : IntKind.i64.wrap (k - 1) = k - 1 := by simp [IntKind.wrap, IntKind.bits, IntKind.signed]; omega
  obtain ⟨⟨b00, b01, b02, b03⟩, b0f0, b0f1, b0f2, b0f3⟩ := id b0
  have b05 := World.block_lt_of_cell? _ _ b00
  simp only at b05
  go_wp2_with fail
  clear b00 b01 b02 b03 b0f0 b0f1 b0f2 b0f3 b05
  refine (floor_any _ _ 12 ng0 _ p0 q0 a0 n0.nw (by omega) (by omega) (by omega) (k - 1) (k - 1) (by show _ = _; omega) T1 F1 T1' F1' HT1 HF1 HT1' HF1' q1 r1 HQ1 HR1 y HY).mono ?_
  rintro _ w6 ⟨vp, rfl, np, h6⟩
  replace b0 := b0.up h6
  replace n0 := n0.up h6
  replace nq := nq.up h6
  replace U := U.trans h6
  clear h6
  obtain ⟨Anp, snp, cnp, wnp, rfl, np⟩ := np
  replace np : Nt w6 _ _ (.slice Anp snp cnp) (q1) := ⟨Anp, snp, cnp, wnp, rfl, np⟩
  obtain ⟨⟨b00, b01, b02, b03⟩, b0f0, b0f1, b0f2, b0f3⟩ := id b0
  have b05 := World.block_lt_of_cell? _ _ b00
  simp only at b05
  go_wp2_with fail
  clear b00 b01 b02 b03 b0f0 b0f1 b0f2 b0f3 b05
  obtain ⟨V7, hV7⟩ : ∃ V7, w6.alloc (.cells #[.int .u64 10] 24) = V7 := ⟨_, rfl⟩
  have uV7 : Up w6 V7 := by rw [← hV7]; first | exact (Up.refl _).alloc _ | exact ((Up.refl _).alloc _).alloc _ | exact (((Up.refl _).alloc _).alloc _).alloc _ | exact ((((Up.refl _).alloc _).alloc _).alloc _).alloc _
  have nl : Nt V7 w6.heap.size 1 (.slice (some ⟨w6.heap.size, 0, none⟩) 1 1) 10 := by rw [← hV7]; exact lit1n w6 10 10 rfl (by omega) (by omega)
  rw [hV7]
  clear hV7
  replace b0 := b0.up uV7
  replace n0 := n0.up uV7
  replace nq := nq.up uV7
  replace np := np.up uV7
  replace U := U.trans uV7
  clear uV7
  refine (div_any _ _ _ _ _ _ _ q1 10 np.nw nl.nw (by omega) (by omega)).mono ?_
  rintro _ w8 ⟨vd, vr, rfl, nd, nr, h8⟩
  replace b0 := b0.up h8
  replace n0 := n0.up h8
  replace nq := nq.up h8
  replace np := np.up h8
  replace nl := nl.up h8
  replace U := U.trans h8
  clear h8
  obtain ⟨And, snd, cnd, wnd, rfl, nd⟩ := nd
  replace nd : Nt w8 _ _ (.slice And snd cnd) (q1 / 10) := ⟨And, snd, cnd, wnd, rfl, nd⟩
  obtain ⟨Anr, snr, cnr, wnr, rfl, nr⟩ := nr
  replace nr : Nt w8 _ _ (.slice Anr snr cnr) (q1 % 10) := ⟨Anr, snr, cnr, wnr, rfl, nr⟩
  rw [HD.out] at nr
  go_wp2_with fail
  refine (word_any _ _ _ _ d nr.nw).mono ?_
  rintro _ _ ⟨rfl, rfl⟩
  go_wp2_with fail
  refine (cmp_same _ _ _ _ _ _ _ _ _ nd.nw nq.nw HS1.out).mono ?_
  rintro _ w10 ⟨rfl, kk, hk⟩
  have h10 : Up w8 w10 := by rw [hk]; exact (Up.refl _).drewN _
  clear hk
  replace b0 := b0.up h10
  replace n0 := n0.up h10
  replace nq := nq.up h10
  replace np := np.up h10
  replace nl := nl.up h10
  replace nd := nd.up h10
  replace nr := nr.up h10
  replace U := U.trans h10
  clear h10
  have hd' : d = 0 ∨ d = 1 ∨ d = 2 ∨ d = 3 ∨ d = 4 ∨ d = 5 ∨ d = 6 ∨ d = 7 ∨ d = 8 ∨ d = 9 := by omega
  have hy' : y = 0 ∨ y = 1 ∨ y = 2 ∨ y = 3 := by omega
  clear nd nr nl np nq n0 b0 HQ HR HQ1 HR1 HT HF HT' HF' HT1 HF1 HT1' HF1' HZ HY HS1 HD hz1 hd10
  rcases hd' with rfl | rfl | rfl | rfl | rfl | rfl | rfl | rfl | rfl | rfl <;> rcases hy' with rfl | rfl | rfl | rfl
  all_goals
    have hz := HS.out
    simp [M.rest] at hz
    subst hz
    go_wp2_with fail
    go_ret
    exact ⟨rfl, U⟩
end Go.Proofs.YtdokioefcfcfnaaDoor
