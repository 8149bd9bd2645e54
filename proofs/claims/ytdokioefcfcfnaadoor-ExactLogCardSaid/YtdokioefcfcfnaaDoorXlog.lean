/-
  The walk of ExactLog: true, and nothing that was there has turned.
-/
import Derived.Test.YtdokioefcfcfnaaDoorEx7
import Derived.Deep.DrawnRows
import Derived.Deep.RegionWith
namespace Go.Proofs.YtdokioefcfcfnaaDoor
open Go.RowKit Go.Shelf
attribute [local go_sem ↓] Go.wp_at_zero Go.wp_at_succ

namespace M
theorem digits_bounds : ∀ (n x : Nat), x ≤ n → 0 < x → 10 ^ ((Lib.decDigits x).length - 1) ≤ x ∧ x < 10 ^ (Lib.decDigits x).length := by
  intro n
  induction n with
  | zero => intro x h h0; omega
  | succ n ih =>
    intro x hx h0
    rcases Nat.lt_or_ge x 10 with h | h
    · rw [Lib.decDigits, dif_pos h]
      simp
      omega
    · obtain ⟨h1, h2⟩ := ih (x / 10) (by omega) (by omega)
      rw [Lib.decDigits, dif_neg (by omega), List.length_append]
      obtain ⟨l, hl⟩ : ∃ l, (Lib.decDigits (x / 10)).length = l := ⟨_, rfl⟩
      rw [hl] at h1 h2 ⊢
      have hl0 : 0 < l := by
        rcases Nat.eq_zero_or_pos l with e | e
        · rw [e] at h2; simp at h2; omega
        · exact e
      simp only [List.length_cons, List.length_nil, Nat.zero_add, Nat.add_sub_cancel]
      constructor
      · obtain ⟨l', rfl⟩ : ∃ l', l = l' + 1 := ⟨l - 1, by omega⟩
        rw [Nat.add_sub_cancel] at h1
        rw [Nat.pow_succ]
        omega
      · rw [Nat.pow_succ]
        omega
/-- What the logarithm is, over a base. -/
theorem log_ov {a F T s : Nat} {t f m k B : Int} (ha : 0 < a) (hs : a < 18446744073709551616 ^ s) (hs12 : s ≤ 12) (hm : min t f = m) (hT : (T : Int) = t - m) (hF : (F : Int) = f - m) (hk : log10 a F T m = k) (bt : -2500 ≤ t ∧ t ≤ 2500) (bf : -2500 ≤ f ∧ f ≤ 2500) (hB : B = -5000) :
    -2500 ≤ k ∧ k ≤ 2740 ∧ cmp (ov 1 k k B) (ov a t f B) ≤ 0 ∧ cmp (ov a t f B) (ov 1 (k + 1) (k + 1) B) = -1 := by
  have hw : 0 < a * 5 ^ F * 2 ^ T := Nat.mul_pos (Nat.mul_pos ha (Nat.pow_pos (by omega))) (Nat.pow_pos (by omega))
  obtain ⟨d1, d2⟩ := digits_bounds _ _ (Nat.le_refl _) hw
  unfold log10 at hk
  rw [if_neg (by omega)] at hk
  obtain ⟨l, hl⟩ : ∃ l, (Lib.decDigits (a * 5 ^ F * 2 ^ T)).length = l := ⟨_, rfl⟩
  rw [hl] at hk d1 d2
  have hl0 : 0 < l := by
    rcases Nat.eq_zero_or_pos l with e | e
    · rw [e] at d2; simp at d2; omega
    · exact e
  have k1 : -2500 ≤ k := by omega
  obtain ⟨p, hp⟩ : ∃ p : Nat, (p : Int) = 2500 - m := ⟨(2500 - m).toNat, by omega⟩
  have k2 : k ≤ 2740 := by
    have e1 : a * 5 ^ F * 2 ^ T < 10 ^ (240 + p) := by
      have q1 : (18446744073709551616 : Nat) ^ s ≤ 10 ^ 240 := by
        have r1 : (18446744073709551616 : Nat) ^ s ≤ 18446744073709551616 ^ 12 := Nat.pow_le_pow_right (by omega) hs12
        have r2 : (18446744073709551616 : Nat) ^ 12 ≤ (10 ^ 20) ^ 12 := Nat.pow_le_pow_left (by omega) 12
        rw [← Nat.pow_mul] at r2
        exact Nat.le_trans r1 r2
      have q2 : (5 : Nat) ^ F ≤ 5 ^ p := Nat.pow_le_pow_right (by omega) (by omega)
      have q3 : (2 : Nat) ^ T ≤ 2 ^ p := Nat.pow_le_pow_right (by omega) (by omega)
      have q4 : a * 5 ^ F * 2 ^ T ≤ a * 5 ^ p * 2 ^ p := Nat.mul_le_mul (Nat.mul_le_mul_left _ q2) q3
      rw [Nat.mul_assoc a (5 ^ p), ← Nat.mul_pow] at q4
      have q5 : a * 10 ^ p < 10 ^ 240 * 10 ^ p := Nat.mul_lt_mul_of_pos_right (by omega) (Nat.pow_pos (by omega))
      rw [← Nat.pow_add] at q5
      exact Nat.lt_of_le_of_lt q4 q5
    have e2 := (Nat.pow_lt_pow_iff_right (by omega : 1 < 10)).1 (Nat.lt_of_le_of_lt d1 e1)
    omega
  refine ⟨k1, k2, ?_, ?_⟩
  · obtain ⟨c, hc⟩ : ∃ c : Nat, (c : Int) = m - B := ⟨(m - B).toNat, by omega⟩
    have e1 : (k - B).toNat = (l - 1) + c := by omega
    have e2 : (f - B).toNat = F + c := by omega
    have e3 : (t - B).toNat = T + c := by omega
    refine cmp_le.2 ?_
    unfold ov
    rw [e1, e2, e3, Nat.one_mul, ← Nat.mul_pow, Nat.pow_add, Nat.pow_add, Nat.pow_add]
    have h3 : (5 * 2) ^ (l - 1) * (5 * 2) ^ c ≤ a * 5 ^ F * 2 ^ T * (5 * 2) ^ c := Nat.mul_le_mul_right _ d1
    rw [Nat.mul_pow 5 2 c] at h3 ⊢
    have h4 : a * (5 ^ F * 5 ^ c) * (2 ^ T * 2 ^ c) = a * 5 ^ F * 2 ^ T * (5 ^ c * 2 ^ c) := by
      simp only [Nat.mul_assoc, Nat.mul_left_comm, Nat.mul_comm]
    rw [h4]
    exact h3
  · obtain ⟨c, hc⟩ : ∃ c : Nat, (c : Int) = m - B := ⟨(m - B).toNat, by omega⟩
    have e1 : (k + 1 - B).toNat = l + c := by omega
    have e2 : (f - B).toNat = F + c := by omega
    have e3 : (t - B).toNat = T + c := by omega
    refine cmp_lt ?_
    unfold ov
    rw [e1, e2, e3, Nat.one_mul, ← Nat.mul_pow, Nat.pow_add, Nat.pow_add, Nat.pow_add]
    have h3 : a * 5 ^ F * 2 ^ T * (5 * 2) ^ c < (5 * 2) ^ l * (5 * 2) ^ c := Nat.mul_lt_mul_of_pos_right d2 (Nat.pow_pos (by omega))
    rw [Nat.mul_pow 5 2 c] at h3 ⊢
    have h4 : a * (5 ^ F * 5 ^ c) * (2 ^ T * 2 ^ c) = a * 5 ^ F * 2 ^ T * (5 ^ c * 2 ^ c) := by
      simp only [Nat.mul_assoc, Nat.mul_left_comm, Nat.mul_comm]
    rw [h4]
    exact h3
end M
theorem Nt.zn0 {w : World} {lo s : Nat} {A : Option Addr} {n c a : Nat} (h : Nt w lo s (.slice A n c) a) : (n = 0 ↔ a = 0) := by
  obtain ⟨A', n', c', xs, e, h1, h2, _, h4⟩ := h
  injection e with _ e2 _
  subst e2
  constructor
  · intro h
    have e : xs = [] := List.eq_nil_of_length_eq_zero (by rw [h1.num, h])
    rw [← h2, e]
    rfl
  · intro h
    rw [← h1.num, M.val_zero h4 (by rw [h2, h])]
    rfl
theorem setb_same {w : World} {b : Nat} {neg neg' : Bool} {v : Value} {t f : Int} (h : Bx w b neg v t f) : Bx (w.setCell ⟨b, 0, none⟩ (.bool neg')) b neg' v t f := by
  obtain ⟨⟨a0, a1, a2, a3⟩, b0, b1, b2, b3⟩ := h
  have e : ∀ (i j : Nat), i ≠ j → (⟨b, i, none⟩ : Addr) ≠ ⟨b, j, none⟩ := by
    intro i j hij e
    injection e with _ e _
    exact hij e
  refine ⟨⟨World.cell?_setCell_same w _ _ a0, ?_, ?_, ?_⟩, ?_, ?_, ?_, ?_⟩
  · rw [World.cell?_setCell_other _ _ _ _ (e 0 1 (by omega))]; exact a1
  · rw [World.cell?_setCell_other _ _ _ _ (e 0 2 (by omega))]; exact a2
  · rw [World.cell?_setCell_other _ _ _ _ (e 0 3 (by omega))]; exact a3
  all_goals simp only [World.frozen?_setCell]; assumption
theorem Nt.set1 {w : World} {lo s : Nat} {v : Value} {a : Nat} (h : Nt w lo s v a) {b : Nat} (hb : b < lo) (u : Value) : Nt (w.setCell ⟨b, 0, none⟩ u) lo s v a := by
  obtain ⟨A, n, c, xs, e, h1, h2⟩ := h
  exact ⟨A, n, c, xs, e, h1.set_other (p := ⟨b, 0, none⟩) hb u, h2⟩

set_option maxHeartbeats 16000000 in
set_option maxRecDepth 100000 in
theorem log_walk (w : World) (hTW : TabW w) (ng0 : Bool) (A0 : Option Addr) (ln0 cp0 : Nat) (xs0 : List Nat) (sr0 : Src w A0 ln0 cp0 xs0) (_mx0 : cp0 ≤ maxLen) (tw0 : Int) (_wt0 : (Lit.int .i64 tw0).wf = true) (fv0 : Int) (_wv0 : (Lit.int .i64 fv0).wf = true) :
    Calls Tryd.prog 10 #[xv ng0 (.slice A0 ln0 cp0) tw0 fv0] w (True_ w) := by
  have U := Up.refl w
  obtain ⟨p0, hp0, pa0, pb0⟩ := tmod_rng_of tw0 (2500 + 1) (by omega)
  obtain ⟨q0, hq0, qa0, qb0⟩ := tmod_rng_of fv0 (2500 + 1) (by omega)
  have Hp0 := Lib.hid hp0
  have Hq0 := Lib.hid hq0
  clear hp0 hq0
  go_enter Tryd.func10, Tryd.ntmps10
  go_wp2_with fail
  obtain ⟨V1, hV1⟩ : ∃ V1, w.alloc (.cells #[.bool ng0, .slice A0 ln0 cp0, .int .i64 (tw0), .int .i64 (fv0)] 55) = V1 := ⟨_, rfl⟩
  have uV1 : Up w V1 := by rw [← hV1]; first | exact (Up.refl _).alloc _ | exact ((Up.refl _).alloc _).alloc _ | exact (((Up.refl _).alloc _).alloc _).alloc _ | exact ((((Up.refl _).alloc _).alloc _).alloc _).alloc _
  have b0 : Bx V1 (w.heap.size) ng0 (.slice A0 ln0 cp0) tw0 fv0 := by rw [← hV1]; exact Bx.mk_ w ng0 (.slice A0 ln0 cp0) tw0 fv0
  rw [hV1]
  clear hV1
  replace U := U.trans uV1
  clear uV1
  refine (xshown_any _ (hTW.up U)).mono ?_
  rintro _ w2 ⟨rfl, h2⟩
  replace b0 := b0.up h2
  replace U := U.trans h2
  clear h2
  obtain ⟨⟨b00, b01, b02, b03⟩, b0f0, b0f1, b0f2, b0f3⟩ := id b0
  have b05 := World.block_lt_of_cell? _ _ b00
  simp only at b05
  go_wp2_with fail
  clear b00 b01 b02 b03 b0f0 b0f1 b0f2 b0f3 b05
  have zz0 := World.block_lt_of_cell? _ _ b0.1.1
  simp only at zz0
  refine (small_any _ ng0 A0 ln0 cp0 xs0 tw0 fv0 (sr0.up U) 2500 (by omega) p0 q0 Hp0.out Hq0.out).mono ?_
  rintro _ w3 ⟨_, a0, rfl, n0, h3⟩
  replace b0 := b0.up h3
  replace U := U.trans h3
  clear h3
  obtain ⟨An0, sn0, cn0, wn0, rfl, n0⟩ := n0
  replace n0 : Nt w3 _ _ (.slice An0 sn0 cn0) (a0) := ⟨An0, sn0, cn0, wn0, rfl, n0⟩
  obtain ⟨⟨b00, b01, b02, b03⟩, b0f0, b0f1, b0f2, b0f3⟩ := id b0
  have b05 := World.block_lt_of_cell? _ _ b00
  simp only at b05
  go_wp2_with fail
  clear b00 b01 b02 b03 b0f0 b0f1 b0f2 b0f3 b05
  obtain ⟨V4, hV4⟩ : ∃ V4, set4 w3 (w.heap.size) (.bool ng0) (.slice An0 sn0 cn0) (.int .i64 p0) (.int .i64 q0) = V4 := ⟨_, rfl⟩
  rw [show (((w3.setCell ⟨w.heap.size, 0, none⟩ (.bool ng0)).setCell ⟨w.heap.size, 1, none⟩ (.slice An0 sn0 cn0)).setCell ⟨w.heap.size, 2, none⟩ (.int .i64 p0)).setCell ⟨w.heap.size, 3, none⟩ (.int .i64 q0) = V4 from hV4]
  replace b0 : Bx V4 (w.heap.size) ng0 (.slice An0 sn0 cn0) p0 q0 := by rw [← hV4]; exact b0.set4_same
  replace n0 := by have := n0.set4 (b := w.heap.size) (by omega) (.bool ng0) (.slice An0 sn0 cn0) (.int .i64 p0) (.int .i64 q0); rw [hV4] at this; exact this
  replace U : Up w V4 := by rw [← hV4]; exact U.set4 (by omega) _ _ _ _
  have sz0 : V4.heap.size = w3.heap.size := by rw [← hV4]; simp [World.setCell]
  clear hV4
  have hlt := n0.nw.lt
  have hsz := n0.zn0
  obtain ⟨m, hm⟩ : ∃ m, min p0 q0 = m := ⟨_, rfl⟩
  obtain ⟨T, hT⟩ : ∃ T : Nat, (T : Int) = p0 - m := ⟨(p0 - m).toNat, by omega⟩
  obtain ⟨F, hF⟩ : ∃ F : Nat, (F : Int) = q0 - m := ⟨(q0 - m).toNat, by omega⟩
  obtain ⟨k, hk⟩ : ∃ k, M.log10 a0 F T m = k := ⟨_, rfl⟩
  have HM := Lib.hid hm
  have HT : Hid (max 0 (min (p0 - m) 131072) = (T : Int)) := by show _ = _; omega
  have HF : Hid (max 0 (min (q0 - m) 10000) = (F : Int)) := by show _ = _; omega
  have HK := Lib.hid hk
  have KEY : Hid (0 < a0 → -2500 ≤ k ∧ k ≤ 2740 ∧ M.cmp (M.ov 1 k k (-5000)) (M.ov a0 p0 q0 (-5000)) ≤ 0 ∧ M.cmp (M.ov a0 p0 q0 (-5000)) (M.ov 1 (k + 1) (k + 1) (-5000)) = -1) := fun h => M.log_ov h hlt (by omega) hm hT hF hk (by omega) (by omega) rfl
  have hk0 : Hid (a0 = 0 → k = 0) := fun h => by rw [← hk, M.log10, if_pos h]
  clear hm hT hF hk hlt
  refine (log10_any _ (hTW.up U) _ _ ng0 _ p0 q0 a0 n0.nw (by omega) (by omega) (by omega) m HM T F HT HF k HK).mono ?_
  rintro _ w5 ⟨rfl, h5⟩
  replace b0 := b0.up h5
  replace n0 := n0.up h5
  replace U := U.trans h5
  clear h5
  rcases Nat.eq_zero_or_pos a0 with h0 | h0
  ·
    obtain rfl := hsz.2 h0
    obtain rfl := hk0.out h0
    clear hsz
    obtain ⟨⟨b00, b01, b02, b03⟩, b0f0, b0f1, b0f2, b0f3⟩ := id b0
    have b05 := World.block_lt_of_cell? _ _ b00
    simp only at b05
    go_wp2_with fail
    clear b00 b01 b02 b03 b0f0 b0f1 b0f2 b0f3 b05
    go_ret
    exact ⟨rfl, U⟩
  ·
    obtain ⟨k1, k2, hz, hy⟩ := KEY.out h0
    obtain ⟨z, hze⟩ : ∃ z, M.cmp (M.ov 1 k k (-5000)) (M.ov a0 p0 q0 (-5000)) = z := ⟨_, rfl⟩
    have bz := M.cmp_rng (M.ov 1 k k (-5000)) (M.ov a0 p0 q0 (-5000))
    rw [hze] at hz bz
    have HZ := Lib.hid hze
    have HY := Lib.hid hy
    clear hze hy KEY hk0
    have hs0 : 0 < sn0 := by rcases Nat.eq_zero_or_pos sn0 with e | e; (have := hsz.1 e; omega); exact e
    have hs1 : ((sn0 : Int) == 0) = false := by rw [beq_eq_false_iff_ne]; omega
    clear hsz
    have wk : IntKind.i64.wrap (k + 1) = k + 1 := by simp [IntKind.wrap, IntKind.bits, IntKind.signed]; omega
    obtain ⟨⟨b00, b01, b02, b03⟩, b0f0, b0f1, b0f2, b0f3⟩ := id b0
    have b05 := World.block_lt_of_cell? _ _ b00
    simp only at b05
    go_wp2_with fail
    clear b00 b01 b02 b03 b0f0 b0f1 b0f2 b0f3 b05
    obtain ⟨V90, hV⟩ : ∃ V, w5.setCell ⟨w.heap.size, 0, none⟩ (.bool (!ng0)) = V := ⟨_, rfl⟩
    rw [hV]
    replace b0 : Bx V90 (w.heap.size) (!ng0) (.slice An0 sn0 cn0) p0 q0 := by rw [← hV]; exact setb_same b0
    replace n0 := by have := n0.set1 (b := w.heap.size) (by omega) (.bool (!ng0)); rw [hV] at this; exact this
    replace U : Up w V90 := by rw [← hV]; exact U.setCell (Nat.le_refl _) _
    clear hV
    have C1 := Lib.hid (fun w' (hu : Up V90 w') => ten_any w' k)
    have C3 := Lib.hid (fun w' (hu : Up V90 w') => ten_any w' (k + 1))
    have C5 := Lib.hid (fun w' (hu : Up V90 w') => log10_any w' ((hTW.up U).up hu) _ _ (!ng0) (.slice An0 sn0 cn0) p0 q0 a0 (n0.nw.up hu) (by omega) (by omega) (by omega) m HM T F HT HF k HK)
    have hkk : (k == k) = true := by simp
    have C2 := Lib.hid (fun w' v lo (h : Nw w' lo 1 v 1) (hu : Up V90 w') => xcmp_ov (-5000) ⟨by omega, by omega⟩ w' lo _ 1 12 false (!ng0) v _ k k p0 q0 1 a0 h (n0.nw.up hu) (by omega) (by omega) ⟨by omega, by omega⟩ ⟨by omega, by omega⟩ ⟨by omega, by omega⟩ ⟨by omega, by omega⟩ z HZ)
    have C4 := Lib.hid (fun w' v lo (h : Nw w' lo 1 v 1) (hu : Up V90 w') => xcmp_ov (-5000) ⟨by omega, by omega⟩ w' _ lo 12 1 (!ng0) false _ v p0 q0 (k + 1) (k + 1) a0 1 (n0.nw.up hu) h (by omega) (by omega) ⟨by omega, by omega⟩ ⟨by omega, by omega⟩ ⟨by omega, by omega⟩ ⟨by omega, by omega⟩ (-1) HY)
    have hzd : decide (z ≤ 0) = true := decide_eq_true hz
    clear bz hz HZ HY HK HM HT HF
    obtain ⟨⟨b00, b01, b02, b03⟩, b0f0, b0f1, b0f2, b0f3⟩ := id b0
    have b05 := World.block_lt_of_cell? _ _ b00
    simp only at b05
    go_region_held3 (fun w' => w'.cell? ⟨w.heap.size, 0, none⟩ = some (.bool !ng0) ∧ w'.cell? ⟨w.heap.size, 1, none⟩ = some ((.slice An0 sn0 cn0)) ∧ w'.cell? ⟨w.heap.size, 2, none⟩ = some (.int .i64 p0) ∧ w'.cell? ⟨w.heap.size, 3, none⟩ = some (.int .i64 q0)) (go_keep) (first
        | (go_at_call 50; (with_reducible refine (C3.out _ ?_).mono ?_); (first | with_reducible assumption | exact (Up.refl _).drewN 1); rintro _ w93 ⟨_, rfl, ⟨A3, l3, c3, y3, rfl, g3⟩, h93⟩; have uw93 : Up V90 w93 := Up.trans (by first | with_reducible assumption | exact (Up.refl V90).drewN 1) h93; have b0c30 := cell_up uw93 b00; have b0c31 := cell_up uw93 b01; have b0c32 := cell_up uw93 b02; have b0c33 := cell_up uw93 b03; have nx3 : Nw w93 _ 1 (.slice A3 l3 c3) 1 := ⟨A3, l3, c3, y3, rfl, g3⟩)
        | (go_at_call 50; (with_reducible refine (C1.out _ ?_).mono ?_); (first | with_reducible assumption | exact (Up.refl _).drewN 1); rintro _ w91 ⟨_, rfl, ⟨A1, l1, c1, y1, rfl, g1⟩, h91⟩; have uw91 : Up V90 w91 := Up.trans (by first | with_reducible assumption | exact (Up.refl V90).drewN 1) h91; have b0c10 := cell_up uw91 b00; have b0c11 := cell_up uw91 b01; have b0c12 := cell_up uw91 b02; have b0c13 := cell_up uw91 b03; have nx1 : Nw w91 _ 1 (.slice A1 l1 c1) 1 := ⟨A1, l1, c1, y1, rfl, g1⟩)
        | (go_at_call 46; (with_reducible refine (C4.out _ _ _ nx3 ?_).mono ?_); (first | with_reducible assumption | exact (Up.refl _).drewN 1); rintro _ w94 ⟨rfl, h94⟩; have uw94 : Up V90 w94 := Up.trans (by first | with_reducible assumption | exact (Up.refl V90).drewN 1) h94; have b0c40 := cell_up uw94 b00; have b0c41 := cell_up uw94 b01; have b0c42 := cell_up uw94 b02; have b0c43 := cell_up uw94 b03)
        | (go_at_call 46; (with_reducible refine (C2.out _ _ _ nx1 ?_).mono ?_); (first | with_reducible assumption | exact (Up.refl _).drewN 1); rintro _ w92 ⟨rfl, h92⟩; have uw92 : Up V90 w92 := Up.trans (by first | with_reducible assumption | exact (Up.refl V90).drewN 1) h92; have b0c20 := cell_up uw92 b00; have b0c21 := cell_up uw92 b01; have b0c22 := cell_up uw92 b02; have b0c23 := cell_up uw92 b03)
        | (go_at_call 49; (with_reducible refine (C5.out _ ?_).mono ?_); (first | with_reducible assumption | exact (Up.refl _).drewN 1); rintro _ w95 ⟨rfl, h95⟩; have uw95 : Up V90 w95 := Up.trans (by first | with_reducible assumption | exact (Up.refl V90).drewN 1) h95; have b0c50 := cell_up uw95 b00; have b0c51 := cell_up uw95 b01; have b0c52 := cell_up uw95 b02; have b0c53 := cell_up uw95 b03))
    replace U := U.trans uw95
    go_wp2_with fail
    go_ret
    exact ⟨rfl, U⟩
end Go.Proofs.YtdokioefcfcfnaaDoor
