/-
  Quires, in numbers: one, the least, NaR, what is turned and taken away. No program is named here.
-/
import Derived.Test.YtijpffgocookaaaGreatDoorYb
namespace Go.Proofs.YtijpffgocookaaaGreatDoor
open Go
set_option linter.unusedVariables false
set_option linter.unusedSimpArgs false

namespace M
theorem isk_high {n k m : Nat} {z : Int} (h : IsK n k m z) : m * 2 ^ (z + 4 * n).toNat < 2 ^ (8 * n) := by
  obtain ⟨mo, R, r, q, t, h1, h2, h3⟩ := h
  have rg := h1.rng
  have fl := fr_lt r q
  have el := ex_le h1.1
  obtain ⟨u, hu⟩ : ∃ u : Nat, (u : Int) = 4 * R + ex r q - (r - 2 : Nat) + 4 * n := ⟨(4 * R + ex r q - (r - 2 : Nat) + 4 * n).toNat, by
    obtain ⟨hq, ⟨_, e1, e2⟩ | ⟨_, e1, e2⟩ | ⟨_, e1, e2, e3⟩⟩ := h1 <;> omega⟩
  have e1 : (z + 4 * (n : Int)).toNat = t + u := by omega
  rw [e1, Nat.pow_add, ← Nat.mul_assoc, ← h2]
  have e2 : 2 ^ (r - 2) + fr r q < 2 ^ (r - 2 + 1) := by rw [Nat.pow_succ]; omega
  refine Nat.lt_of_lt_of_le (Nat.mul_lt_mul_of_pos_right e2 (Nat.two_pow_pos u)) ?_
  rw [← Nat.pow_add]
  exact Nat.pow_le_pow_right (by decide) (by omega)
theorem dv_high {i p : Nat} (i1 : 1 ≤ i) (i2 : i ≤ 4) {g : Bool} {m : Nat} {z : Int} (h : Dv (tb i) p 2 g m z) : m * 2 ^ (z - qz i).toNat < qn i := by
  have hk := q_facts i1 i2
  rcases h with ⟨_, e, _⟩ | ⟨_, e, _⟩ | ⟨_, e, _⟩ | ⟨_, _, _, k, _, hm⟩
  · exact absurd e (by decide)
  · exact absurd e (by decide)
  · exact absurd e (by decide)
  · rcases hm with ⟨_, n, _, hW, h⟩ | ⟨e, _⟩ | ⟨e, _⟩ | ⟨e, _⟩
    · have a := isk_high h
      have b := isk_low h
      unfold qz
      have e : (z - (16 - 8 * (tb i).W)).toNat = (z + 4 * (n : Int)).toNat + (4 * (tb i).W - 12).toNat := by omega
      rw [e, Nat.pow_add, ← Nat.mul_assoc]
      refine Nat.lt_of_lt_of_le (Nat.mul_lt_mul_of_pos_right a (Nat.two_pow_pos _)) ?_
      unfold qn
      rw [← Nat.pow_add]
      exact Nat.pow_le_pow_right (by decide) (by omega)
    · omega
    · omega
    · omega
theorem nar_pat {i : Nat} (i1 : 1 ≤ i) (i2 : i ≤ 4) : (((2 ^ ((tb i).W.toNat - 1) : Nat) : Int) ≤ msk (tb i)) ∧ Dv (tb i) ((2 ^ ((tb i).W.toNat - 1) : Nat) : Int) 4 false 0 0 ∧ (tb i).x = ((2 ^ ((tb i).W.toNat - 1) : Nat) : Int) := by
  rcases (show i = 1 ∨ i = 2 ∨ i = 3 ∨ i = 4 by omega) with rfl | rfl | rfl | rfl <;> exact ⟨by decide, .inl ⟨by decide, rfl, rfl, rfl, rfl⟩, by decide⟩
theorem zero_pat {i : Nat} (i1 : 1 ≤ i) (i2 : i ≤ 4) : ((0 : Nat) : Int) ≤ msk (tb i) ∧ Dv (tb i) ((0 : Nat) : Int) 1 false 0 0 := by
  rcases (show i = 1 ∨ i = 2 ∨ i = 3 ∨ i = 4 by omega) with rfl | rfl | rfl | rfl <;> exact ⟨by decide, .inr (.inr (.inl ⟨by decide, rfl, by decide, rfl, rfl⟩))⟩
theorem least_pat {i : Nat} (i1 : 1 ≤ i) (i2 : i ≤ 4) : ((1 : Nat) : Int) ≤ msk (tb i) ∧ Dv (tb i) ((1 : Nat) : Int) 2 false 1 (8 - 4 * (tb i).W) := by
  rcases (show i = 1 ∨ i = 2 ∨ i = 3 ∨ i = 4 by omega) with rfl | rfl | rfl | rfl
  · exact ⟨by decide, .inr (.inr (.inr ⟨by decide, rfl, by decide, 1, by decide, .inl ⟨rfl, 7, by decide, rfl, ⟨by decide, -6, 0, 0, 0, by unfold Ps; decide, by decide, by decide⟩⟩⟩))⟩
  · exact ⟨by decide, .inr (.inr (.inr ⟨by decide, rfl, by decide, 1, by decide, .inl ⟨rfl, 15, by decide, rfl, ⟨by decide, -14, 0, 0, 0, by unfold Ps; decide, by decide, by decide⟩⟩⟩))⟩
  · exact ⟨by decide, .inr (.inr (.inr ⟨by decide, rfl, by decide, 1, by decide, .inl ⟨rfl, 31, by decide, rfl, ⟨by decide, -30, 0, 0, 0, by unfold Ps; decide, by decide, by decide⟩⟩⟩))⟩
  · exact ⟨by decide, .inr (.inr (.inr ⟨by decide, rfl, by decide, 1, by decide, .inl ⟨rfl, 63, by decide, rfl, ⟨by decide, -62, 0, 0, 0, by unfold Ps; decide, by decide, by decide⟩⟩⟩))⟩
theorem dcq {i p : Nat} (i1 : 1 ≤ i) (i2 : i ≤ 4) (hp : (p : Int) ≤ msk (tb i)) {c : Int} {g : Bool} {m : Nat} {z : Int} (h : Dv (tb i) p c g m z) : Dc (i : Int) p c g m z 0 := dc_mk i1 (four14 i2) hp h
theorem nar_q {i : Nat} (i1 : 1 ≤ i) (i2 : i ≤ 4) : Qa i (2 ^ ((tb i).W.toNat - 1)) 0 none 0 := by
  obtain ⟨a, b, _⟩ := nar_pat i1 i2
  obtain ⟨c, d⟩ := zero_pat i1 i2
  exact .inr ⟨rfl, ⟨a, c⟩, _, _, _, _, _, _, _, _, dcq i1 i2 a b, dcq i1 i2 c d, .inl ⟨rfl, .inl rfl⟩⟩
theorem wide_q {i : Nat} (i1 : 1 ≤ i) (i2 : i ≤ 4) : Qa i 1 1 (some 1) 0 := by
  obtain ⟨a, b⟩ := least_pat i1 i2
  refine .inr ⟨rfl, ⟨a, a⟩, _, _, _, _, _, _, _, _, dcq i1 i2 a b, dcq i1 i2 a b, .inr (.inr ⟨by decide, by decide, 1, ?_, by rw [if_pos rfl]⟩)⟩
  have h := q_facts i1 i2
  unfold qz
  rw [show (8 - 4 * (tb i).W + (8 - 4 * (tb i).W) - (16 - 8 * (tb i).W)).toNat = 0 by omega]
  exact (Nat.mod_eq_of_lt (Nat.one_lt_two_pow (by omega))).symm
theorem nar_cls {i p : Nat} (i1 : 1 ≤ i) (i2 : i ≤ 4) : cls (tb i) p = 4 ↔ p = 2 ^ ((tb i).W.toNat - 1) := by
  obtain ⟨_, b, e⟩ := nar_pat i1 i2
  have hk := (q_facts i1 i2).1
  constructor
  · intro h
    unfold cls at h
    rw [if_neg (by omega)] at h
    split at h
    · omega
    · split at h <;> omega
  · rintro rfl
    exact (dv_four b).2
/-- One product of 1 and a posit. -/
theorem one_q {i p : Nat} (i1 : 1 ≤ i) (i2 : i ≤ 4) (hp : (p : Int) ≤ msk (tb i)) {o : Option Nat} {x : Int} (h : Qa i p (2 ^ ((tb i).W.toNat - 2)) o x) :
    x = 0 ∧ Qp i (qst i 0 o) p ∧ (qst i 0 o = qn i ↔ p = 2 ^ ((tb i).W.toNat - 1)) := by
  obtain ⟨a, b⟩ := one_dv i1 i2
  have h14 := four14 i2
  have hn := qn_pos i
  have h2 := qn_two i1 i2
  have hN := Nat.two_pow_pos (qS i)
  rcases h with ⟨_, _, h⟩ | ⟨rfl, _, c, g, m, z, c', g', m', z', d1, d2, h⟩
  · exact absurd ⟨hp, a⟩ h
  · obtain ⟨rfl, rfl, rfl, rfl, _⟩ := dc_all d2 (dcq i1 i2 a b)
    obtain ⟨j, e, _, _, _, dv⟩ := dc_have d1
    obtain rfl : i = j := by omega
    have hc := dv_four_ i1 i2 dv
    have hcl := (dv_four dv).2
    have hx := nar_cls (p := p) i1 i2
    refine ⟨rfl, ?_⟩
    rcases h with ⟨rfl, h⟩ | ⟨rfl, h, h'⟩ | ⟨h, h', P, hP, rfl⟩
    · have c4 : c = 4 := by rcases h with h | h; exact h; exact absurd h (by decide)
      subst c4
      have hp2 := hx.1 hcl
      rw [qst_none]
      exact ⟨.inl ⟨rfl, by rw [(nar_pat i1 i2).2.2, ← hp2]⟩, fun _ => hp2, fun _ => rfl⟩
    · have c1 : c = 1 := by rcases h' with h | h; exact h; exact absurd h (by decide)
      subst c1
      have hne : (0 : Nat) ≠ qn i := by omega
      rw [qst_some hne, ad_zero hN]
      refine ⟨.inr ⟨hne, ?_⟩, fun e => absurd e hne, fun e => ?_⟩
      · have hr := (has_rv (ok i i1 h14) (ok2 i i1 h14) (ok3 i i1 h14) hp dv (.inl rfl) 1).1
        rcases dv with ⟨_, e, _⟩ | ⟨_, e, _⟩ | ⟨_, _, _, rfl, rfl⟩ | ⟨_, e, _⟩
        · exact absurd e (by decide)
        · exact absurd e (by decide)
        · unfold qm; rw [if_pos hn]
          rw [sz_zero.2 rfl] at hr ⊢
          exact rv_nought i1 i2 hr
        · exact absurd e (by decide)
      · have := hx.2 e; omega
    · have c2 : c = 2 := by
        rcases hc with e | e | e
        · exact absurd (.inl e) h'
        · exact e
        · exact absurd (.inl e) h
      subst c2
      have hr := (has_rv (ok i i1 h14) (ok2 i i1 h14) (ok3 i i1 h14) hp dv (.inr rfl) 1).1
      obtain ⟨m0, _⟩ := pt_rng (ok i i1 h14) (ok2 i i1 h14) (ok3 i i1 h14) hp dv
      have hh := dv_high i1 i2 dv
      have hl := dv_low i1 i2 dv
      have hW := q_facts i1 i2
      rw [Nat.mul_one, Int.add_zero, Nat.mod_eq_of_lt (by omega)] at hP
      have hPp : 0 < P := by rw [hP]; exact Nat.mul_pos (by omega) (Nat.two_pow_pos _)
      rw [← hP] at hh
      have hs : sz P (qz i) 0 = sz m z 0 := by
        rw [hP, sz_two_ _ _ _ (by have := qz_rng i1 i2; omega), show qz i + ((z - qz i).toNat : Int) = z by have := qz_rng i1 i2; unfold qz; omega]
      rw [qst_some (show 0 ≠ qn i by omega)]
      have hne : ¬ p = 2 ^ ((tb i).W.toNat - 1) := fun e => by have := hx.2 e; omega
      cases g
      · rw [if_pos rfl, ad_comm, ad_zero (by omega)]
        refine ⟨.inr ⟨by omega, ?_⟩, fun e => by omega, fun e => absurd e hne⟩
        rw [decide_eq_false (by omega)]
        unfold qm; rw [if_pos hh, hs]; exact hr
      · rw [if_neg (by decide), ng_pos hPp (by omega), ad_comm, ad_zero (by omega)]
        refine ⟨.inr ⟨by omega, ?_⟩, fun e => by omega, fun e => absurd e hne⟩
        rw [decide_eq_true (by omega)]
        unfold qm; rw [if_neg (by omega), show 2 ^ qS i - (2 ^ qS i - P) = P by omega, hs]; exact hr
/-- What is added and taken away again. -/
theorem taken_q {i b : Nat} (i1 : 1 ≤ i) (i2 : i ≤ 4) (hb : b < 2 ^ qS i) {o : Option Nat} (ho : ∀ d, o = some d → d < 2 ^ qS i) :
    qst i b o = qn i ∨ ng (2 ^ qS i) (qst i (ng (2 ^ qS i) b) (tk i true o)) = qn i ∨ (qst i b o = ng (2 ^ qS i) (qst i (ng (2 ^ qS i) b) (tk i true o)) ∧ qst i (qst i b o) (tk i true o) = b) := by
  have hN := Nat.two_pow_pos (qS i)
  by_cases hn : b = qn i
  · subst hn; exact .inl (qst_nar _ _)
  · cases o with
    | none => exact .inl (qst_none _ _)
    | some d =>
      have hd := ho d rfl
      have hb' : ng (2 ^ qS i) b ≠ qn i := fun e => hn ((ng_qn i1 i2 hb).1 e)
      rw [qst_some hn]
      show _ ∨ _ ∨ (_ = ng _ (qst i _ (some (ng (2 ^ qS i) d))) ∧ qst i _ (some (ng (2 ^ qS i) d)) = b)
      rw [qst_some hb', ← ng_ad hb hd, ng_ng (ad_lt hN)]
      by_cases hx : ad (2 ^ qS i) b d = qn i
      · exact .inl hx
      · exact .inr (.inr ⟨rfl, by rw [qst_some hx, ad_back hb hd]⟩)
/-- The sign turned. -/
theorem swaps_q {i p c k q : Nat} (i1 : 1 ≤ i) (i2 : i ≤ 4) (hp : (p : Int) ≤ msk (tb i)) {g : Bool} (hk : Kv (tb i) p g k 0) (hq : pat (tb i) (!g) k = q) {o : Option Nat} {x : Int} (h : Qa i p c o x) :
    ∃ o', Qa i q c o' x ∧ tk i true o' = o := by
  have h14 := four14 i2
  have k1 := (q_facts i1 i2).1
  have hN := Nat.two_pow_pos (qS i)
  rcases kv_turn (ok i i1 h14) (ok2 i i1 h14) hp hk with ⟨e, _⟩ | ⟨e, _⟩ | ⟨_, _, _, q', c1, m1, z1, g2, hq', hqm, dp, dq, hc, hg⟩
  · omega
  · omega
  · obtain rfl : q = q' := by omega
    rcases h with ⟨rfl, rfl, h⟩ | ⟨rfl, ⟨_, hcf⟩, h⟩
    · exact ⟨some 0, .inl ⟨rfl, rfl, fun e => h ⟨hp, e.2⟩⟩, by show some (ng _ 0) = _; rw [ng_zero]⟩
    · obtain ⟨a1, a2, a3, a4, b1, b2, b3, b4, da, db, h⟩ := h
      obtain ⟨rfl, rfl, rfl, rfl, _⟩ := dc_all da (dcq i1 i2 hp dp)
      have dq' := dcq i1 i2 hqm dq
      rcases h with ⟨rfl, h⟩ | ⟨rfl, h, h'⟩ | ⟨h, h', P, hP, rfl⟩
      · exact ⟨none, .inr ⟨rfl, ⟨hqm, hcf⟩, _, _, _, _, _, _, _, _, dq', db, .inl ⟨rfl, h⟩⟩, rfl⟩
      · exact ⟨some 0, .inr ⟨rfl, ⟨hqm, hcf⟩, _, _, _, _, _, _, _, _, dq', db, .inr (.inl ⟨rfl, h, h'⟩)⟩, by show some (ng _ 0) = _; rw [ng_zero]⟩
      · have hg' : g2 = !a2 := by
          rcases hg with e | ⟨e, _⟩
          · exact e
          · exact absurd (.inl e) h'
        subst hg'
        refine ⟨_, .inr ⟨rfl, ⟨hqm, hcf⟩, _, _, _, _, _, _, _, _, dq', db, .inr (.inr ⟨h, h', P, hP, rfl⟩)⟩, ?_⟩
        have hPl : P < 2 ^ qS i := by rw [hP]; exact Nat.mod_lt _ hN
        show some (ng _ _) = _
        cases a2 <;> cases b2 <;> simp [ng_ng hPl]
/-- What is told has small powers. -/
theorem qv_bnd {i b : Nat} (i1 : 1 ≤ i) (i2 : i ≤ 4) (hb : b < 2 ^ qS i) {s : Bool} {N : Nat} {t f : Int} (h : Qv i b s N t f) : (-600 ≤ t ∧ t ≤ 600) ∧ (-600 ≤ f ∧ f ≤ 600) := by
  have hq := q_facts i1 i2
  rcases h with ⟨_, _, _, rfl, rfl⟩ | ⟨h0, _, hN, _, lo, k, h1, rfl, rfl⟩
  · omega
  · have hN0 : 0 < N := by omega
    have hm : qm i b < 2 ^ (qS i + 1) := by
      have := Nat.two_pow_pos (qS i)
      rw [Nat.pow_succ]
      unfold qm; split <;> omega
    have l1 : 2 ^ lo ≤ qm i b := by rw [h1]; exact Nat.le_mul_of_pos_left _ (Nat.mul_pos hN0 (Nat.pow_pos (by decide)))
    have l2 : 2 ^ (2 * k) ≤ qm i b := by
      rw [h1]
      refine Nat.le_trans ?_ (Nat.le_mul_of_pos_right _ (Nat.two_pow_pos lo))
      refine Nat.le_trans ?_ (Nat.le_mul_of_pos_left _ hN0)
      rw [Nat.pow_mul]
      exact Nat.pow_le_pow_left (by decide) k
    have e1 := p2inj (Nat.lt_of_le_of_lt l1 hm)
    have e2 := p2inj (Nat.lt_of_le_of_lt l2 hm)
    unfold qz
    omega
/-! What must be in any case. -/
theorem qs1 : qS 1 = 128 := by decide
theorem sh15_one : Dv (tb 1) ((64 : Nat) : Int) 2 false 1 0 := .inr (.inr (.inr ⟨by decide, rfl, by decide, 64, by decide, .inl ⟨rfl, 7, by decide, rfl, ⟨by decide, 0, 5, 0, 3, by unfold Ps; decide, by decide, by decide⟩⟩⟩))
theorem sh15_two : Dv (tb 1) ((72 : Nat) : Int) 2 false 1 1 := .inr (.inr (.inr ⟨by decide, rfl, by decide, 72, by decide, .inl ⟨rfl, 7, by decide, rfl, ⟨by decide, 0, 5, 8, 3, by unfold Ps; decide, by decide, by decide⟩⟩⟩))
theorem sh15_neg : Dv (tb 1) ((192 : Nat) : Int) 2 true 1 0 := .inr (.inr (.inr ⟨by decide, rfl, by decide, 64, by decide, .inl ⟨rfl, 7, by decide, rfl, ⟨by decide, 0, 5, 0, 3, by unfold Ps; decide, by decide, by decide⟩⟩⟩))
theorem sh15_a : Qa 1 64 64 (some 281474976710656) 0 :=
  .inr ⟨rfl, by decide, _, _, _, _, _, _, _, _, dcq (by decide) (by decide) (by decide) sh15_one, dcq (by decide) (by decide) (by decide) sh15_one, .inr (.inr ⟨by decide, by decide, 281474976710656, by decide +kernel, by rw [if_pos rfl]⟩)⟩
theorem sh15_b : Qa 1 64 72 (some 562949953421312) 0 :=
  .inr ⟨rfl, by decide, _, _, _, _, _, _, _, _, dcq (by decide) (by decide) (by decide) sh15_one, dcq (by decide) (by decide) (by decide) sh15_two, .inr (.inr ⟨by decide, by decide, 562949953421312, by decide +kernel, by rw [if_pos rfl]⟩)⟩
theorem sh15_c : Qa 1 256 0 (some 0) 1 := .inl ⟨rfl, rfl, by decide⟩
theorem sh15_d : Qa 1 128 0 none 0 := nar_q (i := 1) (by decide) (by decide)
theorem sh15_e : qst 1 0 (some 281474976710656) = 281474976710656 := by decide +kernel
theorem sh15_f : qst 1 281474976710656 (tk 1 true (some 562949953421312)) = 340282366920938463463374325956791500800 := by decide +kernel
theorem sh15_g : Qp 1 340282366920938463463374325956791500800 192 := by
  refine .inr ⟨by decide +kernel, ?_⟩
  have h := (has_rv (ok 1 (by decide) (by decide)) (ok2 1 (by decide) (by decide)) (ok3 1 (by decide) (by decide)) (by decide) sh15_neg (.inr rfl) 1).1
  have e : sz (qm 1 340282366920938463463374325956791500800) (qz 1) 0 = sz 1 0 0 := by
    rw [show qm 1 340282366920938463463374325956791500800 = 1 * 5 ^ 0 * 2 ^ 48 by decide +kernel, sz_mix _ _ _ _ (by decide)]
    rfl
  rw [e, show decide (qn 1 ≤ 340282366920938463463374325956791500800) = true by decide +kernel]
  exact h
theorem sh15_h : qst 1 340282366920938463463374325956791500800 (some 0) = 340282366920938463463374325956791500800 := by decide +kernel
end M
end Go.Proofs.YtijpffgocookaaaGreatDoor
