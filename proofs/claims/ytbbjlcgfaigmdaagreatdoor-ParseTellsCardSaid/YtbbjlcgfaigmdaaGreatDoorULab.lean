/-
  The laws of layer 8: what each shows first, small, and what they come to in numbers.
-/
import Derived.Test.YtbbjlcgfaigmdaaGreatDoorURva
/-
  The laws of layer 8: what each shows first; a number that is cut.
-/
namespace Go.Proofs.YtbbjlcgfaigmdaaGreatDoor
open Go.RowKit
set_option linter.unusedSimpArgs false
set_option linter.unusedVariables false

namespace M
theorem isk7_1 : IsK 7 1 1 (-24) := ⟨by decide, -6, 0, 0, 0, by unfold Ps; decide, by decide, by decide⟩
theorem bd5 : Bd (tb 5) 126 29 4 := .inr (.inl ⟨rfl, 3, by decide, rfl, by unfold mok; decide, .inr ⟨by decide, 0, by decide, by decide⟩⟩)
theorem bd12 : Bd (tb 12) 31743 4095 4 := .inr (.inl ⟨rfl, 10, by decide, rfl, by unfold mok; decide, .inr ⟨by decide, 0, by decide +kernel, by decide +kernel⟩⟩)
theorem mg1 : Mg0 (tb 1) 1 1 (-24) := .inr ⟨.inl (by decide), .inl ⟨rfl, 7, by decide, rfl, isk7_1⟩⟩
theorem nr_on {f : Fm} (ok : Ok f) (ok2 : Ok2 f) (ok3 : Ok3 f) {q k m : Nat} {z : Int} (hq : (q : Int) ≤ tp f) (hk : k ≤ q) (k0 : k ≠ 0) (he : k % 2 = 0) (h : Bd f k m z) : Nr f q (sz m z 0) k false := by
  refine .inr ⟨rfl, hk, ?_, fun _ _ => k0, fun j hj => .inl ?_⟩
  · rw [byd_iff ⟨m, z, h, rfl⟩]
    omega
  · obtain ⟨Y, hy⟩ := bo_ex ok ok2 (k := j) (by omega)
    obtain ⟨d, rfl⟩ : ∃ d, k = j + d + 1 := ⟨k - j - 1, by omega⟩
    exact (byd_iff hy).2 (.inl (bo_lt ok ok2 ok3 d j _ _ (by omega) hy ⟨m, z, h, rfl⟩))
theorem nr_over {f : Fm} {q m a : Nat} {z t : Int} (zb : -5000 ≤ z) (tb' : -5000 ≤ t) (h : Bd f q m z) (g : Gt a t m z) : Nr f q (sz a t 0) q true :=
  .inl ⟨rfl, rfl, _, ⟨m, z, h, rfl⟩, .inl (gt_sz tb' zb g)⟩
theorem s1 : Rc 5 2 false (sz 29 4 0) 126 0 := .inr ⟨5, rfl, by decide, by decide, .inr ⟨.inr rfl, .inr ⟨by decide, 126, 126, false, by decide, nr_on (ok 5 (by decide) (by decide)) (ok2 5 (by decide) (by decide)) (ok3 5 (by decide) (by decide)) (by decide) (by decide) (by decide) (by decide) bd5, .inr ⟨fun e => (by cases e.1), by decide⟩⟩, rfl⟩⟩
theorem o5 : Nr (tb 5) 126 (sz 465 0 0) 126 true := nr_over (by decide) (by decide) bd5 ⟨0, by decide, by decide, by decide⟩
theorem s2 : Rc 5 2 true (sz 465 0 0) 127 0 := .inr ⟨5, rfl, by decide, by decide, .inr ⟨.inr rfl, .inr ⟨by decide, 126, 126, true, by decide, o5, .inl ⟨rfl, by unfold st; decide, by decide⟩⟩, rfl⟩⟩
theorem s3 : Rc 5 1 true (sz 465 0 0) 254 0 := .inr ⟨5, rfl, by decide, by decide, .inr ⟨.inl rfl, .inr ⟨by decide, 126, 126, true, by decide, o5, .inr ⟨fun e => e.2 (.inl rfl), by decide⟩⟩, rfl⟩⟩
theorem o1 : Nr (tb 1) 127 (sz 1 (-300) 0) 1 false := by
  have g : Gt 1 (-24) 1 (-300) := ⟨300, by decide, by decide, by decide +kernel⟩
  have h1 := gt_sz (by decide) (by decide) g
  refine .inr ⟨rfl, by decide, ?_, fun _ _ => by decide, fun j hj => .inr ⟨rfl, fun e => ?_, by omega⟩⟩
  · rintro ⟨Y, ⟨m, z, h, rfl⟩, h2⟩
    have zb := bd_z (ok 1 (by decide) (by decide)) (ok2 1 (by decide) (by decide)) (ok3 1 (by decide) (by decide)) (k := 1) (by decide) h
    rcases gt_mid mg1 h with e | ⟨_, e⟩
    · omega
    · have := gt_sz (by omega) (by decide) e
      omega
  · have := sz_zero.1 e
    omega
theorem s4 : Rc 1 2 false (sz 1 (-300) 0) 1 0 := .inr ⟨1, rfl, by decide, by decide, .inr ⟨.inr rfl, .inr ⟨by decide, 127, 1, false, by decide, o1, .inr ⟨fun e => (by cases e.1), by decide⟩⟩, rfl⟩⟩
theorem s5 : Rc 12 2 true (sz 1 16 0) 64512 0 := .inr ⟨12, rfl, by decide, by decide, .inr ⟨.inr rfl, .inr ⟨by decide, 31743, 31743, true, by decide, nr_over (by decide) (by decide) bd12 ⟨0, by decide, by decide, by decide⟩, .inl ⟨rfl, by unfold st; decide, by decide⟩⟩, rfl⟩⟩
theorem s6 : Rc 1 3 false (sz 0 0 0) 0 1 := .inr ⟨1, rfl, by decide, by decide, .inl ⟨by decide, rfl, rfl⟩⟩
theorem s7 : Rc 14 2 true (sz 0 0 0) 9223372036854775808 0 := by
  rw [sz_zero.2 rfl]
  exact .inr ⟨14, rfl, by decide, by decide, .inr ⟨.inr rfl, .inr ⟨by decide, 9218868437227405311, 0, false, by decide, nr_zero, .inr ⟨fun e => (by cases e.1), by decide⟩⟩, rfl⟩⟩
end M
end Go.Proofs.YtbbjlcgfaigmdaaGreatDoor
/-
  The laws of layer 8 in numbers.
-/
namespace Go.Proofs.YtbbjlcgfaigmdaaGreatDoor
open Go.RowKit
set_option linter.unusedSimpArgs false
set_option linter.unusedVariables false

namespace M
theorem pat_key {f : Fm} (ok : Ok f) (ok2 : Ok2 f) (ok3 : Ok3 f) {neg : Bool} {k : Nat} (h4 : ¬ (f.k = 4 ∧ neg = true)) (hk : (k : Int) ≤ mst f neg) :
    0 ≤ pat f neg k ∧ pat f neg k ≤ msk f ∧ ((k ≠ 0 ∨ f.k = 4) → cls f (pat f neg k) = 2 ∧ kyf f (pat f neg k) = k ∧ ngs f (pat f neg k) = neg) ∧ ((k = 0 ∧ f.k ≠ 4) → cls f (pat f neg k) = 1) := by
  have hm := ok.hm
  have ht := ok.t
  have o1 := ok2.one
  have o3 := ok2.tri
  have o4 := ok2.four
  have o2 := ok.two
  unfold mst at hk
  by_cases e4 : f.k = 4
  · have hn : neg = false := by
      cases neg
      · rfl
      · exact absurd ⟨e4, rfl⟩ h4
    subst hn
    rw [if_neg (by omega)] at hk
    have hp : pat f false k = k := by unfold pat; rw [if_pos rfl]
    rw [hp]
    have g := ngs_four ok e4 (k : Int)
    have hy := kyf_pos g
    have hc : cls f (k : Int) = 2 := by
      unfold cls
      rw [if_neg (by omega), if_neg (by omega), if_neg (by omega)]
    exact ⟨by omega, by omega, fun _ => ⟨hc, hy, g⟩, fun e => absurd e4 e.2⟩
  · have hg := ngs_is ok e4
    by_cases e2 : f.k = 2
    · have o2' := o2 e2
      rw [if_neg (by omega)] at hk
      cases neg with
      | false =>
        have hp : pat f false k = k := by unfold pat; rw [if_pos rfl]
        rw [hp]
        have g : ngs f (k : Int) = false := by rw [hg]; exact decide_eq_false (by omega)
        have hy := kyf_pos g
        have hc := cls_two_ e2 (p := (k : Int))
        rw [hy, if_neg (by omega)] at hc
        refine ⟨by omega, by omega, fun e => ⟨?_, hy, g⟩, fun e => ?_⟩
        · rw [hc, if_neg (by omega)]
        · rw [hc, if_pos (by omega)]
      | true =>
        have hp : pat f true k = k + half f := by unfold pat; rw [if_neg (by simp), if_pos e2]
        rw [hp]
        have g : ngs f ((k : Int) + half f) = true := by rw [hg]; exact decide_eq_true (by omega)
        have hy := kyf_two ok e2 g
        have hc := cls_two_ e2 (p := (k : Int) + half f)
        rw [show (k : Int) + half f - half f = k by omega] at hy
        rw [hy, if_neg (by omega)] at hc
        refine ⟨by omega, by omega, fun e => ⟨?_, hy, g⟩, fun e => ?_⟩
        · rw [hc, if_neg (by omega)]
        · rw [hc, if_pos (by omega)]
    · have e13 : f.k = 1 ∨ f.k = 3 := by rcases ok.k with e | e | e | e <;> omega
      have hx : f.k = 1 → f.x = half f ∧ f.t + 1 = half f := fun e => ⟨(o1 e).2.1, (o1 e).1⟩
      have hx3 : f.k = 3 → f.x = 0 ∧ f.t = 127 ∧ half f = 128 := fun e => ⟨(o3 e).2.2.2.1, (o3 e).2.1, (o3 e).2.2.1⟩
      cases neg with
      | false =>
        rw [if_neg (by simp)] at hk
        have hp : pat f false k = k := by unfold pat; rw [if_pos rfl]
        rw [hp]
        have g : ngs f (k : Int) = false := by rw [hg]; exact decide_eq_false (by rcases e13 with e | e <;> omega)
        have hy := kyf_pos g
        have hc := cls_trn_ e13 (p := (k : Int))
        rw [hy, if_neg (by rcases e13 with e | e <;> omega)] at hc
        refine ⟨by omega, by rcases e13 with e | e <;> omega, fun e => ⟨?_, hy, g⟩, fun e => ?_⟩
        · rw [hc, if_neg (by omega)]
        · rw [hc, if_pos (by omega)]
      | true =>
        have hk2 : (k : Int) ≤ half f ∧ (f.k = 1 → (k : Int) < half f) := by
          rcases e13 with e | e
          · have := hx e
            rw [if_neg (by omega)] at hk
            omega
          · have := hx3 e
            rw [if_pos ⟨e, rfl⟩] at hk
            omega
        by_cases k0 : k = 0
        · subst k0
          have hp : pat f true 0 = 0 := by unfold pat; rw [if_neg (by simp), if_neg e2, if_pos rfl]
          rw [hp]
          have g : ngs f (0 : Int) = false := by rw [hg]; exact decide_eq_false (by omega)
          have hy := kyf_pos g
          have hc := cls_trn_ e13 (p := (0 : Int))
          rw [hy, if_neg (by omega), if_pos rfl] at hc
          exact ⟨by omega, by omega, fun e => by omega, fun _ => hc⟩
        · have hp : pat f true k = msk f - k + 1 := by unfold pat; rw [if_neg (by simp), if_neg e2, if_neg k0]
          rw [hp]
          have g : ngs f (msk f - k + 1) = true := by rw [hg]; exact decide_eq_true (by omega)
          have hy := kyf_trn e2 g
          rw [show msk f - (msk f - (k : Int) + 1) + 1 = k by omega] at hy
          have hc := cls_trn_ e13 (p := msk f - k + 1)
          rw [hy, if_neg (by rcases e13 with e | e <;> omega), if_neg (by omega)] at hc
          exact ⟨by omega, by omega, fun e => ⟨hc, hy, g⟩, fun e => by omega⟩
/-- What a form has for what is too large is no number. -/
theorem tl_class {f : Fm} (ok : Ok f) (ok2 : Ok2 f) (ok3 : Ok3 f) {mode : Int} (neg : Bool) (h : ¬ st f mode) : 0 ≤ tl f neg ∧ tl f neg ≤ msk f ∧ (cls f (tl f neg) = 3 ∨ cls f (tl f neg) = 4) := by
  have hm := ok.hm
  have hx := ok.x
  have hn := ok.n
  have o3 := ok2.tri
  have o2 := ok.two
  have k1 : f.k ≠ 1 := fun e => h (.inr (.inl e))
  have nx : ¬ (f.n = 0 ∧ f.x = 0) := fun e => h (.inr (.inr e))
  unfold tl
  by_cases n0 : f.n = 0
  · rw [if_pos n0]
    refine ⟨hx.1, hx.2, .inr ?_⟩
    by_cases e2 : f.k = 2
    · have o2' := o2 e2
      have g : ngs f f.x = false := by rw [ngs_is ok (by omega)]; exact decide_eq_false (by omega)
      rw [cls_two_ e2, kyf_pos g, if_pos (by omega), if_neg (by omega)]
    · unfold cls
      rw [if_neg (fun e => e2 e.1), if_pos ⟨e2, by omega, rfl⟩]
  · rw [if_neg n0]
    obtain ⟨e2, h1, h2⟩ := ok3.most n0
    cases neg with
    | false =>
      rw [if_neg (by simp)]
      have g : ngs f f.n = false := by rw [ngs_is ok (by omega)]; exact decide_eq_false (by omega)
      refine ⟨hn.1, hn.2, .inl ?_⟩
      rw [cls_two_ e2, kyf_pos g, if_pos h1, if_pos rfl]
    | true =>
      rw [if_pos rfl]
      have g : ngs f (f.n + half f) = true := by rw [ngs_is ok (by omega)]; exact decide_eq_true (by omega)
      refine ⟨by omega, by omega, .inl ?_⟩
      rw [cls_two_ e2, kyf_two ok e2 g, show f.n + half f - half f = f.n by omega, if_pos h1, if_pos rfl]
/-- What Round tells is no number, or a number's pattern. -/
theorem rv_class {f : Fm} (ok : Ok f) (ok2 : Ok2 f) (ok3 : Ok3 f) {mode : Int} {neg : Bool} {X : Nat} {p : Int} (h : Rv f mode neg X p) :
    0 ≤ p ∧ p ≤ msk f ∧
    (((cls f p = 3 ∨ cls f p = 4) ∧ ((f.k = 4 ∧ (neg = true ∨ X = 0) ∧ p = f.x) ∨ (¬ (f.k = 4 ∧ (neg = true ∨ X = 0)) ∧ ¬ st f mode))) ∨
     (¬ (f.k = 4 ∧ (neg = true ∨ X = 0)) ∧ ∃ q k o, mst f neg = (q : Nat) ∧ Nr f q X k o ∧ ¬ (o = true ∧ ¬ st f mode) ∧ p = pat f neg k ∧ k ≤ q ∧ (q : Int) ≤ tp f)) := by
  rcases h with ⟨h1, h2, rfl⟩ | ⟨h1, q, k, o, hq, hn, h⟩
  · have := ok2.four h1
    have hx := ok.x
    refine ⟨hx.1, hx.2, .inl ⟨.inr ?_, .inl ⟨h1, h2, rfl⟩⟩⟩
    unfold cls
    rw [if_neg (by omega), if_pos ⟨by omega, by omega, rfl⟩]
  · rcases h with ⟨_, h2, rfl⟩ | ⟨h2, rfl⟩
    · obtain ⟨a, b, c⟩ := tl_class ok ok2 ok3 neg h2
      exact ⟨a, b, .inl ⟨c, .inr ⟨h1, h2⟩⟩⟩
    · obtain ⟨q', hq', _, _, qt⟩ := mst_rng ok ok2 ok3 neg
      obtain rfl : q = q' := by omega
      have kq : k ≤ q := by
        rcases hn with ⟨_, rfl, _⟩ | ⟨_, h, _⟩
        · exact Nat.le_refl _
        · exact h
      obtain ⟨a, b, _⟩ := pat_key ok ok2 ok3 (neg := neg) (k := k) (fun e => h1 ⟨e.1, .inl e.2⟩) (by omega)
      exact ⟨a, b, .inr ⟨h1, q, k, o, hq, hn, h2, rfl, kq, qt⟩⟩
end M
end Go.Proofs.YtbbjlcgfaigmdaaGreatDoor
