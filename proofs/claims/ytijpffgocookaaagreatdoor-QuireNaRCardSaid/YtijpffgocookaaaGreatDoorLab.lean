/-
  The laws of layer 8: what each shows first, small, and what they come to in numbers.
-/
import Derived.Test.YtijpffgocookaaaGreatDoorRva
/-
  The laws of layer 8: what each shows first; a number that is cut.
-/
namespace Go.Proofs.YtijpffgocookaaaGreatDoor
open Go.RowKit
set_option linter.unusedSimpArgs false
set_option linter.unusedVariables false

/-- What came in may be written. -/
def Fz (w : World) (A : Option Addr) (n : Nat) : Prop := ∀ ad, A = some ad → ∀ j, j < n → w.frozen? (ad.add j) = false
theorem Src.wd0 {w : World} {A : Option Addr} {n c : Nat} {xs : List Nat} (h : Src w A n c xs) (hz : Fz w A n) (hn : n ≤ 1099511627776) : Wd w 0 A n c xs := by
  refine ⟨h.num, h.len, hn, h.wds, fun h0 => ?_⟩
  rcases A with _ | ⟨b, o, sp⟩
  · have := h.none_ rfl
    have := h.len
    omega
  · have c0 := h.at_ _ rfl 0 h0
    have e : sp = none := by
      rcases sp with _ | sp
      · rfl
      · exfalso
        simp only [Addr.add, if_pos rfl, World.cell?] at c0
        split at c0 <;> simp at c0
    subst e
    refine ⟨b, o, rfl, Nat.zero_le _, fun j hj => ?_⟩
    have e : (Addr.mk b o none).add j = ⟨b, o + j, none⟩ := by
      unfold Addr.add
      split
      · rename_i e; subst e; rfl
      · rfl
    rw [← e]
    exact ⟨h.at_ _ rfl j hj, hz _ rfl j hj⟩
theorem M.trimmed (xs : List Nat) (k : Nat) : ∃ m, m ≤ k ∧ (0 < m → xs.getD (m - 1) 0 ≠ 0) ∧ ∀ j, m ≤ j → j < k → xs.getD j 0 = 0 := by
  induction k with
  | zero => exact ⟨0, Nat.le_refl _, fun h => by omega, fun j _ h => by omega⟩
  | succ k ih =>
    by_cases h : xs.getD k 0 = 0
    · obtain ⟨m, h1, h2, h3⟩ := ih
      refine ⟨m, by omega, h2, fun j a b => ?_⟩
      rcases Nat.eq_or_lt_of_le (Nat.le_of_lt_succ b) with rfl | e
      · exact h
      · exact h3 j a e
    · exact ⟨k + 1, Nat.le_refl _, fun _ => h, fun j a b => by omega⟩
/-- What is told is v, and nothing that was there has turned. -/
def Xe (v : Value) (w : World) (e : Ending) (w' : World) : Prop := e = .returned v ∧ Up w w'
namespace M
theorem isk7_1 : IsK 7 1 1 (-24) := ⟨by decide, -6, 0, 0, 0, by unfold Ps; decide, by decide, by decide⟩
theorem bd5 : Bd (tb 5) 126 29 4 := .inr (.inl ⟨rfl, 3, by decide, rfl, by unfold mok; decide, .inr ⟨by decide, 0, by decide, by decide⟩⟩)
theorem bd12 : Bd (tb 12) 31743 4095 4 := .inr (.inl ⟨rfl, 10, by decide, rfl, by unfold mok; decide, .inr ⟨by decide, 0, by decide +kernel, by decide +kernel⟩⟩)
theorem mg1 : Mg0 (tb 1) 1 1 (-24) := .inr ⟨.inl (by decide), .inl ⟨rfl, 7, by decide, rfl, isk7_1⟩⟩
theorem nr_on {f : Fm} (ok : Ok f) (ok2 : Ok2 f) (ok3 : Ok3 f) {q k m : Nat} {z : Int} (hq : (q : Int) ≤ tp f) (hk : k ≤ q) (k0 : k ≠ 0) (he : k % 2 = 0) (h : Bd f k m z) : Nr f q (sz m z 0) k false := by
  refine .inr ⟨rfl, hk, ?_, fun _ _ => k0, fun j hj => .inl ?_⟩
  · rw [byd_iff ⟨m, z, h, rfl⟩]
    omega
  · obtain ⟨Y, hy⟩ := bo_ex ok ok2 (k := j) (by omega)
    obtain ⟨d, rfl⟩ : ∃ d, k = j + d + 1 := ⟨k - j - 1, by omega⟩
    exact (byd_iff hy).2 (.inl (bo_lt ok ok2 ok3 d j _ _ (by omega) hy ⟨m, z, h, rfl⟩))
theorem nr_over {f : Fm} {q m a : Nat} {z t : Int} (zb : -5000 ≤ z) (tb' : -5000 ≤ t) (h : Bd f q m z) (g : Gt a t m z) : Nr f q (sz a t 0) q true :=
  .inl ⟨rfl, rfl, _, ⟨m, z, h, rfl⟩, .inl (gt_sz tb' zb g)⟩
theorem s1 : Rc 5 2 false (sz 29 4 0) 126 0 := .inr ⟨5, rfl, by decide, by decide, .inr ⟨.inr rfl, .inr ⟨by decide, 126, 126, false, by decide, nr_on (ok 5 (by decide) (by decide)) (ok2 5 (by decide) (by decide)) (ok3 5 (by decide) (by decide)) (by decide) (by decide) (by decide) (by decide) bd5, .inr ⟨fun e => (by cases e.1), by decide⟩⟩, rfl⟩⟩
theorem o5 : Nr (tb 5) 126 (sz 465 0 0) 126 true := nr_over (by decide) (by decide) bd5 ⟨0, by decide, by decide, by decide⟩
theorem s2 : Rc 5 2 true (sz 465 0 0) 127 0 := .inr ⟨5, rfl, by decide, by decide, .inr ⟨.inr rfl, .inr ⟨by decide, 126, 126, true, by decide, o5, .inl ⟨rfl, by unfold st; decide, by decide⟩⟩, rfl⟩⟩
theorem s3 : Rc 5 1 true (sz 465 0 0) 254 0 := .inr ⟨5, rfl, by decide, by decide, .inr ⟨.inl rfl, .inr ⟨by decide, 126, 126, true, by decide, o5, .inr ⟨fun e => e.2 (.inl rfl), by decide⟩⟩, rfl⟩⟩
theorem o1 : Nr (tb 1) 127 (sz 1 (-300) 0) 1 false := by
  have g : Gt 1 (-24) 1 (-300) := ⟨300, by decide, by decide, by decide +kernel⟩
  have h1 := gt_sz (by decide) (by decide) g
  refine .inr ⟨rfl, by decide, ?_, fun _ _ => by decide, fun j hj => .inr ⟨rfl, fun e => ?_, by omega⟩⟩
  · rintro ⟨Y, ⟨m, z, h, rfl⟩, h2⟩
    have zb := bd_z (ok 1 (by decide) (by decide)) (ok2 1 (by decide) (by decide)) (ok3 1 (by decide) (by decide)) (k := 1) (by decide) h
    rcases gt_mid mg1 h with e | ⟨_, e⟩
    · omega
    · have := gt_sz (by omega) (by decide) e
      omega
  · have := sz_zero.1 e
    omega
theorem s4 : Rc 1 2 false (sz 1 (-300) 0) 1 0 := .inr ⟨1, rfl, by decide, by decide, .inr ⟨.inr rfl, .inr ⟨by decide, 127, 1, false, by decide, o1, .inr ⟨fun e => (by cases e.1), by decide⟩⟩, rfl⟩⟩
theorem s5 : Rc 12 2 true (sz 1 16 0) 64512 0 := .inr ⟨12, rfl, by decide, by decide, .inr ⟨.inr rfl, .inr ⟨by decide, 31743, 31743, true, by decide, nr_over (by decide) (by decide) bd12 ⟨0, by decide, by decide, by decide⟩, .inl ⟨rfl, by unfold st; decide, by decide⟩⟩, rfl⟩⟩
theorem s6 : Rc 1 3 false (sz 0 0 0) 0 1 := .inr ⟨1, rfl, by decide, by decide, .inl ⟨by decide, rfl, rfl⟩⟩
theorem s7 : Rc 14 2 true (sz 0 0 0) 9223372036854775808 0 := by
  rw [sz_zero.2 rfl]
  exact .inr ⟨14, rfl, by decide, by decide, .inr ⟨.inr rfl, .inr ⟨by decide, 9218868437227405311, 0, false, by decide, nr_zero, .inr ⟨fun e => (by cases e.1), by decide⟩⟩, rfl⟩⟩
end M
/-- What a law comes to that is true. -/
def True8 (w : World) (e : Ending) (w' : World) : Prop := e = .returned (.bool true) ∧ Up w w'
end Go.Proofs.YtijpffgocookaaaGreatDoor
/-
  The laws of layer 8 in numbers.
-/
namespace Go.Proofs.YtijpffgocookaaaGreatDoor
open Go.RowKit
set_option linter.unusedSimpArgs false
set_option linter.unusedVariables false

theorem Nt.lt128 {w : World} {lo s : Nat} {v : Value} {a : Nat} (h : Nt w lo s v a) (hs : s ≤ 128) : a < 18446744073709551616 ^ 128 := by
  obtain ⟨A, n, c, xs, _, h1, h2, h3, _⟩ := h
  have h4 := M.val_lt h1.wds
  rw [h2] at h4
  refine Nat.lt_of_lt_of_le h4 (Nat.pow_le_pow_right (by decide) ?_)
  rw [h1.num]
  omega
namespace M
theorem pat_key {f : Fm} (ok : Ok f) (ok2 : Ok2 f) (ok3 : Ok3 f) {neg : Bool} {k : Nat} (h4 : ¬ (f.k = 4 ∧ neg = true)) (hk : (k : Int) ≤ mst f neg) :
    0 ≤ pat f neg k ∧ pat f neg k ≤ msk f ∧ ((k ≠ 0 ∨ f.k = 4) → cls f (pat f neg k) = 2 ∧ kyf f (pat f neg k) = k ∧ ngs f (pat f neg k) = neg) ∧ ((k = 0 ∧ f.k ≠ 4) → cls f (pat f neg k) = 1) := by
  have hm := ok.hm
  have ht := ok.t
  have o1 := ok2.one
  have o3 := ok2.tri
  have o4 := ok2.four
  have o2 := ok.two
  unfold mst at hk
  by_cases e4 : f.k = 4
  · have hn : neg = false := by
      cases neg
      · rfl
      · exact absurd ⟨e4, rfl⟩ h4
    subst hn
    rw [if_neg (by omega)] at hk
    have hp : pat f false k = k := by unfold pat; rw [if_pos rfl]
    rw [hp]
    have g := ngs_four ok e4 (k : Int)
    have hy := kyf_pos g
    have hc : cls f (k : Int) = 2 := by
      unfold cls
      rw [if_neg (by omega), if_neg (by omega), if_neg (by omega)]
    exact ⟨by omega, by omega, fun _ => ⟨hc, hy, g⟩, fun e => absurd e4 e.2⟩
  · have hg := ngs_is ok e4
    by_cases e2 : f.k = 2
    · have o2' := o2 e2
      rw [if_neg (by omega)] at hk
      cases neg with
      | false =>
        have hp : pat f false k = k := by unfold pat; rw [if_pos rfl]
        rw [hp]
        have g : ngs f (k : Int) = false := by rw [hg]; exact decide_eq_false (by omega)
        have hy := kyf_pos g
        have hc := cls_two_ e2 (p := (k : Int))
        rw [hy, if_neg (by omega)] at hc
        refine ⟨by omega, by omega, fun e => ⟨?_, hy, g⟩, fun e => ?_⟩
        · rw [hc, if_neg (by omega)]
        · rw [hc, if_pos (by omega)]
      | true =>
        have hp : pat f true k = k + half f := by unfold pat; rw [if_neg (by simp), if_pos e2]
        rw [hp]
        have g : ngs f ((k : Int) + half f) = true := by rw [hg]; exact decide_eq_true (by omega)
        have hy := kyf_two ok e2 g
        have hc := cls_two_ e2 (p := (k : Int) + half f)
        rw [show (k : Int) + half f - half f = k by omega] at hy
        rw [hy, if_neg (by omega)] at hc
        refine ⟨by omega, by omega, fun e => ⟨?_, hy, g⟩, fun e => ?_⟩
        · rw [hc, if_neg (by omega)]
        · rw [hc, if_pos (by omega)]
    · have e13 : f.k = 1 ∨ f.k = 3 := by rcases ok.k with e | e | e | e <;> omega
      have hx : f.k = 1 → f.x = half f ∧ f.t + 1 = half f := fun e => ⟨(o1 e).2.1, (o1 e).1⟩
      have hx3 : f.k = 3 → f.x = 0 ∧ f.t = 127 ∧ half f = 128 := fun e => ⟨(o3 e).2.2.2.1, (o3 e).2.1, (o3 e).2.2.1⟩
      cases neg with
      | false =>
        rw [if_neg (by simp)] at hk
        have hp : pat f false k = k := by unfold pat; rw [if_pos rfl]
        rw [hp]
        have g : ngs f (k : Int) = false := by rw [hg]; exact decide_eq_false (by rcases e13 with e | e <;> omega)
        have hy := kyf_pos g
        have hc := cls_trn_ e13 (p := (k : Int))
        rw [hy, if_neg (by rcases e13 with e | e <;> omega)] at hc
        refine ⟨by omega, by rcases e13 with e | e <;> omega, fun e => ⟨?_, hy, g⟩, fun e => ?_⟩
        · rw [hc, if_neg (by omega)]
        · rw [hc, if_pos (by omega)]
      | true =>
        have hk2 : (k : Int) ≤ half f ∧ (f.k = 1 → (k : Int) < half f) := by
          rcases e13 with e | e
          · have := hx e
            rw [if_neg (by omega)] at hk
            omega
          · have := hx3 e
            rw [if_pos ⟨e, rfl⟩] at hk
            omega
        by_cases k0 : k = 0
        · subst k0
          have hp : pat f true 0 = 0 := by unfold pat; rw [if_neg (by simp), if_neg e2, if_pos rfl]
          rw [hp]
          have g : ngs f (0 : Int) = false := by rw [hg]; exact decide_eq_false (by omega)
          have hy := kyf_pos g
          have hc := cls_trn_ e13 (p := (0 : Int))
          rw [hy, if_neg (by omega), if_pos rfl] at hc
          exact ⟨by omega, by omega, fun e => by omega, fun _ => hc⟩
        · have hp : pat f true k = msk f - k + 1 := by unfold pat; rw [if_neg (by simp), if_neg e2, if_neg k0]
          rw [hp]
          have g : ngs f (msk f - k + 1) = true := by rw [hg]; exact decide_eq_true (by omega)
          have hy := kyf_trn e2 g
          rw [show msk f - (msk f - (k : Int) + 1) + 1 = k by omega] at hy
          have hc := cls_trn_ e13 (p := msk f - k + 1)
          rw [hy, if_neg (by rcases e13 with e | e <;> omega), if_neg (by omega)] at hc
          exact ⟨by omega, by omega, fun e => ⟨hc, hy, g⟩, fun e => by omega⟩
/-- What a form has for what is too large is no number. -/
theorem tl_class {f : Fm} (ok : Ok f) (ok2 : Ok2 f) (ok3 : Ok3 f) {mode : Int} (neg : Bool) (h : ¬ st f mode) : 0 ≤ tl f neg ∧ tl f neg ≤ msk f ∧ (cls f (tl f neg) = 3 ∨ cls f (tl f neg) = 4) := by
  have hm := ok.hm
  have hx := ok.x
  have hn := ok.n
  have o3 := ok2.tri
  have o2 := ok.two
  have k1 : f.k ≠ 1 := fun e => h (.inr (.inl e))
  have nx : ¬ (f.n = 0 ∧ f.x = 0) := fun e => h (.inr (.inr e))
  unfold tl
  by_cases n0 : f.n = 0
  · rw [if_pos n0]
    refine ⟨hx.1, hx.2, .inr ?_⟩
    by_cases e2 : f.k = 2
    · have o2' := o2 e2
      have g : ngs f f.x = false := by rw [ngs_is ok (by omega)]; exact decide_eq_false (by omega)
      rw [cls_two_ e2, kyf_pos g, if_pos (by omega), if_neg (by omega)]
    · unfold cls
      rw [if_neg (fun e => e2 e.1), if_pos ⟨e2, by omega, rfl⟩]
  · rw [if_neg n0]
    obtain ⟨e2, h1, h2⟩ := ok3.most n0
    cases neg with
    | false =>
      rw [if_neg (by simp)]
      have g : ngs f f.n = false := by rw [ngs_is ok (by omega)]; exact decide_eq_false (by omega)
      refine ⟨hn.1, hn.2, .inl ?_⟩
      rw [cls_two_ e2, kyf_pos g, if_pos h1, if_pos rfl]
    | true =>
      rw [if_pos rfl]
      have g : ngs f (f.n + half f) = true := by rw [ngs_is ok (by omega)]; exact decide_eq_true (by omega)
      refine ⟨by omega, by omega, .inl ?_⟩
      rw [cls_two_ e2, kyf_two ok e2 g, show f.n + half f - half f = f.n by omega, if_pos h1, if_pos rfl]
/-- What Round tells is no number, or a number's pattern. -/
theorem rv_class {f : Fm} (ok : Ok f) (ok2 : Ok2 f) (ok3 : Ok3 f) {mode : Int} {neg : Bool} {X : Nat} {p : Int} (h : Rv f mode neg X p) :
    0 ≤ p ∧ p ≤ msk f ∧
    (((cls f p = 3 ∨ cls f p = 4) ∧ ((f.k = 4 ∧ (neg = true ∨ X = 0) ∧ p = f.x) ∨ (¬ (f.k = 4 ∧ (neg = true ∨ X = 0)) ∧ ¬ st f mode))) ∨
     (¬ (f.k = 4 ∧ (neg = true ∨ X = 0)) ∧ ∃ q k o, mst f neg = (q : Nat) ∧ Nr f q X k o ∧ ¬ (o = true ∧ ¬ st f mode) ∧ p = pat f neg k ∧ k ≤ q ∧ (q : Int) ≤ tp f)) := by
  rcases h with ⟨h1, h2, rfl⟩ | ⟨h1, q, k, o, hq, hn, h⟩
  · have := ok2.four h1
    have hx := ok.x
    refine ⟨hx.1, hx.2, .inl ⟨.inr ?_, .inl ⟨h1, h2, rfl⟩⟩⟩
    unfold cls
    rw [if_neg (by omega), if_pos ⟨by omega, by omega, rfl⟩]
  · rcases h with ⟨_, h2, rfl⟩ | ⟨h2, rfl⟩
    · obtain ⟨a, b, c⟩ := tl_class ok ok2 ok3 neg h2
      exact ⟨a, b, .inl ⟨c, .inr ⟨h1, h2⟩⟩⟩
    · obtain ⟨q', hq', _, _, qt⟩ := mst_rng ok ok2 ok3 neg
      obtain rfl : q = q' := by omega
      have kq : k ≤ q := by
        rcases hn with ⟨_, rfl, _⟩ | ⟨_, h, _⟩
        · exact Nat.le_refl _
        · exact h
      obtain ⟨a, b, _⟩ := pat_key ok ok2 ok3 (neg := neg) (k := k) (fun e => h1 ⟨e.1, .inl e.2⟩) (by omega)
      exact ⟨a, b, .inr ⟨h1, q, k, o, hq, hn, h2, rfl, kq, qt⟩⟩
/-- Of what a number's pattern means Round is that pattern. -/
theorem has_rv {f : Fm} (ok : Ok f) (ok2 : Ok2 f) (ok3 : Ok3 f) {p : Nat} (hp : (p : Int) ≤ msk f) {c : Int} {g : Bool} {m : Nat} {z : Int} (h : Dv f p c g m z) (hc : c = 1 ∨ c = 2) (mode : Int) : Rv f mode g (sz m z 0) p ∧ m < 18446744073709551616 ∧ -3000 ≤ z ∧ z ≤ 3000 := by
  have key : ∃ k, Kv f p g k 0 ∧ Mg0 f k m z := by
    rcases h with ⟨_, rfl, _⟩ | ⟨_, rfl, _⟩ | ⟨h1, rfl, rfl, rfl, rfl⟩ | ⟨h1, rfl, rfl, k, hk, hm⟩
    · omega
    · omega
    · obtain ⟨r1, _, _, _⟩ := cls_key ok ok2 (p := p) (by omega) hp (.inl h1)
      have h2 := h1
      unfold cls at h2
      split at h2
      · split at h2 <;> omega
      · split at h2
        · omega
        · split at h2
          · rename_i e
            exact ⟨0, .inr (.inl ⟨h1, rfl, by omega, rfl⟩), .inl ⟨rfl, e.2, rfl, rfl⟩⟩
          · omega
    · obtain ⟨_, _, _, r4⟩ := cls_key ok ok2 (p := p) (by omega) hp (.inr h1)
      exact ⟨k, .inr (.inr ⟨h1, rfl, hk, rfl⟩), .inr ⟨by have := r4 h1; omega, hm⟩⟩
  obtain ⟨k, hk, hm⟩ := key
  obtain ⟨h4, km, hpat, kt, _⟩ := kv_back ok ok2 hp hk
  obtain ⟨q, hq, _, _, qt⟩ := mst_rng ok ok2 ok3 g
  have mz := mg_z ok ok2 ok3 kt hm
  refine ⟨.inr ⟨fun e => ?_, q, k, false, hq, nr_has ok ok2 ok3 qt (by omega) hm, .inr ⟨fun e => (by cases e.1), hpat.symm⟩⟩, mz⟩
  rcases e.2 with e2 | e2
  · exact h4 ⟨e.1, e2⟩
  · have m0 := sz_zero.1 e2
    rcases hm with ⟨_, e3, _⟩ | ⟨e3, hm⟩
    · exact e3 e.1
    · exact mg_nz hm e3 m0
/-- A size within the limits of its key. -/
theorem within {f : Fm} (ok : Ok f) (ok2 : Ok2 f) (ok3 : Ok3 f) {neg o : Bool} {X q k m1 m2 : Nat} {z1 z2 : Int} (hq : mst f neg = q) (kq : k ≤ q) (qt : (q : Int) ≤ tp f) (hn : Nr f q X k o) (ho : ¬ (o = true ∧ ¬ st f 2)) (hl : Lm f neg k m1 z1 m2 z2) :
    sz m1 z1 0 ≤ X ∧ (k % 2 = 1 → sz m1 z1 0 < X) ∧ (m2 = 0 ∨ (m2 ≠ 0 ∧ X ≤ sz m2 z2 0 ∧ (k % 2 = 1 → X < sz m2 z2 0))) ∧ m1 < 18446744073709551616 ∧ m2 < 18446744073709551616 ∧ -3000 ≤ z1 ∧ z1 ≤ 3000 ∧ -3000 ≤ z2 ∧ z2 ≤ 3000 := by
  obtain ⟨l1, l2⟩ := hl
  have low : (sz m1 z1 0 ≤ X ∧ (k % 2 = 1 → sz m1 z1 0 < X)) ∧ m1 < 18446744073709551616 ∧ -3000 ≤ z1 ∧ z1 ≤ 3000 := by
    rcases l1 with ⟨h, rfl, rfl⟩ | ⟨h, hb⟩
    · rw [sz_zero.2 rfl]
      refine ⟨⟨Nat.zero_le _, fun e => ?_⟩, by decide, by decide, by decide⟩
      rcases Nat.eq_zero_or_pos X with x0 | x0
      · exfalso
        subst x0
        have := (nr_uniq ok ok2 ok3 qt hn nr_zero).1
        omega
      · exact x0
    · have zb := bd_z ok ok2 ok3 (k := k - 1) (by omega) hb
      have byd : Byd f X (k - 1) := by
        rcases hn with ⟨_, rfl, h1⟩ | ⟨_, _, _, _, h2⟩
        · exact byd_down ok ok2 ok3 qt (by omega) h1
        · rcases h2 (k - 1) (by omega) with e | ⟨e1, _, e3⟩
          · exact e
          · unfold lst at h
            rw [if_pos e1] at h
            omega
      have := (byd_iff ⟨m1, z1, hb, rfl⟩).1 byd
      exact ⟨⟨by omega, fun e => by omega⟩, zb.2⟩
  have high : (m2 = 0 ∨ (m2 ≠ 0 ∧ X ≤ sz m2 z2 0 ∧ (k % 2 = 1 → X < sz m2 z2 0))) ∧ m2 < 18446744073709551616 ∧ -3000 ≤ z2 ∧ z2 ≤ 3000 := by
    rcases l2 with ⟨_, rfl, rfl⟩ | ⟨h, hb⟩
    · exact ⟨.inl rfl, by decide, by decide, by decide⟩
    · have zb := bd_z ok ok2 ok3 (k := k) (by omega) hb
      refine ⟨.inr ⟨by omega, ?_⟩, zb.2⟩
      rcases hn with ⟨rfl, rfl, h1⟩ | ⟨_, _, h1, _⟩
      · exact absurd ⟨by omega, Classical.byContradiction (fun e => ho ⟨rfl, e⟩)⟩ h
      · have := fun e => h1 ((byd_iff ⟨m2, z2, hb, rfl⟩).2 e)
        have h3 : ¬ (sz m2 z2 0 < X) := fun e => this (.inl e)
        exact ⟨by omega, fun e => by
          have h4 : ¬ (sz m2 z2 0 = X) := fun e2 => this (.inr ⟨e2, e⟩)
          omega⟩
  exact ⟨low.1.1, low.1.2, high.1, low.2.1, high.2.1, low.2.2.1, low.2.2.2, high.2.2.1, high.2.2.2⟩
/-- On a boundary. -/
theorem ties {f : Fm} (ok : Ok f) (ok2 : Ok2 f) (ok3 : Ok3 f) {q k m : Nat} {z : Int} (hq : (q : Int) ≤ tp f) (q2 : 2 ≤ q) (hk : k ≤ q) (h : Bd f k m z) :
    ∃ k' o, Nr f q (sz m z 0) k' o ∧ ((k % 2 = 0 ∧ o = false ∧ k' = (if k = 0 ∧ f.k = 1 then 1 else k)) ∨ (k % 2 = 1 ∧ k = q ∧ o = true ∧ k' = q) ∨ (k % 2 = 1 ∧ k ≠ q ∧ o = false ∧ k' = k + 1)) := by
  have hB : Bo f k (sz m z 0) := ⟨m, z, h, rfl⟩
  have zb := bd_z ok ok2 ok3 (k := k) (by omega) h
  have x0 : sz m z 0 ≠ 0 := fun e => by have := sz_zero.1 e; omega
  have up : ∀ j Y, k < j → j ≤ q → Bo f j Y → sz m z 0 < Y := fun j Y h1 h2 hy => by
    obtain ⟨d, rfl⟩ : ∃ d, j = k + d + 1 := ⟨j - k - 1, by omega⟩
    exact bo_lt ok ok2 ok3 d k _ _ (by omega) hB hy
  have down : ∀ j, j < k → Byd f (sz m z 0) j := fun j h1 => by
    obtain ⟨Y, hy⟩ := bo_ex ok ok2 (k := j) (by omega)
    obtain ⟨d, rfl⟩ : ∃ d, k = j + d + 1 := ⟨k - j - 1, by omega⟩
    exact (byd_iff hy).2 (.inl (bo_lt ok ok2 ok3 d j _ _ (by omega) hy hB))
  have nup : ∀ j, k < j → j ≤ q → ¬ Byd f (sz m z 0) j := fun j h1 h2 => by
    obtain ⟨Y, hy⟩ := bo_ex ok ok2 (k := j) (by omega)
    have := up j Y h1 h2 hy
    rw [byd_iff hy]
    omega
  rcases (show k % 2 = 0 ∨ k % 2 = 1 by omega) with e | e
  · by_cases c : k = 0 ∧ f.k = 1
    · refine ⟨1, false, .inr ⟨rfl, by omega, nup 1 (by omega) (by omega), fun _ _ => by decide, fun j hj => .inr ⟨c.2, x0, by omega⟩⟩, .inl ⟨e, rfl, by rw [if_pos c]⟩⟩
    · refine ⟨k, false, .inr ⟨rfl, hk, ?_, fun h1 _ h2 => c ⟨h2, h1⟩, fun j hj => .inl (down j hj)⟩, .inl ⟨e, rfl, by rw [if_neg c]⟩⟩
      rw [byd_iff hB]
      omega
  · by_cases c : k = q
    · subst c
      exact ⟨k, true, .inl ⟨rfl, rfl, (byd_iff hB).2 (.inr ⟨rfl, e⟩)⟩, .inr (.inl ⟨e, rfl, rfl, rfl⟩)⟩
    · refine ⟨k + 1, false, .inr ⟨rfl, by omega, nup (k + 1) (by omega) (by omega), fun _ _ => by omega, fun j hj => .inl ?_⟩, .inr (.inr ⟨e, c, rfl, rfl⟩)⟩
      rcases Nat.lt_or_ge j k with hj2 | hj2
      · exact down j hj2
      · obtain rfl : j = k := by omega
        exact (byd_iff hB).2 (.inr ⟨rfl, e⟩)
/-- The pattern of the other sign. -/
theorem signs {f : Fm} (ok : Ok f) (ok2 : Ok2 f) (ok3 : Ok3 f) {mode : Int} {neg : Bool} {X : Nat} {p q : Int} (hm : mode = 1 ∨ mode = 2) (hk : f.k = 1 ∨ f.k = 2) (h : Rv f mode neg X p) (h' : Rv f mode (!neg) X q) :
    (f.x ≠ 0 ∧ p = f.x ∧ q = p ∧ f.n = 0 ∧ mode = 2) ∨ ((f.x = 0 ∨ p ≠ f.x) ∧ ((f.k = 2 ∧ q = if half f ≤ p then p - half f else p + half f) ∨ (f.k = 1 ∧ q = trn f p))) := by
  have hM := ok.hm
  have ht := ok.t
  have o1 := ok2.one
  have o2 := ok.two
  have hms : ∀ n, mst f n = f.t := fun n => by unfold mst; rw [if_neg (by omega)]
  have n4 : ¬ (f.k = 4 ∧ (neg = true ∨ X = 0)) := fun e => by omega
  rcases h with ⟨e, _⟩ | ⟨_, q1, k, o, hq, hn, hp⟩
  · omega
  · rcases h' with ⟨e, _⟩ | ⟨_, q2, k', o', hq', hn', hp'⟩
    · omega
    · obtain ⟨q3, hq3, q33, _, qt⟩ := mst_rng ok ok2 ok3 neg
      rw [hms] at hq hq' hq3
      obtain rfl : q1 = q3 := by omega
      obtain rfl : q1 = q2 := by omega
      obtain ⟨rfl, rfl⟩ := nr_uniq ok ok2 ok3 qt hn hn'
      have kq : k ≤ q1 := by
        rcases hn with ⟨_, rfl, _⟩ | ⟨_, h, _⟩
        · exact Nat.le_refl _
        · exact h
      rcases hp with ⟨ho, hs, rfl⟩ | ⟨hs, rfl⟩
      · rcases hp' with ⟨_, _, rfl⟩ | ⟨hs', _⟩
        · have k2 : f.k = 2 := by
            rcases hk with e | e
            · exact absurd (.inr (.inl e)) hs
            · exact e
          have o2' := o2 k2
          unfold tl
          by_cases n0 : f.n = 0
          · rw [if_pos n0, if_pos n0]
            have x0 : f.x ≠ 0 := fun e => hs (.inr (.inr ⟨n0, e⟩))
            refine .inl ⟨x0, rfl, rfl, n0, ?_⟩
            rcases hm with e | e
            · exact absurd (.inl e) hs
            · exact e
          · rw [if_neg n0, if_neg n0]
            obtain ⟨_, n1, n2⟩ := ok3.most n0
            cases neg
            · simp only [Bool.not_false, if_pos, Bool.false_eq_true, if_false]
              exact .inr ⟨by omega, .inl ⟨k2, by rw [if_neg (by omega)]⟩⟩
            · simp only [Bool.not_true, if_pos, Bool.false_eq_true, if_false]
              exact .inr ⟨by omega, .inl ⟨k2, by rw [if_pos (by omega)]; omega⟩⟩
        · exact absurd ⟨ho, hs⟩ hs'
      · rcases hp' with ⟨ho, hs', _⟩ | ⟨_, rfl⟩
        · exact absurd ⟨ho, hs'⟩ hs
        · refine .inr ?_
          unfold pat trn
          rcases hk with e | e
          · have := o1 e
            cases neg <;> simp only [Bool.not_false, Bool.not_true, if_pos, Bool.false_eq_true, Bool.true_eq_false, if_false] <;> rw [if_neg (by omega)] <;> by_cases k0 : k = 0
            · rw [if_pos k0]; exact ⟨by omega, .inr ⟨e, by rw [if_pos (by omega)]⟩⟩
            · rw [if_neg k0]; exact ⟨by omega, .inr ⟨e, by rw [if_neg (by omega)]; omega⟩⟩
            · rw [if_pos k0]; exact ⟨by omega, .inr ⟨e, by rw [if_pos rfl]; omega⟩⟩
            · rw [if_neg k0]; exact ⟨by omega, .inr ⟨e, by rw [if_neg (by omega)]; omega⟩⟩
          · have := o2 e
            cases neg <;> simp only [Bool.not_false, Bool.not_true, if_pos, Bool.false_eq_true, Bool.true_eq_false, if_false] <;> rw [if_pos e]
            · exact ⟨by omega, .inl ⟨e, by rw [if_neg (by omega)]⟩⟩
            · exact ⟨by omega, .inl ⟨e, by rw [if_pos (by omega)]; omega⟩⟩
end M
end Go.Proofs.YtijpffgocookaaaGreatDoor
