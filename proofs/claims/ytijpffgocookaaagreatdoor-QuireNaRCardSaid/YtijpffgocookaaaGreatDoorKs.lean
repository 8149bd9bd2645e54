/-
  Layer 11 in numbers: the limits of a pattern; which of the two numbers beside a size is told; the shortest digits, and all. No program is named here.
-/
import Derived.Test.YtijpffgocookaaaGreatDoorKn
namespace Go.Proofs.YtijpffgocookaaaGreatDoor
open Go.RowKit
set_option linter.unusedSimpArgs false
set_option linter.unusedVariables false

namespace M
/-- A size lies between the limits of a pattern. -/
def In (m1 : Nat) (z1 : Int) (m2 : Nat) (z2 : Int) (ev : Bool) (X : Nat) : Prop :=
  (sz m1 z1 0 < X ∨ (sz m1 z1 0 = X ∧ ev = true)) ∧ (m2 = 0 ∨ X < sz m2 z2 0 ∨ (X = sz m2 z2 0 ∧ ev = true))
theorem in_conv {m1 m2 : Nat} {z1 z2 : Int} {ev : Bool} {X Y Z : Nat} (h : In m1 z1 m2 z2 ev X) (h' : In m1 z1 m2 z2 ev Z) (h1 : X ≤ Y) (h2 : Y ≤ Z) : In m1 z1 m2 z2 ev Y := by
  obtain ⟨a, _⟩ := h
  obtain ⟨_, b⟩ := h'
  constructor
  · rcases a with a | ⟨a, e⟩
    · exact .inl (by omega)
    · rcases Nat.eq_or_lt_of_le h1 with c | c
      · exact .inr ⟨by omega, e⟩
      · exact .inl (by omega)
  · rcases b with b | b | ⟨b, e⟩
    · exact .inl b
    · exact .inr (.inl (by omega))
    · rcases Nat.eq_or_lt_of_le h2 with c | c
      · exact .inr (.inr ⟨by omega, e⟩)
      · exact .inr (.inl (by omega))
/-- A pattern that is a number, not nought: its sign, its size, its limits. -/
structure Pt (f : Fm) (p : Nat) (g : Bool) (m : Nat) (z : Int) (m1 : Nat) (z1 : Int) (m2 : Nat) (z2 : Int) (ev : Bool) : Prop where
  fit : (p : Int) ≤ msk f
  dv : Dv f p 2 g m z
  key : ∃ k : Nat, kyf f p = k ∧ Lm f g k m1 z1 m2 z2 ∧ ev = decide (k % 2 = 0)
theorem pt_key {f : Fm} (ok : Ok f) (ok2 : Ok2 f) {p : Nat} {g : Bool} {m : Nat} {z : Int} (hp : (p : Int) ≤ msk f) (h : Dv f p 2 g m z) :
    cls f p = 2 ∧ g = ngs f p ∧ ∃ k : Nat, kyf f p = k ∧ Mg0 f k m z ∧ ¬ (f.k = 4 ∧ g = true) ∧ (k : Int) ≤ mst f g ∧ pat f g k = p ∧ (k : Int) ≤ tp f ∧ (k ≠ 0 ∨ f.k = 4) ∧ m ≠ 0 := by
  rcases h with ⟨_, e, _⟩ | ⟨_, e, _⟩ | ⟨_, e, _⟩ | ⟨c2, _, rfl, k, hk, hm⟩
  · exact absurd e (by decide)
  · exact absurd e (by decide)
  · exact absurd e (by decide)
  · obtain ⟨_, _, _, r4⟩ := cls_key ok ok2 (p := p) (by omega) hp (.inr c2)
    have k0 : k ≠ 0 ∨ f.k = 4 := by have := r4 c2; omega
    obtain ⟨h4, km, hpat, kt, _⟩ := kv_back ok ok2 hp (g := ngs f p) (k := k) (.inr (.inr ⟨c2, rfl, hk, rfl⟩))
    exact ⟨c2, rfl, k, hk, .inr ⟨k0, hm⟩, h4, km, hpat, kt, k0, mg_nz hm k0⟩
theorem pt_ex {f : Fm} (ok : Ok f) (ok2 : Ok2 f) (ok3 : Ok3 f) {p : Nat} {g : Bool} {m : Nat} {z : Int} (hp : (p : Int) ≤ msk f) (h : Dv f p 2 g m z) : ∃ m1 z1 m2 z2 ev, Pt f p g m z m1 z1 m2 z2 ev := by
  obtain ⟨_, _, k, hk, _, _, _, _, kt, _, _⟩ := pt_key ok ok2 hp h
  obtain ⟨m1, z1, m2, z2, hl⟩ := lm_ex ok ok2 ok3 g kt
  exact ⟨m1, z1, m2, z2, _, hp, h, k, hk, hl, rfl⟩
/-- What lies between the limits has the pattern, and nothing else has it. -/
theorem in_rv {f : Fm} (ok : Ok f) (ok2 : Ok2 f) (ok3 : Ok3 f) {p : Nat} {g : Bool} {m : Nat} {z : Int} {m1 : Nat} {z1 : Int} {m2 : Nat} {z2 : Int} {ev : Bool} (h : Pt f p g m z m1 z1 m2 z2 ev) {X : Nat} (X0 : X ≠ 0) :
    In m1 z1 m2 z2 ev X ↔ Rv f 2 g X p := by
  obtain ⟨c2, hg, k, hk, hmg, h4, km, hpat, kt, k0, m0⟩ := pt_key ok ok2 h.fit h.dv
  obtain ⟨k', hk', hl, he⟩ := h.key
  obtain rfl : k = k' := by omega
  obtain ⟨q, hq, q3, q64, qt⟩ := mst_rng ok ok2 ok3 g
  have n4 : ¬ (f.k = 4 ∧ (g = true ∨ X = 0)) := fun e => by
    rcases e.2 with e2 | e2
    · exact h4 ⟨e.1, e2⟩
    · exact X0 e2
  constructor
  · rintro ⟨lo, hi⟩
    obtain ⟨l1, l2⟩ := hl
    have LOW : ∀ j, j < k → Byd f X j ∨ (f.k = 1 ∧ X ≠ 0 ∧ j = 0) := by
      intro j hj
      rcases l1 with ⟨l1, _, _⟩ | ⟨l1, hb⟩
      · unfold lst at l1
        split at l1
        · rename_i e
          exact .inr ⟨e, X0, by omega⟩
        · omega
      · left
        obtain ⟨k1, rfl⟩ : ∃ k1, k = k1 + 1 := ⟨k - 1, by omega⟩
        rw [Nat.add_sub_cancel] at hb
        refine byd_down ok ok2 ok3 (k := j) (k' := k1) (by omega) (by omega) ?_
        rw [byd_iff ⟨m1, z1, hb, rfl⟩]
        rcases lo with lo | ⟨lo, e⟩
        · exact .inl lo
        · rw [he] at e
          have := of_decide_eq_true e
          exact .inr ⟨lo, by omega⟩
    have kq : k ≤ q := by omega
    rcases l2 with ⟨⟨e1, e2⟩, _, _⟩ | ⟨e, hb⟩
    · by_cases hB : Byd f X k
      · have e3 : k = q := by omega
        subst e3
        exact .inr ⟨n4, k, k, true, hq, .inl ⟨rfl, rfl, hB⟩, .inr ⟨fun e => e.2 e2, hpat.symm⟩⟩
      · exact .inr ⟨n4, q, k, false, hq, .inr ⟨rfl, kq, hB, fun e _ => by omega, LOW⟩, .inr ⟨fun e => (by cases e.1), hpat.symm⟩⟩
    · have hB : ¬ Byd f X k := by
        rw [byd_iff ⟨m2, z2, hb, rfl⟩]
        have := bd_nz hb
        rcases hi with hi | hi | ⟨hi, e⟩
        · omega
        · omega
        · rw [he] at e
          have := of_decide_eq_true e
          omega
      exact .inr ⟨n4, q, k, false, hq, .inr ⟨rfl, kq, hB, fun e _ => by omega, LOW⟩, .inr ⟨fun e => (by cases e.1), hpat.symm⟩⟩
  · intro r
    obtain ⟨_, q', k', o', hq', hn', ho', hp', hk2, _⟩ := rv_key ok ok2 ok3 r (.inr c2)
    obtain rfl : q = q' := by omega
    obtain rfl : k = k' := pat_inj ok ok2 ok3 h4 (by omega) (by omega) (hpat.trans hp')
    obtain ⟨w1, w2, w3, _⟩ := within ok ok2 ok3 hq hk2 qt hn' ho' hl
    refine ⟨?_, ?_⟩
    · by_cases e : k % 2 = 1
      · exact .inl (w2 e)
      · rcases Nat.eq_or_lt_of_le w1 with c | c
        · exact .inr ⟨c, by rw [he]; exact decide_eq_true (by omega)⟩
        · exact .inl c
    · rcases w3 with w3 | ⟨_, w4, w5⟩
      · exact .inl w3
      · by_cases e : k % 2 = 1
        · exact .inr (.inl (w5 e))
        · rcases Nat.eq_or_lt_of_le w4 with c | c
          · exact .inr (.inr ⟨c, by rw [he]; exact decide_eq_true (by omega)⟩)
          · exact .inr (.inl c)
/-- A pattern that a number is rounded to has its sign. -/
theorem rv_sign {f : Fm} (ok : Ok f) (ok2 : Ok2 f) (ok3 : Ok3 f) {mode : Int} {neg : Bool} {X : Nat} {p : Int} (h : Rv f mode neg X p) (hc : cls f p = 2) : neg = ngs f p := by
  obtain ⟨a4, q, k, o, hq, hn, ho, hp, hk, hqt⟩ := rv_key ok ok2 ok3 h (.inr hc)
  have n4 : ¬ (f.k = 4 ∧ neg = true) := fun e => a4 ⟨e.1, .inl e.2⟩
  obtain ⟨_, _, a1, a2⟩ := pat_key ok ok2 ok3 n4 (k := k) (by omega)
  by_cases a : k ≠ 0 ∨ f.k = 4
  · rw [hp]; exact (a1 a).2.2.symm
  · have := a2 (by omega)
    rw [← hp] at this
    omega
/-- What lies between the limits has the pattern, in both modes. -/
theorem in_both {f : Fm} (ok : Ok f) (ok2 : Ok2 f) (ok3 : Ok3 f) {p : Nat} {g : Bool} {m : Nat} {z : Int} {m1 : Nat} {z1 : Int} {m2 : Nat} {z2 : Int} {ev : Bool} (h : Pt f p g m z m1 z1 m2 z2 ev) {X : Nat} (X0 : X ≠ 0) (hi : In m1 z1 m2 z2 ev X) {mode : Int} (hm : mode = 1 ∨ mode = 2) : Rv f mode g X p := by
  obtain ⟨c2, _⟩ := pt_key ok ok2 h.fit h.dv
  have r := (in_rv ok ok2 ok3 h X0).1 hi
  rcases hm with rfl | rfl
  · exact rv_modes ok ok2 ok3 r (.inr c2)
  · exact r
theorem pt_rng {f : Fm} (ok : Ok f) (ok2 : Ok2 f) (ok3 : Ok3 f) {p : Nat} {g : Bool} {m : Nat} {z : Int} (hp : (p : Int) ≤ msk f) (h : Dv f p 2 g m z) : m ≠ 0 ∧ m < 18446744073709551616 ∧ -3000 ≤ z ∧ z ≤ 3000 := by
  obtain ⟨_, _, k, _, hmg, _, _, _, kt, _, m0⟩ := pt_key ok ok2 hp h
  exact ⟨m0, mg_z ok ok2 ok3 kt hmg⟩
/-- The size itself lies between them. -/
theorem in_own {f : Fm} (ok : Ok f) (ok2 : Ok2 f) (ok3 : Ok3 f) {p : Nat} {g : Bool} {m : Nat} {z : Int} {m1 : Nat} {z1 : Int} {m2 : Nat} {z2 : Int} {ev : Bool} (h : Pt f p g m z m1 z1 m2 z2 ev) : In m1 z1 m2 z2 ev (sz m z 0) := by
  obtain ⟨m0, _⟩ := pt_rng ok ok2 ok3 h.fit h.dv
  exact (in_rv ok ok2 ok3 h (fun e => m0 (sz_zero.1 e))).2 (has_rv ok ok2 ok3 h.fit h.dv (.inr rfl) 2).1
/-! The two numbers beside a size. -/
/-- What Floor tells of a size: how often the power goes into it; what is left. -/
structure Bes (X : Nat) (k : Int) (d : Nat) (z : Int) : Prop where
  le : sz d k k ≤ X
  lt : X < sz (d + 1) k k
  rng : z = 0 ∨ z = 1 ∨ z = 2 ∨ z = 3
  z0 : z = 0 → X = sz d k k
  z1 : z = 1 → 2 * X < sz d k k + sz (d + 1) k k
  z2 : z = 2 → 2 * X = sz d k k + sz (d + 1) k k
  z3 : z = 3 → sz d k k + sz (d + 1) k k < 2 * X
  up : z ≠ 0 → sz d k k < X
theorem sz_succ (d : Nat) (k : Int) : sz (d + 1) k k = sz d k k + sz 1 k k := sz_add d 1 k k
theorem fl_uniq {X d e : Nat} {k : Int} (h1 : sz d k k ≤ X) (h2 : X < sz (d + 1) k k) (h3 : sz e k k ≤ X) (h4 : X < sz (e + 1) k k) : d = e := by
  have up := sz_pos k k
  rw [sz_one] at h1 h2 h3 h4
  have a : d < e + 1 := Nat.lt_of_mul_lt_mul_right (Nat.lt_of_le_of_lt h1 h4)
  have b : e < d + 1 := Nat.lt_of_mul_lt_mul_right (Nat.lt_of_le_of_lt h3 h2)
  omega
theorem bes_uniq {X d e : Nat} {k y z : Int} (h : Bes X k d z) (h' : Bes X k e y) : d = e ∧ z = y := by
  obtain rfl := fl_uniq h.le h.lt h'.le h'.lt
  have a0 := h.z0
  have a1 := h.z1
  have a2 := h.z2
  have a3 := h.z3
  have a4 := h.up
  have b0 := h'.z0
  have b1 := h'.z1
  have b2 := h'.z2
  have b3 := h'.z3
  have b4 := h'.up
  refine ⟨rfl, ?_⟩
  rcases h.rng with rfl | rfl | rfl | rfl <;> rcases h'.rng with rfl | rfl | rfl | rfl <;> first | rfl | (exfalso; simp at a0 a1 a2 a3 a4 b0 b1 b2 b3 b4; omega)
theorem bes_ex (X : Nat) (k : Int) : ∃ d z, Bes X k d z := by
  have up := sz_pos k k
  obtain ⟨d, hd⟩ : ∃ d, X / sz 1 k k = d := ⟨_, rfl⟩
  have h1 : sz d k k ≤ X := by rw [sz_one, ← hd]; exact Nat.div_mul_le_self _ _
  have h2 : X < sz (d + 1) k k := by rw [sz_one, ← hd, Nat.mul_comm]; exact Nat.lt_mul_div_succ X up
  rcases Nat.eq_or_lt_of_le h1 with e | e
  · exact ⟨d, 0, h1, h2, .inl rfl, fun _ => e.symm, (fun e => by cases e), (fun e => by cases e), (fun e => by cases e), fun e => absurd rfl e⟩
  · rcases Nat.lt_trichotomy (2 * X) (sz d k k + sz (d + 1) k k) with c | c | c
    · exact ⟨d, 1, h1, h2, .inr (.inl rfl), (fun e => by cases e), fun _ => c, (fun e => by cases e), (fun e => by cases e), fun _ => e⟩
    · exact ⟨d, 2, h1, h2, .inr (.inr (.inl rfl)), (fun e => by cases e), (fun e => by cases e), fun _ => c, (fun e => by cases e), fun _ => e⟩
    · exact ⟨d, 3, h1, h2, .inr (.inr (.inr rfl)), (fun e => by cases e), (fun e => by cases e), (fun e => by cases e), fun _ => c, fun _ => e⟩
/-- Of the two numbers beside a size the one that is told. -/
def Ch (P : Nat → Prop) (d : Nat) (z : Int) (y : Nat) : Prop :=
  ((2 < z ∨ (z = 2 ∧ d % 2 = 1)) ∧ ((P (d + 1) ∧ y = d + 1) ∨ (¬ P (d + 1) ∧ P d ∧ y = d))) ∨
  (¬ (2 < z ∨ (z = 2 ∧ d % 2 = 1)) ∧ ((P d ∧ y = d) ∨ (¬ P d ∧ P (d + 1) ∧ y = d + 1)))
/-- Neither of them is told. -/
def No (P : Nat → Prop) (d : Nat) : Prop := ¬ P d ∧ ¬ P (d + 1)
theorem ch_or_no (P : Nat → Prop) (d : Nat) (z : Int) : No P d ∨ ∃ y, Ch P d z y := by
  classical
  by_cases a : P d
  · by_cases s : 2 < z ∨ (z = 2 ∧ d % 2 = 1)
    · by_cases b : P (d + 1)
      · exact .inr ⟨d + 1, .inl ⟨s, .inl ⟨b, rfl⟩⟩⟩
      · exact .inr ⟨d, .inl ⟨s, .inr ⟨b, a, rfl⟩⟩⟩
    · exact .inr ⟨d, .inr ⟨s, .inl ⟨a, rfl⟩⟩⟩
  · by_cases b : P (d + 1)
    · by_cases s : 2 < z ∨ (z = 2 ∧ d % 2 = 1)
      · exact .inr ⟨d + 1, .inl ⟨s, .inl ⟨b, rfl⟩⟩⟩
      · exact .inr ⟨d + 1, .inr ⟨s, .inr ⟨a, b, rfl⟩⟩⟩
    · exact .inl ⟨a, b⟩
theorem ch_has {P : Nat → Prop} {d y : Nat} {z : Int} (h : Ch P d z y) : P y ∧ (y = d ∨ y = d + 1) := by
  rcases h with ⟨_, ⟨a, rfl⟩ | ⟨_, a, rfl⟩⟩ | ⟨_, ⟨a, rfl⟩ | ⟨_, a, rfl⟩⟩
  · exact ⟨a, .inr rfl⟩
  · exact ⟨a, .inl rfl⟩
  · exact ⟨a, .inl rfl⟩
  · exact ⟨a, .inr rfl⟩
theorem ch_no {P : Nat → Prop} {d y : Nat} {z : Int} (h : Ch P d z y) (h' : No P d) : False := by
  obtain ⟨a, rfl | rfl⟩ := ch_has h
  · exact h'.1 a
  · exact h'.2 a
theorem ch_uniq {P : Nat → Prop} {d y y' : Nat} {z : Int} (h : Ch P d z y) (h' : Ch P d z y') : y = y' := by
  rcases h with ⟨s, ⟨a, rfl⟩ | ⟨b, a, rfl⟩⟩ | ⟨s, ⟨a, rfl⟩ | ⟨b, a, rfl⟩⟩ <;> rcases h' with ⟨s', ⟨a', rfl⟩ | ⟨b', a', rfl⟩⟩ | ⟨s', ⟨a', rfl⟩ | ⟨b', a', rfl⟩⟩ <;> first | rfl | (exfalso; first | exact s' s | exact s s' | exact b' a | exact b a')
/-- The power of ten of a size. -/
structure Tp (X : Nat) (t : Int) : Prop where
  le : sz 1 t t ≤ X
  lt : X < sz 1 (t + 1) (t + 1)
  lo : -3000 ≤ t
  hi : t ≤ 4000
/-- The shortest digits of a size by what is within: y times ten to the power of k, of n digits; none of fewer. -/
structure Sh (I : Nat → Prop) (X : Nat) (t : Int) (n : Nat) (k : Int) (d : Nat) (z : Int) (y : Nat) : Prop where
  n1 : 1 ≤ n
  n21 : n ≤ 21
  kn : k + n = t + 1
  fl : Bes X k d z
  ch : Ch (fun y => I (sz y k k)) d z y
  few : ∀ (j : Nat) (i : Int) (e : Nat), 1 ≤ j → j < n → i + j = t + 1 → sz e i i ≤ X → X < sz (e + 1) i i → No (fun y => I (sz y i i)) e
theorem sh_ex (I : Nat → Prop) (X : Nat) (t : Int) (near : ∀ (k : Int) (d : Nat), k + 20 = t → sz d k k ≤ X → X < sz (d + 1) k k → I (sz d k k)) : ∃ n k d z y, Sh I X t n k d z y := by
  have key : ∀ (r n : Nat), n + r = 21 → 1 ≤ n → (∀ (j : Nat) (i : Int) (e : Nat), 1 ≤ j → j < n → i + j = t + 1 → sz e i i ≤ X → X < sz (e + 1) i i → No (fun y => I (sz y i i)) e) → ∃ n k d z y, Sh I X t n k d z y := by
    intro r
    induction r with
    | zero =>
      intro n hn h1 few
      obtain ⟨k, hk⟩ : ∃ k : Int, k + n = t + 1 := ⟨t + 1 - n, by omega⟩
      obtain ⟨d, z, hl⟩ := bes_ex X k
      have := near k d (by omega) hl.le hl.lt
      rcases ch_or_no (fun y => I (sz y k k)) d z with h | ⟨y, h⟩
      · exact absurd this h.1
      · exact ⟨n, k, d, z, y, h1, by omega, hk, hl, h, few⟩
    | succ r ih =>
      intro n hn h1 few
      obtain ⟨k, hk⟩ : ∃ k : Int, k + n = t + 1 := ⟨t + 1 - n, by omega⟩
      obtain ⟨d, z, hl⟩ := bes_ex X k
      rcases ch_or_no (fun y => I (sz y k k)) d z with h | ⟨y, h⟩
      · refine ih (n + 1) (by omega) (by omega) (fun j i e j1 jn hij e1 e2 => ?_)
        rcases Nat.eq_or_lt_of_le (Nat.le_of_lt_succ jn) with c | c
        · subst c
          obtain rfl : i = k := by omega
          obtain rfl := fl_uniq hl.le hl.lt e1 e2
          exact h
        · exact few j i e j1 c hij e1 e2
      · exact ⟨n, k, d, z, y, h1, by omega, hk, hl, h, few⟩
  exact key 20 1 rfl (Nat.le_refl _) (fun j i e j1 jn => by omega)
theorem sh_uniq {I : Nat → Prop} {X : Nat} {t : Int} {n n' : Nat} {k k' : Int} {d d' : Nat} {z z' : Int} {y y' : Nat} (h : Sh I X t n k d z y) (h' : Sh I X t n' k' d' z' y') : n = n' ∧ k = k' ∧ d = d' ∧ z = z' ∧ y = y' := by
  have hn : n = n' := by
    rcases Nat.lt_trichotomy n n' with c | c | c
    · exact (ch_no h.ch (h'.few n k d h.n1 c h.kn h.fl.le h.fl.lt)).elim
    · exact c
    · exact (ch_no h'.ch (h.few n' k' d' h'.n1 c h'.kn h'.fl.le h'.fl.lt)).elim
  subst hn
  obtain rfl : k = k' := by have := h.kn; have := h'.kn; omega
  obtain ⟨rfl, rfl⟩ := bes_uniq h.fl h'.fl
  exact ⟨rfl, rfl, rfl, rfl, ch_uniq h.ch h'.ch⟩
/-- .. of how many digits the floor is. -/
theorem fl_len {X d : Nat} {k t : Int} {n : Nat} (hk0 : -5000 ≤ k) (hk : k + n = t + 1) (n1 : 1 ≤ n) (h1 : sz d k k ≤ X) (h2 : X < sz (d + 1) k k) (t1 : sz 1 t t ≤ X) (t2 : X < sz 1 (t + 1) (t + 1)) : 10 ^ (n - 1) ≤ d ∧ d < 10 ^ n := by
  have up := sz_pos k k
  rw [← hk, sz_pow n k hk0] at t2
  rw [show t = k + ((n - 1 : Nat) : Int) by omega, sz_pow (n - 1) k hk0] at t1
  rw [sz_one] at h1 h2
  have a : d < 10 ^ n := Nat.lt_of_mul_lt_mul_right (Nat.lt_of_le_of_lt h1 t2)
  have b : 10 ^ (n - 1) < d + 1 := Nat.lt_of_mul_lt_mul_right (Nat.lt_of_le_of_lt t1 h2)
  omega
/-- Digits of a size, without noughts at the end. -/
structure Dgs (Y D : Nat) (K : Int) : Prop where
  ten : D % 10 ≠ 0
  eq : sz D K K = Y
  lo : -4000 ≤ K
  hi : K ≤ 4500
  fit : D < 18446744073709551616 ^ 128
theorem ten_uniq {D D' : Nat} {K K' : Int} (lo : -5000 ≤ K) (lo' : -5000 ≤ K') (h : D % 10 ≠ 0) (h' : D' % 10 ≠ 0) (e : sz D K K = sz D' K' K') : D = D' ∧ K = K' := by
  have key : ∀ {D D' : Nat} {K K' : Int}, -5000 ≤ K → K ≤ K' → D % 10 ≠ 0 → sz D K K = sz D' K' K' → D = D' ∧ K = K' := by
    intro D D' K K' lo hle h e
    obtain ⟨j, rfl⟩ : ∃ j : Nat, K' = K + j := ⟨(K' - K).toNat, by omega⟩
    rw [sz_one D, sz_one D', sz_pow j K lo, ← Nat.mul_assoc] at e
    have e2 := Nat.eq_of_mul_eq_mul_right (sz_pos K K) e
    rcases Nat.eq_zero_or_pos j with j0 | j0
    · subst j0
      exact ⟨by simpa using e2, by omega⟩
    · exfalso
      obtain ⟨i, rfl⟩ : ∃ i, j = i + 1 := ⟨j - 1, by omega⟩
      rw [Nat.pow_succ, ← Nat.mul_assoc] at e2
      omega
  rcases Int.le_total K K' with c | c
  · exact key lo c h e
  · obtain ⟨a, b⟩ := key lo' c h' e.symm
    exact ⟨a.symm, b.symm⟩
theorem dgs_uniq {Y D D' : Nat} {K K' : Int} (h : Dgs Y D K) (h' : Dgs Y D' K') : D = D' ∧ K = K' :=
  ten_uniq (by have := h.lo; omega) (by have := h'.lo; omega) h.ten h'.ten (h.eq.trans h'.eq.symm)
/-- A number without the noughts at its end. -/
theorem strip_ex : ∀ (n y : Nat), y ≤ n → 0 < y → ∃ D j : Nat, D % 10 ≠ 0 ∧ D * 10 ^ j = y := by
  intro n
  induction n with
  | zero => intro y h h0; omega
  | succ n ih =>
    intro y h h0
    by_cases e : y % 10 = 0
    · obtain ⟨D, j, h1, h2⟩ := ih (y / 10) (by omega) (by omega)
      refine ⟨D, j + 1, h1, ?_⟩
      rw [Nat.pow_succ, ← Nat.mul_assoc, h2]
      omega
    · exact ⟨y, 0, e, by simp⟩
theorem ten_lt_two {j : Nat} : 2 ^ j ≤ 10 ^ j := Nat.pow_le_pow_left (by decide) j
theorem two_le {j n D y : Nat} (hD : 0 < D) (h : D * 10 ^ j = y) (hy : y < 2 ^ n) : j < n := by
  have h1 : 10 ^ j ≤ y := by rw [← h]; exact Nat.le_mul_of_pos_left _ hD
  have h2 := ten_lt_two (j := j)
  exact (Nat.pow_lt_pow_iff_right (by omega : 1 < 2)).1 (by omega)
theorem c_21 : (10 : Nat) ^ 21 < 18446744073709551616 ^ 2 ∧ (10 : Nat) ^ 21 < 2 ^ 70 := by decide
theorem c_128 : (18446744073709551616 : Nat) ^ 2 ≤ 18446744073709551616 ^ 128 := Nat.pow_le_pow_right (by decide) (by decide)
theorem y_rng {n d y : Nat} (n21 : n ≤ 21) (h1 : 10 ^ (n - 1) ≤ d) (h2 : d < 10 ^ n) (hy : y = d ∨ y = d + 1) : 0 < y ∧ y ≤ 10 ^ n ∧ y ≤ 10 ^ 21 := by
  have a : 10 ^ n ≤ 10 ^ 21 := Nat.pow_le_pow_right (by decide) n21
  have b : 0 < 10 ^ (n - 1) := Nat.pow_pos (by decide)
  omega
theorem dgs_short {n y : Nat} {k : Int} (n1 : 1 ≤ n) (hk : -4000 ≤ k ∧ k ≤ 4400) (y0 : 0 < y) (hn : y ≤ 10 ^ n) (hy : y ≤ 10 ^ 21) : ∃ D K, Dgs (sz y k k) D K ∧ D < 10 ^ n := by
  obtain ⟨D, j, h1, h2⟩ := strip_ex y y (Nat.le_refl _) y0
  have D0 : 0 < D := by omega
  have Dy : D ≤ y := by rw [← h2]; exact Nat.le_mul_of_pos_right _ (Nat.pow_pos (by decide))
  have c := c_21
  have c2 := c_128
  have j70 : j < 70 := two_le D0 h2 (by omega)
  refine ⟨D, k + j, ⟨h1, ?_, by omega, by omega, by omega⟩, ?_⟩
  · rw [← h2, sz_one D, sz_pow j k (by omega), ← Nat.mul_assoc, ← sz_one]
  · rcases Nat.lt_or_ge D (10 ^ n) with e | e
    · exact e
    · exfalso
      obtain ⟨i, rfl⟩ : ∃ i, n = i + 1 := ⟨n - 1, by omega⟩
      have : D = 10 ^ (i + 1) := by omega
      rw [this, Nat.pow_succ] at h1
      omega
theorem sz_two_ (m n : Nat) (k : Int) (hk : -5000 ≤ k) : sz (m * 2 ^ n) k 0 = sz m (k + n) 0 := by
  unfold sz ov
  rw [bse_eq, show (k + n - -5000).toNat = (k - -5000).toNat + n by omega, Nat.pow_add]
  generalize (5 : Nat) ^ ((0 : Int) - -5000).toNat = c
  ac_rfl
theorem sz_five_ (m n : Nat) (hn : n ≤ 5000) : sz (m * 5 ^ n) (-(n : Int)) (-(n : Int)) = sz m (-(n : Int)) 0 := by
  unfold sz ov
  rw [bse_eq, show ((0 : Int) - -5000).toNat = n + (-(n : Int) - -5000).toNat by omega, Nat.pow_add]
  ac_rfl
theorem c_3064 : 18446744073709551616 * 2 ^ 3000 ≤ 2 ^ 3064 := by decide +kernel
theorem c_fit : (2 : Nat) ^ 3064 < 18446744073709551616 ^ 128 := by decide +kernel
theorem c_fit5 : 18446744073709551616 * (5 : Nat) ^ 3000 < 18446744073709551616 ^ 128 := by decide +kernel
theorem dgs_full {m : Nat} {z : Int} (m0 : m ≠ 0) (hm : m < 18446744073709551616) (hz : -3000 ≤ z ∧ z ≤ 3000) : ∃ D K, Dgs (sz m z 0) D K := by
  have cf := c_fit
  have cf5 := c_fit5
  have c3 := c_3064
  obtain ⟨N, hN⟩ : ∃ N, N = 3000 := ⟨_, rfl⟩
  obtain ⟨L, hL⟩ : ∃ L, L = 3064 := ⟨_, rfl⟩
  obtain ⟨F, hF⟩ : ∃ F, 18446744073709551616 ^ 128 = F := ⟨_, rfl⟩
  rw [← hN] at c3 cf5
  rw [← hL] at c3 cf
  rw [hF] at cf cf5
  rcases Int.le_total 0 z with c | c
  · obtain ⟨n, rfl⟩ : ∃ n : Nat, z = n := ⟨z.toNat, by omega⟩
    have hn : n ≤ N := by omega
    have up : 0 < m * 2 ^ n := Nat.mul_pos (by omega) (p2 n)
    obtain ⟨D, j, h1, h2⟩ := strip_ex _ _ (Nat.le_refl _) up
    have e1 : m * 2 ^ n < 2 ^ L := by
      have a : m * 2 ^ n ≤ m * 2 ^ N := Nat.mul_le_mul_left m (p2le hn)
      have b : m * 2 ^ N < 18446744073709551616 * 2 ^ N := Nat.mul_lt_mul_of_pos_right hm (p2 N)
      omega
    have D0 : 0 < D := by omega
    have Dy : D ≤ m * 2 ^ n := by rw [← h2]; exact Nat.le_mul_of_pos_right _ (Nat.pow_pos (by decide))
    have jL := two_le D0 h2 e1
    refine ⟨D, j, h1, ?_, by omega, by omega, by rw [hF]; omega⟩
    have e2 := sz_two_ m n 0 (by decide)
    rw [h2.symm] at e2
    rw [show (0 : Int) + (n : Int) = n by omega] at e2
    rw [← e2, sz_one D, show (j : Int) = 0 + j by omega, sz_pow j 0 (by decide), ← Nat.mul_assoc, ← sz_one]
  · obtain ⟨n, rfl⟩ : ∃ n : Nat, z = -(n : Int) := ⟨(-z).toNat, by omega⟩
    have hn : n ≤ N := by omega
    have up : 0 < m * 5 ^ n := Nat.mul_pos (by omega) (Nat.pow_pos (by decide))
    obtain ⟨D, j, h1, h2⟩ := strip_ex _ _ (Nat.le_refl _) up
    have D0 : 0 < D := by omega
    have Dy : D ≤ m * 5 ^ n := by rw [← h2]; exact Nat.le_mul_of_pos_right _ (Nat.pow_pos (by decide))
    have e1 : m * 5 ^ n < F := by
      have a : m * 5 ^ n ≤ m * 5 ^ N := Nat.mul_le_mul_left m (Nat.pow_le_pow_right (by decide) hn)
      have b : m * 5 ^ N < 18446744073709551616 * 5 ^ N := Nat.mul_lt_mul_of_pos_right hm (Nat.pow_pos (by decide))
      omega
    have jn : j < n + 64 := by
      rcases Nat.lt_or_ge j (n + 64) with e | e
      · exact e
      · exfalso
        obtain ⟨i, rfl⟩ : ∃ i, j = n + 64 + i := ⟨j - (n + 64), by omega⟩
        have a : 10 ^ (n + 64 + i) ≤ m * 5 ^ n := by rw [← h2]; exact Nat.le_mul_of_pos_left _ D0
        have b : (10 : Nat) ^ (n + 64 + i) = 10 ^ n * (10 ^ 64 * 10 ^ i) := by rw [Nat.pow_add, Nat.pow_add, Nat.mul_assoc]
        have b1 : (5 : Nat) ^ n ≤ 10 ^ n := Nat.pow_le_pow_left (by decide) n
        have b2 : 0 < (10 : Nat) ^ i := Nat.pow_pos (by decide)
        have b3 : (18446744073709551616 : Nat) ≤ 10 ^ 64 := by decide
        have b4 : (18446744073709551616 : Nat) ≤ 10 ^ 64 * 10 ^ i := Nat.le_trans b3 (Nat.le_mul_of_pos_right _ b2)
        have b5 : 5 ^ n * 18446744073709551616 ≤ 10 ^ n * (10 ^ 64 * 10 ^ i) := Nat.mul_le_mul b1 b4
        have b6 : m * 5 ^ n < 18446744073709551616 * 5 ^ n := Nat.mul_lt_mul_of_pos_right hm (Nat.pow_pos (by decide))
        rw [Nat.mul_comm (5 ^ n)] at b5
        omega
    refine ⟨D, -(n : Int) + j, h1, ?_, by omega, by omega, by rw [hF]; omega⟩
    have e2 := sz_five_ m n (by omega)
    rw [← h2] at e2
    rw [← e2, sz_one D, sz_pow j (-(n : Int)) (by omega), ← Nat.mul_assoc, ← sz_one]
end M
end Go.Proofs.YtijpffgocookaaaGreatDoor
