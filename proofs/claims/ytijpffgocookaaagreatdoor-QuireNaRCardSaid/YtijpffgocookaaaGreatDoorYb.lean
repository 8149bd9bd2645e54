/-
  Quires, in numbers: what the laws without the document's answer say. No program is named here.
-/
import Derived.Test.YtijpffgocookaaaGreatDoorWb
import Derived.Test.YtijpffgocookaaaGreatDoorIa
namespace Go.Proofs.YtijpffgocookaaaGreatDoor
open Go
set_option linter.unusedVariables false
set_option linter.unusedSimpArgs false

namespace M
/-- What Add has of two patterns: what they bring, and what is told. -/
def Qa (i a c : Nat) (o : Option Nat) (x : Int) : Prop :=
  (x = 1 ∧ o = some 0 ∧ ¬ ((a : Int) ≤ msk (tb i) ∧ (c : Int) ≤ msk (tb i))) ∨ (x = 0 ∧ ((a : Int) ≤ msk (tb i) ∧ (c : Int) ≤ msk (tb i)) ∧ Qi i a c o)
/-- Set. -/
def Qs (i v b b' : Nat) (x : Int) : Prop := (v < 2 ^ qS i ∧ b' = v ∧ x = 0) ∨ (¬ v < 2 ^ qS i ∧ b' = b ∧ x = 4)
/-- Load. -/
def Qld (i : Nat) (s : Bool) (N : Nat) (t f : Int) (b b' : Nat) (x : Int) : Prop := (Ql i s N t f none ∧ b' = b ∧ x = 8) ∨ (Ql i s N t f (some b') ∧ x = 0)
theorem qs_ex (i v b : Nat) : ∃ b' x, Qs i v b b' x := by
  by_cases h : v < 2 ^ qS i
  · exact ⟨_, _, .inl ⟨h, rfl, rfl⟩⟩
  · exact ⟨_, _, .inr ⟨h, rfl, rfl⟩⟩
theorem qld_ex (i : Nat) (s : Bool) (N : Nat) (t f : Int) (b : Nat) : ∃ b' x, Qld i s N t f b b' x := by
  obtain ⟨o, h⟩ := ql_ex i s N t f
  cases o
  · exact ⟨_, _, .inl ⟨h, rfl, rfl⟩⟩
  · exact ⟨_, _, .inr ⟨h, rfl⟩⟩
theorem four14 {i : Nat} (i2 : i ≤ 4) : i ≤ 14 := by omega
theorem dc_fit {i p : Nat} (i1 : 1 ≤ i) (i2 : i ≤ 4) (hp : (p : Int) ≤ msk (tb i)) : ∃ c g m z, Dc (i : Int) p c g m z 0 := by
  obtain ⟨c, g, m, z, e, h⟩ := dc_ex (i : Int) p
  rcases h with ⟨a, _⟩ | ⟨j, a, _, _, ⟨b, _⟩ | ⟨_, b, rfl⟩⟩
  · omega
  · obtain rfl : i = j := by omega
    omega
  · obtain rfl : i = j := by omega
    exact ⟨c, g, m, z, dc_mk i1 (four14 i2) hp b⟩
theorem qi_ex {i a c : Nat} (i1 : 1 ≤ i) (i2 : i ≤ 4) (ha : (a : Int) ≤ msk (tb i)) (hc : (c : Int) ≤ msk (tb i)) : ∃ o, Qi i a c o := by
  obtain ⟨c1, g1, m1, z1, h1⟩ := dc_fit i1 i2 ha
  obtain ⟨c2, g2, m2, z2, h2⟩ := dc_fit i1 i2 hc
  by_cases e4 : c1 = 4 ∨ c2 = 4
  · exact ⟨none, _, _, _, _, _, _, _, _, h1, h2, .inl ⟨rfl, e4⟩⟩
  · by_cases e1 : c1 = 1 ∨ c2 = 1
    · exact ⟨_, _, _, _, _, _, _, _, _, h1, h2, .inr (.inl ⟨rfl, e4, e1⟩)⟩
    · exact ⟨_, _, _, _, _, _, _, _, _, h1, h2, .inr (.inr ⟨e4, e1, _, rfl, rfl⟩)⟩
theorem qa_ex {i : Nat} (i1 : 1 ≤ i) (i2 : i ≤ 4) (a c : Nat) : ∃ o x, Qa i a c o x := by
  by_cases h : (a : Int) ≤ msk (tb i) ∧ (c : Int) ≤ msk (tb i)
  · obtain ⟨o, ho⟩ := qi_ex i1 i2 h.1 h.2
    exact ⟨o, 0, .inr ⟨rfl, h, ho⟩⟩
  · exact ⟨_, _, .inl ⟨rfl, rfl, h⟩⟩
theorem qi_comm {i a c : Nat} {o : Option Nat} (h : Qi i a c o) : Qi i c a o := by
  obtain ⟨c1, g1, m1, z1, c2, g2, m2, z2, h1, h2, h⟩ := h
  refine ⟨c2, g2, m2, z2, c1, g1, m1, z1, h2, h1, ?_⟩
  rcases h with ⟨e, h⟩ | ⟨e, h, h'⟩ | ⟨h, h', P, hP, e⟩
  · exact .inl ⟨e, h.symm⟩
  · exact .inr (.inl ⟨e, fun k => h k.symm, h'.symm⟩)
  · refine .inr (.inr ⟨fun k => h k.symm, fun k => h' k.symm, P, by rw [hP, Nat.mul_comm m1, Int.add_comm z1], ?_⟩)
    rw [e]
    by_cases g : g1 = g2
    · rw [if_pos g, if_pos g.symm]
    · rw [if_neg g, if_neg (fun k => g k.symm)]
theorem qa_comm {i a c : Nat} {o : Option Nat} {x : Int} (h : Qa i a c o x) : Qa i c a o x := by
  rcases h with ⟨e, e', h⟩ | ⟨e, h, h'⟩
  · exact .inl ⟨e, e', fun k => h k.symm⟩
  · exact .inr ⟨e, h.symm, qi_comm h'⟩
theorem qa_lt {i a c d : Nat} {x : Int} (h : Qa i a c (some d) x) : d < 2 ^ qS i := by
  rcases h with ⟨_, e, _⟩ | ⟨_, _, h⟩
  · obtain rfl := Option.some.inj e
    exact Nat.two_pow_pos _
  · exact qi_lt h
theorem qst_nar (i : Nat) (o : Option Nat) : qst i (qn i) o = qn i := if_pos rfl
theorem qst_none (i b : Nat) : qst i b none = qn i := by unfold qst; split <;> simp_all
theorem qst_some {i b : Nat} (h : b ≠ qn i) (d : Nat) : qst i b (some d) = ad (2 ^ qS i) b d := if_neg h
theorem qn_pos (i : Nat) : 0 < qn i := Nat.two_pow_pos _
theorem tk_tk {i : Nat} {o : Option Nat} (h : ∀ d, o = some d → d < 2 ^ qS i) : tk i true (tk i true o) = o := by
  cases o with
  | none => rfl
  | some d => show some (ng _ (ng _ d)) = _; rw [ng_ng (h d rfl)]
theorem dv_four_ {i : Nat} (i1 : 1 ≤ i) (i2 : i ≤ 4) {p c : Int} {g : Bool} {m : Nat} {z : Int} (h : Dv (tb i) p c g m z) : c = 1 ∨ c = 2 ∨ c = 4 := by
  have hk := (q_facts i1 i2).1
  rcases (dv_four h).1 with e | e | e | e
  · exact .inl e
  · exact .inr (.inl e)
  · exfalso
    have := (dv_four h).2
    unfold cls at this
    rw [if_neg (by omega)] at this
    split at this
    · omega
    · split at this <;> omega
  · exact .inr (.inr e)
/-! Sums. -/
def dlt (o : Option Nat) : Nat := o.getD 0
def Sm (f : Nat → Nat) : Nat → Nat
  | 0 => 0
  | k + 1 => Sm f k + f k
theorem sm_first (f : Nat → Nat) : ∀ n, Sm f (n + 1) = f 0 + Sm (fun j => f (j + 1)) n
  | 0 => by simp [Sm]
  | n + 1 => by
    rw [Sm, sm_first f n, Sm, Nat.add_assoc]
theorem sm_congr {f g : Nat → Nat} : ∀ {n}, (∀ j, j < n → f j = g j) → Sm f n = Sm g n
  | 0, _ => rfl
  | n + 1, h => by rw [Sm, Sm, sm_congr (n := n) (fun j hj => h j (by omega)), h n (by omega)]
theorem sm_rev (f : Nat → Nat) : ∀ n, Sm (fun j => f (n - 1 - j)) n = Sm f n
  | 0 => rfl
  | n + 1 => by
    rw [sm_first, Sm, ← sm_rev f n, Nat.add_comm]
    congr 1
    exact sm_congr fun j hj => by rw [show n + 1 - 1 - (j + 1) = n - 1 - j by omega]
/-- One sum more, as long as it is not NaR. -/
theorem sm_step {i b k : Nat} {f : Nat → Nat} (hb : b = Sm f k % 2 ^ qS i) (hn : b ≠ qn i) {o : Option Nat} (ho : dlt o = f k) (h : qst i b o ≠ qn i) : qst i b o = Sm f (k + 1) % 2 ^ qS i := by
  cases o with
  | none => exact absurd (qst_none i b) h
  | some d =>
    rw [qst_some hn, Sm, ← ho, hb]
    unfold ad dlt
    rw [Nat.mod_add_mod]; rfl
/-! What is held, as a pattern. -/
theorem pat_nought {i : Nat} (i1 : 1 ≤ i) (i2 : i ≤ 4) : pat (tb i) true 0 = 0 ∧ pat (tb i) false 0 = 0 := by
  rcases (show i = 1 ∨ i = 2 ∨ i = 3 ∨ i = 4 by omega) with rfl | rfl | rfl | rfl <;> decide
theorem rv_nought {i : Nat} (i1 : 1 ≤ i) (i2 : i ≤ 4) {mode : Int} {g g' : Bool} {q : Int} (h : Rv (tb i) mode g 0 q) : Rv (tb i) mode g' 0 q := by
  have hk := (q_facts i1 i2).1
  have h14 := four14 i2
  rcases h with ⟨e, _⟩ | ⟨_, t, k, o, ht, hn, hp⟩
  · omega
  · obtain ⟨r, hr, r3, r4, rt⟩ := mst_rng (ok i i1 h14) (ok2 i i1 h14) (ok3 i i1 h14) g
    obtain ⟨r', hr', _, _, rt'⟩ := mst_rng (ok i i1 h14) (ok2 i i1 h14) (ok3 i i1 h14) g'
    obtain rfl : t = r := by omega
    have hs : Nr (tb i) t 0 k o → k = if o then t else k := fun h => by rcases h with ⟨rfl, rfl, _⟩ | ⟨rfl, _⟩ <;> simp
    obtain ⟨rfl, rfl⟩ := nr_uniq (ok i i1 h14) (ok2 i i1 h14) (ok3 i i1 h14) (by omega) hn nr_zero
    have h0 := pat_nought i1 i2
    refine .inr ⟨fun e => by omega, r', 0, false, hr', nr_zero, .inr ⟨fun e => by simp at e, ?_⟩⟩
    rcases hp with ⟨e, _⟩ | ⟨_, rfl⟩
    · exact absurd e (by decide)
    · cases g <;> cases g' <;> simp [h0.1, h0.2]
/-- What is loaded is rounded once. -/
theorem rounds_q {i : Nat} (i1 : 1 ≤ i) (i2 : i ≤ 4) {s : Bool} {a : Nat} {t f : Int} {d : Nat} (h : Ql i s a t f (some d)) {q : Int} (hr : Rv (tb i) 1 s (sz a t f) q) : d < 2 ^ qS i ∧ d ≠ qn i ∧ Qp i d q := by
  have h2 := qn_two i1 i2
  have h0 := qn_pos i
  rcases h with ⟨e, _⟩ | ⟨A, hA, hlt, e⟩
  · cases e
  · have e := Option.some.inj e
    rw [hA] at hr
    cases s
    · rw [if_neg (by decide)] at e
      subst e
      refine ⟨by omega, by omega, .inr ⟨by omega, ?_⟩⟩
      rw [decide_eq_false (by omega)]
      unfold qm; rw [if_pos hlt]; exact hr
    · rw [if_pos rfl] at e
      rcases Nat.eq_zero_or_pos A with rfl | hp
      · rw [ng_zero] at e
        subst e
        refine ⟨by omega, by omega, .inr ⟨by omega, ?_⟩⟩
        rw [decide_eq_false (by omega)]
        unfold qm; rw [if_pos h0]
        rw [sz_zero.2 rfl] at hr ⊢
        exact rv_nought i1 i2 hr
      · rw [ng_pos hp (by omega)] at e
        subst e
        refine ⟨by omega, by omega, .inr ⟨by omega, ?_⟩⟩
        rw [decide_eq_true (by omega)]
        unfold qm; rw [if_neg (by omega), show 2 ^ qS i - (2 ^ qS i - A) = A by omega]; exact hr
theorem qp_ex {i b : Nat} (i1 : 1 ≤ i) (i2 : i ≤ 4) : ∃ q : Nat, Qp i b q ∧ q < 18446744073709551616 := by
  have h14 := four14 i2
  have hx := (ok i i1 h14).x
  have hm : msk (tb i) < 18446744073709551616 := by
    rcases (show i = 1 ∨ i = 2 ∨ i = 3 ∨ i = 4 by omega) with rfl | rfl | rfl | rfl <;> decide
  by_cases h : b = qn i
  · exact ⟨(tb i).x.toNat, .inl ⟨h, by omega⟩, by omega⟩
  · obtain ⟨q, hq⟩ := rv_ex (ok i i1 h14) (ok2 i i1 h14) (ok3 i i1 h14) 1 (decide (qn i ≤ b)) (sz (qm i b) (qz i) 0)
    have := rv_class (ok i i1 h14) (ok2 i i1 h14) (ok3 i i1 h14) hq
    exact ⟨q.toNat, .inr ⟨h, by rw [show ((q.toNat : Nat) : Int) = q by omega]; exact hq⟩, by omega⟩
theorem qp_one {i b : Nat} (i1 : 1 ≤ i) (i2 : i ≤ 4) {p q : Int} (h : Qp i b p) (h' : Qp i b q) : p = q := by
  have h14 := four14 i2
  rcases h with ⟨e, rfl⟩ | ⟨e, h⟩ <;> rcases h' with ⟨e', rfl⟩ | ⟨e', h'⟩
  · rfl
  · exact absurd e e'
  · exact absurd e' e
  · exact rv_one (ok i i1 h14) (ok2 i i1 h14) (ok3 i i1 h14) h h'
/-! One, the least, NaR. -/
theorem one_dv {i : Nat} (i1 : 1 ≤ i) (i2 : i ≤ 4) : (((2 ^ ((tb i).W.toNat - 2) : Nat) : Int) ≤ msk (tb i)) ∧ Dv (tb i) ((2 ^ ((tb i).W.toNat - 2) : Nat) : Int) 2 false 1 0 := by
  rcases (show i = 1 ∨ i = 2 ∨ i = 3 ∨ i = 4 by omega) with rfl | rfl | rfl | rfl
  · exact ⟨by decide, .inr (.inr (.inr ⟨by decide, rfl, by decide, 64, by decide, .inl ⟨rfl, 7, by decide, rfl, ⟨by decide, 0, 5, 0, 3, by unfold Ps; decide, by decide, by decide⟩⟩⟩))⟩
  · exact ⟨by decide, .inr (.inr (.inr ⟨by decide, rfl, by decide, 16384, by decide, .inl ⟨rfl, 15, by decide, rfl, ⟨by decide, 0, 13, 0, 11, by unfold Ps; decide, by decide, by decide⟩⟩⟩))⟩
  · exact ⟨by decide, .inr (.inr (.inr ⟨by decide, rfl, by decide, 1073741824, by decide, .inl ⟨rfl, 31, by decide, rfl, ⟨by decide, 0, 29, 0, 27, by unfold Ps; decide, by decide, by decide⟩⟩⟩))⟩
  · exact ⟨by decide, .inr (.inr (.inr ⟨by decide, rfl, by decide, 4611686018427387904, by decide, .inl ⟨rfl, 63, by decide, rfl, ⟨by decide, 0, 61, 0, 59, by unfold Ps; decide, by decide, by decide⟩⟩⟩))⟩
end M
end Go.Proofs.YtijpffgocookaaaGreatDoor
