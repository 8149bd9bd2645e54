/-
  Quires, in numbers: what is added, told, loaded. No program is named here.
-/
import Derived.Test.YtijpffgocookaaaGreatDoorWb0
import Derived.Test.YtijpffgocookaaaGreatDoorKs
namespace Go.Proofs.YtijpffgocookaaaGreatDoor
open Go
set_option linter.unusedVariables false
set_option linter.unusedSimpArgs false

namespace M
/-- What two patterns bring: none: NaR; else bits. -/
def Qi (i p q : Nat) (o : Option Nat) : Prop :=
  ∃ c g m z c' g' m' z', Dc (i : Int) p c g m z 0 ∧ Dc (i : Int) q c' g' m' z' 0 ∧
    ((o = none ∧ (c = 4 ∨ c' = 4)) ∨ (o = some 0 ∧ ¬ (c = 4 ∨ c' = 4) ∧ (c = 1 ∨ c' = 1)) ∨
      (¬ (c = 4 ∨ c' = 4) ∧ ¬ (c = 1 ∨ c' = 1) ∧ ∃ P : Nat, P = m * m' * 2 ^ (z + z' - qz i).toNat % 2 ^ qS i ∧ o = some (if g = g' then P else ng (2 ^ qS i) P)))
/-- Taken away. -/
def tk (i : Nat) : Bool → Option Nat → Option Nat
  | true, some d => some (ng (2 ^ qS i) d)
  | _, o => o
/-- What is held behind it. -/
def qst (i b : Nat) (o : Option Nat) : Nat := if b = qn i then b else match o with
  | none => qn i
  | some d => ad (2 ^ qS i) b d
theorem qi_lt {i p q d : Nat} (h : Qi i p q (some d)) : d < 2 ^ qS i := by
  have h0 : 0 < 2 ^ qS i := Nat.two_pow_pos _
  obtain ⟨c, g, m, z, c', g', m', z', _, _, ⟨h, _⟩ | ⟨h, _⟩ | ⟨_, _, P, hP, h⟩⟩ := h
  · cases h
  · obtain rfl := Option.some.inj h; exact h0
  · obtain rfl := Option.some.inj h
    split
    · rw [hP]; exact Nat.mod_lt _ h0
    · exact ng_lt h0
theorem qst_lt {i b : Nat} (i1 : 1 ≤ i) (i2 : i ≤ 4) (hb : b < 2 ^ qS i) (o : Option Nat) : qst i b o < 2 ^ qS i := by
  unfold qst
  split
  · exact hb
  · cases o
    · exact qn_lt i1 i2
    · exact ad_lt (Nat.two_pow_pos _)
/-- What is loaded. -/
def Ql (i : Nat) (s : Bool) (N : Nat) (t f : Int) (o : Option Nat) : Prop :=
  (o = none ∧ ∀ A, sz N t f = sz A (qz i) 0 → ¬ A < qn i) ∨ ∃ A, sz N t f = sz A (qz i) 0 ∧ A < qn i ∧ o = some (if s = true then ng (2 ^ qS i) A else A)
/-- Posit. -/
def Qp (i b : Nat) (p : Int) : Prop := (b = qn i ∧ p = (tb i).x) ∨ (b ≠ qn i ∧ Rv (tb i) 1 (decide (qn i ≤ b)) (sz (qm i b) (qz i) 0) p)
theorem sz_mix (a k lo : Nat) (z : Int) (hz : -5000 ≤ z) : sz (a * 5 ^ k * 2 ^ lo) z 0 = sz a (lo + z) k := by
  unfold sz ov bse
  rw [show ((k : Int) - -5000).toNat = k + 5000 by omega, show ((0 : Int) - -5000).toNat = 5000 by omega, show ((lo : Int) + z - -5000).toNat = lo + (z - -5000).toNat by omega, Nat.pow_add, Nat.pow_add]
  generalize (5 : Nat) ^ 5000 = F
  generalize (5 : Nat) ^ k = G
  generalize (2 : Nat) ^ lo = L
  generalize (2 : Nat) ^ (z - -5000).toNat = Z
  simp only [Nat.mul_assoc, Nat.mul_left_comm, Nat.mul_comm]
theorem qz_rng {i : Nat} (i1 : 1 ≤ i) (i2 : i ≤ 4) : -500 ≤ qz i ∧ qz i ≤ 0 := by
  have := q_facts i1 i2
  unfold qz
  omega
/-- What is told has the size that is held. -/
theorem qv_sz {i b : Nat} (i1 : 1 ≤ i) (i2 : i ≤ 4) {s : Bool} {N : Nat} {t f : Int} (h : Qv i b s N t f) (hn : b ≠ qn i) : sz N t f = sz (qm i b) (qz i) 0 := by
  have hz := qz_rng i1 i2
  rcases h with ⟨rfl, _, rfl, rfl, rfl⟩ | ⟨_, _, _, _, lo, k, h1, rfl, rfl⟩
  · have : qm i 0 = 0 := by unfold qm; rw [if_pos (show 0 < qn i from Nat.two_pow_pos _)]
    rw [this, sz_zero.2 rfl, sz_zero.2 rfl]
  · rw [h1, sz_mix _ _ _ _ (by omega)]
theorem sz_inj {a b : Nat} {t f : Int} (h : sz a t f = sz b t f) : a = b := by
  rw [sz_one a, sz_one b] at h
  exact Nat.eq_of_mul_eq_mul_right (sz_pos t f) h
/-- What is held may be loaded. -/
theorem ql_of_qv {i b : Nat} (i1 : 1 ≤ i) (i2 : i ≤ 4) (hb : b < 2 ^ qS i) (hn : b ≠ qn i) {s : Bool} {N : Nat} {t f : Int} (h : Qv i b s N t f) {o : Option Nat} (hl : Ql i s N t f o) : o = some b := by
  have h2 := qn_two i1 i2
  have e := qv_sz i1 i2 h hn
  have hm : qm i b < qn i := by unfold qm; split <;> omega
  have hs : (if s = true then ng (2 ^ qS i) (qm i b) else qm i b) = b := by
    rcases h with ⟨rfl, rfl, _⟩ | ⟨h0, rfl, _⟩
    · rw [if_neg (by decide)]; unfold qm; rw [if_pos (show 0 < qn i from Nat.two_pow_pos _)]
    · by_cases c : qn i ≤ b
      · rw [if_pos (decide_eq_true c)]
        unfold qm
        rw [if_neg (by omega), ng_pos (by omega) (by omega)]
        omega
      · rw [if_neg (by simpa using c)]
        unfold qm
        rw [if_pos (by omega)]
  rcases hl with ⟨_, h3⟩ | ⟨A, h3, h4, h5⟩
  · exact absurd hm (h3 _ e)
  · obtain rfl := sz_inj (h3.symm.trans e)
    rw [h5, hs]
theorem ql_uniq {i : Nat} {s : Bool} {N : Nat} {t f : Int} {o o' : Option Nat} (h : Ql i s N t f o) (h' : Ql i s N t f o') : o = o' := by
  rcases h with ⟨rfl, h1⟩ | ⟨A, h1, h2, rfl⟩ <;> rcases h' with ⟨rfl, h3⟩ | ⟨B, h3, h4, rfl⟩
  · rfl
  · exact absurd h4 (h1 _ h3)
  · exact absurd h2 (h3 _ h1)
  · obtain rfl := sz_inj (h1.symm.trans h3)
    rfl
theorem ql_ex (i : Nat) (s : Bool) (N : Nat) (t f : Int) : ∃ o, Ql i s N t f o := by
  classical
  by_cases h : ∃ A, sz N t f = sz A (qz i) 0 ∧ A < qn i
  · obtain ⟨A, h1, h2⟩ := h
    exact ⟨_, .inr ⟨A, h1, h2, rfl⟩⟩
  · exact ⟨none, .inl ⟨rfl, fun A h1 h2 => h ⟨A, h1, h2⟩⟩⟩
/-- The least exponent of a magnitude. -/
theorem isk_low {n k m : Nat} {z : Int} (h : IsK n k m z) : 4 - 4 * (n : Int) ≤ z := by
  obtain ⟨mo, R, r, q, t, h1, h2, h3⟩ := h
  have rg := h1.rng
  obtain ⟨hq, ⟨_, e1, e2⟩ | ⟨_, e1, e2⟩ | ⟨_, e1, e2, e3⟩⟩ := h1 <;> omega
theorem dv_low {i p : Nat} (i1 : 1 ≤ i) (i2 : i ≤ 4) {g : Bool} {m : Nat} {z : Int} (h : Dv (tb i) p 2 g m z) : 8 - 4 * (tb i).W ≤ z := by
  have hk := (q_facts i1 i2).1
  rcases h with ⟨_, e, _⟩ | ⟨_, e, _⟩ | ⟨_, e, _⟩ | ⟨_, _, _, k, _, hm⟩
  · exact absurd e (by decide)
  · exact absurd e (by decide)
  · exact absurd e (by decide)
  · rcases hm with ⟨_, n, _, hW, h⟩ | ⟨e, _⟩ | ⟨e, _⟩ | ⟨e, _⟩
    · have := isk_low h; omega
    · omega
    · omega
    · omega
end M
end Go.Proofs.YtijpffgocookaaaGreatDoor
