/-
  What the document looks at, of a text: its parts, its digits.
-/
import Derived.Test.YtjmnobgllnaljaaGreatDoorCo
namespace Go.Proofs.YtjmnobgllnaljaaGreatDoor
open Go.RowKit Go.Shelf
set_option linter.unusedVariables false
set_option linter.unusedSimpArgs false

namespace M
theorem vsa_tail16 (l : List UInt8) (j : Nat) : vsa 0 (l ++ List.replicate j 48) = vsa 0 l * 10 ^ j := by
  rw [vsa_append, vsa_acc, List.length_replicate]
  have : vsa 0 (List.replicate j 48) = 0 := by
    have := vsa_noughts j []
    rw [List.append_nil] at this
    rw [this]; rfl
  rw [this]; rfl
theorem drop_len {u : Nat} {X Y : List UInt8} (hX : X = List.replicate u 48 ++ Y) (hY : Y.length ≤ 2000) (j : Nat) (h : (X.drop j).headD 0 ≠ 48 ∨ (X.drop j).length = 1) : (X.drop j).length ≤ 2000 := by
  rcases h with h | h
  · by_cases hj : u ≤ j
    · rw [hX, List.length_drop, List.length_append, List.length_replicate]; omega
    · exfalso
      apply h
      obtain ⟨p, hp⟩ : ∃ p, u - j = p + 1 := ⟨u - j - 1, by omega⟩
      rw [hX, List.drop_append_of_le_length (by rw [List.length_replicate]; omega), List.drop_replicate, hp, List.replicate_succ]
      rfl
  · omega
/-- What Is looks at. -/
theorem is16 {x0 : Bool} {a : Nat} {e : Int} {l : List UInt8} (h : Qt x0 a e l 0) : ∃ W R : List UInt8, l = sgt (x0 && decide (a ≠ 0)) ++ (W ++ (if R = [] then [] else 46 :: R)) ∧ (-1200 ≤ e ∧ e ≤ 1200) ∧ allD W = true ∧ W ≠ [] ∧ allD R = true ∧
    (W.headD 0 ≠ 48 ∨ W = [48]) ∧ (R = [] ∨ R.getLast? ≠ some 48) ∧ ys (vsa 0 (W ++ R)) (-(R.length : Int)) (-(R.length : Int)) = ys a e 0 ∧
    (∀ j, ((W ++ R).drop j).headD 0 ≠ 48 ∨ ((W ++ R).drop j).length = 1 → ((W ++ R).drop j).length ≤ 2000) ∧ (W ++ (if R = [] then [] else 46 :: R)).length ≤ 5000 := by
  rcases h with ⟨_, _, h⟩ | ⟨⟨h1, h2⟩, _, n, k, hq, rfl⟩
  · exact absurd h (by decide)
  obtain ⟨W, R, hp⟩ := qpt_ex hq.lok
  have hl := qp_len hq (x0 && decide (a ≠ 0))
  have e0 : qp (x0 && decide (a ≠ 0)) n k = sgt (x0 && decide (a ≠ 0)) ++ (W ++ (if R = [] then [] else 46 :: R)) := by rw [← hp.txt]; rfl
  rw [e0] at hl
  have hl2 : (W ++ (if R = [] then [] else 46 :: R)).length ≤ 5000 := by rw [List.length_append] at hl; omega
  obtain ⟨u, v, e1, e2⟩ := hp.dig
  have hR : (R.length : Int) ≤ 5000 := by
    by_cases h : R = []
    · rw [h]; show ((0 : Nat) : Int) ≤ _; omega
    · rw [if_neg h, List.length_append, List.length_cons] at hl2; omega
  have hY : (dgs n ++ List.replicate v 48).length ≤ 2000 := by
    rw [List.length_append, List.length_replicate]
    have g1 := hq.len
    have g2 := hq.rng
    by_cases h : R = []
    · rw [h] at e2
      replace e2 : -((0 : Nat) : Int) = k - v := e2
      omega
    · have v0 : v = 0 := by
        cases v with
        | zero => rfl
        | succ v =>
          exfalso
          rcases hp.tl with h3 | h3
          · exact h h3
          · apply h3
            have hne : List.replicate (v + 1) (48 : UInt8) ≠ [] := by simp
            have e3 := last_app (a := W) h
            rw [e1, ← List.append_assoc, last_app hne] at e3
            rw [← e3, List.replicate_succ', List.getLast?_concat]
      omega
  refine ⟨W, R, e0, h2, hp.wd, hp.wn, hp.rd, hp.hd, hp.tl, ?_, fun j hj => drop_len e1 hY j hj, hl2⟩
  rw [e1, vsa_noughts, vsa_tail16, vsa_dgs, e2, ys_tens n v (k - v) (by omega), show k - (v : Int) + v = k by omega]
  exact hq.eq
/-- The digits of a text. -/
def fl (l : List UInt8) : List UInt8 := l.filter (· != 46)
theorem fl_dig {l : List UInt8} (h : allD l = true) : fl l = l := by
  unfold fl
  rw [List.filter_eq_self]
  intro c hc
  have := isD_rng (List.all_eq_true.1 h c hc)
  have : c ≠ 46 := fun e => by rw [e] at this; revert this; decide
  simpa using this
theorem fl_take {l : List UInt8} {i : Nat} (h : i < l.length) : fl (l.take (i + 1)) = fl (l.take i) ++ (if l.getD i 0 = 46 then [] else [l.getD i 0]) := by
  have e : l.take (i + 1) = l.take i ++ [l.getD i 0] := by
    rw [List.take_add_one, List.getElem?_eq_getElem h, List.getD_eq_getElem?_getD, List.getElem?_eq_getElem h]
    rfl
  unfold fl
  rw [e, List.filter_append]
  congr 1
  by_cases h : l.getD i 0 = 46
  · rw [if_pos h, h]; rfl
  · rw [if_neg h, List.filter_cons, if_pos (bne_iff_ne.2 h), List.filter_nil]
theorem fl_len (l : List UInt8) (i : Nat) : (fl (l.take i)).length ≤ i := Nat.le_trans (List.length_filter_le _ _) (by rw [List.length_take]; omega)
theorem fl_parts {W R : List UInt8} (hW : allD W = true) (hR : allD R = true) : fl (W ++ (if R = [] then [] else 46 :: R)) = W ++ R := by
  have e : ∀ a b : List UInt8, fl (a ++ b) = fl a ++ fl b := fun a b => by unfold fl; rw [List.filter_append]
  rw [e, fl_dig hW]
  by_cases h : R = []
  · rw [if_pos h, h]; rfl
  · rw [if_neg h, show fl (46 :: R) = fl R from rfl, fl_dig hR]
theorem bd_byte {W R : List UInt8} (hW : allD W = true) (hR : allD R = true) {i : Nat} {BD : List UInt8} (hB : W ++ (if R = [] then [] else 46 :: R) = BD) (hi : i < BD.length) :
    (BD.getD i 0 = 46 ∧ i = W.length ∧ pnt (BD.take i) = false) ∨ (48 ≤ (BD.getD i 0).toNat ∧ (BD.getD i 0).toNat ≤ 57) := by
  have dig : ∀ {l : List UInt8} {i : Nat}, allD l = true → i < l.length → 48 ≤ (l.getD i 0).toNat ∧ (l.getD i 0).toNat ≤ 57 := fun {l} {i} h hi => by
    rw [List.getD_eq_getElem?_getD, List.getElem?_eq_getElem hi]
    exact isD_rng (List.all_eq_true.1 h _ (List.getElem_mem hi))
  by_cases h1 : i < W.length
  · right
    rw [← hB, List.getD_eq_getElem?_getD, List.getElem?_append_left h1, ← List.getD_eq_getElem?_getD]
    exact dig hW h1
  · by_cases h : R = []
    · rw [← hB, if_pos h, List.length_append] at hi
      exact absurd hi (by show ¬ i < W.length + 0; omega)
    · rw [if_neg h] at hB
      by_cases h2 : i = W.length
      · left
        subst h2
        refine ⟨?_, rfl, ?_⟩
        · rw [← hB, List.getD_eq_getElem?_getD, List.getElem?_append_right (Nat.le_refl _), Nat.sub_self]; rfl
        · rw [← hB, List.take_left', pnt_dig hW]
          rfl
      · right
        obtain ⟨p, hp⟩ : ∃ p, i - W.length = p + 1 := ⟨i - W.length - 1, by omega⟩
        have hpl : p < R.length := by
          rw [← hB, List.length_append, List.length_cons] at hi; omega
        rw [← hB, List.getD_eq_getElem?_getD, List.getElem?_append_right (by omega), hp, List.getElem?_cons_succ, ← List.getD_eq_getElem?_getD]
        exact dig hR hpl
end M
end Go.Proofs.YtjmnobgllnaljaaGreatDoor
