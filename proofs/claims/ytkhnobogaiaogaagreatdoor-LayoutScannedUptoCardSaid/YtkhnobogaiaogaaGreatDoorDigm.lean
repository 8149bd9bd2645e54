/-
  The reference's Digits: its reckoning.
-/
import Derived.Test.YtkhnobogaiaogaaGreatDoorRfa
namespace Go.Proofs.YtkhnobogaiaogaaGreatDoor
open Go.RowKit Go.Shelf

namespace M
/-- A division by ten, so far: the half words from i on. -/
structure TdInv (xs : List Nat) (i left : Nat) (qs : List Nat) : Prop where
  len : qs.length = xs.length
  hw : Hs qs
  left_eq : left = vh (xs.drop i) % 10
  eq : vh (qs.drop i) = vh (xs.drop i) / 10
theorem TdInv.start (xs : List Nat) : TdInv xs xs.length 0 (List.replicate xs.length 0) := by
  refine ⟨List.length_replicate, Hs.replicate _, ?_, ?_⟩
  · rw [List.drop_length]; rfl
  · rw [List.drop_length, List.drop_of_length_le (by rw [List.length_replicate]; exact Nat.le_refl _)]; rfl
theorem drop_cons' {xs : List Nat} {j : Nat} (h : j < xs.length) : xs.drop j = xs.getD j 0 :: xs.drop (j + 1) := by
  rw [List.drop_eq_getElem_cons h, List.getD_eq_getElem?_getD, List.getElem?_eq_getElem h]
  rfl
theorem TdInv.step {xs qs : List Nat} {j left x t : Nat} (h : TdInv xs (j + 1) left qs) (hj : j < xs.length) (hx : xs.getD j 0 = x) (bx : x < 4294967296) (ht : left * 4294967296 + x = t) :
    left ≤ 9 ∧ t < 42949672960 ∧ t / 10 < 4294967296 ∧ TdInv xs j (t % 10) (qs.set j (t / 10)) := by
  have hl : left ≤ 9 := by rw [h.left_eq]; omega
  have ht2 : t < 42949672960 := by omega
  have hq : t / 10 < 4294967296 := by omega
  refine ⟨hl, ht2, hq, by rw [List.length_set]; exact h.len, h.hw.set j hq, ?_, ?_⟩
  · have e := h.left_eq
    rw [drop_cons' hj, hx, vh]
    obtain ⟨A, hA⟩ : ∃ A, vh (xs.drop (j + 1)) = A := ⟨_, rfl⟩
    rw [hA] at e ⊢
    omega
  · have hjq : j < (qs.set j (t / 10)).length := by rw [List.length_set, h.len]; exact hj
    have e1 : (qs.set j (t / 10)).getD j 0 = t / 10 := by
      rw [List.getD_eq_getElem?_getD, List.getElem?_eq_getElem hjq, List.getElem_set_self]
      rfl
    have e2 : (qs.set j (t / 10)).drop (j + 1) = qs.drop (j + 1) := by
      rw [List.drop_set_of_lt (by omega)]
    have e := h.left_eq
    have k := h.eq
    rw [drop_cons' hjq, e1, e2, drop_cons' hj, hx, vh, vh]
    obtain ⟨A, hA⟩ : ∃ A, vh (xs.drop (j + 1)) = A := ⟨_, rfl⟩
    obtain ⟨B, hB⟩ : ∃ B, vh (qs.drop (j + 1)) = B := ⟨_, rfl⟩
    rw [hA] at e k ⊢
    rw [hB] at k ⊢
    omega
theorem TdInv.fin {xs qs : List Nat} {left : Nat} (h : TdInv xs 0 left qs) : left = vh xs % 10 ∧ vh qs = vh xs / 10 := ⟨h.left_eq, h.eq⟩
/-- The digits of what is left, of nothing if it is 0. -/
def dz (a : Nat) : List UInt8 := if a = 0 then [] else Lib.decDigits a
theorem dd_step (a : Nat) : Lib.decDigits a = dz (a / 10) ++ [UInt8.ofNat (48 + a % 10)] := by
  unfold dz
  by_cases h : a < 10
  · rw [if_pos (by omega), Lib.decDigits_one h, Nat.mod_eq_of_lt h]; rfl
  · rw [if_neg (by omega)]
    conv => lhs; rw [Lib.decDigits, dif_neg h]
/-- The digits so far, the last one first. -/
structure DgInv (a cur : Nat) (bs : List UInt8) : Prop where
  first : bs = [] → cur = a
  rest : bs ≠ [] → Lib.decDigits a = dz cur ++ bs.reverse
theorem DgInv.start (a : Nat) : DgInv a a [] := ⟨fun _ => rfl, fun h => absurd rfl h⟩
theorem DgInv.step {a cur : Nat} {bs : List UInt8} (h : DgInv a cur bs) (hgo : cur ≠ 0 ∨ bs = []) : DgInv a (cur / 10) (bs ++ [UInt8.ofNat (48 + cur % 10)]) := by
  refine ⟨fun e => by simp at e, fun _ => ?_⟩
  rw [List.reverse_append, List.reverse_singleton, ← List.append_assoc]
  by_cases hb : bs = []
  · rw [hb, ← h.first hb, List.reverse_nil, List.append_nil]
    exact dd_step cur
  · have hc : cur ≠ 0 := by
      rcases hgo with e | e
      · exact e
      · exact absurd e hb
    rw [h.rest hb, ← dd_step]
    unfold dz
    rw [if_neg hc]
theorem DgInv.fin {a : Nat} {bs : List UInt8} (h : DgInv a 0 bs) (hb : bs ≠ []) : bs.reverse = Lib.decDigits a := by
  rw [h.rest hb]
  rfl
/-- A row turned about, so far. -/
def Rv (bs : List UInt8) (i : Nat) (cur : List UInt8) : Prop := cur.length = bs.length ∧ ∀ j, j < bs.length → cur.getD j 0 = if j < i ∨ bs.length - i ≤ j then bs.getD (bs.length - 1 - j) 0 else bs.getD j 0
theorem Rv.start (bs : List UInt8) : Rv bs 0 bs := ⟨rfl, fun j hj => by rw [if_neg (by omega)]⟩
theorem getDs {l : List UInt8} {i j : Nat} {x : UInt8} (hj : j < l.length) : (l.set i x).getD j 0 = if i = j then x else l.getD j 0 := by
  rw [List.getD_eq_getElem?_getD, List.getElem?_eq_getElem (by rw [List.length_set]; exact hj), List.getElem_set, List.getD_eq_getElem?_getD, List.getElem?_eq_getElem hj]
  split <;> rfl
theorem Rv.step {bs cur : List UInt8} {i : Nat} (h : Rv bs i cur) (hi : i < bs.length / 2) : Rv bs (i + 1) ((cur.set i (cur.getD (bs.length - 1 - i) 0)).set (bs.length - 1 - i) (cur.getD i 0)) := by
  obtain ⟨h1, h2⟩ := h
  refine ⟨by rw [List.length_set, List.length_set]; exact h1, fun j hj => ?_⟩
  rw [getDs (by rw [List.length_set, h1]; exact hj), getDs (by rw [h1]; exact hj)]
  have a1 := h2 i (by omega)
  have a2 := h2 (bs.length - 1 - i) (by omega)
  rw [if_neg (by omega)] at a1 a2
  by_cases c1 : bs.length - 1 - i = j
  · rw [if_pos c1, if_pos (by omega), a1]
    congr 1
    omega
  · rw [if_neg c1]
    by_cases c2 : i = j
    · rw [if_pos c2, if_pos (by omega), a2]
      congr 1
      omega
    · rw [if_neg c2, h2 j hj]
      by_cases c3 : j < i ∨ bs.length - i ≤ j
      · rw [if_pos c3, if_pos (by omega)]
      · rw [if_neg c3, if_neg (by omega)]
theorem Rv.fin {bs cur : List UInt8} {i : Nat} (h : Rv bs i cur) (hi : bs.length / 2 ≤ i) : cur = bs.reverse := by
  obtain ⟨h1, h2⟩ := h
  apply List.ext_getElem (by rw [List.length_reverse]; exact h1)
  intro j hj hj'
  have hjb : j < bs.length := by omega
  have e1 : cur[j] = cur.getD j 0 := by rw [List.getD_eq_getElem?_getD, List.getElem?_eq_getElem hj]; rfl
  rw [e1, h2 j hjb, List.getElem_reverse]
  have e2 : bs[bs.length - 1 - j]'(by omega) = bs.getD (bs.length - 1 - j) 0 := by rw [List.getD_eq_getElem?_getD, List.getElem?_eq_getElem (by omega)]; rfl
  rw [e2]
  by_cases c : j < i ∨ bs.length - i ≤ j
  · rw [if_pos c]
  · rw [if_neg c]
    congr 1
    omega
end M
end Go.Proofs.YtkhnobogaiaogaaGreatDoor
