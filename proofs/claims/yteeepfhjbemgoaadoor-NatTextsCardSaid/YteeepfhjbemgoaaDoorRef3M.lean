/-
  The reference's Plus, Minus, Words, Over: their reckoning.
-/
import Derived.Test.YteeepfhjbemgoaaDoorRef2
namespace Go.Proofs.YteeepfhjbemgoaaDoor
open Go.RowKit Go.Shelf

namespace M
theorem Hs.snoc1 {hs : List Nat} {x : Nat} (h : Hs hs) (hx : x < 4294967296) : Hs (hs ++ [x]) := by
  intro y hy
  rw [List.mem_append, List.mem_singleton] at hy
  rcases hy with hy | hy
  · exact h y hy
  · rw [hy]; exact hx
theorem vh_snoc1 (hs : List Nat) (x : Nat) : vh (hs ++ [x]) = vh hs + 4294967296 ^ hs.length * x := by
  rw [vh_append]
  simp [vh]
theorem vh_lt1 : ∀ {hs : List Nat}, Hs hs → vh hs < 4294967296 ^ hs.length
  | [], _ => by simp [vh]
  | x :: r, h => by
    have h1 : x < 4294967296 := h x (by simp)
    have h2 := vh_lt1 (hs := r) (fun y hy => h y (by simp [hy]))
    rw [vh, List.length_cons, Nat.pow_succ]
    omega
/-- A sum, so far. -/
structure PlInv (xs ys : List Nat) (i cy : Nat) (hs : List Nat) : Prop where
  len : hs.length = i
  hw : Hs hs
  cy_le : cy ≤ 1
  eq : vh hs + 4294967296 ^ i * cy = vh (xs.take i) + vh (ys.take i)
theorem PlInv.start (xs ys : List Nat) : PlInv xs ys 0 0 [] := ⟨rfl, (fun _ h => by cases h), by omega, by simp [vh]⟩
theorem PlInv.step {xs ys hs : List Nat} {i cy x y t : Nat} (h : PlInv xs ys i cy hs) (hx : xs.getD i 0 = x) (hy : ys.getD i 0 = y) (bx : x < 4294967296) (b_y : y < 4294967296) (ht : x + y + cy = t) :
    PlInv xs ys (i + 1) (t / 4294967296) (hs ++ [t % 4294967296]) := by
  have hc := h.cy_le
  refine ⟨by simp [h.len], h.hw.snoc1 (Nat.mod_lt _ (by omega)), by omega, ?_⟩
  have e := h.eq
  rw [vh_snoc1, vh_take_succ, vh_take_succ, hx, hy, h.len]
  have e1 : 4294967296 ^ (i + 1) * (t / 4294967296) + 4294967296 ^ i * (t % 4294967296) = 4294967296 ^ i * t := by
    rw [Nat.pow_succ, Nat.mul_assoc, ← Nat.mul_add]
    congr 1
    omega
  have e2 : 4294967296 ^ i * t = 4294967296 ^ i * x + 4294967296 ^ i * y + 4294967296 ^ i * cy := by rw [← ht, Nat.mul_add, Nat.mul_add]
  omega
theorem PlInv.fin {xs ys hs : List Nat} {i : Nat} (h : PlInv xs ys i 0 hs) (h1 : xs.length ≤ i) (h2 : ys.length ≤ i) : vh hs = vh xs + vh ys := by
  have e := h.eq
  rw [List.take_of_length_le h1, List.take_of_length_le h2] at e
  omega
/-- A difference, so far. -/
structure MiInv (xs ys : List Nat) (i bo : Nat) (hs : List Nat) : Prop where
  len : hs.length = i
  hw : Hs hs
  bo_le : bo ≤ 1
  eq : vh hs + vh (ys.take i) = vh (xs.take i) + 4294967296 ^ i * bo
theorem MiInv.start (xs ys : List Nat) : MiInv xs ys 0 0 [] := ⟨rfl, (fun _ h => by cases h), by omega, by simp [vh]⟩
theorem MiInv.step {xs ys hs : List Nat} {i bo x y t : Nat} (h : MiInv xs ys i bo hs) (hx : xs.getD i 0 = x) (hy : ys.getD i 0 = y) (bx : x < 4294967296) (b_y : y < 4294967296) (ht : x + 4294967296 - y - bo = t) :
    MiInv xs ys (i + 1) (1 - t / 4294967296) (hs ++ [t % 4294967296]) := by
  have hc := h.bo_le
  refine ⟨by simp [h.len], h.hw.snoc1 (Nat.mod_lt _ (by omega)), by omega, ?_⟩
  have e := h.eq
  rw [vh_snoc1, vh_take_succ, vh_take_succ, hx, hy, h.len]
  obtain ⟨b', hb'⟩ : ∃ b', 1 - t / 4294967296 = b' := ⟨_, rfl⟩
  obtain ⟨m, hm⟩ : ∃ m, t % 4294967296 = m := ⟨_, rfl⟩
  have k : m + y + bo = x + 4294967296 * b' := by omega
  rw [hb', hm]
  have e1 : 4294967296 ^ i * (m + y + bo) = 4294967296 ^ i * (x + 4294967296 * b') := by rw [k]
  rw [Nat.mul_add, Nat.mul_add, Nat.mul_add, ← Nat.mul_assoc (4294967296 ^ i) 4294967296, ← Nat.pow_succ] at e1
  rw [Nat.succ_eq_add_one] at e1
  omega
theorem MiInv.fin {xs ys hs : List Nat} {i bo : Nat} (h : MiInv xs ys i bo hs) (h1 : xs.length = i) (hx : Hs xs) (hle : vh ys ≤ vh xs) : vh hs = vh xs - vh ys := by
  have e := h.eq
  have ex : xs.take i = xs := List.take_of_length_le (by omega)
  rw [ex] at e
  have hl := vh_lt1 h.hw
  have hxl := vh_lt1 hx
  rw [h.len] at hl
  rw [h1] at hxl
  have hsp : vh ys = vh (ys.take i) + 4294967296 ^ (ys.take i).length * vh (ys.drop i) := by
    conv => lhs; rw [← List.take_append_drop i ys]
    rw [vh_append]
  have hb : bo = 0 := by
    have := h.bo_le
    rcases (show bo = 0 ∨ bo = 1 by omega) with h0 | h0
    · exact h0
    · rw [h0, Nat.mul_one] at e
      omega
  rw [hb, Nat.mul_zero] at e
  rcases Nat.lt_or_ge i ys.length with h2 | h2
  · rw [List.length_take, Nat.min_eq_left (by omega)] at hsp
    rcases Nat.eq_zero_or_pos (vh (ys.drop i)) with h0 | h0
    · rw [h0, Nat.mul_zero] at hsp
      omega
    · have : 4294967296 ^ i * 1 ≤ 4294967296 ^ i * vh (ys.drop i) := Nat.mul_le_mul_left _ h0
      omega
  · have ey : ys.take i = ys := List.take_of_length_le h2
    rw [ey] at e
    omega
/-- Half words, two at a time. -/
structure WoInv (xs : List Nat) (k : Nat) (ws : List Nat) : Prop where
  len : ws.length = k
  wd : Wds ws
  eq : val ws = vh (xs.take (2 * k))
theorem WoInv.start (xs : List Nat) : WoInv xs 0 [] := ⟨rfl, Wds.nil, by simp [vh, val]⟩
theorem WoInv.step {xs ws : List Nat} {k x y t : Nat} (h : WoInv xs k ws) (hx : xs.getD (2 * k) 0 = x) (hy : xs.getD (2 * k + 1) 0 = y) (bx : x < 4294967296) (b_y : y < 4294967296) (ht : x + y * 4294967296 = t) : WoInv xs (k + 1) (ws ++ [t]) := by
  refine ⟨by simp [h.len], Wds.append h.wd (Wds.cons (by omega) Wds.nil), ?_⟩
  have e := h.eq
  rw [val_append, e, show 2 * (k + 1) = 2 * k + 1 + 1 by omega, vh_take_succ, vh_take_succ, hx, hy, h.len]
  have p : 18446744073709551616 ^ k = 4294967296 ^ (2 * k) := by rw [Nat.pow_mul]
  rw [p, show val [t] = t by simp [val], ← ht, Nat.mul_add, Nat.pow_succ, Nat.mul_assoc, Nat.mul_comm y, Nat.add_assoc]
theorem WoInv.fin {xs ws : List Nat} {k : Nat} (h : WoInv xs k ws) (h1 : xs.length ≤ 2 * k) : val ws = vh xs := by
  rw [h.eq, List.take_of_length_le h1]
/-- A long division, bit by bit, so far: the bits from i on. -/
structure OvInv (a b i r : Nat) (qs : List Nat) : Prop where
  re : r = a / 2 ^ i % b
  qe : vh qs = a / 2 ^ i / b * 2 ^ i
  hw : Hs qs
theorem OvInv.start {a b n : Nat} : OvInv a b (bits a) 0 (List.replicate n 0) := by
  have h0 : a / 2 ^ bits a = 0 := Nat.div_eq_of_lt (bits_lt a)
  refine ⟨by rw [h0, Nat.zero_mod], ?_, Hs.replicate n⟩
  rw [h0, Nat.zero_div, Nat.zero_mul]
  exact vh_noughts (fun j => by
    rw [List.getD_eq_getElem?_getD, List.getElem?_replicate]
    split <;> rfl)
theorem bit_next (a j : Nat) (t : Bool) (ht : a.testBit j = t) : a / 2 ^ j = 2 * (a / 2 ^ (j + 1)) + t.toNat := by
  rw [Nat.testBit_eq_decide_div_mod_eq] at ht
  rw [Nat.pow_succ, ← Nat.div_div_eq_div_mul]
  rcases t with _ | _
  · rw [decide_eq_false_iff_not] at ht
    show _ = _ + 0
    omega
  · rw [decide_eq_true_iff] at ht
    show _ = _ + 1
    omega
theorem OvInv.less {a b j r : Nat} {qs : List Nat} (h : OvInv a b (j + 1) r qs) (t : Bool) (ht : a.testBit j = t) (r' : Nat) (hr : r' = 2 * r + t.toNat) (hlt : r' < b) : OvInv a b j r' qs := by
  have e := bit_next a j t ht
  obtain ⟨A, hA⟩ : ∃ A, a / 2 ^ (j + 1) = A := ⟨_, rfl⟩
  have h1 := h.re
  have h2 := h.qe
  rw [hA] at h1 h2 e
  have hdm := Nat.div_add_mod A b
  rw [← h1] at hdm
  have e2 : a / 2 ^ j = b * (2 * (A / b)) + r' := by rw [e, hr, Nat.mul_left_comm]; omega
  have hb : 0 < b := by omega
  refine ⟨?_, ?_, h.hw⟩
  · rw [e2, Nat.mul_add_mod, Nat.mod_eq_of_lt hlt]
  · rw [e2, Nat.mul_add_div hb, Nat.div_eq_of_lt hlt, h2, Nat.pow_succ, Nat.add_zero, Nat.mul_comm (2 ^ j) 2, ← Nat.mul_assoc, Nat.mul_comm (A / b) 2]
theorem word_room {Q s c p : Nat} (hs : s < 32) (hc : Q * 2 ^ (32 * p + s + 1) / 4294967296 ^ p % 4294967296 = c) : c + 2 ^ s < 4294967296 := by
  have e1 : Q * 2 ^ (32 * p + s + 1) / 4294967296 ^ p = Q * 2 ^ (s + 1) := by
    rw [show (4294967296 : Nat) ^ p = 2 ^ (32 * p) by rw [Nat.pow_mul], Nat.add_assoc, Nat.pow_add, Nat.mul_left_comm, Nat.mul_div_cancel_left _ (Nat.pow_pos (by omega))]
  rw [e1] at hc
  have e2 : (4294967296 : Nat) = 2 ^ (31 - s) * 2 ^ (s + 1) := by rw [← Nat.pow_add, show 31 - s + (s + 1) = 32 by omega]
  have e3 : Q % 2 ^ (31 - s) * 2 ^ (s + 1) = c := by
    rw [← hc, e2, Nat.mul_mod_mul_right]
  have h1 : Q % 2 ^ (31 - s) < 2 ^ (31 - s) := Nat.mod_lt _ (Nat.pow_pos (by omega))
  have h2 : (Q % 2 ^ (31 - s) + 1) * 2 ^ (s + 1) ≤ 2 ^ (31 - s) * 2 ^ (s + 1) := Nat.mul_le_mul_right _ h1
  rw [Nat.add_mul, e3, ← e2, Nat.one_mul, Nat.pow_succ] at h2
  have h3 : 0 < 2 ^ s := Nat.pow_pos (by omega)
  omega
theorem OvInv.more {a b j r p s c : Nat} {qs : List Nat} (h : OvInv a b (j + 1) r qs) (t : Bool) (ht : a.testBit j = t) (r' : Nat) (hr : r' = 2 * r + t.toNat) (hge : b ≤ r') (hb : 0 < b) (hp : j / 32 = p) (hs : j % 32 = s) (hpl : p < qs.length) (hc : qs.getD p 0 = c) :
    c + 2 ^ s < 4294967296 ∧ r' - b < b ∧ OvInv a b j (r' - b) (qs.set p (c + 2 ^ s)) := by
  have e := bit_next a j t ht
  obtain ⟨A, hA⟩ : ∃ A, a / 2 ^ (j + 1) = A := ⟨_, rfl⟩
  have h1 := h.re
  have h2 := h.qe
  rw [hA] at h1 h2 e
  have hdm := Nat.div_add_mod A b
  rw [← h1] at hdm
  have hrb : r < b := by rw [h1]; exact Nat.mod_lt _ hb
  have htn : t.toNat ≤ 1 := by cases t <;> decide
  have e2 : a / 2 ^ j = b * (2 * (A / b) + 1) + (r' - b) := by rw [e, Nat.mul_add, Nat.mul_one, Nat.mul_left_comm]; omega
  have hlt : r' - b < b := by omega
  have hw := vh_getD h.hw p
  have hj : j + 1 = 32 * p + s + 1 := by omega
  rw [h2, hj, hc] at hw
  have hroom := word_room (by omega) hw
  refine ⟨hroom, hlt, ?_, ?_, h.hw.set p hroom⟩
  · rw [e2, Nat.mul_add_mod, Nat.mod_eq_of_lt hlt]
  · have hset := vh_set qs p (c + 2 ^ s) hpl
    rw [hc, Nat.mul_add, h2] at hset
    have e3 : (4294967296 : Nat) ^ p * 2 ^ s = 2 ^ j := by rw [show (4294967296 : Nat) ^ p = 2 ^ (32 * p) by rw [Nat.pow_mul], ← Nat.pow_add, show 32 * p + s = j by omega]
    rw [e2, Nat.mul_add_div hb, Nat.div_eq_of_lt hlt, Nat.add_zero, Nat.add_mul, Nat.one_mul]
    rw [Nat.pow_succ, Nat.mul_comm (2 ^ j) 2, ← Nat.mul_assoc, Nat.mul_comm (A / b) 2] at hset
    omega
theorem OvInv.fin {a b r : Nat} {qs : List Nat} (h : OvInv a b 0 r qs) : r = a % b ∧ vh qs = a / b := by
  have h1 := h.re
  have h2 := h.qe
  simp only [Nat.pow_zero, Nat.div_one, Nat.mul_one] at h1 h2
  exact ⟨h1, h2⟩
theorem hlen_of_lt {a : List Nat} {k : Nat} (h : Hs a) (hn : Nrm a) (hlt : vh a < 4294967296 ^ k) : a.length ≤ k := by
  rcases Nat.lt_or_ge k a.length with h1 | h1
  · exfalso
    have hne : a ≠ [] := by intro e; rw [e] at h1; simp at h1
    obtain ⟨b, x, rfl⟩ : ∃ b x, a = b ++ [x] := ⟨a.dropLast, a.getLast hne, (List.dropLast_concat_getLast hne).symm⟩
    have hx : x ≠ 0 := by
      intro e
      apply hn
      rw [e, List.getLast?_concat]
    rw [vh_snoc1] at hlt
    rw [List.length_append, List.length_singleton] at h1
    have h2 : 4294967296 ^ k ≤ 4294967296 ^ b.length := Nat.pow_le_pow_right (by omega) (by omega)
    have h3 : 4294967296 ^ b.length * 1 ≤ 4294967296 ^ b.length * x := Nat.mul_le_mul_left _ (Nat.pos_of_ne_zero hx)
    omega
  · exact h1
end M
theorem Nh.fit {w : World} {lo s k : Nat} {v : Value} {a : Nat} (h : Nh w lo s v a) (hk : a < 4294967296 ^ k) : Nh w lo k v a := by
  obtain ⟨A, n, c, xs, e, h1, h2, h3, h4, h5⟩ := h
  refine ⟨A, n, c, xs, e, h1, h2, h3, ?_, h5⟩
  rw [← h1.num]
  exact M.hlen_of_lt h2 h5 (by rw [h3]; exact hk)
theorem Nh.lt {w : World} {lo s : Nat} {v : Value} {a : Nat} (h : Nh w lo s v a) : a < 4294967296 ^ s := by
  obtain ⟨A, n, c, xs, e, h1, h2, h3, h4, h5⟩ := h
  have h6 := M.vh_lt1 h2
  rw [h3, h1.num] at h6
  exact Nat.lt_of_lt_of_le h6 (Nat.pow_le_pow_right (by omega) h4)
theorem Nh.lower {w : World} {lo lo' s : Nat} {v : Value} {a : Nat} (h : Nh w lo s v a) (hl : lo' ≤ lo) : Nh w lo' s v a := by
  obtain ⟨A, n, c, xs, e, h1, h2⟩ := h
  exact ⟨A, n, c, xs, e, h1.lower hl, h2⟩
end Go.Proofs.YteeepfhjbemgoaaDoor
