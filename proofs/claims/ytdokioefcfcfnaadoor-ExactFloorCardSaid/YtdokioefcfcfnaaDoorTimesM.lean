/-
  The reference's Times: its reckoning.
-/
import Derived.Test.YtdokioefcfcfnaaDoorRcmp
namespace Go.Proofs.YtdokioefcfcfnaaDoor
open Go.RowKit Go.Shelf

namespace M
theorem vh_set : ∀ (zs : List Nat) (i x : Nat), i < zs.length → vh (zs.set i x) + 4294967296 ^ i * zs.getD i 0 = vh zs + 4294967296 ^ i * x
  | [], i, x, h => by simp at h
  | z :: zs, 0, x, _ => by simp [vh]; omega
  | z :: zs, i + 1, x, h => by
    have := vh_set zs i x (by simpa using h)
    simp only [List.set_cons_succ, vh, List.getD_cons_succ, Nat.pow_succ]
    have e1 : 4294967296 ^ i * 4294967296 * zs.getD i 0 = 4294967296 * (4294967296 ^ i * zs.getD i 0) := by rw [Nat.mul_comm (4294967296 ^ i), Nat.mul_assoc]
    have e2 : 4294967296 ^ i * 4294967296 * x = 4294967296 * (4294967296 ^ i * x) := by rw [Nat.mul_comm (4294967296 ^ i), Nat.mul_assoc]
    rw [e1, e2]
    omega
theorem vh_take_succ : ∀ (a : List Nat) (k : Nat), vh (a.take (k + 1)) = vh (a.take k) + 4294967296 ^ k * a.getD k 0
  | [], k => by simp [vh]
  | x :: r, 0 => by simp [vh]
  | x :: r, k + 1 => by
    rw [List.take_succ_cons, List.take_succ_cons, vh, vh, vh_take_succ r k, List.getD_cons_succ, Nat.mul_add, Nat.pow_succ, Nat.mul_comm (4294967296 ^ k) 4294967296, Nat.mul_assoc, Nat.add_assoc]
theorem Hs.set {a : List Nat} (h : Hs a) (i : Nat) {x : Nat} (hx : x < 4294967296) : Hs (a.set i x) := fun y hy => by
  rcases List.mem_or_eq_of_mem_set hy with h1 | h1
  · exact h y h1
  · rw [h1]; exact hx
theorem Hs.replicate (n : Nat) : Hs (List.replicate n 0) := fun y hy => by
  rw [List.mem_replicate] at hy; omega
/-- What is so between two rounds of the inner loop: x is the word, zs0 what stood there at first. -/
structure TIn (zs0 : List Nat) (x i m k cy : Nat) (ys zs : List Nat) : Prop where
  eq : vh zs + 4294967296 ^ (i + k) * cy = vh zs0 + 4294967296 ^ i * (x * vh (ys.take k))
  far : ∀ j, i + k ≤ j → zs.getD j 0 = zs0.getD j 0
  cy_lt : cy < 4294967296
  last : m < k → cy = 0
  k_le : k ≤ m + 1
theorem TIn.start (zs0 : List Nat) (x i m : Nat) (ys : List Nat) : TIn zs0 x i m 0 0 ys zs0 :=
  ⟨by simp [vh], fun _ _ => rfl, by omega, fun _ => rfl, by omega⟩
theorem mul_lt_hs {x y : Nat} (hx : x < 4294967296) (hy : y < 4294967296) : x * y ≤ 18446744065119617025 := by
  have := Nat.mul_le_mul (Nat.le_sub_one_of_lt hx) (Nat.le_sub_one_of_lt hy)
  simpa using this
theorem TIn.step {zs0 : List Nat} {x i m k cy : Nat} {ys zs : List Nat} (h : TIn zs0 x i m k cy ys zs) (hx : x < 4294967296) (hm : ys.length = m) (hy : Hs ys) (hz0 : ∀ j, i + m ≤ j → zs0.getD j 0 = 0) (hzs : Hs zs)
    (hgo : k < m ∨ 0 < cy) (hlen : i + m < zs.length) {y z t : Nat} (hyk : ys.getD k 0 = y) (hzk : zs.getD (i + k) 0 = z) (ht : x * y + z + cy = t) :
    t < 18446744073709551616 ∧ t / 4294967296 < 4294967296 ∧ i + k < zs.length ∧ TIn zs0 x i m (k + 1) (t / 4294967296) ys (zs.set (i + k) (t % 4294967296)) := by
  have hyb : y < 4294967296 := by rw [← hyk]; exact hy.getD k
  have hzb : z < 4294967296 := by rw [← hzk]; exact hzs.getD _
  have hxy := mul_lt_hs hx hyb
  have hcy := h.cy_lt
  have hkm : k ≤ m := by
    rcases hgo with h1 | h1
    · omega
    · rcases Nat.lt_or_ge m k with h2 | h2
      · have := h.last h2; omega
      · exact h2
  have hik : i + k < zs.length := by omega
  have ht1 : t < 18446744073709551616 := by omega
  refine ⟨ht1, by omega, hik, ?_, fun j hj => ?_, by omega, fun hmk => ?_, by omega⟩
  · have a1 := vh_set zs (i + k) (t % 4294967296) hik
    have a2 := h.eq
    rw [hzk] at a1
    rw [vh_take_succ, hyk]
    have e1 : 4294967296 ^ (i + (k + 1)) * (t / 4294967296) + 4294967296 ^ (i + k) * (t % 4294967296) = 4294967296 ^ (i + k) * t := by
      rw [← Nat.add_assoc, Nat.pow_succ, Nat.mul_assoc, ← Nat.mul_add]
      congr 1
      omega
    have e2 : 4294967296 ^ (i + k) * t = 4294967296 ^ (i + k) * (x * y) + 4294967296 ^ (i + k) * z + 4294967296 ^ (i + k) * cy := by
      rw [← ht, Nat.mul_add, Nat.mul_add]
    have e3 : 4294967296 ^ i * (x * (vh (ys.take k) + 4294967296 ^ k * y)) = 4294967296 ^ i * (x * vh (ys.take k)) + 4294967296 ^ (i + k) * (x * y) := by
      rw [Nat.mul_add, Nat.mul_add, Nat.pow_add, Nat.mul_left_comm x, Nat.mul_assoc]
    rw [e3]
    omega
  · rw [getD_set_ne' (by omega)]
    exact h.far j (by omega)
  · have hkm2 : k = m := by omega
    subst hkm2
    have hy0 : y = 0 := by rw [← hyk, List.getD_eq_getElem?_getD, List.getElem?_eq_none (by omega)]; rfl
    have hz00 : z = 0 := by rw [← hzk, h.far _ (by omega), hz0 _ (by omega)]
    subst hy0 hz00
    have : t = cy := by rw [← ht]; simp
    omega
/-- What is so between two rounds of the outer loop. -/
structure TOut (xs ys : List Nat) (m i : Nat) (zs : List Nat) : Prop where
  eq : vh zs = vh (xs.take i) * vh ys
  far : ∀ j, i + m ≤ j → zs.getD j 0 = 0
theorem TOut.start (xs ys : List Nat) (m L : Nat) : TOut xs ys m 0 (List.replicate L 0) := by
  have hz : ∀ j, (List.replicate L 0).getD j 0 = 0 := fun j => by
    rw [List.getD_eq_getElem?_getD, List.getElem?_replicate]
    split <;> rfl
  exact ⟨by rw [vh_noughts hz]; simp [vh], fun j _ => hz j⟩
theorem TOut.step {xs ys : List Nat} {m i : Nat} {zs0 zs : List Nat} (h : TOut xs ys m i zs0) {x k : Nat} (hx : xs.getD i 0 = x) (hm : ys.length = m) (hin : TIn zs0 x i m k 0 ys zs) (hk : m ≤ k) : TOut xs ys m (i + 1) zs := by
  have h1 := hin.eq
  have h2 := hin.k_le
  refine ⟨?_, fun j hj => ?_⟩
  · rw [vh_take_succ, hx, Nat.add_mul, ← h.eq]
    rw [List.take_of_length_le (by omega)] at h1
    rw [Nat.mul_assoc]
    omega
  · rw [hin.far j (by omega)]
    exact h.far j (by omega)
theorem TOut.fin {xs ys : List Nat} {m n : Nat} {zs : List Nat} (h : TOut xs ys m n zs) (hn : xs.length = n) : vh zs = vh xs * vh ys := by
  rw [h.eq, List.take_of_length_le (by omega)]
end M
end Go.Proofs.YtdokioefcfcfnaaDoor
