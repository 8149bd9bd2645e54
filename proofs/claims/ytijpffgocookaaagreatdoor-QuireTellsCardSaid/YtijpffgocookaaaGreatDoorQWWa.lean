import Derived.Test.YtijpffgocookaaaGreatDoorQWMath2
set_option maxHeartbeats 32000000
set_option linter.unusedVariables false
set_option linter.unusedSimpArgs false
namespace Go.Proofs.YtijpffgocookaaaGreatDoor
open Go
namespace M
def bq : List Bool → Nat
 | [] => 0
 | b :: l => b.toNat + 2 * bq l
theorem bq_lt : ∀ l : List Bool, bq l < 2 ^ l.length
 | [] => by simp [bq]
 | b :: l => by
  have := bq_lt l
  have hb : b.toNat ≤ 1 := by cases b <;> decide
  rw [List.length_cons, Nat.pow_succ, bq]
  omega
theorem bq_append : ∀ a b : List Bool, bq (a ++ b) = bq a + 2 ^ a.length * bq b
 | [], b => by simp [bq]
 | x :: a, b => by
  rw [List.cons_append, bq, bq, bq_append a b, List.length_cons, Nat.pow_succ, Nat.mul_add, Nat.mul_comm (2 ^ a.length) 2, Nat.mul_assoc]
  omega
theorem bq_rep (n : Nat) : bq (List.replicate n false) = 0 := by
 induction n with
 | zero => rfl
 | succ n ih => rw [List.replicate_succ, bq, ih]; rfl
theorem bq_inj : ∀ {a b : List Bool}, a.length = b.length → bq a = bq b → a = b
 | [], [], _, _ => rfl
 | [], _ :: _, h, _ => by simp at h
 | _ :: _, [], h, _ => by simp at h
 | x :: a, y :: b, h, e => by
  rw [bq, bq] at e
  have hx : x.toNat ≤ 1 := by cases x <;> decide
  have hy : y.toNat ≤ 1 := by cases y <;> decide
  have e1 : x.toNat = y.toNat := by omega
  have e2 : bq a = bq b := by omega
  have := bq_inj (by simpa using h) e2
  subst this
  have : x = y := by cases x <;> cases y <;> first | rfl | (exfalso; revert e1; decide)
  rw [this]
theorem bq_bit : ∀ (l : List Bool) (i : Nat), (bq l).testBit i = l.getD i false
 | [], i => by simp [bq]
 | b :: l, 0 => by
  rw [bq, Nat.testBit_zero]
  cases b <;> simp
 | b :: l, i + 1 => by
  rw [bq, Nat.testBit_succ, show (b.toNat + 2 * bq l) / 2 = bq l from by cases b <;> simp <;> omega, bq_bit l i]
  rfl
def bqt (S b : Nat) : List Bool := (List.range S).map b.testBit
theorem bqt_len (S b : Nat) : (bqt S b).length = S := by simp [bqt]
theorem bqt_get {S b i : Nat} (h : i < S) : (bqt S b).getD i false = b.testBit i := by
 unfold bqt
 rw [List.getD_eq_getElem?_getD, List.getElem?_map, List.getElem?_range h]
 rfl
theorem bq_bqt (S b : Nat) : bq (bqt S b) = b % 2 ^ S := by
 apply Nat.eq_of_testBit_eq
 intro i
 rw [bq_bit, Nat.testBit_mod_two_pow]
 by_cases h : i < S
 ·rw [bqt_get h, decide_eq_true h, Bool.true_and]
 ·rw [decide_eq_false h, Bool.false_and, List.getD_eq_getElem?_getD, List.getElem?_eq_none (by rw [bqt_len]; omega)]
  rfl
def tqn : Bool → List Bool → List Bool
 | _, [] => []
 | s, b :: l => (b != s) :: tqn (s || b) l
theorem tqn_len : ∀ (s : Bool) (l : List Bool), (tqn s l).length = l.length
 | _, [] => rfl
 | s, b :: l => by rw [tqn, List.length_cons, List.length_cons, tqn_len]
theorem bq_tqn_true : ∀ l : List Bool, bq (tqn true l) + bq l + 1 = 2 ^ l.length
 | [] => rfl
 | b :: l => by
  have h := bq_tqn_true l
  have hs : (true || b) = true := Bool.true_or b
  rw [tqn, bq, bq, hs, List.length_cons, Nat.pow_succ, ← h]
  cases b <;> simp <;> omega
theorem bq_tqn : ∀ l : List Bool, bq (tqn false l) = (2 ^ l.length - bq l) % 2 ^ l.length
 | [] => rfl
 | b :: l => by
  have hl := bq_lt l
  cases b with
  | false =>
   have h := bq_tqn l
   rw [tqn, bq, bq, show (false || false) = false from rfl, h, List.length_cons, Nat.pow_succ]
   simp only [Bool.bne_false, Bool.toNat_false, Nat.zero_add]
   rw [Nat.mul_comm (2 ^ l.length) 2, ← Nat.mul_sub, Nat.mul_mod_mul_left]
  | true =>
   have h := bq_tqn_true l
   rw [tqn, bq, bq, show (false || true) = true from rfl, List.length_cons, Nat.pow_succ]
   simp only [Bool.bne_false, Bool.toNat_true]
   rw [Nat.mod_eq_of_lt (by omega)]
   omega
def sqm : Bool → List Bool → List Bool → List Bool
 | c, a :: x, b :: y => (a != (b != c)) :: sqm (a && b || a && c || b && c) x y
 | _, [], _ => []
 | _, _ :: _, [] => []
theorem sqm_len : ∀ (c : Bool) (x y : List Bool), x.length = y.length → (sqm c x y).length = x.length
 | _, [], _, _ => by simp [sqm]
 | _, _ :: _, [], h => by simp at h
 | c, a :: x, b :: y, h => by rw [sqm, List.length_cons, List.length_cons, sqm_len _ x y (by simpa using h)]
theorem mod_twoq {s k n : Nat} (h : s ≤ 1) : (s + 2 * k) % 2 ^ (n + 1) = s + 2 * (k % 2 ^ n) := by
 rw [Nat.pow_succ, Nat.mul_comm (2 ^ n) 2, Nat.mod_mul, show (s + 2 * k) % 2 = s by omega, show (s + 2 * k) / 2 = k by omega]
theorem bq_sqm : ∀ (c : Bool) (x y : List Bool), x.length = y.length → bq (sqm c x y) = (bq x + bq y + c.toNat) % 2 ^ x.length
 | c, [], [], _ => by simp [sqm, bq, Nat.mod_one]
 | _, [], _ :: _, h => by simp at h
 | _, _ :: _, [], h => by simp at h
 | c, a :: x, b :: y, h => by
  have ih := bq_sqm (a && b || a && c || b && c) x y (by simpa using h)
  rw [sqm, bq, bq, bq, ih, List.length_cons, ← mod_twoq (by cases a <;> cases b <;> cases c <;> decide)]
  congr 1
  cases a <;> cases b <;> cases c <;> simp <;> omega
theorem bq_top (n : Nat) : bq (List.replicate n false ++ [true]) = 2 ^ n := by
 rw [bq_append, bq_rep, List.length_replicate]
 simp [bq]
end M
end Go.Proofs.YtijpffgocookaaaGreatDoor
