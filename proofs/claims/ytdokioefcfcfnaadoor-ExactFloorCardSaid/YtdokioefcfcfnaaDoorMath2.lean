/-
  Plain facts on products and quotients of words: no program is named here.
-/
import Derived.Test.YtdokioefcfcfnaaDoorMath
namespace Go.Proofs.YtdokioefcfcfnaaDoor.M

theorem drop_set_add {zs : List Nat} {i k s : Nat} : (zs.set (i + k) s).drop i = (zs.drop i).set k s := by
  rw [List.drop_set, if_neg (by omega), Nat.add_sub_cancel_left]
theorem drop_set_lt {zs : List Nat} {i k s : Nat} (h : i < k) : (zs.set i s).drop k = zs.drop k := by
  rw [List.drop_set_of_lt h]
theorem take_set_ge {zs : List Nat} {i k s : Nat} (h : i ≤ k) : (zs.set k s).take i = zs.take i := by
  rw [List.take_set, List.set_eq_of_length_le (by simp; omega)]
theorem getD_of_drop {zs zs' : List Nat} {i : Nat} (h : zs.drop i = zs'.drop i) : zs.getD i 0 = zs'.getD i 0 := by
  have := congrArg (fun l => l.getD 0 0) h
  simpa [List.getD_eq_getElem?_getD, List.getElem?_drop] using this
theorem drop_succ_of {zs zs' : List Nat} {i : Nat} (h : zs.drop i = zs'.drop i) : zs.drop (i + 1) = zs'.drop (i + 1) := by
  have := congrArg (List.drop 1) h
  simpa [List.drop_drop, Nat.add_comm] using this

/-- What is so behind k rounds of adding x times ys to the words of zs from i on. -/
def AddInv (zs ys : List Nat) (x i k q : Nat) (zs' : List Nat) : Prop :=
  zs'.take i = zs.take i ∧ zs'.drop (i + k) = zs.drop (i + k) ∧
    val ((zs'.drop i).take k) + 18446744073709551616 ^ k * q = val ((zs.drop i).take k) + val (ys.take k) * x
theorem AddInv.start (zs ys : List Nat) (x i : Nat) : AddInv zs ys x i 0 0 zs := ⟨rfl, rfl, by simp [val]⟩
theorem AddInv.word {zs ys zs' : List Nat} {x i k q : Nat} (h : AddInv zs ys x i k q zs') : zs'.getD (i + k) 0 = zs.getD (i + k) 0 := getD_of_drop h.2.1
theorem AddInv.step {zs ys zs' : List Nat} {x i k q z y s q' : Nat} (h : AddInv zs ys x i k q zs') (hi : i + k < zs'.length) (hz : zs.getD (i + k) 0 = z) (hy : ys.getD k 0 = y)
    (he : z + y * x + q = s + 18446744073709551616 * q') : AddInv zs ys x i (k + 1) q' (zs'.set (i + k) s) := by
  obtain ⟨h1, h2, h3⟩ := h
  refine ⟨by rw [take_set_ge (by omega), h1], ?_, ?_⟩
  · rw [← Nat.add_assoc, drop_set_lt (by omega)]
    exact drop_succ_of h2
  · have hz' : (zs.drop i).getD k 0 = z := by rw [← hz]; simp [List.getD_eq_getElem?_getD, List.getElem?_drop]
    rw [drop_set_add, val_take_succ, val_take_succ (zs.drop i), val_take_succ ys, take_set, getD_set (by simp; omega), hz', hy, Nat.pow_succ, Nat.mul_assoc, Nat.add_mul, Nat.mul_assoc]
    have := congrArg (18446744073709551616 ^ k * ·) he
    simp only [Nat.mul_add] at this
    omega
theorem word_carry {x y z q s1 d1 s2 d2 hi lo : Nat} (hx : x < 18446744073709551616) (hy : y < 18446744073709551616) (hz : z < 18446744073709551616) (hq : q < 18446744073709551616)
    (h1 : y * x = lo + 18446744073709551616 * hi) (h2 : lo + q = s1 + 18446744073709551616 * d1) (h3 : z + s1 = s2 + 18446744073709551616 * d2) :
    z + y * x + q = s2 + 18446744073709551616 * (hi + d1 + d2) ∧ hi + d1 + d2 < 18446744073709551616 := by
  have hb : y * x ≤ 18446744073709551615 * 18446744073709551615 := Nat.mul_le_mul (by omega) (by omega)
  constructor <;> omega
theorem val_take_add (zs : List Nat) (k m : Nat) (hk : k ≤ zs.length) : val (zs.take (k + m)) = val (zs.take k) + 18446744073709551616 ^ k * val ((zs.drop k).take m) := by
  have h := val_append (zs.take k) ((zs.drop k).take m)
  rw [List.length_take, Nat.min_eq_left hk] at h
  rw [← h, List.take_add]
/-- What is so behind k rounds of a product: of the first words what has been reckoned, behind them noughts. -/
def MulInv (xs ys : List Nat) (m k : Nat) (zs : List Nat) : Prop :=
  val (zs.take (k + m)) = val (xs.take k) * val ys ∧ ∀ j, k + m ≤ j → zs.getD j 0 = 0
theorem MulInv.start (xs ys : List Nat) (m n : Nat) : MulInv xs ys m 0 (List.replicate n 0) := by
  refine ⟨by simp [List.take_replicate, val_replicate, val], fun j _ => ?_⟩
  rw [List.getD_eq_getElem?_getD, List.getElem?_replicate]
  split <;> rfl
theorem MulInv.step {xs ys zs zs' : List Nat} {m k x q : Nat} (h : MulInv xs ys m k zs) (hm : ys.length = m) (hk : k + m < zs.length) (hl : zs'.length = zs.length) (hx : xs.getD k 0 = x)
    (ha : AddInv zs ys x k m q zs') : MulInv xs ys m (k + 1) (zs'.set (k + m) q) := by
  obtain ⟨h1, h2⟩ := h
  obtain ⟨a1, a2, a3⟩ := ha
  have hd : ∀ j, k + m ≤ j → zs'.getD j 0 = zs.getD j 0 := by
    intro j hj
    have := congrArg (fun l => l.getD (j - (k + m)) 0) a2
    simpa [List.getD_eq_getElem?_getD, List.getElem?_drop, show k + m + (j - (k + m)) = j from by omega] using this
  constructor
  · rw [show k + 1 + m = (k + m) + 1 from by omega, val_take_succ, take_set, getD_set (by omega), val_take_add zs' k m (by omega), a1, val_take_succ, hx, Nat.add_mul, ← h1, val_take_add zs k m (by omega), Nat.pow_add, Nat.mul_assoc, Nat.mul_assoc]
    rw [List.take_of_length_le (show ys.length ≤ m by omega)] at a3
    have := congrArg (18446744073709551616 ^ k * ·) a3
    simp only [Nat.mul_add] at this
    rw [Nat.mul_comm x]
    omega
  · intro j hj
    rw [getD_set_ne (by omega), hd j (by omega)]
    exact h2 j (by omega)
theorem pow_word (q : Nat) : 18446744073709551616 ^ q = 2 ^ (64 * q) := by
  rw [Nat.pow_mul]
theorem testBit_word {xs : List Nat} (h : Wds xs) (k : Nat) : (val xs).testBit k = (xs.getD (k / 64) 0).testBit (k % 64) := by
  rw [← val_getD h (k / 64), pow_word, show (18446744073709551616 : Nat) = 2 ^ 64 from rfl, Nat.testBit_mod_two_pow, Nat.testBit_div_two_pow]
  have h1 : k % 64 < 64 := by omega
  have h2 : k % 64 + 64 * (k / 64) = k := by omega
  simp [h1, h2]
theorem testBit_int (y r : Nat) : ((y : Int) / 2 ^ r % 2 == 1) = y.testBit r := by
  rw [Nat.testBit_eq_decide_div_mod_eq]
  have e : (y : Int) / 2 ^ r % 2 = ((y / 2 ^ r % 2 : Nat) : Int) := by simp
  rw [e]
  have h : y / 2 ^ r % 2 < 2 := by omega
  rcases (show y / 2 ^ r % 2 = 0 ∨ y / 2 ^ r % 2 = 1 by omega) with h | h <;> simp [h]

/-- How many bits a number has. -/
def bits (a : Nat) : Nat := if a = 0 then 0 else Nat.log2 a + 1
theorem bits_zero : bits 0 = 0 := rfl
theorem bits_of {a b : Nat} (h1 : 2 ^ b ≤ a) (h2 : a < 2 ^ (b + 1)) : bits a = b + 1 := by
  have h0 : a ≠ 0 := by
    have := Nat.pow_pos (n := b) (show 0 < 2 by omega)
    omega
  rw [bits, if_neg h0]
  have h3 := Nat.log2_self_le h0
  have h4 := Nat.lt_log2_self (n := a)
  have h5 : a.log2 < b + 1 := (Nat.pow_lt_pow_iff_right (show 1 < 2 by omega)).1 (Nat.lt_of_le_of_lt h3 h2)
  have h6 : b < a.log2 + 1 := (Nat.pow_lt_pow_iff_right (show 1 < 2 by omega)).1 (Nat.lt_of_le_of_lt h1 h4)
  omega
theorem bits_le {a : Nat} (h : a ≠ 0) : 2 ^ (bits a - 1) ≤ a := by
  rw [bits, if_neg h]
  exact Nat.log2_self_le h
theorem bits_lt (a : Nat) : a < 2 ^ bits a := by
  by_cases h : a = 0
  · subst h; decide
  · rw [bits, if_neg h]
    exact Nat.lt_log2_self
theorem bits_pos {a : Nat} (h : a ≠ 0) : 0 < bits a := by rw [bits, if_neg h]; omega
theorem bits_le_of_lt {a k : Nat} (h : a < 2 ^ k) : bits a ≤ k := by
  by_cases h0 : a = 0
  · subst h0; exact Nat.zero_le _
  · have h1 := bits_le h0
    have h2 := bits_pos h0
    rcases Nat.lt_or_ge k (bits a) with h3 | h3
    · have h4 : 2 ^ k ≤ 2 ^ (bits a - 1) := Nat.pow_le_pow_right (by omega) (by omega)
      omega
    · exact h3
theorem bits_half {a : Nat} (h : a ≠ 0) : bits a = 1 + bits (a / 2) := by
  by_cases h1 : a / 2 = 0
  · have : a = 1 := by omega
    subst this; decide
  · rw [bits, if_neg h, bits, if_neg h1, Nat.log2_def, if_pos (by omega)]
    omega
theorem bits_top {v x m : Nat} (hv : v < 18446744073709551616 ^ m) (hx : x ≠ 0) : bits (v + 18446744073709551616 ^ m * x) = 64 * m + bits x := by
  have h1 := bits_le hx
  have h2 := bits_lt x
  have h3 := bits_pos hx
  rw [pow_word] at hv ⊢
  have e : 64 * m + bits x = (64 * m + (bits x - 1)) + 1 := by omega
  rw [e]
  apply bits_of
  · rw [Nat.pow_add]
    exact Nat.le_trans (Nat.mul_le_mul_left _ h1) (Nat.le_add_left _ _)
  · rw [show 64 * m + (bits x - 1) + 1 = 64 * m + bits x from by omega, Nat.pow_add]
    calc v + 2 ^ (64 * m) * x < 2 ^ (64 * m) + 2 ^ (64 * m) * x := by omega
      _ = 2 ^ (64 * m) * (x + 1) := by rw [Nat.mul_add, Nat.mul_one, Nat.add_comm]
      _ ≤ _ := Nat.mul_le_mul_left _ h2
theorem val_snoc_getD {ys : List Nat} {m : Nat} (hl : ys.length = m + 1) : val ys = val (ys.take m) + 18446744073709551616 ^ m * ys.getD m 0 := by
  have := val_take_succ ys m
  rwa [List.take_of_length_le (by omega)] at this
theorem top_ne {ys : List Nat} {m : Nat} (hn : Nrm ys) (hl : ys.length = m + 1) : ys.getD m 0 ≠ 0 := by
  intro e
  apply hn
  rw [List.getLast?_eq_getElem?, hl]
  rw [List.getD_eq_getElem?_getD, List.getElem?_eq_getElem (show m < ys.length by omega)] at e
  simp at e
  simp [List.getElem?_eq_getElem (show m < ys.length by omega), e]
theorem bits_val {ys : List Nat} {m : Nat} (hw : Wds ys) (hn : Nrm ys) (hl : ys.length = m + 1) : bits (val ys) = 64 * m + bits (ys.getD m 0) := by
  rw [val_snoc_getD hl]
  refine bits_top ?_ (top_ne hn hl)
  have := val_lt (hw.take m)
  rwa [List.length_take, hl, Nat.min_eq_left (by omega)] at this
end Go.Proofs.YtdokioefcfcfnaaDoor.M
