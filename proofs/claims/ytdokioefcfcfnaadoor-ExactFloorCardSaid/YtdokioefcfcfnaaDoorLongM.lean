/-
  Plain facts on dividing by more than one word: no program is named here.
-/
import Derived.Test.YtdokioefcfcfnaaDoorMath2
namespace Go.Proofs.YtdokioefcfcfnaaDoor.M

/-- So many words of a product have been taken away; q is what goes beyond them. -/
def SubInv (zs ys : List Nat) (x i k q : Nat) (zs' : List Nat) : Prop :=
  zs'.take i = zs.take i ∧ zs'.drop (i + k) = zs.drop (i + k) ∧
    val ((zs.drop i).take k) + 18446744073709551616 ^ k * q = val ((zs'.drop i).take k) + val (ys.take k) * x
theorem SubInv.start (zs ys : List Nat) (x i : Nat) : SubInv zs ys x i 0 0 zs := ⟨rfl, rfl, by simp [val]⟩
theorem SubInv.word {zs ys zs' : List Nat} {x i k q : Nat} (h : SubInv zs ys x i k q zs') : zs'.getD (i + k) 0 = zs.getD (i + k) 0 := getD_of_drop h.2.1
theorem SubInv.step {zs ys zs' : List Nat} {x i k q z y s q' : Nat} (h : SubInv zs ys x i k q zs') (hi : i + k < zs'.length) (hz : zs.getD (i + k) 0 = z) (hy : ys.getD k 0 = y)
    (he : z + 18446744073709551616 * q' = s + y * x + q) : SubInv zs ys x i (k + 1) q' (zs'.set (i + k) s) := by
  obtain ⟨h1, h2, h3⟩ := h
  refine ⟨by rw [take_set_ge (by omega), h1], ?_, ?_⟩
  · rw [← Nat.add_assoc, drop_set_lt (by omega)]
    exact drop_succ_of h2
  · have hz' : (zs.drop i).getD k 0 = z := by rw [← hz]; simp [List.getD_eq_getElem?_getD, List.getElem?_drop]
    rw [drop_set_add, val_take_succ, val_take_succ ((zs'.drop i).set k s), val_take_succ ys, take_set, getD_set (by simp; omega), hz', hy, Nat.pow_succ, Nat.mul_assoc, Nat.add_mul, Nat.mul_assoc]
    have := congrArg (18446744073709551616 ^ k * ·) he
    simp only [Nat.mul_add] at this
    omega
/-- A word less a word of the product, what was beyond, and what was borrowed. -/
theorem word_borrow {x y z q b s1 d1 s2 d2 hi lo : Nat} (hx : x < 18446744073709551616) (hy : y < 18446744073709551616) (hq : q < 18446744073709551616)
    (h1 : y * x = lo + 18446744073709551616 * hi) (h2 : lo + q = s1 + 18446744073709551616 * d1) (h3 : z + 18446744073709551616 * d2 = s2 + s1 + b) :
    z + 18446744073709551616 * (hi + d1 + d2) = s2 + y * x + (q + b) ∧ hi + d1 < 18446744073709551616 := by
  have h4 : y * x ≤ 18446744073709551615 * 18446744073709551615 := Nat.mul_le_mul (by omega) (by omega)
  refine ⟨by omega, by omega⟩

/-- What a guess is: the greatest digit that does for the highest words. -/
structure Gd (t d g : Nat) : Prop where
  lt : g < 18446744073709551616
  le : g * d ≤ t
  top : ∀ x, x < 18446744073709551616 → x * d ≤ t → x ≤ g
/-- On the way to it: U the two highest words, a, b the divisor's, c the third. -/
structure Gs (U a b c g l : Nat) : Prop where
  lt : g < 18446744073709551616
  eq : g * a + l = U
  top : ∀ x, x < 18446744073709551616 → x * (a * 18446744073709551616 + b) ≤ U * 18446744073709551616 + c → x ≤ g
theorem feasible {U a b c x : Nat} (hc : c < 18446744073709551616) (h : x * (a * 18446744073709551616 + b) ≤ U * 18446744073709551616 + c) : x * a ≤ U := by
  rw [Nat.mul_add, ← Nat.mul_assoc] at h
  generalize x * a = p at *
  omega
theorem Gs.start {U a b c : Nat} (ha : 0 < a) (hc : c < 18446744073709551616) (hU : U < 18446744073709551616 * a) : Gs U a b c (U / a) (U % a) := by
  refine ⟨Nat.div_lt_of_lt_mul (by rw [Nat.mul_comm]; exact hU), ?_, fun x _ h => (Nat.le_div_iff_mul_le ha).2 (feasible hc h)⟩
  have := Nat.div_add_mod U a
  rw [Nat.mul_comm a] at this
  exact this
theorem Gs.start_big {a b c lo : Nat} : Gs (a * 18446744073709551616 + lo) a b c 18446744073709551615 (lo + a) := by
  refine ⟨by omega, ?_, fun x h _ => by omega⟩
  omega
theorem Gs.next {U a b c g l : Nat} (h : Gs U a b c (g + 1) l) (hc : 18446744073709551616 * l + c < (g + 1) * b) : Gs U a b c g (l + a) := by
  obtain ⟨h1, h2, h3⟩ := h
  refine ⟨by omega, by rw [Nat.add_mul] at h2; omega, fun x hx hd => ?_⟩
  have h4 := h3 x hx hd
  rcases Nat.lt_or_ge g x with h5 | h5
  · exfalso
    have e : x = g + 1 := by omega
    subst e
    rw [Nat.mul_add, ← Nat.mul_assoc, ← h2] at hd
    generalize (g + 1) * a = p at *
    generalize (g + 1) * b = p2 at *
    omega
  · exact h5
theorem Gs.done {U a b c g l : Nat} (h : Gs U a b c g l) (hc : g * b ≤ 18446744073709551616 * l + c) : Gd (U * 18446744073709551616 + c) (a * 18446744073709551616 + b) g := by
  obtain ⟨h1, h2, h3⟩ := h
  refine ⟨h1, ?_, h3⟩
  rw [Nat.mul_add, ← Nat.mul_assoc, ← h2]
  generalize g * a = p at *
  generalize g * b = p2 at *
  omega
theorem Gs.stop {U a b c g l : Nat} (h : Gs U a b c g l) (hb : b < 18446744073709551616) (hl : 18446744073709551616 ≤ l) : Gd (U * 18446744073709551616 + c) (a * 18446744073709551616 + b) g := by
  refine h.done ?_
  have h1 : g * b ≤ 18446744073709551615 * 18446744073709551615 := Nat.mul_le_mul (by have := h.lt; omega) (by omega)
  omega

/-- The guess is the digit, or one more. -/
theorem Gd.near {r β t d P r0 b0 g : Nat} (h : Gd t d g) (hr : r = P * t + r0) (hr0 : r0 < P) (hβ : β = P * d + b0) (hb0 : b0 < P) (hd : 18446744073709551616 ≤ d) (hq : r < 18446744073709551616 * β) :
    r / β ≤ g ∧ g ≤ r / β + 1 := by
  obtain ⟨h1, h2, h3⟩ := h
  have hP : 0 < P := by omega
  have hPd : P * 18446744073709551616 ≤ P * d := Nat.mul_le_mul_left _ hd
  have hβ0 : 0 < β := by omega
  constructor
  · refine h3 _ (Nat.div_lt_of_lt_mul (by rw [Nat.mul_comm]; exact hq)) ?_
    have h4 : r / β * β ≤ r := Nat.div_mul_le_self _ _
    generalize r / β = q at *
    have h5 : P * (q * d) ≤ q * β := by
      rw [hβ, Nat.mul_add, Nat.mul_left_comm]
      omega
    have h6 : P * (q * d) < P * (t + 1) := by rw [Nat.mul_add]; omega
    have := Nat.lt_of_mul_lt_mul_left h6
    omega
  · rcases Nat.eq_zero_or_pos g with h0 | h0
    · rw [h0]; exact Nat.zero_le _
    · obtain ⟨g', rfl⟩ : ∃ g', g = g' + 1 := ⟨g - 1, by omega⟩
      have h4 : g' ≤ r / β := by
        refine (Nat.le_div_iff_mul_le hβ0).2 ?_
        have h5 : (g' + 1) * b0 ≤ 18446744073709551616 * P := Nat.mul_le_mul (by omega) (by omega)
        have h6 : P * ((g' + 1) * d) ≤ P * t := Nat.mul_le_mul_left _ h2
        have h7 : (g' + 1) * β = P * ((g' + 1) * d) + (g' + 1) * b0 := by rw [hβ, Nat.mul_add, Nat.mul_left_comm]
        rw [Nat.add_mul, Nat.one_mul] at h7
        omega
      omega

theorem val_take_lt {zs : List Nat} (h : Wds zs) (k : Nat) : val (zs.take k) < 18446744073709551616 ^ k := by
  have h1 := val_lt (h.take k)
  refine Nat.lt_of_lt_of_le h1 (Nat.pow_le_pow_right (by omega) ?_)
  rw [List.length_take]; omega
theorem getD_drop (zs : List Nat) (i j : Nat) : (zs.drop i).getD j 0 = zs.getD (i + j) 0 := by
  simp [List.getD_eq_getElem?_getD, List.getElem?_drop]
/-- Three highest words. -/
theorem val_three (l : List Nat) (p : Nat) : val (l.take (p + 3)) = 18446744073709551616 ^ p * ((l.getD (p + 2) 0 * 18446744073709551616 + l.getD (p + 1) 0) * 18446744073709551616 + l.getD p 0) + val (l.take p) := by
  rw [show p + 3 = p + 1 + 1 + 1 from rfl, val_take_succ, val_take_succ, val_take_succ]
  simp only [Nat.pow_succ, Nat.mul_add, Nat.add_mul, Nat.mul_assoc]
  rw [Nat.mul_comm (l.getD (p + 1) 0), Nat.mul_comm (l.getD (p + 2) 0), Nat.mul_assoc]
  omega
theorem val_two (l : List Nat) (p : Nat) : val (l.take (p + 2)) = 18446744073709551616 ^ p * (l.getD (p + 1) 0 * 18446744073709551616 + l.getD p 0) + val (l.take p) := by
  rw [show p + 2 = p + 1 + 1 from rfl, val_take_succ, val_take_succ]
  simp only [Nat.pow_succ, Nat.mul_add, Nat.mul_assoc]
  rw [Nat.mul_comm (l.getD (p + 1) 0)]
  omega

/-- The digit that is taken, and what it leaves: of n + 1 words from i on. -/
structure Dg (zs ys : List Nat) (i n q : Nat) (zs' : List Nat) : Prop where
  take : zs'.take i = zs.take i
  drop : zs'.drop (i + (n + 1)) = zs.drop (i + (n + 1))
  q : q = val ((zs.drop i).take (n + 1)) / val ys
  r : val ((zs'.drop i).take (n + 1)) = val ((zs.drop i).take (n + 1)) % val ys

theorem Dg.just {zs ys zs2 : List Nat} {i n g b : Nat} (hy : ys.length = n) (hw : Wds zs2) (h : SubInv zs ys g i (n + 1) b zs2) (hb : b ≤ 1) (hg : g = val ((zs.drop i).take (n + 1)) / val ys) :
    b = 0 ∧ Dg zs ys i n g zs2 := by
  obtain ⟨h1, h2, h3⟩ := h
  have hz := val_take_lt (hw.drop i) (n + 1)
  rw [List.take_of_length_le (show ys.length ≤ n + 1 by omega)] at h3
  have hm := Nat.div_add_mod (val ((zs.drop i).take (n + 1))) (val ys)
  rw [← hg] at hm
  have : b = 0 ∨ b = 1 := by omega
  rcases this with rfl | rfl
  · exact ⟨rfl, h1, h2, hg, by omega⟩
  · exfalso; omega
theorem Dg.back {zs ys zs2 zs3 : List Nat} {i n g b c : Nat} (hy : ys.length = n) (hwy : Wds ys) (hw : Wds zs2) (hw3 : Wds zs3) (h : SubInv zs ys (g + 1) i (n + 1) b zs2) (hb : b ≤ 1) (h0 : 0 < val ys) (hg : g = val ((zs.drop i).take (n + 1)) / val ys)
    (hc : c ≤ 1) (ha : AddInv zs2 ys 1 i (n + 1) c zs3) : b = 1 ∧ Dg zs ys i n g zs3 := by
  obtain ⟨h1, h2, h3⟩ := h
  obtain ⟨a1, a2, a3⟩ := ha
  have hz := val_take_lt (hw.drop i) (n + 1)
  have hz3 := val_take_lt (hw3.drop i) (n + 1)
  have hyl := val_lt hwy
  rw [hy] at hyl
  have hpp : 18446744073709551616 ^ n ≤ 18446744073709551616 ^ (n + 1) := Nat.pow_le_pow_right (by omega) (by omega)
  rw [List.take_of_length_le (show ys.length ≤ n + 1 by omega)] at h3 a3
  have hm := Nat.div_add_mod (val ((zs.drop i).take (n + 1))) (val ys)
  have hlt := Nat.mod_lt (val ((zs.drop i).take (n + 1))) h0
  rw [← hg] at hm
  rw [Nat.mul_add] at h3
  have : b = 0 ∨ b = 1 := by omega
  rcases this with rfl | rfl
  · exfalso; omega
  · have : c = 0 ∨ c = 1 := by omega
    rcases this with rfl | rfl
    · exfalso; omega
    · exact ⟨rfl, a1.trans h1, a2.trans h2, hg, by omega⟩
theorem Dg.one {zs ys zs2 : List Nat} {i n g b : Nat} (hy : ys.length = n) (hw : Wds zs2) (h : SubInv zs ys (g + 1) i (n + 1) b zs2) (hb : b ≤ 1) (h0 : 0 < val ys) (hg : g = val ((zs.drop i).take (n + 1)) / val ys) : b = 1 := by
  obtain ⟨h1, h2, h3⟩ := h
  have hz := val_take_lt (hw.drop i) (n + 1)
  rw [List.take_of_length_le (show ys.length ≤ n + 1 by omega)] at h3
  have hm := Nat.div_add_mod (val ((zs.drop i).take (n + 1))) (val ys)
  have hlt := Nat.mod_lt (val ((zs.drop i).take (n + 1))) h0
  rw [← hg] at hm
  rw [Nat.mul_add] at h3
  have : b = 0 ∨ b = 1 := by omega
  rcases this with rfl | rfl
  · exfalso; omega
  · rfl

/-- What is so while k digits are still to be taken. -/
structure Lg (a β N n L k : Nat) (X Q : List Nat) : Prop where
  lx : X.length = N
  lq : Q.length = L
  eq : val X + β * (18446744073709551616 ^ k * val (Q.drop k)) = a
  lt : val (X.drop k) < β
theorem drop_cons {zs : List Nat} {i : Nat} (h : i < zs.length) : val (zs.drop i) = zs.getD i 0 + 18446744073709551616 * val (zs.drop (i + 1)) := by
  rw [List.drop_eq_getElem_cons h, val_cons]
  simp [List.getD_eq_getElem?_getD, List.getElem?_eq_getElem h]
theorem Lg.start {a β N n L : Nat} {X Q : List Nat} (lx : X.length = N) (lq : Q.length = L) (ha : val X = a) (hlt : val (X.drop L) < β) : Lg a β N n L L X Q := by
  refine ⟨lx, lq, ?_, hlt⟩
  rw [List.drop_of_length_le (by omega), val_nil, Nat.mul_zero, Nat.mul_zero, Nat.add_zero]
  exact ha
/-- The words of the next digit hold all that is left; it is a digit. -/
theorem Lg.next {a N n L i : Nat} {X Q ys : List Nat} (h : Lg a (val ys) N n L (i + 1) X Q) (hwx : Wds X) (hwy : Wds ys) (hy : ys.length = n) (hi : i < L) (hN : N = L + n) :
    val ((X.drop i).take (n + 1)) = val (X.drop i) ∧ val ((X.drop i).take (n + 1)) < 18446744073709551616 * val ys ∧ val (X.drop (i + (n + 1))) = 0 := by
  obtain ⟨lx, lq, eq, lt⟩ := h
  have hyl := val_lt hwy
  rw [hy] at hyl
  have h1 := drop_cons (zs := X) (i := i) (by omega)
  have h2 := hwx.getD i
  have h3 : val (X.drop i) < 18446744073709551616 * val ys := by omega
  have h4 := val_split (X.drop i) (n + 1) (by rw [List.length_drop]; omega)
  rw [List.drop_drop] at h4
  have h5 : val (X.drop (i + (n + 1))) = 0 := by
    rcases Nat.eq_zero_or_pos (val (X.drop (i + (n + 1)))) with h0 | h0
    · exact h0
    · exfalso
      have h6 : 18446744073709551616 ^ (n + 1) * 1 ≤ 18446744073709551616 ^ (n + 1) * val (X.drop (i + (n + 1))) := Nat.mul_le_mul_left _ h0
      rw [Nat.pow_succ] at h6 h4
      omega
  rw [h5, Nat.mul_zero, Nat.add_zero] at h4
  exact ⟨h4.symm, by rw [← h4]; exact h3, h5⟩
theorem Lg.step {a N n L i q : Nat} {X Q ys X' : List Nat} (h : Lg a (val ys) N n L (i + 1) X Q) (hwx : Wds X) (hwy : Wds ys) (hy : ys.length = n) (hi : i < L) (hN : N = L + n) (lx' : X'.length = N) (hd : Dg X ys i n q X') :
    Lg a (val ys) N n L i X' (Q.set i q) := by
  obtain ⟨e1, e2, e3⟩ := h.next hwx hwy hy hi hN
  obtain ⟨lx, lq, eq, lt⟩ := h
  obtain ⟨d1, d2, d3, d4⟩ := hd
  have h0 : 0 < val ys := by omega
  have h1 := val_split X i (by omega)
  have h2 := val_split X' i (by omega)
  have h3 := val_split (X'.drop i) (n + 1) (by rw [List.length_drop]; omega)
  rw [List.drop_drop, d2, e3, Nat.mul_zero, Nat.add_zero, d4] at h3
  rw [e1] at d3 h3
  have hm := Nat.div_add_mod (val (X.drop i)) (val ys)
  rw [← d3] at hm
  refine ⟨lx', by rw [List.length_set]; exact lq, ?_, ?_⟩
  · rw [drop_cons (zs := Q.set i q) (by rw [List.length_set]; omega), getD_set (by omega), drop_set_lt (by omega), ← eq, h2, h1, d1, h3]
    have h4 : 18446744073709551616 ^ i * val (X.drop i) = 18446744073709551616 ^ i * (val ys * q + val (X.drop i) % val ys) := by rw [hm]
    rw [h4, Nat.pow_succ]
    simp only [Nat.mul_add, Nat.mul_assoc]
    rw [Nat.mul_left_comm (val ys) (18446744073709551616 ^ i) q]
    omega
  · rw [h3]
    exact Nat.mod_lt _ h0
theorem Lg.fin {a β N n L : Nat} {X Q : List Nat} (h : Lg a β N n L 0 X Q) : val Q = a / β ∧ val X = a % β := by
  obtain ⟨lx, lq, eq, lt⟩ := h
  simp only [List.drop_zero, Nat.pow_zero, Nat.one_mul] at eq lt
  have h0 : 0 < β := by omega
  rw [← eq, Nat.add_mul_div_left _ _ h0, Nat.div_eq_of_lt lt, Nat.add_mul_mod_self_left, Nat.mod_eq_of_lt lt]
  exact ⟨by omega, rfl⟩

/-- The highest word tells how great a number is. -/
theorem val_top {ys : List Nat} {m y : Nat} (hw : Wds ys) (hl : ys.length = m + 1) (hy : ys.getD m 0 = y) : 18446744073709551616 ^ m * y ≤ val ys ∧ val ys < 18446744073709551616 ^ m * (y + 1) := by
  have h1 := val_take_succ ys m
  rw [List.take_of_length_le (by omega), hy] at h1
  have h2 := val_take_lt hw m
  rw [Nat.mul_add, Nat.mul_one]
  omega
/-- The divisor, shifted until its highest bit is 1. -/
theorem shifted_fits {ys : List Nat} {m y s : Nat} (hw : Wds ys) (hl : ys.length = m + 1) (hy : ys.getD m 0 = y) (hs : s ≤ 63) (hlo : 9223372036854775808 ≤ y * 2 ^ s) (hhi : y * 2 ^ s < 18446744073709551616) :
    val ys * 2 ^ s < 18446744073709551616 ^ (m + 1) ∧ 18446744073709551616 ^ m * 9223372036854775808 ≤ val ys * 2 ^ s := by
  obtain ⟨h1, h2⟩ := val_top hw hl hy
  have hp : 0 < 2 ^ s := Nat.pow_pos (by omega)
  have hB : (18446744073709551616 : Nat) = 2 ^ (64 - s) * 2 ^ s := by rw [← Nat.pow_add, show 64 - s + s = 64 from by omega]
  have h3 : y + 1 ≤ 2 ^ (64 - s) := by
    rw [hB] at hhi
    exact Nat.lt_of_mul_lt_mul_right hhi
  have h4 : (y + 1) * 2 ^ s ≤ 18446744073709551616 := by
    rw [hB]
    exact Nat.mul_le_mul_right _ h3
  constructor
  · have h5 : val ys * 2 ^ s < 18446744073709551616 ^ m * (y + 1) * 2 ^ s := Nat.mul_lt_mul_of_pos_right h2 hp
    have h6 : 18446744073709551616 ^ m * ((y + 1) * 2 ^ s) ≤ 18446744073709551616 ^ m * 18446744073709551616 := Nat.mul_le_mul_left _ h4
    rw [Nat.mul_assoc] at h5
    rw [Nat.pow_succ]
    omega
  · have h5 : 18446744073709551616 ^ m * y * 2 ^ s ≤ val ys * 2 ^ s := Nat.mul_le_mul_right _ h1
    have h6 : 18446744073709551616 ^ m * 9223372036854775808 ≤ 18446744073709551616 ^ m * (y * 2 ^ s) := Nat.mul_le_mul_left _ hlo
    rw [Nat.mul_assoc] at h5
    omega
theorem top_ge {bs : List Nat} {m : Nat} (hw : Wds bs) (hl : bs.length = m + 1) (h : 18446744073709551616 ^ m * 9223372036854775808 ≤ val bs) : 9223372036854775808 ≤ bs.getD m 0 := by
  obtain ⟨_, h2⟩ := val_top hw hl rfl
  have := Nat.lt_of_mul_lt_mul_left (Nat.lt_of_le_of_lt h h2)
  omega
theorem val_take_small {a : List Nat} {k : Nat} (hk : k ≤ a.length) (h : val a < 18446744073709551616 ^ k) : val (a.take k) = val a := by
  have h1 := val_split a k hk
  rcases Nat.eq_zero_or_pos (val (a.drop k)) with h0 | h0
  · rw [h0] at h1; omega
  · have : 18446744073709551616 ^ k * 1 ≤ 18446744073709551616 ^ k * val (a.drop k) := Nat.mul_le_mul_left _ h0
    omega
theorem start_lt {X : List Nat} {a n m s β : Nat} (ha : a < 18446744073709551616 ^ n) (hs : s ≤ 63) (hX : val X = a * 2 ^ s) (hl : X.length = n + 1) (hmn : m ≤ n) (hβ : 18446744073709551616 ^ m * 9223372036854775808 ≤ β) :
    val (X.drop (n - m)) < β := by
  rcases Nat.lt_or_ge (val (X.drop (n - m))) β with h | h
  · exact h
  · exfalso
    have h1 := val_split X (n - m) (by omega)
    have h2 : 18446744073709551616 ^ (n - m) * (18446744073709551616 ^ m * 9223372036854775808) ≤ 18446744073709551616 ^ (n - m) * val (X.drop (n - m)) := Nat.mul_le_mul_left _ (Nat.le_trans hβ h)
    rw [← Nat.mul_assoc, ← Nat.pow_add, show n - m + m = n from by omega] at h2
    have h3 : (2 : Nat) ^ s ≤ 2 ^ 63 := Nat.pow_le_pow_right (by omega) hs
    have h4 : a * 2 ^ s ≤ a * 9223372036854775808 := Nat.mul_le_mul_left _ h3
    omega
/-- The guess of the words' digit is it, or one more. -/
theorem digit_near {zs ys : List Nat} {i p q x2 x1 x0 a b : Nat} (hwz : Wds zs) (hwy : Wds ys) (hl : ys.length = p + 2) (hx2 : zs.getD (i + (p + 2)) 0 = x2) (hx1 : zs.getD (i + (p + 1)) 0 = x1) (hx0 : zs.getD (i + p) 0 = x0)
    (ha : ys.getD (p + 1) 0 = a) (hb : ys.getD p 0 = b) (ha0 : 0 < a) (hr : val ((zs.drop i).take (p + 2 + 1)) < 18446744073709551616 * val ys)
    (hd : Gd ((x2 * 18446744073709551616 + x1) * 18446744073709551616 + x0) (a * 18446744073709551616 + b) q) :
    val ((zs.drop i).take (p + 2 + 1)) / val ys ≤ q ∧ q ≤ val ((zs.drop i).take (p + 2 + 1)) / val ys + 1 := by
  have h1 := val_three (zs.drop i) p
  rw [getD_drop, getD_drop, getD_drop, hx2, hx1, hx0] at h1
  have h2 := val_two ys p
  rw [List.take_of_length_le (show ys.length ≤ p + 2 by omega), ha, hb] at h2
  refine hd.near h1 (val_take_lt (hwz.drop i) p) h2 (val_take_lt hwy p) ?_ hr
  omega
theorem top_le {zs ys : List Nat} {i p x2 a : Nat} (hwy : Wds ys) (hl : ys.length = p + 2) (hx2 : zs.getD (i + (p + 2)) 0 = x2) (ha : ys.getD (p + 1) 0 = a)
    (hr : val ((zs.drop i).take (p + 2 + 1)) < 18446744073709551616 * val ys) : x2 ≤ a := by
  obtain ⟨_, h2⟩ := val_top hwy hl ha
  have h1 := val_take_succ (zs.drop i) (p + 2)
  rw [getD_drop, hx2] at h1
  have h3 : 18446744073709551616 ^ (p + 2) * x2 < 18446744073709551616 ^ (p + 2) * (a + 1) := by
    have h4 : 18446744073709551616 * val ys < 18446744073709551616 * (18446744073709551616 ^ (p + 1) * (a + 1)) := Nat.mul_lt_mul_of_pos_left h2 (by omega)
    rw [← Nat.mul_assoc, Nat.mul_comm 18446744073709551616 (18446744073709551616 ^ (p + 1)), ← Nat.pow_succ, show (p + 1).succ = p + 2 from rfl] at h4
    omega
  have := Nat.lt_of_mul_lt_mul_left h3
  omega
end Go.Proofs.YtdokioefcfcfnaaDoor.M
