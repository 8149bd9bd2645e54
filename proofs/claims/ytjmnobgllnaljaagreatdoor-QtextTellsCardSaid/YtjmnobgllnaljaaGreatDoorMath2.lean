/-
  Plain facts on products and quotients of words: no program is named here.
-/



namespace Go.Proofs.YtjmnobgllnaljaaGreatDoor.M

/-- The number of these words. -/
def val : List Nat → Nat
  | [] => 0
  | x :: r => x + 18446744073709551616 * val r

/-- Each is a word. -/
def Wds (xs : List Nat) : Prop := ∀ x ∈ xs, x < 18446744073709551616
/-- The last word is not 0. -/
def Nrm (xs : List Nat) : Prop := xs.getLast? ≠ some 0

theorem val_nil : val [] = 0 := rfl
theorem val_cons (x : Nat) (r : List Nat) : val (x :: r) = x + 18446744073709551616 * val r := rfl
theorem Wds.nil : Wds [] := fun _ h => by cases h
theorem Wds.cons {x : Nat} {r : List Nat} (hx : x < 18446744073709551616) (h : Wds r) : Wds (x :: r) := by
  intro y hy
  rcases List.mem_cons.1 hy with e | e
  · rw [e]; exact hx
  · exact h y e
theorem Wds.head {x : Nat} {r : List Nat} (h : Wds (x :: r)) : x < 18446744073709551616 := h x (by simp)
theorem Wds.tail {x : Nat} {r : List Nat} (h : Wds (x :: r)) : Wds r := fun y hy => h y (by simp [hy])
theorem Wds.append {a b : List Nat} (ha : Wds a) (hb : Wds b) : Wds (a ++ b) := by
  intro y hy
  rcases List.mem_append.1 hy with e | e
  · exact ha y e
  · exact hb y e
theorem Wds.left {a b : List Nat} (h : Wds (a ++ b)) : Wds a := fun y hy => h y (by simp [hy])
theorem Wds.right {a b : List Nat} (h : Wds (a ++ b)) : Wds b := fun y hy => h y (by simp [hy])
theorem Wds.take {a : List Nat} (h : Wds a) (k : Nat) : Wds (a.take k) := fun y hy => h y (List.mem_of_mem_take hy)
theorem Wds.drop {a : List Nat} (h : Wds a) (k : Nat) : Wds (a.drop k) := fun y hy => h y (List.mem_of_mem_drop hy)
theorem Wds.get {a : List Nat} (h : Wds a) {i x : Nat} (hx : a[i]? = some x) : x < 18446744073709551616 := h x (List.mem_of_getElem? hx)
theorem Wds.getD {a : List Nat} (h : Wds a) (i : Nat) : a.getD i 0 < 18446744073709551616 := by
  rw [List.getD_eq_getElem?_getD]
  cases hx : a[i]? with
  | none => simp
  | some x => simpa using h.get hx
theorem Wds.set {a : List Nat} (h : Wds a) (i : Nat) {x : Nat} (hx : x < 18446744073709551616) : Wds (a.set i x) := by
  intro y hy
  rcases List.mem_or_eq_of_mem_set hy with e | e
  · exact h y e
  · rw [e]; exact hx
theorem Wds.replicate (n : Nat) : Wds (List.replicate n 0) := by
  intro y hy
  rw [(List.mem_replicate.1 hy).2]; omega

theorem val_append (a b : List Nat) : val (a ++ b) = val a + 18446744073709551616 ^ a.length * val b := by
  induction a with
  | nil => simp [val]
  | cons x r ih =>
    simp only [List.cons_append, val, ih, List.length_cons, Nat.pow_succ]
    rw [Nat.mul_add, Nat.add_assoc, ← Nat.mul_assoc, Nat.mul_comm (18446744073709551616 ^ r.length)]
theorem val_replicate (n : Nat) : val (List.replicate n 0) = 0 := by
  induction n with
  | zero => rfl
  | succ n ih => simp [List.replicate_succ, val, ih]
theorem val_lt {a : List Nat} (h : Wds a) : val a < 18446744073709551616 ^ a.length := by
  induction a with
  | nil => simp [val]
  | cons x r ih =>
    have h1 := ih h.tail
    have h2 := h.head
    simp only [val, List.length_cons, Nat.pow_succ]
    calc x + 18446744073709551616 * val r < 18446744073709551616 + 18446744073709551616 * val r := by omega
      _ = 18446744073709551616 * (val r + 1) := by rw [Nat.mul_add, Nat.mul_one, Nat.add_comm]
      _ ≤ 18446744073709551616 * 18446744073709551616 ^ r.length := Nat.mul_le_mul_left _ h1
      _ = _ := Nat.mul_comm _ _
theorem val_take_succ (a : List Nat) (k : Nat) : val (a.take (k + 1)) = val (a.take k) + 18446744073709551616 ^ k * a.getD k 0 := by
  induction a generalizing k with
  | nil => simp [val]
  | cons x r ih =>
    cases k with
    | zero => simp [val]
    | succ k =>
      simp only [List.take_succ_cons, val, ih k, List.getD_cons_succ, Nat.pow_succ]
      rw [Nat.mul_add, Nat.add_assoc, ← Nat.mul_assoc, Nat.mul_comm (18446744073709551616 ^ k)]
theorem val_split (a : List Nat) (k : Nat) (hk : k ≤ a.length) : val a = val (a.take k) + 18446744073709551616 ^ k * val (a.drop k) := by
  have h := val_append (a.take k) (a.drop k)
  rw [List.take_append_drop, List.length_take, Nat.min_eq_left hk] at h
  exact h
/-- A normal number of k + 1 words is not below the power. -/
theorem val_ge {a : List Nat} (hn : Nrm a) (ha : a ≠ []) : 18446744073709551616 ^ (a.length - 1) ≤ val a := by
  obtain ⟨b, x, rfl⟩ : ∃ b x, a = b ++ [x] := ⟨a.dropLast, a.getLast ha, (List.dropLast_concat_getLast ha).symm⟩
  have hx : x ≠ 0 := by
    intro e
    exact hn (by simp [e])
  rw [val_append]
  simp only [List.length_append, List.length_cons, List.length_nil, val, Nat.zero_add, Nat.add_sub_cancel, Nat.mul_zero, Nat.add_zero]
  calc 18446744073709551616 ^ b.length = 18446744073709551616 ^ b.length * 1 := (Nat.mul_one _).symm
    _ ≤ 18446744073709551616 ^ b.length * x := Nat.mul_le_mul_left _ (Nat.pos_of_ne_zero hx)
    _ ≤ _ := Nat.le_add_left _ _
theorem val_pos {a : List Nat} (hn : Nrm a) (ha : a ≠ []) : 0 < val a :=
  Nat.lt_of_lt_of_le (Nat.pow_pos (by omega)) (val_ge hn ha)
theorem val_zero {a : List Nat} (hn : Nrm a) (h : val a = 0) : a = [] := by
  by_cases ha : a = []
  · exact ha
  · have := val_pos hn ha; omega
/-- Fewer words, a smaller number. -/
theorem val_lt_of_length {a b : List Nat} (ha : Wds a) (hb : Nrm b) (h : a.length < b.length) : val a < val b := by
  have h1 := val_lt ha
  have h2 := val_ge hb (by intro e; rw [e] at h; simp at h)
  have h3 : 18446744073709551616 ^ a.length ≤ 18446744073709551616 ^ (b.length - 1) := Nat.pow_le_pow_right (by omega) (by omega)
  omega
/-- Two numbers of as many words, told apart by their highest word that is not the same. -/
theorem val_lt_of_get {a b : List Nat} {i : Nat} (ha : Wds a) (hl : a.length = b.length) (hi : i < a.length) (hlt : a.getD i 0 < b.getD i 0) (he : a.drop (i + 1) = b.drop (i + 1)) : val a < val b := by
  rw [val_split a (i + 1) (by omega), val_split b (i + 1) (by omega), he, val_take_succ, val_take_succ]
  have h1 : val (a.take i) < 18446744073709551616 ^ i := by
    have := val_lt (ha.take i)
    rwa [List.length_take, Nat.min_eq_left (by omega)] at this
  have h2 : 18446744073709551616 ^ i * (a.getD i 0 + 1) ≤ 18446744073709551616 ^ i * b.getD i 0 := Nat.mul_le_mul_left _ hlt
  rw [Nat.mul_add, Nat.mul_one] at h2
  omega
theorem len_of_lt {a : List Nat} {k : Nat} (hn : Nrm a) (h : val a < 18446744073709551616 ^ k) : a.length ≤ k := by
  rcases Nat.lt_or_ge k a.length with h1 | h1
  · have h2 := val_ge hn (by intro e; rw [e] at h1; simp at h1)
    have h3 : 18446744073709551616 ^ k ≤ 18446744073709551616 ^ (a.length - 1) := Nat.pow_le_pow_right (by omega) (by omega)
    omega
  · exact h1
theorem val_inj {a b : List Nat} (ha : Wds a) (hb : Wds b) (hna : Nrm a) (hnb : Nrm b) (h : val a = val b) : a = b := by
  have hl : a.length = b.length := by
    rcases Nat.lt_trichotomy a.length b.length with h1 | h1 | h1
    · have := val_lt_of_length ha hnb h1; omega
    · exact h1
    · have := val_lt_of_length hb hna h1; omega
  have aux : ∀ (a b : List Nat), Wds a → Wds b → a.length = b.length → val a = val b → a = b := by
    intro a
    induction a with
    | nil => intro b _ _ hl _; exact (List.eq_nil_of_length_eq_zero hl.symm).symm
    | cons x r ih =>
      intro b ha hb hl h
      cases b with
      | nil => simp at hl
      | cons y s =>
        have h1 := ha.head; have h2 := hb.head
        simp only [val] at h
        have e1 : x = y := by omega
        have e2 : val r = val s := by omega
        rw [e1, ih s ha.tail hb.tail (by simpa using hl) e2]
  exact aux a b ha hb hl h
/-- What is left of words without the noughts at the end. -/
theorem val_take_noughts {a : List Nat} {m : Nat} (hm : m ≤ a.length) (hz : ∀ j, m ≤ j → j < a.length → a.getD j 0 = 0) : val (a.take m) = val a := by
  have e : a.drop m = List.replicate (a.length - m) 0 := by
    apply List.ext_getElem
    · simp
    · intro j h1 h2
      have h3 : m + j < a.length := by simpa [Nat.lt_sub_iff_add_lt, Nat.add_comm] using h1
      have := hz (m + j) (by omega) h3
      rw [List.getD_eq_getElem?_getD, List.getElem?_eq_getElem h3] at this
      simpa using this
  rw [val_split a m hm, e, val_replicate]
  omega
theorem Nrm.nil : Nrm [] := by simp [Nrm]
theorem Nrm.take {a : List Nat} {m : Nat} (hm : m ≤ a.length) (h : 0 < m → a.getD (m - 1) 0 ≠ 0) : Nrm (a.take m) := by
  intro e
  rcases Nat.eq_zero_or_pos m with h0 | h0
  · subst h0; simp at e
  · have h1 : m - 1 < a.length := by omega
    rw [List.getLast?_eq_getElem?, List.length_take, Nat.min_eq_left hm, List.getElem?_take_of_lt (by omega), List.getElem?_eq_getElem h1] at e
    have := h h0
    rw [List.getD_eq_getElem?_getD, List.getElem?_eq_getElem h1] at this
    simp at e this
    exact this e

/-- -1, 0, 1. -/
def cmp (a b : Nat) : Int := if a < b then -1 else if a = b then 0 else 1
theorem cmp_lt {a b : Nat} (h : a < b) : cmp a b = -1 := by simp [cmp, h]
theorem cmp_eq {a b : Nat} (h : a = b) : cmp a b = 0 := by simp [cmp, h]
theorem cmp_gt {a b : Nat} (h : b < a) : cmp a b = 1 := by
  unfold cmp; rw [if_neg (by omega), if_neg (by omega)]
theorem ext_getD {a b : List Nat} (hl : a.length = b.length) (h : ∀ j, j < a.length → a.getD j 0 = b.getD j 0) : a = b := by
  apply List.ext_getElem hl
  intro j h1 h2
  have := h j h1
  simpa [List.getD_eq_getElem?_getD, h1, h2] using this
theorem cmp_of_get {a b : List Nat} {i : Nat} (ha : Wds a) (hb : Wds b) (hl : a.length = b.length) (hi : i < a.length) (hne : a.getD i 0 ≠ b.getD i 0)
    (hz : ∀ j, i + 1 ≤ j → j < a.length → a.getD j 0 = b.getD j 0) : cmp (val a) (val b) = cmp (a.getD i 0) (b.getD i 0) := by
  have hd : a.drop (i + 1) = b.drop (i + 1) := by
    apply ext_getD (by simp [hl])
    intro j hj
    have h1 : i + 1 + j < a.length := by simpa [Nat.lt_sub_iff_add_lt, Nat.add_comm] using hj
    have := hz (i + 1 + j) (by omega) h1
    simpa [List.getD_eq_getElem?_getD, List.getElem?_drop] using this
  rcases Nat.lt_or_gt_of_ne hne with h | h
  · rw [cmp_lt h, cmp_lt (val_lt_of_get ha hl hi h hd)]
  · rw [cmp_gt h, cmp_gt (val_lt_of_get hb hl.symm (by omega) h hd.symm)]
theorem getD_zero {a : List Nat} (h : Wds a) : a.getD 0 0 = val a % 18446744073709551616 := by
  cases a with
  | nil => rfl
  | cons x r =>
    have := h.head
    simp only [val, List.getD_cons_zero]
    omega
theorem len_le_one {a : List Nat} {m : Nat} (h : Wds a) (hn : Nrm a) (hm : a.length = m) : decide ((m : Int) ≤ 1) = decide (val a < 18446744073709551616) := by
  have e : (m : Int) ≤ 1 ↔ val a < 18446744073709551616 := by
    constructor
    · intro h1
      have h2 := val_lt h
      have h3 : 18446744073709551616 ^ a.length ≤ 18446744073709551616 ^ 1 := Nat.pow_le_pow_right (by omega) (by omega)
      omega
    · intro h1
      rcases Nat.lt_or_ge 1 m with h2 | h2
      · have h3 := val_ge hn (by intro e; rw [e] at hm; simp at hm; omega)
        have h4 : 18446744073709551616 ^ 1 ≤ 18446744073709551616 ^ (a.length - 1) := Nat.pow_le_pow_right (by omega) (by omega)
        omega
      · omega
  simp only [e]
theorem val_getD {a : List Nat} (h : Wds a) (q : Nat) : val a / 18446744073709551616 ^ q % 18446744073709551616 = a.getD q 0 := by
  induction q generalizing a with
  | zero => rw [Nat.pow_zero, Nat.div_one, getD_zero h]
  | succ q ih =>
    cases a with
    | nil => simp [val]
    | cons x r =>
      have h1 := h.head
      rw [Nat.pow_succ, Nat.mul_comm, ← Nat.div_div_eq_div_mul, List.getD_cons_succ, ← ih h.tail]
      congr 2
      simp only [val]
      omega
theorem getD_set {a : List Nat} {i x : Nat} (h : i < a.length) : (a.set i x).getD i 0 = x := by
  simp [List.getD_eq_getElem?_getD, h]
theorem getD_set_ne {a : List Nat} {i j x : Nat} (h : i ≠ j) : (a.set i x).getD j 0 = a.getD j 0 := by
  simp [List.getD_eq_getElem?_getD, List.getElem?_set_ne h]
theorem take_set (a : List Nat) (i x : Nat) : (a.set i x).take i = a.take i := by
  rw [List.take_set, List.set_eq_of_length_le (by simp; omega)]
theorem getD_big {a : List Nat} {i : Nat} (h : a.length ≤ i) : a.getD i 0 = 0 := by
  simp [List.getD_eq_getElem?_getD, List.getElem?_eq_none h]
/-- One word more of a sum. -/
theorem add_step {zs xs ys : List Nat} {i s c d : Nat} (hi : i < zs.length)
    (h : val (zs.take i) + 18446744073709551616 ^ i * c = val (xs.take i) + val (ys.take i)) (he : xs.getD i 0 + ys.getD i 0 + c = s + 18446744073709551616 * d) :
    val ((zs.set i s).take (i + 1)) + 18446744073709551616 ^ (i + 1) * d = val (xs.take (i + 1)) + val (ys.take (i + 1)) := by
  rw [val_take_succ, val_take_succ, val_take_succ, take_set, getD_set hi, Nat.pow_succ, Nat.mul_assoc]
  have := congrArg (18446744073709551616 ^ i * ·) he
  simp only [Nat.mul_add] at this
  omega
/-- One word more of a difference. -/
theorem sub_step {zs xs ys : List Nat} {i s c d : Nat} (hi : i < zs.length)
    (h : val (xs.take i) + 18446744073709551616 ^ i * c = val (zs.take i) + val (ys.take i)) (he : xs.getD i 0 + 18446744073709551616 * d = s + ys.getD i 0 + c) :
    val (xs.take (i + 1)) + 18446744073709551616 ^ (i + 1) * d = val ((zs.set i s).take (i + 1)) + val (ys.take (i + 1)) := by
  rw [val_take_succ, val_take_succ, val_take_succ, take_set, getD_set hi, Nat.pow_succ, Nat.mul_assoc]
  have := congrArg (18446744073709551616 ^ i * ·) he
  simp only [Nat.mul_add] at this
  omega
theorem val_take_all {a : List Nat} {n : Nat} (h : a.length ≤ n) : val (a.take n) = val a := by rw [List.take_of_length_le h]
theorem val_set_last {zs : List Nat} {k q : Nat} (h : zs.length = k + 1) : val (zs.set k q) = val (zs.take k) + 18446744073709551616 ^ k * q := by
  have h1 := val_take_succ (zs.set k q) k
  rw [take_set, getD_set (by omega), List.take_of_length_le (by simp; omega)] at h1
  exact h1
theorem cmp_ge {a b : Nat} (h : b ≤ a) : ∃ z : Int, cmp a b = z ∧ 0 ≤ z ∧ z ≤ 1 := by
  rcases Nat.lt_or_ge b a with h1 | h1
  · exact ⟨1, cmp_gt h1, by omega, by omega⟩
  · exact ⟨0, cmp_eq (by omega), by omega, by omega⟩
theorem val_ge_length {a b : List Nat} (ha : Wds a) (hn : Nrm b) (h : val b ≤ val a) : b.length ≤ a.length := by
  rcases Nat.lt_or_ge a.length b.length with h1 | h1
  · have := val_lt_of_length ha hn h1; omega
  · exact h1
/-- No borrow is left where the first is not below the second. -/
theorem sub_last {a b z p q : Nat} (hq : q ≤ 1) (h : a + p * q = z + b) (hz : z < p) (hab : b ≤ a) : z = a - b := by
  have : q = 0 ∨ q = 1 := by omega
  rcases this with rfl | rfl <;> omega
end Go.Proofs.YtjmnobgllnaljaaGreatDoor.M
namespace Go.Proofs.YtjmnobgllnaljaaGreatDoor.M

theorem drop_set_add {zs : List Nat} {i k s : Nat} : (zs.set (i + k) s).drop i = (zs.drop i).set k s := by
  rw [List.drop_set, if_neg (by omega), Nat.add_sub_cancel_left]
theorem drop_set_lt {zs : List Nat} {i k s : Nat} (h : i < k) : (zs.set i s).drop k = zs.drop k := by
  rw [List.drop_set_of_lt h]
theorem take_set_ge {zs : List Nat} {i k s : Nat} (h : i ≤ k) : (zs.set k s).take i = zs.take i := by
  rw [List.take_set, List.set_eq_of_length_le (by simp; omega)]
theorem getD_of_drop {zs zs' : List Nat} {i : Nat} (h : zs.drop i = zs'.drop i) : zs.getD i 0 = zs'.getD i 0 := by
  have := congrArg (fun l => l.getD 0 0) h
  simpa [List.getD_eq_getElem?_getD, List.getElem?_drop] using this
theorem drop_succ_of {zs zs' : List Nat} {i : Nat} (h : zs.drop i = zs'.drop i) : zs.drop (i + 1) = zs'.drop (i + 1) := by
  have := congrArg (List.drop 1) h
  simpa [List.drop_drop, Nat.add_comm] using this

/-- What is so behind k rounds of adding x times ys to the words of zs from i on. -/
def AddInv (zs ys : List Nat) (x i k q : Nat) (zs' : List Nat) : Prop :=
  zs'.take i = zs.take i ∧ zs'.drop (i + k) = zs.drop (i + k) ∧
    val ((zs'.drop i).take k) + 18446744073709551616 ^ k * q = val ((zs.drop i).take k) + val (ys.take k) * x
theorem AddInv.start (zs ys : List Nat) (x i : Nat) : AddInv zs ys x i 0 0 zs := ⟨rfl, rfl, by simp [val]⟩
theorem AddInv.word {zs ys zs' : List Nat} {x i k q : Nat} (h : AddInv zs ys x i k q zs') : zs'.getD (i + k) 0 = zs.getD (i + k) 0 := getD_of_drop h.2.1
theorem AddInv.step {zs ys zs' : List Nat} {x i k q z y s q' : Nat} (h : AddInv zs ys x i k q zs') (hi : i + k < zs'.length) (hz : zs.getD (i + k) 0 = z) (hy : ys.getD k 0 = y)
    (he : z + y * x + q = s + 18446744073709551616 * q') : AddInv zs ys x i (k + 1) q' (zs'.set (i + k) s) := by
  obtain ⟨h1, h2, h3⟩ := h
  refine ⟨by rw [take_set_ge (by omega), h1], ?_, ?_⟩
  · rw [← Nat.add_assoc, drop_set_lt (by omega)]
    exact drop_succ_of h2
  · have hz' : (zs.drop i).getD k 0 = z := by rw [← hz]; simp [List.getD_eq_getElem?_getD, List.getElem?_drop]
    rw [drop_set_add, val_take_succ, val_take_succ (zs.drop i), val_take_succ ys, take_set, getD_set (by simp; omega), hz', hy, Nat.pow_succ, Nat.mul_assoc, Nat.add_mul, Nat.mul_assoc]
    have := congrArg (18446744073709551616 ^ k * ·) he
    simp only [Nat.mul_add] at this
    omega
theorem word_carry {x y z q s1 d1 s2 d2 hi lo : Nat} (hx : x < 18446744073709551616) (hy : y < 18446744073709551616) (hz : z < 18446744073709551616) (hq : q < 18446744073709551616)
    (h1 : y * x = lo + 18446744073709551616 * hi) (h2 : lo + q = s1 + 18446744073709551616 * d1) (h3 : z + s1 = s2 + 18446744073709551616 * d2) :
    z + y * x + q = s2 + 18446744073709551616 * (hi + d1 + d2) ∧ hi + d1 + d2 < 18446744073709551616 := by
  have hb : y * x ≤ 18446744073709551615 * 18446744073709551615 := Nat.mul_le_mul (by omega) (by omega)
  constructor <;> omega
theorem val_take_add (zs : List Nat) (k m : Nat) (hk : k ≤ zs.length) : val (zs.take (k + m)) = val (zs.take k) + 18446744073709551616 ^ k * val ((zs.drop k).take m) := by
  have h := val_append (zs.take k) ((zs.drop k).take m)
  rw [List.length_take, Nat.min_eq_left hk] at h
  rw [← h, List.take_add]
/-- What is so behind k rounds of a product: of the first words what has been reckoned, behind them noughts. -/
def MulInv (xs ys : List Nat) (m k : Nat) (zs : List Nat) : Prop :=
  val (zs.take (k + m)) = val (xs.take k) * val ys ∧ ∀ j, k + m ≤ j → zs.getD j 0 = 0
theorem MulInv.start (xs ys : List Nat) (m n : Nat) : MulInv xs ys m 0 (List.replicate n 0) := by
  refine ⟨by simp [List.take_replicate, val_replicate, val], fun j _ => ?_⟩
  rw [List.getD_eq_getElem?_getD, List.getElem?_replicate]
  split <;> rfl
theorem MulInv.step {xs ys zs zs' : List Nat} {m k x q : Nat} (h : MulInv xs ys m k zs) (hm : ys.length = m) (hk : k + m < zs.length) (hl : zs'.length = zs.length) (hx : xs.getD k 0 = x)
    (ha : AddInv zs ys x k m q zs') : MulInv xs ys m (k + 1) (zs'.set (k + m) q) := by
  obtain ⟨h1, h2⟩ := h
  obtain ⟨a1, a2, a3⟩ := ha
  have hd : ∀ j, k + m ≤ j → zs'.getD j 0 = zs.getD j 0 := by
    intro j hj
    have := congrArg (fun l => l.getD (j - (k + m)) 0) a2
    simpa [List.getD_eq_getElem?_getD, List.getElem?_drop, show k + m + (j - (k + m)) = j from by omega] using this
  constructor
  · rw [show k + 1 + m = (k + m) + 1 from by omega, val_take_succ, take_set, getD_set (by omega), val_take_add zs' k m (by omega), a1, val_take_succ, hx, Nat.add_mul, ← h1, val_take_add zs k m (by omega), Nat.pow_add, Nat.mul_assoc, Nat.mul_assoc]
    rw [List.take_of_length_le (show ys.length ≤ m by omega)] at a3
    have := congrArg (18446744073709551616 ^ k * ·) a3
    simp only [Nat.mul_add] at this
    rw [Nat.mul_comm x]
    omega
  · intro j hj
    rw [getD_set_ne (by omega), hd j (by omega)]
    exact h2 j (by omega)
theorem pow_word (q : Nat) : 18446744073709551616 ^ q = 2 ^ (64 * q) := by
  rw [Nat.pow_mul]
theorem testBit_word {xs : List Nat} (h : Wds xs) (k : Nat) : (val xs).testBit k = (xs.getD (k / 64) 0).testBit (k % 64) := by
  rw [← val_getD h (k / 64), pow_word, show (18446744073709551616 : Nat) = 2 ^ 64 from rfl, Nat.testBit_mod_two_pow, Nat.testBit_div_two_pow]
  have h1 : k % 64 < 64 := by omega
  have h2 : k % 64 + 64 * (k / 64) = k := by omega
  simp [h1, h2]
theorem testBit_int (y r : Nat) : ((y : Int) / 2 ^ r % 2 == 1) = y.testBit r := by
  rw [Nat.testBit_eq_decide_div_mod_eq]
  have e : (y : Int) / 2 ^ r % 2 = ((y / 2 ^ r % 2 : Nat) : Int) := by simp
  rw [e]
  have h : y / 2 ^ r % 2 < 2 := by omega
  rcases (show y / 2 ^ r % 2 = 0 ∨ y / 2 ^ r % 2 = 1 by omega) with h | h <;> simp [h]

/-- How many bits a number has. -/
def bits (a : Nat) : Nat := if a = 0 then 0 else Nat.log2 a + 1
theorem bits_zero : bits 0 = 0 := rfl
theorem bits_of {a b : Nat} (h1 : 2 ^ b ≤ a) (h2 : a < 2 ^ (b + 1)) : bits a = b + 1 := by
  have h0 : a ≠ 0 := by
    have := Nat.pow_pos (n := b) (show 0 < 2 by omega)
    omega
  rw [bits, if_neg h0]
  have h3 := Nat.log2_self_le h0
  have h4 := Nat.lt_log2_self (n := a)
  have h5 : a.log2 < b + 1 := (Nat.pow_lt_pow_iff_right (show 1 < 2 by omega)).1 (Nat.lt_of_le_of_lt h3 h2)
  have h6 : b < a.log2 + 1 := (Nat.pow_lt_pow_iff_right (show 1 < 2 by omega)).1 (Nat.lt_of_le_of_lt h1 h4)
  omega
theorem bits_le {a : Nat} (h : a ≠ 0) : 2 ^ (bits a - 1) ≤ a := by
  rw [bits, if_neg h]
  exact Nat.log2_self_le h
theorem bits_lt (a : Nat) : a < 2 ^ bits a := by
  by_cases h : a = 0
  · subst h; decide
  · rw [bits, if_neg h]
    exact Nat.lt_log2_self
theorem bits_pos {a : Nat} (h : a ≠ 0) : 0 < bits a := by rw [bits, if_neg h]; omega
theorem bits_le_of_lt {a k : Nat} (h : a < 2 ^ k) : bits a ≤ k := by
  by_cases h0 : a = 0
  · subst h0; exact Nat.zero_le _
  · have h1 := bits_le h0
    have h2 := bits_pos h0
    rcases Nat.lt_or_ge k (bits a) with h3 | h3
    · have h4 : 2 ^ k ≤ 2 ^ (bits a - 1) := Nat.pow_le_pow_right (by omega) (by omega)
      omega
    · exact h3
theorem bits_half {a : Nat} (h : a ≠ 0) : bits a = 1 + bits (a / 2) := by
  by_cases h1 : a / 2 = 0
  · have : a = 1 := by omega
    subst this; decide
  · rw [bits, if_neg h, bits, if_neg h1, Nat.log2_def, if_pos (by omega)]
    omega
theorem bits_top {v x m : Nat} (hv : v < 18446744073709551616 ^ m) (hx : x ≠ 0) : bits (v + 18446744073709551616 ^ m * x) = 64 * m + bits x := by
  have h1 := bits_le hx
  have h2 := bits_lt x
  have h3 := bits_pos hx
  rw [pow_word] at hv ⊢
  have e : 64 * m + bits x = (64 * m + (bits x - 1)) + 1 := by omega
  rw [e]
  apply bits_of
  · rw [Nat.pow_add]
    exact Nat.le_trans (Nat.mul_le_mul_left _ h1) (Nat.le_add_left _ _)
  · rw [show 64 * m + (bits x - 1) + 1 = 64 * m + bits x from by omega, Nat.pow_add]
    calc v + 2 ^ (64 * m) * x < 2 ^ (64 * m) + 2 ^ (64 * m) * x := by omega
      _ = 2 ^ (64 * m) * (x + 1) := by rw [Nat.mul_add, Nat.mul_one, Nat.add_comm]
      _ ≤ _ := Nat.mul_le_mul_left _ h2
theorem val_snoc_getD {ys : List Nat} {m : Nat} (hl : ys.length = m + 1) : val ys = val (ys.take m) + 18446744073709551616 ^ m * ys.getD m 0 := by
  have := val_take_succ ys m
  rwa [List.take_of_length_le (by omega)] at this
theorem top_ne {ys : List Nat} {m : Nat} (hn : Nrm ys) (hl : ys.length = m + 1) : ys.getD m 0 ≠ 0 := by
  intro e
  apply hn
  rw [List.getLast?_eq_getElem?, hl]
  rw [List.getD_eq_getElem?_getD, List.getElem?_eq_getElem (show m < ys.length by omega)] at e
  simp at e
  simp [List.getElem?_eq_getElem (show m < ys.length by omega), e]
theorem bits_val {ys : List Nat} {m : Nat} (hw : Wds ys) (hn : Nrm ys) (hl : ys.length = m + 1) : bits (val ys) = 64 * m + bits (ys.getD m 0) := by
  rw [val_snoc_getD hl]
  refine bits_top ?_ (top_ne hn hl)
  have := val_lt (hw.take m)
  rwa [List.length_take, hl, Nat.min_eq_left (by omega)] at this
end Go.Proofs.YtjmnobgllnaljaaGreatDoor.M
namespace Go.Proofs.YtjmnobgllnaljaaGreatDoor.M

section
variable {U Y a b d q r : Nat}
theorem guess_done (hY : Y = a * 4294967296 + b) (hq : q * a + r = U) (hge : (U * 4294967296 + d) / Y ≤ q) (hY0 : 0 < Y) (hc : q * b ≤ 4294967296 * r + d) : q = (U * 4294967296 + d) / Y := by
  refine Nat.le_antisymm ((Nat.le_div_iff_mul_le hY0).2 ?_) hge
  rw [hY, Nat.mul_add, ← Nat.mul_assoc, ← hq]
  omega
theorem guess_more (hY : Y = a * 4294967296 + b) (hq : q * a + r = U) (hY0 : 0 < Y) (hc : 4294967296 * r + d < q * b) : (U * 4294967296 + d) / Y < q := by
  refine (Nat.div_lt_iff_lt_mul hY0).2 ?_
  rw [hY, Nat.mul_add, ← Nat.mul_assoc, ← hq]
  omega
theorem guess_big (hU : U < Y) (hd : d < 4294967296) (hc : 4294967296 ≤ q) : (U * 4294967296 + d) / Y < q := by
  refine Nat.lt_of_lt_of_le (Nat.div_lt_of_lt_mul ?_) hc
  omega
theorem guess_start (hY : Y = a * 4294967296 + b) (ha : 0 < a) (hd : d < 4294967296) : (U * 4294967296 + d) / Y ≤ U / a := by
  refine (Nat.le_div_iff_mul_le ha).2 ?_
  generalize hQ : (U * 4294967296 + d) / Y = Q
  have h1 : Q * Y ≤ U * 4294967296 + d := by rw [← hQ]; exact Nat.div_mul_le_self _ _
  clear hQ
  rw [hY, Nat.mul_add, ← Nat.mul_assoc] at h1
  generalize Q * a = p at *
  omega
theorem guess_start_le (hY : Y = a * 4294967296 + b) (hb : b < 4294967296) (ha : 2147483648 ≤ a) (hU : U < Y) : U / a ≤ 4294967297 := by
  have h1 : U < a * 4294967298 := by omega
  have := Nat.div_lt_of_lt_mul h1
  omega
theorem guess_break (hY : Y = a * 4294967296 + b) (hb : b < 4294967296) (hq : q * a + r = U) (hge : (U * 4294967296 + d) / Y ≤ q) (hY0 : 0 < Y) (hqs : q ≤ 4294967296) (hr : 4294967296 ≤ r) : q = (U * 4294967296 + d) / Y := by
  refine guess_done hY hq hge hY0 ?_
  have : q * b ≤ 4294967296 * 4294967295 := Nat.mul_le_mul hqs (by omega)
  omega
/-- A step of the guess. -/
theorem guess_pred (hq : (q + 1) * a + r = U) : q * a + (r + a) = U := by
  rw [Nat.add_mul] at hq; omega

/-- What the guessing knows of its digit and its remainder. -/
structure Guess (U Y a b d q r : Nat) : Prop where
  eq : q * a + r = U
  ge : (U * 4294967296 + d) / Y ≤ q
  le : q ≤ 4294967297
/-- What the divisor is. -/
structure Divr (Y a b : Nat) : Prop where
  eq : Y = a * 4294967296 + b
  lo : b < 4294967296
  hi : 2147483648 ≤ a
  hi' : a < 4294967296
theorem Divr.pos (h : Divr Y a b) : 0 < Y := by have := h.eq; have := h.hi; omega
theorem Divr.of (h1 : 9223372036854775808 ≤ Y) (h2 : Y < 18446744073709551616) : Divr Y (Y / 4294967296) (Y % 4294967296) := ⟨by omega, by omega, by omega, by omega⟩
theorem Guess.start (hD : Divr Y a b) (hU : U < Y) (hd : d < 4294967296) : Guess U Y a b d (U / a) (U - U / a * a) := by
  refine ⟨?_, guess_start hD.eq (by have := hD.hi; omega) hd, guess_start_le hD.eq hD.lo hD.hi hU⟩
  have := Nat.div_mul_le_self U a
  omega
theorem Guess.rest_lt (hD : Divr Y a b) : U - U / a * a < a := by
  have h1 := Nat.mod_lt U (show 0 < a by have := hD.hi; omega)
  have h2 := Nat.div_add_mod U a
  rw [Nat.mul_comm] at h2
  omega
theorem Guess.next (h : Guess U Y a b d q r) (hlt : (U * 4294967296 + d) / Y < q) : Guess U Y a b d (q - 1) (r + a) := by
  obtain ⟨h1, h2, h3⟩ := h
  obtain ⟨p, rfl⟩ : ∃ p, q = p + 1 := ⟨q - 1, by have := Nat.lt_of_le_of_lt (Nat.zero_le _) hlt; omega⟩
  exact ⟨by rw [Nat.add_sub_cancel]; exact guess_pred h1, by rw [Nat.add_sub_cancel]; exact Nat.le_of_lt_succ hlt, by omega⟩
theorem Guess.done (h : Guess U Y a b d q r) (hD : Divr Y a b) (hc : q * b ≤ 4294967296 * r + d) : q = (U * 4294967296 + d) / Y := guess_done hD.eq h.eq h.ge hD.pos hc
theorem Guess.more (h : Guess U Y a b d q r) (hD : Divr Y a b) (hc : 4294967296 * r + d < q * b) : (U * 4294967296 + d) / Y < q := guess_more hD.eq h.eq hD.pos hc
theorem Guess.stop (h : Guess U Y a b d q r) (hD : Divr Y a b) (hqs : q ≤ 4294967296) (hr : 4294967296 ≤ r) : q = (U * 4294967296 + d) / Y := guess_break hD.eq hD.lo h.eq h.ge hD.pos hqs hr
theorem digit_lt (hU : U < Y) (hd : d < 4294967296) : (U * 4294967296 + d) / Y < 4294967296 := guess_big hU hd (Nat.le_refl _)
end

/-- Two words by one: shifted, the quotient is the same, what is left is shifted. -/
theorem div_shift (x y p : Nat) (hp : 0 < p) : x * p / (y * p) = x / y ∧ x * p % (y * p) = x % y * p :=
  ⟨Nat.mul_div_mul_right _ _ hp, Nat.mul_mod_mul_right _ _ _⟩
/-- Two digits, one behind the other. -/
theorem div_two (U u1 u0 Y : Nat) (hY : 0 < Y) :
    (U * 18446744073709551616 + (u1 * 4294967296 + u0)) / Y = (U * 4294967296 + u1) / Y * 4294967296 + ((U * 4294967296 + u1) % Y * 4294967296 + u0) / Y ∧
    (U * 18446744073709551616 + (u1 * 4294967296 + u0)) % Y = ((U * 4294967296 + u1) % Y * 4294967296 + u0) % Y := by
  have e : U * 18446744073709551616 + (u1 * 4294967296 + u0) = ((U * 4294967296 + u1) % Y * 4294967296 + u0) + Y * ((U * 4294967296 + u1) / Y * 4294967296) := by
    have := Nat.div_add_mod (U * 4294967296 + u1) Y
    rw [← Nat.mul_assoc]
    omega
  rw [e, Nat.add_mul_div_left _ _ hY, Nat.add_mul_mod_self_left]
  exact ⟨Nat.add_comm _ _, rfl⟩

/-- The shifted words: the higher one. -/
theorem shift_hi {hi lo y s : Nat} (hs : s ≤ 63) (hh : hi < y) (hlo : lo < 18446744073709551616) (hy : y * 2 ^ s < 18446744073709551616) :
    (hi * 18446744073709551616 + lo) * 2 ^ s = (hi * 2 ^ s + lo / 2 ^ (64 - s)) * 18446744073709551616 + lo * 2 ^ s % 18446744073709551616 ∧ hi * 2 ^ s + lo / 2 ^ (64 - s) < y * 2 ^ s ∧ hi * 2 ^ s < 18446744073709551616 ∧ lo / 2 ^ (64 - s) < 2 ^ s := by
  have e : (18446744073709551616 : Nat) = 2 ^ s * 2 ^ (64 - s) := by
    rw [← Nat.pow_add, show s + (64 - s) = 64 from by omega]
  have hp : 0 < 2 ^ s := Nat.pow_pos (by omega)
  have hlt : lo / 2 ^ (64 - s) < 2 ^ s := by
    refine Nat.div_lt_of_lt_mul ?_
    rw [Nat.mul_comm, ← e]; exact hlo
  have h1 : (hi + 1) * 2 ^ s ≤ y * 2 ^ s := Nat.mul_le_mul_right _ hh
  rw [Nat.add_mul, Nat.one_mul] at h1
  have h2 : lo * 2 ^ s / 18446744073709551616 = lo / 2 ^ (64 - s) := by
    rw [e, Nat.mul_comm (2 ^ s), Nat.mul_div_mul_right _ _ hp]
  have h3 := Nat.div_add_mod (lo * 2 ^ s) 18446744073709551616
  rw [h2] at h3
  refine ⟨?_, by omega, by omega, hlt⟩
  rw [Nat.add_mul, Nat.mul_right_comm, Nat.add_mul]
  omega
end Go.Proofs.YtjmnobgllnaljaaGreatDoor.M
namespace Go.Proofs.YtjmnobgllnaljaaGreatDoor.M

/-- So many words of a product have been taken away; q is what goes beyond them. -/
def SubInv (zs ys : List Nat) (x i k q : Nat) (zs' : List Nat) : Prop :=
  zs'.take i = zs.take i ∧ zs'.drop (i + k) = zs.drop (i + k) ∧
    val ((zs.drop i).take k) + 18446744073709551616 ^ k * q = val ((zs'.drop i).take k) + val (ys.take k) * x
theorem SubInv.start (zs ys : List Nat) (x i : Nat) : SubInv zs ys x i 0 0 zs := ⟨rfl, rfl, by simp [val]⟩
theorem SubInv.word {zs ys zs' : List Nat} {x i k q : Nat} (h : SubInv zs ys x i k q zs') : zs'.getD (i + k) 0 = zs.getD (i + k) 0 := getD_of_drop h.2.1
theorem SubInv.step {zs ys zs' : List Nat} {x i k q z y s q' : Nat} (h : SubInv zs ys x i k q zs') (hi : i + k < zs'.length) (hz : zs.getD (i + k) 0 = z) (hy : ys.getD k 0 = y)
    (he : z + 18446744073709551616 * q' = s + y * x + q) : SubInv zs ys x i (k + 1) q' (zs'.set (i + k) s) := by
  obtain ⟨h1, h2, h3⟩ := h
  refine ⟨by rw [take_set_ge (by omega), h1], ?_, ?_⟩
  · rw [← Nat.add_assoc, drop_set_lt (by omega)]
    exact drop_succ_of h2
  · have hz' : (zs.drop i).getD k 0 = z := by rw [← hz]; simp [List.getD_eq_getElem?_getD, List.getElem?_drop]
    rw [drop_set_add, val_take_succ, val_take_succ ((zs'.drop i).set k s), val_take_succ ys, take_set, getD_set (by simp; omega), hz', hy, Nat.pow_succ, Nat.mul_assoc, Nat.add_mul, Nat.mul_assoc]
    have := congrArg (18446744073709551616 ^ k * ·) he
    simp only [Nat.mul_add] at this
    omega
/-- A word less a word of the product, what was beyond, and what was borrowed. -/
theorem word_borrow {x y z q b s1 d1 s2 d2 hi lo : Nat} (hx : x < 18446744073709551616) (hy : y < 18446744073709551616) (hq : q < 18446744073709551616)
    (h1 : y * x = lo + 18446744073709551616 * hi) (h2 : lo + q = s1 + 18446744073709551616 * d1) (h3 : z + 18446744073709551616 * d2 = s2 + s1 + b) :
    z + 18446744073709551616 * (hi + d1 + d2) = s2 + y * x + (q + b) ∧ hi + d1 < 18446744073709551616 := by
  have h4 : y * x ≤ 18446744073709551615 * 18446744073709551615 := Nat.mul_le_mul (by omega) (by omega)
  refine ⟨by omega, by omega⟩

/-- What a guess is: the greatest digit that does for the highest words. -/
structure Gd (t d g : Nat) : Prop where
  lt : g < 18446744073709551616
  le : g * d ≤ t
  top : ∀ x, x < 18446744073709551616 → x * d ≤ t → x ≤ g
/-- On the way to it: U the two highest words, a, b the divisor's, c the third. -/
structure Gs (U a b c g l : Nat) : Prop where
  lt : g < 18446744073709551616
  eq : g * a + l = U
  top : ∀ x, x < 18446744073709551616 → x * (a * 18446744073709551616 + b) ≤ U * 18446744073709551616 + c → x ≤ g
theorem feasible {U a b c x : Nat} (hc : c < 18446744073709551616) (h : x * (a * 18446744073709551616 + b) ≤ U * 18446744073709551616 + c) : x * a ≤ U := by
  rw [Nat.mul_add, ← Nat.mul_assoc] at h
  generalize x * a = p at *
  omega
theorem Gs.start {U a b c : Nat} (ha : 0 < a) (hc : c < 18446744073709551616) (hU : U < 18446744073709551616 * a) : Gs U a b c (U / a) (U % a) := by
  refine ⟨Nat.div_lt_of_lt_mul (by rw [Nat.mul_comm]; exact hU), ?_, fun x _ h => (Nat.le_div_iff_mul_le ha).2 (feasible hc h)⟩
  have := Nat.div_add_mod U a
  rw [Nat.mul_comm a] at this
  exact this
theorem Gs.start_big {a b c lo : Nat} : Gs (a * 18446744073709551616 + lo) a b c 18446744073709551615 (lo + a) := by
  refine ⟨by omega, ?_, fun x h _ => by omega⟩
  omega
theorem Gs.next {U a b c g l : Nat} (h : Gs U a b c (g + 1) l) (hc : 18446744073709551616 * l + c < (g + 1) * b) : Gs U a b c g (l + a) := by
  obtain ⟨h1, h2, h3⟩ := h
  refine ⟨by omega, by rw [Nat.add_mul] at h2; omega, fun x hx hd => ?_⟩
  have h4 := h3 x hx hd
  rcases Nat.lt_or_ge g x with h5 | h5
  · exfalso
    have e : x = g + 1 := by omega
    subst e
    rw [Nat.mul_add, ← Nat.mul_assoc, ← h2] at hd
    generalize (g + 1) * a = p at *
    generalize (g + 1) * b = p2 at *
    omega
  · exact h5
theorem Gs.done {U a b c g l : Nat} (h : Gs U a b c g l) (hc : g * b ≤ 18446744073709551616 * l + c) : Gd (U * 18446744073709551616 + c) (a * 18446744073709551616 + b) g := by
  obtain ⟨h1, h2, h3⟩ := h
  refine ⟨h1, ?_, h3⟩
  rw [Nat.mul_add, ← Nat.mul_assoc, ← h2]
  generalize g * a = p at *
  generalize g * b = p2 at *
  omega
theorem Gs.stop {U a b c g l : Nat} (h : Gs U a b c g l) (hb : b < 18446744073709551616) (hl : 18446744073709551616 ≤ l) : Gd (U * 18446744073709551616 + c) (a * 18446744073709551616 + b) g := by
  refine h.done ?_
  have h1 : g * b ≤ 18446744073709551615 * 18446744073709551615 := Nat.mul_le_mul (by have := h.lt; omega) (by omega)
  omega

/-- The guess is the digit, or one more. -/
theorem Gd.near {r β t d P r0 b0 g : Nat} (h : Gd t d g) (hr : r = P * t + r0) (hr0 : r0 < P) (hβ : β = P * d + b0) (hb0 : b0 < P) (hd : 18446744073709551616 ≤ d) (hq : r < 18446744073709551616 * β) :
    r / β ≤ g ∧ g ≤ r / β + 1 := by
  obtain ⟨h1, h2, h3⟩ := h
  have hP : 0 < P := by omega
  have hPd : P * 18446744073709551616 ≤ P * d := Nat.mul_le_mul_left _ hd
  have hβ0 : 0 < β := by omega
  constructor
  · refine h3 _ (Nat.div_lt_of_lt_mul (by rw [Nat.mul_comm]; exact hq)) ?_
    have h4 : r / β * β ≤ r := Nat.div_mul_le_self _ _
    generalize r / β = q at *
    have h5 : P * (q * d) ≤ q * β := by
      rw [hβ, Nat.mul_add, Nat.mul_left_comm]
      omega
    have h6 : P * (q * d) < P * (t + 1) := by rw [Nat.mul_add]; omega
    have := Nat.lt_of_mul_lt_mul_left h6
    omega
  · rcases Nat.eq_zero_or_pos g with h0 | h0
    · rw [h0]; exact Nat.zero_le _
    · obtain ⟨g', rfl⟩ : ∃ g', g = g' + 1 := ⟨g - 1, by omega⟩
      have h4 : g' ≤ r / β := by
        refine (Nat.le_div_iff_mul_le hβ0).2 ?_
        have h5 : (g' + 1) * b0 ≤ 18446744073709551616 * P := Nat.mul_le_mul (by omega) (by omega)
        have h6 : P * ((g' + 1) * d) ≤ P * t := Nat.mul_le_mul_left _ h2
        have h7 : (g' + 1) * β = P * ((g' + 1) * d) + (g' + 1) * b0 := by rw [hβ, Nat.mul_add, Nat.mul_left_comm]
        rw [Nat.add_mul, Nat.one_mul] at h7
        omega
      omega

theorem val_take_lt {zs : List Nat} (h : Wds zs) (k : Nat) : val (zs.take k) < 18446744073709551616 ^ k := by
  have h1 := val_lt (h.take k)
  refine Nat.lt_of_lt_of_le h1 (Nat.pow_le_pow_right (by omega) ?_)
  rw [List.length_take]; omega
theorem getD_drop (zs : List Nat) (i j : Nat) : (zs.drop i).getD j 0 = zs.getD (i + j) 0 := by
  simp [List.getD_eq_getElem?_getD, List.getElem?_drop]
/-- Three highest words. -/
theorem val_three (l : List Nat) (p : Nat) : val (l.take (p + 3)) = 18446744073709551616 ^ p * ((l.getD (p + 2) 0 * 18446744073709551616 + l.getD (p + 1) 0) * 18446744073709551616 + l.getD p 0) + val (l.take p) := by
  rw [show p + 3 = p + 1 + 1 + 1 from rfl, val_take_succ, val_take_succ, val_take_succ]
  simp only [Nat.pow_succ, Nat.mul_add, Nat.add_mul, Nat.mul_assoc]
  rw [Nat.mul_comm (l.getD (p + 1) 0), Nat.mul_comm (l.getD (p + 2) 0), Nat.mul_assoc]
  omega
theorem val_two (l : List Nat) (p : Nat) : val (l.take (p + 2)) = 18446744073709551616 ^ p * (l.getD (p + 1) 0 * 18446744073709551616 + l.getD p 0) + val (l.take p) := by
  rw [show p + 2 = p + 1 + 1 from rfl, val_take_succ, val_take_succ]
  simp only [Nat.pow_succ, Nat.mul_add, Nat.mul_assoc]
  rw [Nat.mul_comm (l.getD (p + 1) 0)]
  omega

/-- The digit that is taken, and what it leaves: of n + 1 words from i on. -/
structure Dg (zs ys : List Nat) (i n q : Nat) (zs' : List Nat) : Prop where
  take : zs'.take i = zs.take i
  drop : zs'.drop (i + (n + 1)) = zs.drop (i + (n + 1))
  q : q = val ((zs.drop i).take (n + 1)) / val ys
  r : val ((zs'.drop i).take (n + 1)) = val ((zs.drop i).take (n + 1)) % val ys

theorem Dg.just {zs ys zs2 : List Nat} {i n g b : Nat} (hy : ys.length = n) (hw : Wds zs2) (h : SubInv zs ys g i (n + 1) b zs2) (hb : b ≤ 1) (hg : g = val ((zs.drop i).take (n + 1)) / val ys) :
    b = 0 ∧ Dg zs ys i n g zs2 := by
  obtain ⟨h1, h2, h3⟩ := h
  have hz := val_take_lt (hw.drop i) (n + 1)
  rw [List.take_of_length_le (show ys.length ≤ n + 1 by omega)] at h3
  have hm := Nat.div_add_mod (val ((zs.drop i).take (n + 1))) (val ys)
  rw [← hg] at hm
  have : b = 0 ∨ b = 1 := by omega
  rcases this with rfl | rfl
  · exact ⟨rfl, h1, h2, hg, by omega⟩
  · exfalso; omega
theorem Dg.back {zs ys zs2 zs3 : List Nat} {i n g b c : Nat} (hy : ys.length = n) (hwy : Wds ys) (hw : Wds zs2) (hw3 : Wds zs3) (h : SubInv zs ys (g + 1) i (n + 1) b zs2) (hb : b ≤ 1) (h0 : 0 < val ys) (hg : g = val ((zs.drop i).take (n + 1)) / val ys)
    (hc : c ≤ 1) (ha : AddInv zs2 ys 1 i (n + 1) c zs3) : b = 1 ∧ Dg zs ys i n g zs3 := by
  obtain ⟨h1, h2, h3⟩ := h
  obtain ⟨a1, a2, a3⟩ := ha
  have hz := val_take_lt (hw.drop i) (n + 1)
  have hz3 := val_take_lt (hw3.drop i) (n + 1)
  have hyl := val_lt hwy
  rw [hy] at hyl
  have hpp : 18446744073709551616 ^ n ≤ 18446744073709551616 ^ (n + 1) := Nat.pow_le_pow_right (by omega) (by omega)
  rw [List.take_of_length_le (show ys.length ≤ n + 1 by omega)] at h3 a3
  have hm := Nat.div_add_mod (val ((zs.drop i).take (n + 1))) (val ys)
  have hlt := Nat.mod_lt (val ((zs.drop i).take (n + 1))) h0
  rw [← hg] at hm
  rw [Nat.mul_add] at h3
  have : b = 0 ∨ b = 1 := by omega
  rcases this with rfl | rfl
  · exfalso; omega
  · have : c = 0 ∨ c = 1 := by omega
    rcases this with rfl | rfl
    · exfalso; omega
    · exact ⟨rfl, a1.trans h1, a2.trans h2, hg, by omega⟩
theorem Dg.one {zs ys zs2 : List Nat} {i n g b : Nat} (hy : ys.length = n) (hw : Wds zs2) (h : SubInv zs ys (g + 1) i (n + 1) b zs2) (hb : b ≤ 1) (h0 : 0 < val ys) (hg : g = val ((zs.drop i).take (n + 1)) / val ys) : b = 1 := by
  obtain ⟨h1, h2, h3⟩ := h
  have hz := val_take_lt (hw.drop i) (n + 1)
  rw [List.take_of_length_le (show ys.length ≤ n + 1 by omega)] at h3
  have hm := Nat.div_add_mod (val ((zs.drop i).take (n + 1))) (val ys)
  have hlt := Nat.mod_lt (val ((zs.drop i).take (n + 1))) h0
  rw [← hg] at hm
  rw [Nat.mul_add] at h3
  have : b = 0 ∨ b = 1 := by omega
  rcases this with rfl | rfl
  · exfalso; omega
  · rfl

/-- What is so while k digits are still to be taken. -/
structure Lg (a β N n L k : Nat) (X Q : List Nat) : Prop where
  lx : X.length = N
  lq : Q.length = L
  eq : val X + β * (18446744073709551616 ^ k * val (Q.drop k)) = a
  lt : val (X.drop k) < β
theorem drop_cons {zs : List Nat} {i : Nat} (h : i < zs.length) : val (zs.drop i) = zs.getD i 0 + 18446744073709551616 * val (zs.drop (i + 1)) := by
  rw [List.drop_eq_getElem_cons h, val_cons]
  simp [List.getD_eq_getElem?_getD, List.getElem?_eq_getElem h]
theorem Lg.start {a β N n L : Nat} {X Q : List Nat} (lx : X.length = N) (lq : Q.length = L) (ha : val X = a) (hlt : val (X.drop L) < β) : Lg a β N n L L X Q := by
  refine ⟨lx, lq, ?_, hlt⟩
  rw [List.drop_of_length_le (by omega), val_nil, Nat.mul_zero, Nat.mul_zero, Nat.add_zero]
  exact ha
/-- The words of the next digit hold all that is left; it is a digit. -/
theorem Lg.next {a N n L i : Nat} {X Q ys : List Nat} (h : Lg a (val ys) N n L (i + 1) X Q) (hwx : Wds X) (hwy : Wds ys) (hy : ys.length = n) (hi : i < L) (hN : N = L + n) :
    val ((X.drop i).take (n + 1)) = val (X.drop i) ∧ val ((X.drop i).take (n + 1)) < 18446744073709551616 * val ys ∧ val (X.drop (i + (n + 1))) = 0 := by
  obtain ⟨lx, lq, eq, lt⟩ := h
  have hyl := val_lt hwy
  rw [hy] at hyl
  have h1 := drop_cons (zs := X) (i := i) (by omega)
  have h2 := hwx.getD i
  have h3 : val (X.drop i) < 18446744073709551616 * val ys := by omega
  have h4 := val_split (X.drop i) (n + 1) (by rw [List.length_drop]; omega)
  rw [List.drop_drop] at h4
  have h5 : val (X.drop (i + (n + 1))) = 0 := by
    rcases Nat.eq_zero_or_pos (val (X.drop (i + (n + 1)))) with h0 | h0
    · exact h0
    · exfalso
      have h6 : 18446744073709551616 ^ (n + 1) * 1 ≤ 18446744073709551616 ^ (n + 1) * val (X.drop (i + (n + 1))) := Nat.mul_le_mul_left _ h0
      rw [Nat.pow_succ] at h6 h4
      omega
  rw [h5, Nat.mul_zero, Nat.add_zero] at h4
  exact ⟨h4.symm, by rw [← h4]; exact h3, h5⟩
theorem Lg.step {a N n L i q : Nat} {X Q ys X' : List Nat} (h : Lg a (val ys) N n L (i + 1) X Q) (hwx : Wds X) (hwy : Wds ys) (hy : ys.length = n) (hi : i < L) (hN : N = L + n) (lx' : X'.length = N) (hd : Dg X ys i n q X') :
    Lg a (val ys) N n L i X' (Q.set i q) := by
  obtain ⟨e1, e2, e3⟩ := h.next hwx hwy hy hi hN
  obtain ⟨lx, lq, eq, lt⟩ := h
  obtain ⟨d1, d2, d3, d4⟩ := hd
  have h0 : 0 < val ys := by omega
  have h1 := val_split X i (by omega)
  have h2 := val_split X' i (by omega)
  have h3 := val_split (X'.drop i) (n + 1) (by rw [List.length_drop]; omega)
  rw [List.drop_drop, d2, e3, Nat.mul_zero, Nat.add_zero, d4] at h3
  rw [e1] at d3 h3
  have hm := Nat.div_add_mod (val (X.drop i)) (val ys)
  rw [← d3] at hm
  refine ⟨lx', by rw [List.length_set]; exact lq, ?_, ?_⟩
  · rw [drop_cons (zs := Q.set i q) (by rw [List.length_set]; omega), getD_set (by omega), drop_set_lt (by omega), ← eq, h2, h1, d1, h3]
    have h4 : 18446744073709551616 ^ i * val (X.drop i) = 18446744073709551616 ^ i * (val ys * q + val (X.drop i) % val ys) := by rw [hm]
    rw [h4, Nat.pow_succ]
    simp only [Nat.mul_add, Nat.mul_assoc]
    rw [Nat.mul_left_comm (val ys) (18446744073709551616 ^ i) q]
    omega
  · rw [h3]
    exact Nat.mod_lt _ h0
theorem Lg.fin {a β N n L : Nat} {X Q : List Nat} (h : Lg a β N n L 0 X Q) : val Q = a / β ∧ val X = a % β := by
  obtain ⟨lx, lq, eq, lt⟩ := h
  simp only [List.drop_zero, Nat.pow_zero, Nat.one_mul] at eq lt
  have h0 : 0 < β := by omega
  rw [← eq, Nat.add_mul_div_left _ _ h0, Nat.div_eq_of_lt lt, Nat.add_mul_mod_self_left, Nat.mod_eq_of_lt lt]
  exact ⟨by omega, rfl⟩

/-- The highest word tells how great a number is. -/
theorem val_top {ys : List Nat} {m y : Nat} (hw : Wds ys) (hl : ys.length = m + 1) (hy : ys.getD m 0 = y) : 18446744073709551616 ^ m * y ≤ val ys ∧ val ys < 18446744073709551616 ^ m * (y + 1) := by
  have h1 := val_take_succ ys m
  rw [List.take_of_length_le (by omega), hy] at h1
  have h2 := val_take_lt hw m
  rw [Nat.mul_add, Nat.mul_one]
  omega
/-- The divisor, shifted until its highest bit is 1. -/
theorem shifted_fits {ys : List Nat} {m y s : Nat} (hw : Wds ys) (hl : ys.length = m + 1) (hy : ys.getD m 0 = y) (hs : s ≤ 63) (hlo : 9223372036854775808 ≤ y * 2 ^ s) (hhi : y * 2 ^ s < 18446744073709551616) :
    val ys * 2 ^ s < 18446744073709551616 ^ (m + 1) ∧ 18446744073709551616 ^ m * 9223372036854775808 ≤ val ys * 2 ^ s := by
  obtain ⟨h1, h2⟩ := val_top hw hl hy
  have hp : 0 < 2 ^ s := Nat.pow_pos (by omega)
  have hB : (18446744073709551616 : Nat) = 2 ^ (64 - s) * 2 ^ s := by rw [← Nat.pow_add, show 64 - s + s = 64 from by omega]
  have h3 : y + 1 ≤ 2 ^ (64 - s) := by
    rw [hB] at hhi
    exact Nat.lt_of_mul_lt_mul_right hhi
  have h4 : (y + 1) * 2 ^ s ≤ 18446744073709551616 := by
    rw [hB]
    exact Nat.mul_le_mul_right _ h3
  constructor
  · have h5 : val ys * 2 ^ s < 18446744073709551616 ^ m * (y + 1) * 2 ^ s := Nat.mul_lt_mul_of_pos_right h2 hp
    have h6 : 18446744073709551616 ^ m * ((y + 1) * 2 ^ s) ≤ 18446744073709551616 ^ m * 18446744073709551616 := Nat.mul_le_mul_left _ h4
    rw [Nat.mul_assoc] at h5
    rw [Nat.pow_succ]
    omega
  · have h5 : 18446744073709551616 ^ m * y * 2 ^ s ≤ val ys * 2 ^ s := Nat.mul_le_mul_right _ h1
    have h6 : 18446744073709551616 ^ m * 9223372036854775808 ≤ 18446744073709551616 ^ m * (y * 2 ^ s) := Nat.mul_le_mul_left _ hlo
    rw [Nat.mul_assoc] at h5
    omega
theorem top_ge {bs : List Nat} {m : Nat} (hw : Wds bs) (hl : bs.length = m + 1) (h : 18446744073709551616 ^ m * 9223372036854775808 ≤ val bs) : 9223372036854775808 ≤ bs.getD m 0 := by
  obtain ⟨_, h2⟩ := val_top hw hl rfl
  have := Nat.lt_of_mul_lt_mul_left (Nat.lt_of_le_of_lt h h2)
  omega
theorem val_take_small {a : List Nat} {k : Nat} (hk : k ≤ a.length) (h : val a < 18446744073709551616 ^ k) : val (a.take k) = val a := by
  have h1 := val_split a k hk
  rcases Nat.eq_zero_or_pos (val (a.drop k)) with h0 | h0
  · rw [h0] at h1; omega
  · have : 18446744073709551616 ^ k * 1 ≤ 18446744073709551616 ^ k * val (a.drop k) := Nat.mul_le_mul_left _ h0
    omega
theorem start_lt {X : List Nat} {a n m s β : Nat} (ha : a < 18446744073709551616 ^ n) (hs : s ≤ 63) (hX : val X = a * 2 ^ s) (hl : X.length = n + 1) (hmn : m ≤ n) (hβ : 18446744073709551616 ^ m * 9223372036854775808 ≤ β) :
    val (X.drop (n - m)) < β := by
  rcases Nat.lt_or_ge (val (X.drop (n - m))) β with h | h
  · exact h
  · exfalso
    have h1 := val_split X (n - m) (by omega)
    have h2 : 18446744073709551616 ^ (n - m) * (18446744073709551616 ^ m * 9223372036854775808) ≤ 18446744073709551616 ^ (n - m) * val (X.drop (n - m)) := Nat.mul_le_mul_left _ (Nat.le_trans hβ h)
    rw [← Nat.mul_assoc, ← Nat.pow_add, show n - m + m = n from by omega] at h2
    have h3 : (2 : Nat) ^ s ≤ 2 ^ 63 := Nat.pow_le_pow_right (by omega) hs
    have h4 : a * 2 ^ s ≤ a * 9223372036854775808 := Nat.mul_le_mul_left _ h3
    omega
/-- The guess of the words' digit is it, or one more. -/
theorem digit_near {zs ys : List Nat} {i p q x2 x1 x0 a b : Nat} (hwz : Wds zs) (hwy : Wds ys) (hl : ys.length = p + 2) (hx2 : zs.getD (i + (p + 2)) 0 = x2) (hx1 : zs.getD (i + (p + 1)) 0 = x1) (hx0 : zs.getD (i + p) 0 = x0)
    (ha : ys.getD (p + 1) 0 = a) (hb : ys.getD p 0 = b) (ha0 : 0 < a) (hr : val ((zs.drop i).take (p + 2 + 1)) < 18446744073709551616 * val ys)
    (hd : Gd ((x2 * 18446744073709551616 + x1) * 18446744073709551616 + x0) (a * 18446744073709551616 + b) q) :
    val ((zs.drop i).take (p + 2 + 1)) / val ys ≤ q ∧ q ≤ val ((zs.drop i).take (p + 2 + 1)) / val ys + 1 := by
  have h1 := val_three (zs.drop i) p
  rw [getD_drop, getD_drop, getD_drop, hx2, hx1, hx0] at h1
  have h2 := val_two ys p
  rw [List.take_of_length_le (show ys.length ≤ p + 2 by omega), ha, hb] at h2
  refine hd.near h1 (val_take_lt (hwz.drop i) p) h2 (val_take_lt hwy p) ?_ hr
  omega
theorem top_le {zs ys : List Nat} {i p x2 a : Nat} (hwy : Wds ys) (hl : ys.length = p + 2) (hx2 : zs.getD (i + (p + 2)) 0 = x2) (ha : ys.getD (p + 1) 0 = a)
    (hr : val ((zs.drop i).take (p + 2 + 1)) < 18446744073709551616 * val ys) : x2 ≤ a := by
  obtain ⟨_, h2⟩ := val_top hwy hl ha
  have h1 := val_take_succ (zs.drop i) (p + 2)
  rw [getD_drop, hx2] at h1
  have h3 : 18446744073709551616 ^ (p + 2) * x2 < 18446744073709551616 ^ (p + 2) * (a + 1) := by
    have h4 : 18446744073709551616 * val ys < 18446744073709551616 * (18446744073709551616 ^ (p + 1) * (a + 1)) := Nat.mul_lt_mul_of_pos_left h2 (by omega)
    rw [← Nat.mul_assoc, Nat.mul_comm 18446744073709551616 (18446744073709551616 ^ (p + 1)), ← Nat.pow_succ, show (p + 1).succ = p + 2 from rfl] at h4
    omega
  have := Nat.lt_of_mul_lt_mul_left h3
  omega
end Go.Proofs.YtjmnobgllnaljaaGreatDoor.M
