/-
  Plain facts on numbers written in words of 64 bits (the lowest first): no program is named here.
-/
namespace Go.Proofs.YtdokioefcfcfnaaDoor.M

/-- The number of these words. -/
def val : List Nat → Nat
  | [] => 0
  | x :: r => x + 18446744073709551616 * val r

/-- Each is a word. -/
def Wds (xs : List Nat) : Prop := ∀ x ∈ xs, x < 18446744073709551616
/-- The last word is not 0. -/
def Nrm (xs : List Nat) : Prop := xs.getLast? ≠ some 0

theorem val_nil : val [] = 0 := rfl
theorem val_cons (x : Nat) (r : List Nat) : val (x :: r) = x + 18446744073709551616 * val r := rfl
theorem Wds.nil : Wds [] := fun _ h => by cases h
theorem Wds.cons {x : Nat} {r : List Nat} (hx : x < 18446744073709551616) (h : Wds r) : Wds (x :: r) := by
  intro y hy
  rcases List.mem_cons.1 hy with e | e
  · rw [e]; exact hx
  · exact h y e
theorem Wds.head {x : Nat} {r : List Nat} (h : Wds (x :: r)) : x < 18446744073709551616 := h x (by simp)
theorem Wds.tail {x : Nat} {r : List Nat} (h : Wds (x :: r)) : Wds r := fun y hy => h y (by simp [hy])
theorem Wds.append {a b : List Nat} (ha : Wds a) (hb : Wds b) : Wds (a ++ b) := by
  intro y hy
  rcases List.mem_append.1 hy with e | e
  · exact ha y e
  · exact hb y e
theorem Wds.left {a b : List Nat} (h : Wds (a ++ b)) : Wds a := fun y hy => h y (by simp [hy])
theorem Wds.right {a b : List Nat} (h : Wds (a ++ b)) : Wds b := fun y hy => h y (by simp [hy])
theorem Wds.take {a : List Nat} (h : Wds a) (k : Nat) : Wds (a.take k) := fun y hy => h y (List.mem_of_mem_take hy)
theorem Wds.drop {a : List Nat} (h : Wds a) (k : Nat) : Wds (a.drop k) := fun y hy => h y (List.mem_of_mem_drop hy)
theorem Wds.get {a : List Nat} (h : Wds a) {i x : Nat} (hx : a[i]? = some x) : x < 18446744073709551616 := h x (List.mem_of_getElem? hx)
theorem Wds.getD {a : List Nat} (h : Wds a) (i : Nat) : a.getD i 0 < 18446744073709551616 := by
  rw [List.getD_eq_getElem?_getD]
  cases hx : a[i]? with
  | none => simp
  | some x => simpa using h.get hx
theorem Wds.set {a : List Nat} (h : Wds a) (i : Nat) {x : Nat} (hx : x < 18446744073709551616) : Wds (a.set i x) := by
  intro y hy
  rcases List.mem_or_eq_of_mem_set hy with e | e
  · exact h y e
  · rw [e]; exact hx
theorem Wds.replicate (n : Nat) : Wds (List.replicate n 0) := by
  intro y hy
  rw [(List.mem_replicate.1 hy).2]; omega

theorem val_append (a b : List Nat) : val (a ++ b) = val a + 18446744073709551616 ^ a.length * val b := by
  induction a with
  | nil => simp [val]
  | cons x r ih =>
    simp only [List.cons_append, val, ih, List.length_cons, Nat.pow_succ]
    rw [Nat.mul_add, Nat.add_assoc, ← Nat.mul_assoc, Nat.mul_comm (18446744073709551616 ^ r.length)]
theorem val_replicate (n : Nat) : val (List.replicate n 0) = 0 := by
  induction n with
  | zero => rfl
  | succ n ih => simp [List.replicate_succ, val, ih]
theorem val_lt {a : List Nat} (h : Wds a) : val a < 18446744073709551616 ^ a.length := by
  induction a with
  | nil => simp [val]
  | cons x r ih =>
    have h1 := ih h.tail
    have h2 := h.head
    simp only [val, List.length_cons, Nat.pow_succ]
    calc x + 18446744073709551616 * val r < 18446744073709551616 + 18446744073709551616 * val r := by omega
      _ = 18446744073709551616 * (val r + 1) := by rw [Nat.mul_add, Nat.mul_one, Nat.add_comm]
      _ ≤ 18446744073709551616 * 18446744073709551616 ^ r.length := Nat.mul_le_mul_left _ h1
      _ = _ := Nat.mul_comm _ _
theorem val_take_succ (a : List Nat) (k : Nat) : val (a.take (k + 1)) = val (a.take k) + 18446744073709551616 ^ k * a.getD k 0 := by
  induction a generalizing k with
  | nil => simp [val]
  | cons x r ih =>
    cases k with
    | zero => simp [val]
    | succ k =>
      simp only [List.take_succ_cons, val, ih k, List.getD_cons_succ, Nat.pow_succ]
      rw [Nat.mul_add, Nat.add_assoc, ← Nat.mul_assoc, Nat.mul_comm (18446744073709551616 ^ k)]
theorem val_split (a : List Nat) (k : Nat) (hk : k ≤ a.length) : val a = val (a.take k) + 18446744073709551616 ^ k * val (a.drop k) := by
  have h := val_append (a.take k) (a.drop k)
  rw [List.take_append_drop, List.length_take, Nat.min_eq_left hk] at h
  exact h
/-- A normal number of k + 1 words is not below the power. -/
theorem val_ge {a : List Nat} (hn : Nrm a) (ha : a ≠ []) : 18446744073709551616 ^ (a.length - 1) ≤ val a := by
  obtain ⟨b, x, rfl⟩ : ∃ b x, a = b ++ [x] := ⟨a.dropLast, a.getLast ha, (List.dropLast_concat_getLast ha).symm⟩
  have hx : x ≠ 0 := by
    intro e
    exact hn (by simp [e])
  rw [val_append]
  simp only [List.length_append, List.length_cons, List.length_nil, val, Nat.zero_add, Nat.add_sub_cancel, Nat.mul_zero, Nat.add_zero]
  calc 18446744073709551616 ^ b.length = 18446744073709551616 ^ b.length * 1 := (Nat.mul_one _).symm
    _ ≤ 18446744073709551616 ^ b.length * x := Nat.mul_le_mul_left _ (Nat.pos_of_ne_zero hx)
    _ ≤ _ := Nat.le_add_left _ _
theorem val_pos {a : List Nat} (hn : Nrm a) (ha : a ≠ []) : 0 < val a :=
  Nat.lt_of_lt_of_le (Nat.pow_pos (by omega)) (val_ge hn ha)
theorem val_zero {a : List Nat} (hn : Nrm a) (h : val a = 0) : a = [] := by
  by_cases ha : a = []
  · exact ha
  · have := val_pos hn ha; omega
/-- Fewer words, a smaller number. -/
theorem val_lt_of_length {a b : List Nat} (ha : Wds a) (hb : Nrm b) (h : a.length < b.length) : val a < val b := by
  have h1 := val_lt ha
  have h2 := val_ge hb (by intro e; rw [e] at h; simp at h)
  have h3 : 18446744073709551616 ^ a.length ≤ 18446744073709551616 ^ (b.length - 1) := Nat.pow_le_pow_right (by omega) (by omega)
  omega
/-- Two numbers of as many words, told apart by their highest word that is not the same. -/
theorem val_lt_of_get {a b : List Nat} {i : Nat} (ha : Wds a) (hl : a.length = b.length) (hi : i < a.length) (hlt : a.getD i 0 < b.getD i 0) (he : a.drop (i + 1) = b.drop (i + 1)) : val a < val b := by
  rw [val_split a (i + 1) (by omega), val_split b (i + 1) (by omega), he, val_take_succ, val_take_succ]
  have h1 : val (a.take i) < 18446744073709551616 ^ i := by
    have := val_lt (ha.take i)
    rwa [List.length_take, Nat.min_eq_left (by omega)] at this
  have h2 : 18446744073709551616 ^ i * (a.getD i 0 + 1) ≤ 18446744073709551616 ^ i * b.getD i 0 := Nat.mul_le_mul_left _ hlt
  rw [Nat.mul_add, Nat.mul_one] at h2
  omega
theorem len_of_lt {a : List Nat} {k : Nat} (hn : Nrm a) (h : val a < 18446744073709551616 ^ k) : a.length ≤ k := by
  rcases Nat.lt_or_ge k a.length with h1 | h1
  · have h2 := val_ge hn (by intro e; rw [e] at h1; simp at h1)
    have h3 : 18446744073709551616 ^ k ≤ 18446744073709551616 ^ (a.length - 1) := Nat.pow_le_pow_right (by omega) (by omega)
    omega
  · exact h1
theorem val_inj {a b : List Nat} (ha : Wds a) (hb : Wds b) (hna : Nrm a) (hnb : Nrm b) (h : val a = val b) : a = b := by
  have hl : a.length = b.length := by
    rcases Nat.lt_trichotomy a.length b.length with h1 | h1 | h1
    · have := val_lt_of_length ha hnb h1; omega
    · exact h1
    · have := val_lt_of_length hb hna h1; omega
  have aux : ∀ (a b : List Nat), Wds a → Wds b → a.length = b.length → val a = val b → a = b := by
    intro a
    induction a with
    | nil => intro b _ _ hl _; exact (List.eq_nil_of_length_eq_zero hl.symm).symm
    | cons x r ih =>
      intro b ha hb hl h
      cases b with
      | nil => simp at hl
      | cons y s =>
        have h1 := ha.head; have h2 := hb.head
        simp only [val] at h
        have e1 : x = y := by omega
        have e2 : val r = val s := by omega
        rw [e1, ih s ha.tail hb.tail (by simpa using hl) e2]
  exact aux a b ha hb hl h
/-- What is left of words without the noughts at the end. -/
theorem val_take_noughts {a : List Nat} {m : Nat} (hm : m ≤ a.length) (hz : ∀ j, m ≤ j → j < a.length → a.getD j 0 = 0) : val (a.take m) = val a := by
  have e : a.drop m = List.replicate (a.length - m) 0 := by
    apply List.ext_getElem
    · simp
    · intro j h1 h2
      have h3 : m + j < a.length := by simpa [Nat.lt_sub_iff_add_lt, Nat.add_comm] using h1
      have := hz (m + j) (by omega) h3
      rw [List.getD_eq_getElem?_getD, List.getElem?_eq_getElem h3] at this
      simpa using this
  rw [val_split a m hm, e, val_replicate]
  omega
theorem Nrm.nil : Nrm [] := by simp [Nrm]
theorem Nrm.take {a : List Nat} {m : Nat} (hm : m ≤ a.length) (h : 0 < m → a.getD (m - 1) 0 ≠ 0) : Nrm (a.take m) := by
  intro e
  rcases Nat.eq_zero_or_pos m with h0 | h0
  · subst h0; simp at e
  · have h1 : m - 1 < a.length := by omega
    rw [List.getLast?_eq_getElem?, List.length_take, Nat.min_eq_left hm, List.getElem?_take_of_lt (by omega), List.getElem?_eq_getElem h1] at e
    have := h h0
    rw [List.getD_eq_getElem?_getD, List.getElem?_eq_getElem h1] at this
    simp at e this
    exact this e

/-- -1, 0, 1. -/
def cmp (a b : Nat) : Int := if a < b then -1 else if a = b then 0 else 1
theorem cmp_lt {a b : Nat} (h : a < b) : cmp a b = -1 := by simp [cmp, h]
theorem cmp_eq {a b : Nat} (h : a = b) : cmp a b = 0 := by simp [cmp, h]
theorem cmp_gt {a b : Nat} (h : b < a) : cmp a b = 1 := by
  unfold cmp; rw [if_neg (by omega), if_neg (by omega)]
theorem ext_getD {a b : List Nat} (hl : a.length = b.length) (h : ∀ j, j < a.length → a.getD j 0 = b.getD j 0) : a = b := by
  apply List.ext_getElem hl
  intro j h1 h2
  have := h j h1
  simpa [List.getD_eq_getElem?_getD, h1, h2] using this
theorem cmp_of_get {a b : List Nat} {i : Nat} (ha : Wds a) (hb : Wds b) (hl : a.length = b.length) (hi : i < a.length) (hne : a.getD i 0 ≠ b.getD i 0)
    (hz : ∀ j, i + 1 ≤ j → j < a.length → a.getD j 0 = b.getD j 0) : cmp (val a) (val b) = cmp (a.getD i 0) (b.getD i 0) := by
  have hd : a.drop (i + 1) = b.drop (i + 1) := by
    apply ext_getD (by simp [hl])
    intro j hj
    have h1 : i + 1 + j < a.length := by simpa [Nat.lt_sub_iff_add_lt, Nat.add_comm] using hj
    have := hz (i + 1 + j) (by omega) h1
    simpa [List.getD_eq_getElem?_getD, List.getElem?_drop] using this
  rcases Nat.lt_or_gt_of_ne hne with h | h
  · rw [cmp_lt h, cmp_lt (val_lt_of_get ha hl hi h hd)]
  · rw [cmp_gt h, cmp_gt (val_lt_of_get hb hl.symm (by omega) h hd.symm)]
theorem getD_zero {a : List Nat} (h : Wds a) : a.getD 0 0 = val a % 18446744073709551616 := by
  cases a with
  | nil => rfl
  | cons x r =>
    have := h.head
    simp only [val, List.getD_cons_zero]
    omega
theorem len_le_one {a : List Nat} {m : Nat} (h : Wds a) (hn : Nrm a) (hm : a.length = m) : decide ((m : Int) ≤ 1) = decide (val a < 18446744073709551616) := by
  have e : (m : Int) ≤ 1 ↔ val a < 18446744073709551616 := by
    constructor
    · intro h1
      have h2 := val_lt h
      have h3 : 18446744073709551616 ^ a.length ≤ 18446744073709551616 ^ 1 := Nat.pow_le_pow_right (by omega) (by omega)
      omega
    · intro h1
      rcases Nat.lt_or_ge 1 m with h2 | h2
      · have h3 := val_ge hn (by intro e; rw [e] at hm; simp at hm; omega)
        have h4 : 18446744073709551616 ^ 1 ≤ 18446744073709551616 ^ (a.length - 1) := Nat.pow_le_pow_right (by omega) (by omega)
        omega
      · omega
  simp only [e]
theorem val_getD {a : List Nat} (h : Wds a) (q : Nat) : val a / 18446744073709551616 ^ q % 18446744073709551616 = a.getD q 0 := by
  induction q generalizing a with
  | zero => rw [Nat.pow_zero, Nat.div_one, getD_zero h]
  | succ q ih =>
    cases a with
    | nil => simp [val]
    | cons x r =>
      have h1 := h.head
      rw [Nat.pow_succ, Nat.mul_comm, ← Nat.div_div_eq_div_mul, List.getD_cons_succ, ← ih h.tail]
      congr 2
      simp only [val]
      omega
theorem getD_set {a : List Nat} {i x : Nat} (h : i < a.length) : (a.set i x).getD i 0 = x := by
  simp [List.getD_eq_getElem?_getD, h]
theorem getD_set_ne {a : List Nat} {i j x : Nat} (h : i ≠ j) : (a.set i x).getD j 0 = a.getD j 0 := by
  simp [List.getD_eq_getElem?_getD, List.getElem?_set_ne h]
theorem take_set (a : List Nat) (i x : Nat) : (a.set i x).take i = a.take i := by
  rw [List.take_set, List.set_eq_of_length_le (by simp; omega)]
theorem getD_big {a : List Nat} {i : Nat} (h : a.length ≤ i) : a.getD i 0 = 0 := by
  simp [List.getD_eq_getElem?_getD, List.getElem?_eq_none h]
/-- One word more of a sum. -/
theorem add_step {zs xs ys : List Nat} {i s c d : Nat} (hi : i < zs.length)
    (h : val (zs.take i) + 18446744073709551616 ^ i * c = val (xs.take i) + val (ys.take i)) (he : xs.getD i 0 + ys.getD i 0 + c = s + 18446744073709551616 * d) :
    val ((zs.set i s).take (i + 1)) + 18446744073709551616 ^ (i + 1) * d = val (xs.take (i + 1)) + val (ys.take (i + 1)) := by
  rw [val_take_succ, val_take_succ, val_take_succ, take_set, getD_set hi, Nat.pow_succ, Nat.mul_assoc]
  have := congrArg (18446744073709551616 ^ i * ·) he
  simp only [Nat.mul_add] at this
  omega
/-- One word more of a difference. -/
theorem sub_step {zs xs ys : List Nat} {i s c d : Nat} (hi : i < zs.length)
    (h : val (xs.take i) + 18446744073709551616 ^ i * c = val (zs.take i) + val (ys.take i)) (he : xs.getD i 0 + 18446744073709551616 * d = s + ys.getD i 0 + c) :
    val (xs.take (i + 1)) + 18446744073709551616 ^ (i + 1) * d = val ((zs.set i s).take (i + 1)) + val (ys.take (i + 1)) := by
  rw [val_take_succ, val_take_succ, val_take_succ, take_set, getD_set hi, Nat.pow_succ, Nat.mul_assoc]
  have := congrArg (18446744073709551616 ^ i * ·) he
  simp only [Nat.mul_add] at this
  omega
theorem val_take_all {a : List Nat} {n : Nat} (h : a.length ≤ n) : val (a.take n) = val a := by rw [List.take_of_length_le h]
theorem val_set_last {zs : List Nat} {k q : Nat} (h : zs.length = k + 1) : val (zs.set k q) = val (zs.take k) + 18446744073709551616 ^ k * q := by
  have h1 := val_take_succ (zs.set k q) k
  rw [take_set, getD_set (by omega), List.take_of_length_le (by simp; omega)] at h1
  exact h1
theorem cmp_ge {a b : Nat} (h : b ≤ a) : ∃ z : Int, cmp a b = z ∧ 0 ≤ z ∧ z ≤ 1 := by
  rcases Nat.lt_or_ge b a with h1 | h1
  · exact ⟨1, cmp_gt h1, by omega, by omega⟩
  · exact ⟨0, cmp_eq (by omega), by omega, by omega⟩
theorem val_ge_length {a b : List Nat} (ha : Wds a) (hn : Nrm b) (h : val b ≤ val a) : b.length ≤ a.length := by
  rcases Nat.lt_or_ge a.length b.length with h1 | h1
  · have := val_lt_of_length ha hn h1; omega
  · exact h1
/-- No borrow is left where the first is not below the second. -/
theorem sub_last {a b z p q : Nat} (hq : q ≤ 1) (h : a + p * q = z + b) (hz : z < p) (hab : b ≤ a) : z = a - b := by
  have : q = 0 ∨ q = 1 := by omega
  rcases this with rfl | rfl <;> omega
end Go.Proofs.YtdokioefcfcfnaaDoor.M
