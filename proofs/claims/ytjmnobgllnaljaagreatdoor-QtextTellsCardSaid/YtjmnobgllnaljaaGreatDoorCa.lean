/-
  Whole texts, in numbers: how a number of twos is written plainly, and read. No program is named here.
-/
import Derived.Test.YtjmnobgllnaljaaGreatDoorC0
import Derived.Test.YtjmnobgllnaljaaGreatDoorHn
namespace Go.Proofs.YtjmnobgllnaljaaGreatDoor
open Go
set_option linter.unusedVariables false
set_option linter.unusedSimpArgs false

namespace M
/-- The plain text of digits with a power. -/
def qpb (S : List UInt8) (k : Int) : List UInt8 :=
  if (S.length : Int) + k ≤ 0 then 48 :: 46 :: (List.replicate (-((S.length : Int) + k)).toNat 48 ++ S)
  else if 0 ≤ k then S ++ List.replicate k.toNat 48
  else S.take ((S.length : Int) + k).toNat ++ (46 :: S.drop ((S.length : Int) + k).toNat)
def qp (neg : Bool) (n : Nat) (k : Int) : List UInt8 := sgt neg ++ (if n = 0 then [48] else qpb (Lib.decDigits n) k)
theorem qpb_scan {S : List UInt8} (h : Cl S) (k : Int) : ∃ x, scan (qpb S k) = .ok x ∧ x.neg = false ∧ Rdl S k x := by
  have hp := h.pos
  unfold qpb
  by_cases h2 : (S.length : Int) + k ≤ 0
  · rw [if_pos h2]
    generalize hm : (-((S.length : Int) + k)).toNat = m
    have hf : allD (List.replicate m 48 ++ S) = true := by rw [allD_append, allD_noughts, h.all]; rfl
    have hf0 : List.replicate m 48 ++ S ≠ [] := by simp [h.ne]
    have e : scan (48 :: 46 :: (List.replicate m 48 ++ S)) = .ok ⟨5, false, [48] ++ (List.replicate m 48 ++ S), (List.replicate m 48 ++ S).length, false, []⟩ := by
      have e1 := scf_whole [48] (46 :: (List.replicate m 48 ++ S)) sc0 0 rfl (by simp) (by show 0 ≤ 2; omega)
      have e2 := scf_frac (List.replicate m 48 ++ S) [] ⟨3, false, [48], 0, false, []⟩ 2 hf hf0 (by show 3 ≤ 3; omega) (by show 3 ≤ 5; omega)
      rw [List.append_nil] at e2
      show scf sc0 0 ([48] ++ 46 :: _) = _
      rw [e1, scf, if_neg (by show nx 2 (46 : UInt8).toNat ≠ 99; decide)]
      show scf ⟨3, false, [48], 0, false, []⟩ 2 _ = _
      rw [e2, scf, if_pos (by rfl)]
      simp
    refine ⟨_, e, rfl, ⟨by show 5 < 10; omega, m + 1, 0, ?_, ?_⟩⟩
    · show [48] ++ (List.replicate m 48 ++ S) = _
      rw [List.replicate_succ]
      simp
    · rw [pwr_nil]
      show 0 - ((List.replicate m 48 ++ S).length : Int) = _
      rw [List.length_append, List.length_replicate]
      omega
  · rw [if_neg h2]
    by_cases h3 : 0 ≤ k
    · rw [if_pos h3]
      have hf : allD (S ++ List.replicate k.toNat 48) = true := by rw [allD_append, allD_noughts, h.all]; rfl
      have e : scan (S ++ List.replicate k.toNat 48) = .ok ⟨2, false, S ++ List.replicate k.toNat 48, 0, false, []⟩ := by
        have e1 := scf_whole (S ++ List.replicate k.toNat 48) [] sc0 0 hf (by simp [h.ne]) (by show 0 ≤ 2; omega)
        rw [List.append_nil] at e1
        rw [scan, e1, scf, if_pos (by rfl)]
        rfl
      refine ⟨_, e, rfl, ⟨by show 2 < 10; omega, 0, k.toNat, by simp, ?_⟩⟩
      rw [pwr_nil]
      show 0 - ((0 : Nat) : Int) = _
      omega
    · rw [if_neg h3]
      generalize hq : ((S.length : Int) + k).toNat = q
      obtain ⟨a1, a2⟩ := allD_take h.all q
      have hq1 : 0 < q ∧ q < S.length := by omega
      have n1 : S.take q ≠ [] := by
        intro e
        have := congrArg List.length e
        rw [List.length_take, List.length_nil] at this
        omega
      have n2 : S.drop q ≠ [] := by
        intro e
        have := congrArg List.length e
        rw [List.length_drop, List.length_nil] at this
        omega
      have e : scan (S.take q ++ (46 :: S.drop q)) = .ok ⟨5, false, S.take q ++ S.drop q, (S.drop q).length, false, []⟩ := by
        have e1 := scf_whole (S.take q) (46 :: S.drop q) sc0 0 a1 n1 (by show 0 ≤ 2; omega)
        have e2 := scf_frac (S.drop q) [] ⟨3, false, S.take q, 0, false, []⟩ (0 + (S.take q).length + 1) a2 n2 (by show 3 ≤ 3; omega) (by show 3 ≤ 5; omega)
        rw [List.append_nil] at e2
        rw [scan, e1, scf, if_neg (by show nx 2 (46 : UInt8).toNat ≠ 99; decide)]
        show scf ⟨3, false, S.take q, 0, false, []⟩ _ _ = _
        rw [e2, scf, if_pos (by rfl)]
        simp
      refine ⟨_, e, rfl, ⟨by show 5 < 10; omega, 0, 0, by simp, ?_⟩⟩
      rw [pwr_nil]
      show 0 - ((S.drop q).length : Int) = _
      rw [List.length_drop]
      omega
theorem cl_first {S : List UInt8} (h : Cl S) : S.headD 0 ≠ 45 ∧ ∀ n, 0 < n → (S.take n).headD 0 ≠ 45 := by
  cases S with
  | nil => exact absurd rfl h.ne
  | cons c r =>
    have hc : c ≠ 45 := by
      intro e
      have hd := List.all_eq_true.1 h.all c (by simp)
      have := isD_rng hd
      rw [e] at this
      revert this; decide
    refine ⟨hc, fun n hn => ?_⟩
    cases n with
    | zero => omega
    | succ n => exact hc
theorem head_app {a b : List UInt8} (h : a ≠ []) : (a ++ b).headD 0 = a.headD 0 := by
  cases a with
  | nil => exact absurd rfl h
  | cons c r => rfl
theorem head_qpb {S : List UInt8} (h : Cl S) (k : Int) : (qpb S k).headD 0 ≠ 45 := by
  obtain ⟨c1, c2⟩ := cl_first h
  have hp := h.pos
  unfold qpb
  split
  · show (48 : UInt8) ≠ 45; decide
  · split
    · rw [head_app h.ne]; exact c1
    · have hq : 0 < ((S.length : Int) + k).toNat := by omega
      rw [head_app (by intro e; have := congrArg List.length e; rw [List.length_take, List.length_nil] at this; omega)]
      exact c2 _ hq
/-- What is written plainly is read as it is. -/
theorem qp_scan {n : Nat} {k : Int} (h : Lok n k) (neg : Bool) : ∃ x, scan (qp neg n k) = .ok x ∧ x.neg = neg ∧ Rdl (dgs n) k x := by
  have key : ∃ x, scan (if n = 0 then [48] else qpb (Lib.decDigits n) k) = .ok x ∧ x.neg = false ∧ Rdl (dgs n) k x := by
    unfold dgs
    rcases h with ⟨h1, h2⟩ | ⟨h1, h2⟩
    · rw [if_pos h1, if_pos h1, h2]
      exact ⟨⟨2, false, [48], 0, false, []⟩, rfl, rfl, ⟨by show 2 < 10; omega, 1, 0, rfl, rfl⟩⟩
    · rw [if_neg h1, if_neg h1]
      exact qpb_scan (cl_dec h1 h2) k
  obtain ⟨x, e1, e2, e3⟩ := key
  cases neg with
  | false => exact ⟨x, e1, e2, e3⟩
  | true =>
    have hh : (if n = 0 then [48] else qpb (Lib.decDigits n) k).headD 0 ≠ 45 := by
      rcases h with ⟨h1, _⟩ | ⟨h1, h2⟩
      · rw [if_pos h1]; show (48 : UInt8) ≠ 45; decide
      · rw [if_neg h1]; exact head_qpb (cl_dec h1 h2) k
    have e := scan_sign _ (.inl hh)
    rw [e1] at e
    exact ⟨_, e, rfl, ⟨e3.st, e3.ds⟩⟩
theorem ys_tens (D j : Nat) (k : Int) (hk : -5000 ≤ k) : ys (D * 10 ^ j) k k = ys D (k + j) (k + j) := by
  rw [ys_one, ys_one D, ys_pow j k hk, Nat.mul_assoc]
theorem dd_posc (D : Nat) : 0 < (Lib.decDigits D).length := List.length_pos_iff.2 (dd_all D D (Nat.le_refl _)).2.2.1
theorem dd_rngc {D : Nat} (h : D ≠ 0) : 10 ^ ((Lib.decDigits D).length - 1) ≤ D ∧ D < 10 ^ (Lib.decDigits D).length := by
  obtain ⟨k1, k2, k3, k4⟩ := dd_all D D (Nat.le_refl _)
  refine ⟨?_, by have := vsa_lt _ k1; rwa [k2] at this⟩
  cases hl : Lib.decDigits D with
  | nil => exact absurd hl k3
  | cons c r =>
    rw [hl] at k1 k2 k4
    have hc : c.toNat ≠ 48 := by
      rcases k4 with e | e
      · intro hh
        exact e (UInt8.toNat_inj.1 hh)
      · cases e
        exact absurd k2.symm h
    have hd := (isD_iff c).1 (List.all_eq_true.1 k1 c (by simp))
    rw [vsa_cons, vsa_acc] at k2
    have h1 : 1 ≤ 0 * 10 + (c.toNat - 48) := by omega
    have h2 := Nat.mul_le_mul_right (10 ^ r.length) h1
    rw [List.length_cons, Nat.add_sub_cancel]
    omega
theorem ten_ltc {a b : Nat} (h : 10 ^ a < 10 ^ b) : a < b := by
  rcases Nat.lt_or_ge a b with h1 | h1
  · exact h1
  · exact absurd (Nat.lt_of_lt_of_le h (Nat.pow_le_pow_right (by omega) h1)) (Nat.lt_irrefl _)
theorem len_rngc {D e A B : Nat} (h : D ≠ 0) (h1 : 10 ^ A ≤ D * 10 ^ e) (h2 : D * 10 ^ e < 10 ^ B) : A < (Lib.decDigits D).length + e ∧ (Lib.decDigits D).length + e ≤ B := by
  obtain ⟨l1, l2⟩ := dd_rngc h
  have hp := dd_posc D
  constructor
  · refine ten_ltc (Nat.lt_of_le_of_lt h1 ?_)
    rw [Nat.pow_add]
    exact Nat.mul_lt_mul_of_pos_right l2 (Nat.pow_pos (by omega))
  · have : (Lib.decDigits D).length - 1 + e < B := by
      refine ten_ltc (Nat.lt_of_le_of_lt ?_ h2)
      rw [Nat.pow_add]
      exact Nat.mul_le_mul_right _ l1
    omega
/-- A number of twos as digits and a power of ten. -/
structure Qd (a : Nat) (e : Int) (n : Nat) (k : Int) : Prop where
  lok : Lok n k
  eq : ys n k k = ys a e 0
  lo : -1200 ≤ k
  len : (dgs n).length ≤ 1990
  rng : -1000 < ((dgs n).length : Int) + k ∧ ((dgs n).length : Int) + k ≤ 1000
theorem c_2048 : (2 : Nat) ^ 2048 ≤ 10 ^ 617 := by decide +kernel
theorem c_3248 : (2 : Nat) ^ 3248 ≤ 10 ^ 978 := by decide +kernel
theorem c_5_1000 : (10 : Nat) ^ 698 ≤ 5 ^ 1000 := by decide +kernel
theorem c_5_1200 : (5 : Nat) ^ 1200 ≤ 10 ^ 839 := by decide +kernel
theorem up_lt {x a E p q r b : Nat} (hx : 0 < x) (h : a < x ^ p) (hE : E ≤ q) (hr : p + q = r) (hb : x ^ r ≤ b) : a * x ^ E < b := by
  have e1 : x ^ E ≤ x ^ q := Nat.pow_le_pow_right hx hE
  refine Nat.lt_of_lt_of_le (Nat.mul_lt_mul_of_pos_right h (Nat.pow_pos hx)) (Nat.le_trans (Nat.mul_le_mul_left _ e1) ?_)
  rw [← Nat.pow_add, hr]; exact hb
theorem tens_lt {a b p q r : Nat} (h : a < 10 ^ p) (h0 : 0 < b) (hb : b ≤ 10 ^ q) (hr : p + q = r) : a * b < 10 ^ r := by
  rw [← hr, Nat.pow_add]
  exact Nat.lt_of_lt_of_le (Nat.mul_lt_mul_of_pos_right h h0) (Nat.mul_le_mul_left _ hb)
theorem up978 : ∀ (a E : Nat), a < 2 ^ 2048 → E ≤ 1200 → a * 2 ^ E < 10 ^ 978 := by
  have hc := c_3248
  have hr : 2048 + 1200 = 3248 := rfl
  revert hc hr
  generalize 2048 = p
  generalize 1200 = q
  generalize 3248 = r
  generalize 978 = t
  intro hc hr a E h hE
  exact up_lt (by decide) h hE hr hc
theorem down1456 : ∀ (a E : Nat), a < 2 ^ 2048 → E ≤ 1200 → a * 5 ^ E < 10 ^ 1456 ∧ a * 5 ^ E < 10 ^ (617 + E) := by
  have hc := c_2048
  have hd := c_5_1200
  have hr : 617 + 839 = 1456 := rfl
  revert hc hd hr
  generalize 2048 = p
  generalize 1200 = q
  generalize 617 = s
  generalize 839 = t
  generalize 1456 = r
  intro hc hd hr a E h hE
  have ha := Nat.lt_of_lt_of_le h hc
  exact ⟨tens_lt ha (Nat.pow_pos (by decide)) (Nat.le_trans (Nat.pow_le_pow_right (by decide) hE) hd) hr, tens_lt ha (Nat.pow_pos (by decide)) (Nat.pow_le_pow_left (by decide) E) rfl⟩
theorem low698 : ∀ (a E : Nat), 0 < a → 1000 ≤ E → 10 ^ 698 ≤ a * 5 ^ E := by
  have hc := c_5_1000
  revert hc
  generalize 1000 = p
  generalize 698 = q
  intro hc a E h hE
  exact Nat.le_trans hc (Nat.le_trans (Nat.pow_le_pow_right (by decide) hE) (Nat.le_mul_of_pos_left _ h))
theorem dgs_pos {n : Nat} (h : n ≠ 0) : dgs n = Lib.decDigits n := if_neg h
theorem qd_zero (e : Int) : Qd 0 e 0 0 := ⟨.inl ⟨rfl, rfl⟩, by rw [ys_zero.2 rfl, ys_zero.2 rfl], by omega, by decide, by decide⟩
theorem qd_up {a E : Nat} (a0 : a ≠ 0) (ha : a < 2 ^ 2048) (hE : E ≤ 1200) : ∃ n k, Qd a (E : Int) n k := by
  have h1 : 0 < a * 2 ^ E := Nat.mul_pos (by omega) (Nat.two_pow_pos E)
  obtain ⟨D, j, h2, h3⟩ := ys_strip (a * 2 ^ E) (a * 2 ^ E) (Nat.le_refl _) h1
  have D0 : D ≠ 0 := by omega
  have hlt := up978 a E ha hE
  rw [← h3] at hlt
  obtain ⟨_, l2⟩ := len_rngc (A := 0) (B := 978) D0 (by rw [Nat.pow_zero]; exact Nat.mul_pos (by omega) (Nat.pow_pos (by decide))) hlt
  have hp := dd_posc D
  refine ⟨D, (j : Int), .inr ⟨D0, h2⟩, ?_, by omega, by rw [dgs_pos D0]; omega, by rw [dgs_pos D0]; omega⟩
  have e1 := ys_tens D j 0 (by omega)
  rw [h3, Int.zero_add] at e1
  rw [← e1, ys_two a E 0 (by omega), Int.zero_add]
theorem qd_down {a E : Nat} (a0 : a ≠ 0) (ha : a < 2 ^ 2048) (hE : E ≤ 1200) : ∃ n k, Qd a (-(E : Int)) n k := by
  have h1 : 0 < a * 5 ^ E := Nat.mul_pos (by omega) (Nat.pow_pos (by decide))
  obtain ⟨D, j, h2, h3⟩ := ys_strip (a * 5 ^ E) (a * 5 ^ E) (Nat.le_refl _) h1
  have D0 : D ≠ 0 := by omega
  have hp := dd_posc D
  obtain ⟨up2, up1⟩ := down1456 a E ha hE
  rw [← h3] at up1 up2
  obtain ⟨_, l2⟩ := len_rngc (A := 0) (B := 617 + E) D0 (by rw [Nat.pow_zero]; exact Nat.mul_pos (by omega) (Nat.pow_pos (by decide))) up1
  obtain ⟨_, l3⟩ := len_rngc (A := 0) (B := 1456) D0 (by rw [Nat.pow_zero]; exact Nat.mul_pos (by omega) (Nat.pow_pos (by decide))) up2
  have low : E < 1000 ∨ 698 < (Lib.decDigits D).length + j := by
    by_cases h : E < 1000
    · exact .inl h
    · refine .inr (len_rngc (A := 698) (B := 1456) D0 ?_ up2).1
      rw [h3]
      exact low698 a E (by omega) (by omega)
  refine ⟨D, -(E : Int) + j, .inr ⟨D0, h2⟩, ?_, by omega, by rw [dgs_pos D0]; omega, by rw [dgs_pos D0]; omega⟩
  rw [← ys_tens D j (-(E : Int)) (by omega), h3, ys_five a E (by omega)]
theorem qd_ex {a : Nat} {e : Int} (ha : a < 2 ^ 2048) (he : -1200 ≤ e ∧ e ≤ 1200) : ∃ n k, Qd a e n k := by
  rcases Nat.eq_zero_or_pos a with rfl | h0
  · exact ⟨0, 0, qd_zero e⟩
  · by_cases h : 0 ≤ e
    · obtain ⟨E, rfl⟩ : ∃ E : Nat, e = E := ⟨e.toNat, by omega⟩
      exact qd_up (by omega) ha (by omega)
    · obtain ⟨E, rfl⟩ : ∃ E : Nat, e = -(E : Int) := ⟨(-e).toNat, by omega⟩
      exact qd_down (by omega) ha (by omega)
theorem qd_uniq {a : Nat} {e : Int} {n n' : Nat} {k k' : Int} (h : Qd a e n k) (h' : Qd a e n' k') : n = n' ∧ k = k' := by
  have hk := h.lo
  have hk' := h'.lo
  have e1 := h.eq.trans h'.eq.symm
  rcases h.lok with ⟨a1, a2⟩ | ⟨a1, a2⟩ <;> rcases h'.lok with ⟨b1, b2⟩ | ⟨b1, b2⟩
  · exact ⟨a1.trans b1.symm, a2.trans b2.symm⟩
  · rw [a1, ys_zero.2 rfl] at e1
    exact absurd (ys_zero.1 e1.symm) b1
  · rw [b1, ys_zero.2 rfl] at e1
    exact absurd (ys_zero.1 e1) a1
  · exact ys_uniq (by omega) (by omega) a2 b2 e1
/-- What Text comes to. -/
def Qt (neg : Bool) (a : Nat) (e : Int) (l : List UInt8) (x : Int) : Prop :=
  (¬ (a < 2 ^ 2048 ∧ -1200 ≤ e ∧ e ≤ 1200) ∧ l = [] ∧ x = 1) ∨
  ((a < 2 ^ 2048 ∧ -1200 ≤ e ∧ e ≤ 1200) ∧ x = 0 ∧ ∃ n k, Qd a e n k ∧ l = qp (neg && decide (a ≠ 0)) n k)
theorem qt_ex (neg : Bool) (a : Nat) (e : Int) : ∃ l x, Qt neg a e l x := by
  by_cases h : a < 2 ^ 2048 ∧ -1200 ≤ e ∧ e ≤ 1200
  · obtain ⟨n, k, hq⟩ := qd_ex h.1 h.2
    exact ⟨_, 0, .inr ⟨h, rfl, n, k, hq, rfl⟩⟩
  · exact ⟨_, _, .inl ⟨h, rfl, rfl⟩⟩
theorem qt_uniq {neg : Bool} {a : Nat} {e : Int} {l l' : List UInt8} {x x' : Int} (h : Qt neg a e l x) (h' : Qt neg a e l' x') : l = l' ∧ x = x' := by
  rcases h with ⟨h1, h2, h3⟩ | ⟨h1, h2, n, k, h3, h4⟩ <;> rcases h' with ⟨g1, g2, g3⟩ | ⟨g1, g2, n', k', g3, g4⟩
  · exact ⟨h2.trans g2.symm, h3.trans g3.symm⟩
  · exact absurd g1 h1
  · exact absurd h1 g1
  · obtain ⟨rfl, rfl⟩ := qd_uniq h3 g3
    exact ⟨h4.trans g4.symm, h2.trans g2.symm⟩
end M
end Go.Proofs.YtjmnobgllnaljaaGreatDoor
