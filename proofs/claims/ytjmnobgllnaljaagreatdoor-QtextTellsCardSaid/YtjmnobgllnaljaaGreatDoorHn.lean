/-
  How digits are written, and that what is written is read as the same digits. No program is named here.
-/
import Derived.Test.YtjmnobgllnaljaaGreatDoorSn2
namespace Go.Proofs.YtjmnobgllnaljaaGreatDoor
open Go

namespace M
/-- A sign; a whole number as text. -/
def sgt (b : Bool) : List UInt8 := if b = true then [45] else []
def ntx (z : Int) : List UInt8 := sgt (decide (z < 0)) ++ Lib.decDigits z.natAbs
/-- Is the point too far off? -/
def lfar (p : Int) : Prop := 21 < p ∨ p < -5
instance (p : Int) : Decidable (lfar p) := by unfold lfar; infer_instance
/-- The text of digits with a power. -/
def lyb (S : List UInt8) (k : Int) : List UInt8 :=
  if lfar (S.length + k) then S.take 1 ++ ((if 1 < S.length then 46 :: S.drop 1 else []) ++ (101 :: ntx (S.length + k - 1)))
  else if (S.length : Int) + k ≤ 0 then 48 :: 46 :: (List.replicate (-((S.length : Int) + k)).toNat 48 ++ S)
  else if 0 ≤ k then S ++ List.replicate k.toNat 48
  else S.take ((S.length : Int) + k).toNat ++ (46 :: S.drop ((S.length : Int) + k).toNat)
/-- The digits of a number; none of 0. -/
def dgs (n : Nat) : List UInt8 := if n = 0 then [] else Lib.decDigits n
def ly (neg : Bool) (n : Nat) (k : Int) : List UInt8 := sgt neg ++ (if n = 0 then [48] else lyb (Lib.decDigits n) k)

/-- Digits without noughts at both ends. -/
structure Cl (S : List UInt8) : Prop where
  all : allD S = true
  ne : S ≠ []
  hd : S.headD 0 ≠ 48
  tl : S.getLast? ≠ some 48
theorem Cl.lz {S : List UInt8} (h : Cl S) : lz S = S := by
  cases S with
  | nil => rfl
  | cons c r => rw [lz_cons, if_neg (fun e => h.hd (by simp [e]))]
theorem Cl.tz {S : List UInt8} (h : Cl S) : tz S = S := by
  have h1 := h.tl
  have h2 := h.ne
  obtain ⟨b, c, rfl⟩ : ∃ b c, S = b ++ [c] := ⟨S.dropLast, S.getLast h2, (List.dropLast_concat_getLast h2).symm⟩
  unfold M.tz
  rw [List.reverse_append]
  show (M.lz (c :: b.reverse)).reverse = _
  rw [lz_cons, if_neg (fun e => h1 (by simp [e]))]
  simp
theorem Cl.pos {S : List UInt8} (h : Cl S) : 0 < S.length := List.length_pos_iff.2 h.ne
theorem cl_dec {n : Nat} (h0 : n ≠ 0) (h : n % 10 ≠ 0) : Cl (Lib.decDigits n) := by
  obtain ⟨k1, k2, k3, k4⟩ := dd_all n n (Nat.le_refl _)
  refine ⟨k1, k3, ?_, ?_⟩
  · rcases k4 with k4 | k4
    · exact k4
    · rw [k4] at k2
      exact absurd k2.symm h0
  · obtain ⟨b, c, e⟩ : ∃ b c, Lib.decDigits n = b ++ [c] := ⟨_, (Lib.decDigits n).getLast k3, (List.dropLast_concat_getLast k3).symm⟩
    rw [e, List.getLast?_concat]
    intro e2
    have hc : c = 48 := Option.some.inj e2
    rw [e, vsa_snoc, hc] at k2
    have : ((48 : UInt8).toNat - 48) = 0 := rfl
    rw [this] at k2
    omega
theorem ntx_dn (z : Int) : (sgt (decide (z < 0)) = [] ∨ sgt (decide (z < 0)) = [43] ∨ sgt (decide (z < 0)) = [45]) ∧ decide (sgt (decide (z < 0)) = [45]) = decide (z < 0) := by
  by_cases h : z < 0 <;> simp [sgt, h]
theorem pwr_x (st : Nat) (ng : Bool) (ds : List UInt8) (bh : Nat) (z : Int) : pwr ⟨st, ng, ds, bh, decide (z < 0), Lib.decDigits z.natAbs⟩ = z := by
  unfold pwr
  have e := (dd_all _ z.natAbs (Nat.le_refl _)).2.1
  show (if decide (z < 0) = true then -(vsa 0 (Lib.decDigits z.natAbs) : Int) else _) = _
  rw [e]
  by_cases h : z < 0
  · rw [if_pos (by simp [h])]; omega
  · rw [if_neg (by simp [h])]; omega
theorem pwr_nil (st : Nat) (ng : Bool) (ds : List UInt8) (bh : Nat) : pwr ⟨st, ng, ds, bh, false, []⟩ = 0 := rfl

/-- What is written, as the reading of texts has it. -/
structure Rdl (S : List UInt8) (k : Int) (x : Sc) : Prop where
  st : x.st < 10
  ds : ∃ m j : Nat, x.ds = List.replicate m 48 ++ (S ++ List.replicate j 48) ∧ pwr x - x.bh = k - j
theorem allD_take {S : List UInt8} (h : allD S = true) (n : Nat) : allD (S.take n) = true ∧ allD (S.drop n) = true := by
  have := h
  rw [← List.take_append_drop n S, allD_append, Bool.and_eq_true] at this
  exact this
theorem lyb_scan {S : List UInt8} (h : Cl S) (k : Int) : ∃ x, scan (lyb S k) = .ok x ∧ x.neg = false ∧ Rdl S k x := by
  have hp := h.pos
  unfold lyb
  by_cases h1 : lfar (S.length + k)
  · rw [if_pos h1]
    obtain ⟨a1, a2⟩ := allD_take h.all 1
    obtain ⟨z1, z2⟩ := ntx_dn (S.length + k - 1)
    obtain ⟨d1, _, d3, _⟩ := dd_all _ (S.length + k - 1 : Int).natAbs (Nat.le_refl _)
    have hne : S.take 1 ≠ [] := by
      intro e
      have := congrArg List.length e
      rw [List.length_take, List.length_nil] at this
      omega
    by_cases h2 : 1 < S.length
    · rw [if_pos h2]
      have e := scan_point (S.take 1) (S.drop 1) 101 (sgt (decide ((S.length + k - 1 : Int) < 0))) (Lib.decDigits (S.length + k - 1 : Int).natAbs) a1 a2 (.inl hne) (.inl rfl) z1 d1 d3
      refine ⟨_, e, rfl, ⟨by show 8 < 10; omega, 0, 0, by show S.take 1 ++ S.drop 1 = _; rw [List.take_append_drop]; simp, ?_⟩⟩
      rw [z2, pwr_x]
      show (S.length : Int) + k - 1 - ((S.drop 1).length : Int) = _
      rw [List.length_drop]
      omega
    · rw [if_neg h2]
      have e := scan_plain (S.take 1) 101 (sgt (decide ((S.length + k - 1 : Int) < 0))) (Lib.decDigits (S.length + k - 1 : Int).natAbs) a1 hne (.inl rfl) z1 d1 d3
      refine ⟨_, e, rfl, ⟨by show 8 < 10; omega, 0, 0, ?_, ?_⟩⟩
      · simp only [List.replicate_zero, List.append_nil, List.nil_append]
        exact List.take_of_length_le (by omega)
      · rw [z2, pwr_x]
        show (S.length : Int) + k - 1 - ((0 : Nat) : Int) = _
        omega
  · rw [if_neg h1]
    by_cases h2 : (S.length : Int) + k ≤ 0
    · rw [if_pos h2]
      generalize hm : (-((S.length : Int) + k)).toNat = m
      have hf : allD (List.replicate m 48 ++ S) = true := by rw [allD_append, allD_noughts, h.all]; rfl
      have hf0 : List.replicate m 48 ++ S ≠ [] := by simp [h.ne]
      have e : scan (48 :: 46 :: (List.replicate m 48 ++ S)) = .ok ⟨5, false, [48] ++ (List.replicate m 48 ++ S), (List.replicate m 48 ++ S).length, false, []⟩ := by
        have e1 := scf_whole [48] (46 :: (List.replicate m 48 ++ S)) sc0 0 rfl (by simp) (by show 0 ≤ 2; omega)
        have e2 := scf_frac (List.replicate m 48 ++ S) [] ⟨3, false, [48], 0, false, []⟩ 2 hf hf0 (by show 3 ≤ 3; omega) (by show 3 ≤ 5; omega)
        rw [List.append_nil] at e2
        show scf sc0 0 ([48] ++ 46 :: _) = _
        rw [e1, scf, if_neg (by show nx 2 (46 : UInt8).toNat ≠ 99; decide)]
        show scf ⟨3, false, [48], 0, false, []⟩ 2 _ = _
        rw [e2, scf, if_pos (by rfl)]
        simp
      refine ⟨_, e, rfl, ⟨by show 5 < 10; omega, m + 1, 0, ?_, ?_⟩⟩
      · show [48] ++ (List.replicate m 48 ++ S) = _
        rw [List.replicate_succ]
        simp
      · rw [pwr_nil]
        show 0 - ((List.replicate m 48 ++ S).length : Int) = _
        rw [List.length_append, List.length_replicate]
        omega
    · rw [if_neg h2]
      by_cases h3 : 0 ≤ k
      · rw [if_pos h3]
        have hf : allD (S ++ List.replicate k.toNat 48) = true := by rw [allD_append, allD_noughts, h.all]; rfl
        have e : scan (S ++ List.replicate k.toNat 48) = .ok ⟨2, false, S ++ List.replicate k.toNat 48, 0, false, []⟩ := by
          have e1 := scf_whole (S ++ List.replicate k.toNat 48) [] sc0 0 hf (by simp [h.ne]) (by show 0 ≤ 2; omega)
          rw [List.append_nil] at e1
          rw [scan, e1, scf, if_pos (by rfl)]
          rfl
        refine ⟨_, e, rfl, ⟨by show 2 < 10; omega, 0, k.toNat, by simp, ?_⟩⟩
        rw [pwr_nil]
        show 0 - ((0 : Nat) : Int) = _
        omega
      · rw [if_neg h3]
        generalize hq : ((S.length : Int) + k).toNat = q
        obtain ⟨a1, a2⟩ := allD_take h.all q
        have hq1 : 0 < q ∧ q < S.length := by omega
        have n1 : S.take q ≠ [] := by
          intro e
          have := congrArg List.length e
          rw [List.length_take, List.length_nil] at this
          omega
        have n2 : S.drop q ≠ [] := by
          intro e
          have := congrArg List.length e
          rw [List.length_drop, List.length_nil] at this
          omega
        have e : scan (S.take q ++ (46 :: S.drop q)) = .ok ⟨5, false, S.take q ++ S.drop q, (S.drop q).length, false, []⟩ := by
          have e1 := scf_whole (S.take q) (46 :: S.drop q) sc0 0 a1 n1 (by show 0 ≤ 2; omega)
          have e2 := scf_frac (S.drop q) [] ⟨3, false, S.take q, 0, false, []⟩ (0 + (S.take q).length + 1) a2 n2 (by show 3 ≤ 3; omega) (by show 3 ≤ 5; omega)
          rw [List.append_nil] at e2
          rw [scan, e1, scf, if_neg (by show nx 2 (46 : UInt8).toNat ≠ 99; decide)]
          show scf ⟨3, false, S.take q, 0, false, []⟩ _ _ = _
          rw [e2, scf, if_pos (by rfl)]
          simp
        refine ⟨_, e, rfl, ⟨by show 5 < 10; omega, 0, 0, by simp, ?_⟩⟩
        rw [pwr_nil]
        show 0 - ((S.drop q).length : Int) = _
        rw [List.length_drop]
        omega
/-- A number's digits, as they may be written: none with a power; no nought at the end. -/
def Lok (n : Nat) (k : Int) : Prop := (n = 0 ∧ k = 0) ∨ (n ≠ 0 ∧ n % 10 ≠ 0)
theorem head_dec (n : Nat) : (Lib.decDigits n).headD 0 ≠ 45 := by
  obtain ⟨k1, _, k3, _⟩ := dd_all n n (Nat.le_refl _)
  intro e
  cases hl : Lib.decDigits n with
  | nil => exact k3 hl
  | cons c r =>
    rw [hl] at k1 e
    simp only [allD, List.all_cons, Bool.and_eq_true] at k1
    have := (isD_iff c).1 k1.1
    have e2 : c = 45 := e
    rw [e2] at this
    have : (45 : UInt8).toNat = 45 := rfl
    omega
theorem head_lyb {S : List UInt8} (h : Cl S) (k : Int) : (lyb S k).headD 0 ≠ 45 := by
  have hs : ∀ r, (S ++ r).headD 0 ≠ 45 ∧ (∀ n, 0 < n → (S.take n ++ r).headD 0 ≠ 45) := by
    intro r
    cases hl : S with
    | nil => exact absurd hl h.ne
    | cons c t =>
      have k1 := h.all
      rw [hl] at k1
      simp only [allD, List.all_cons, Bool.and_eq_true] at k1
      have k2 := (isD_iff c).1 k1.1
      have hc : c ≠ 45 := by
        intro e2
        rw [e2] at k2
        have : (45 : UInt8).toNat = 45 := rfl
        omega
      refine ⟨hc, fun n hn => ?_⟩
      cases n with
      | zero => omega
      | succ n => exact hc
  have hp := h.pos
  unfold lyb
  split
  · exact (hs _).2 1 (by omega)
  · split
    · show (48 : UInt8) ≠ 45; decide
    · split
      · exact (hs _).1
      · exact (hs _).2 _ (by omega)
theorem ly_scan {n : Nat} {k : Int} (h : Lok n k) (neg : Bool) : ∃ x, scan (ly neg n k) = .ok x ∧ x.neg = neg ∧ Rdl (dgs n) k x := by
  have key : ∃ x, scan (if n = 0 then [48] else lyb (Lib.decDigits n) k) = .ok x ∧ x.neg = false ∧ Rdl (dgs n) k x := by
    unfold dgs
    rcases h with ⟨h1, h2⟩ | ⟨h1, h2⟩
    · rw [if_pos h1, if_pos h1, h2]
      exact ⟨⟨2, false, [48], 0, false, []⟩, rfl, rfl, ⟨by show 2 < 10; omega, 1, 0, rfl, rfl⟩⟩
    · rw [if_neg h1, if_neg h1]
      exact lyb_scan (cl_dec h1 h2) k
  obtain ⟨x, e1, e2, e3⟩ := key
  cases neg with
  | false => exact ⟨x, e1, e2, e3⟩
  | true =>
    have hh : (if n = 0 then [48] else lyb (Lib.decDigits n) k).headD 0 ≠ 45 := by
      rcases h with ⟨h1, _⟩ | ⟨h1, h2⟩
      · rw [if_pos h1]; show (48 : UInt8) ≠ 45; decide
      · rw [if_neg h1]; exact head_lyb (cl_dec h1 h2) k
    have e := scan_sign _ (.inl hh)
    rw [e1] at e
    exact ⟨_, e, rfl, ⟨e3.st, e3.ds⟩⟩
/-- What is read of it. -/
theorem Rdl.num {S : List UInt8} {k : Int} {x : Sc} (h : Rdl S k x) : num x.ds (pwr x - x.bh) = num S k := by
  obtain ⟨m, j, e1, e2⟩ := h.ds
  rw [e1, e2, num_shift]
theorem cl_dgs {n : Nat} {k : Int} (h : Lok n k) : dgs n = [] ∧ n = 0 ∧ k = 0 ∨ Cl (dgs n) ∧ n ≠ 0 := by
  unfold dgs
  rcases h with ⟨h1, h2⟩ | ⟨h1, h2⟩
  · exact .inl ⟨if_pos h1, h1, h2⟩
  · rw [if_neg h1]; exact .inr ⟨cl_dec h1 h2, h1⟩
theorem Rdl.tl {S : List UInt8} {k : Int} {x : Sc} (h : Rdl S k x) (hS : Cl S) : tz (lz x.ds) = S ∧ pwr x - x.bh + ((lz x.ds).length : Int) = k + S.length := by
  obtain ⟨m, j, e1, e2⟩ := h.ds
  have e3 : lz x.ds = S ++ List.replicate j 48 := by
    rw [e1, lz_noughts, lz_append _ _ (by rw [hS.lz]; exact hS.ne), hS.lz]
  rw [e3, tz_noughts, hS.tz]
  refine ⟨rfl, ?_⟩
  rw [e2, List.length_append, List.length_replicate]
  omega
theorem Rdl.tl0 {k : Int} {x : Sc} (h : Rdl [] k x) : tz (lz x.ds) = [] := by
  obtain ⟨m, j, e1, _⟩ := h.ds
  rw [e1, lz_noughts, List.nil_append]
  have e := lz_noughts j []
  rw [List.append_nil] at e
  rw [e]
  rfl
theorem vsa_dgs (n : Nat) : vsa 0 (dgs n) = n := by
  unfold dgs
  split
  · rename_i h; rw [h]; rfl
  · exact (dd_all n n (Nat.le_refl _)).2.1
/-- Each text is of one number's digits alone. -/
theorem ly_inj {a b : Bool} {n m : Nat} {k j : Int} (h1 : Lok n k) (h2 : Lok m j) (e : ly a n k = ly b m j) : a = b ∧ n = m ∧ k = j := by
  obtain ⟨x, x1, x2, x3⟩ := ly_scan h1 a
  obtain ⟨y, y1, y2, y3⟩ := ly_scan h2 b
  rw [e, y1] at x1
  obtain rfl : y = x := Except.ok.inj x1
  refine ⟨x2.symm.trans y2, ?_⟩
  rcases cl_dgs h1 with ⟨p1, p2, p3⟩ | ⟨p1, p2⟩ <;> rcases cl_dgs h2 with ⟨q1, q2, q3⟩ | ⟨q1, q2⟩
  · exact ⟨p2.trans q2.symm, p3.trans q3.symm⟩
  · rw [p1] at x3
    have := (y3.tl q1).1
    rw [x3.tl0] at this
    exact absurd this.symm q1.ne
  · rw [q1] at y3
    have := (x3.tl p1).1
    rw [y3.tl0] at this
    exact absurd this.symm p1.ne
  · obtain ⟨u1, u2⟩ := x3.tl p1
    obtain ⟨v1, v2⟩ := y3.tl q1
    rw [v1] at u1
    rw [v2, u1] at u2
    refine ⟨?_, by omega⟩
    rw [← vsa_dgs n, ← vsa_dgs m, u1]
/-- What Scan tells of it. -/
theorem num_ly {n : Nat} {k : Int} (h : Lok n k) (hl : (dgs n).length ≤ 1990) (hk : -1000 < ((dgs n).length : Int) + k ∧ ((dgs n).length : Int) + k ≤ 1000) : num (dgs n) k = ⟨n, k, 0, false⟩ := by
  rcases cl_dgs h with ⟨p1, p2, p3⟩ | ⟨p1, p2⟩
  · rw [p1, p2, p3]; rfl
  · unfold M.num nm
    rw [p1.lz, p1.tz, if_neg p1.ne, if_neg (by omega), if_neg (by omega), if_neg (by omega), vsa_dgs]
    congr 1
    omega

/-! Points and e's. -/
theorem count_dig {S : List UInt8} (h : allD S = true) : S.count 46 = 0 ∧ S.count 101 = 0 := by
  constructor <;> refine List.count_eq_zero.2 fun hm => ?_
  · have := (isD_iff _).1 (List.all_eq_true.1 h _ hm)
    have e : (46 : UInt8).toNat = 46 := rfl
    omega
  · have := (isD_iff _).1 (List.all_eq_true.1 h _ hm)
    have e : (101 : UInt8).toNat = 101 := rfl
    omega
theorem count_ntx (z : Int) : (ntx z).count 46 = 0 ∧ (ntx z).count 101 = 0 := by
  obtain ⟨c1, c2⟩ := count_dig (dd_all _ z.natAbs (Nat.le_refl _)).1
  unfold ntx sgt
  split <;> simp [c1, c2]
theorem lyb_counts {S : List UInt8} (h : Cl S) (k : Int) :
    (lyb S k).count 101 = (if lfar (S.length + k) then 1 else 0) ∧ (lyb S k).count 46 = (if lfar (S.length + k) ∧ 1 < S.length ∨ ¬ lfar (S.length + k) ∧ k < 0 then 1 else 0) := by
  have hp := h.pos
  obtain ⟨c1, c2⟩ := count_dig h.all
  obtain ⟨t1, t2⟩ := count_dig (allD_take h.all 1).1
  obtain ⟨u1, u2⟩ := count_dig (allD_take h.all 1).2
  unfold lyb
  by_cases h1 : lfar (S.length + k)
  · simp only [h1, if_true, true_and, not_true, false_and, or_false]
    obtain ⟨z1, z2⟩ := count_ntx (S.length + k - 1)
    by_cases h2 : 1 < S.length
    · simp only [if_pos h2, List.count_append, List.count_cons, t1, t2, u1, u2, z1, z2]
      constructor <;> rfl
    · simp only [if_neg h2, List.count_append, List.count_cons, List.count_nil, t1, t2, z1, z2]
      constructor <;> rfl
  · simp only [h1, if_false, false_and, not_false_iff, true_and, false_or]
    by_cases h2 : (S.length : Int) + k ≤ 0
    · rw [if_pos h2, if_pos (show k < 0 by omega)]
      obtain ⟨n1, n2⟩ := count_dig (allD_noughts (-((S.length : Int) + k)).toNat)
      simp only [List.count_append, List.count_cons, n1, n2, c1, c2]
      constructor <;> rfl
    · rw [if_neg h2]
      by_cases h3 : 0 ≤ k
      · rw [if_pos h3, if_neg (show ¬ k < 0 by omega)]
        obtain ⟨n1, n2⟩ := count_dig (allD_noughts k.toNat)
        simp only [List.count_append, n1, n2, c1, c2]
        constructor <;> trivial
      · rw [if_neg h3, if_pos (show k < 0 by omega)]
        obtain ⟨d1, d2⟩ := allD_take h.all ((S.length : Int) + k).toNat
        obtain ⟨n1, n2⟩ := count_dig d1
        obtain ⟨m1, m2⟩ := count_dig d2
        simp only [List.count_append, List.count_cons, n1, n2, m1, m2]
        constructor <;> rfl
end M
end Go.Proofs.YtjmnobgllnaljaaGreatDoor
