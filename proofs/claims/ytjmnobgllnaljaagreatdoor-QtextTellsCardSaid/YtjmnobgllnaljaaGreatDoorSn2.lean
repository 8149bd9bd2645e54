/-
  What digits and a power say; signs, places and words of texts. No program is named here.
-/
import Derived.Test.YtjmnobgllnaljaaGreatDoorSn
namespace Go.Proofs.YtjmnobgllnaljaaGreatDoor
open Go

namespace M
/-- Without the noughts ahead; without those at the end. -/
def lz (l : List UInt8) : List UInt8 := l.dropWhile (· == 48)
def tz (l : List UInt8) : List UInt8 := (lz l.reverse).reverse
theorem lz_nil : lz [] = [] := rfl
theorem lz_cons (c : UInt8) (l : List UInt8) : lz (c :: l) = if c = 48 then lz l else c :: l := by
  unfold lz
  by_cases h : c = 48
  · rw [if_pos h, List.dropWhile_cons_of_pos (by simp [h])]
  · rw [if_neg h, List.dropWhile_cons_of_neg (by simp [h])]
theorem lz_noughts (n : Nat) (l : List UInt8) : lz (List.replicate n 48 ++ l) = lz l := by
  induction n with
  | zero => rfl
  | succ n ih => rw [List.replicate_succ, List.cons_append, lz_cons, if_pos rfl, ih]
theorem lz_split (l : List UInt8) : ∃ n, l = List.replicate n 48 ++ lz l := by
  induction l with
  | nil => exact ⟨0, rfl⟩
  | cons c t ih =>
    rw [lz_cons]
    by_cases h : c = 48
    · rw [if_pos h]
      obtain ⟨n, hn⟩ := ih
      refine ⟨n + 1, ?_⟩
      rw [List.replicate_succ, List.cons_append, ← hn, h]
    · rw [if_neg h]; exact ⟨0, rfl⟩
theorem lz_head (l : List UInt8) : lz l = [] ∨ (lz l).headD 0 ≠ 48 := by
  induction l with
  | nil => exact .inl rfl
  | cons c t ih =>
    rw [lz_cons]
    by_cases h : c = 48
    · rw [if_pos h]; exact ih
    · rw [if_neg h]; exact .inr h
theorem lz_len (l : List UInt8) : (lz l).length ≤ l.length := by
  obtain ⟨n, hn⟩ := lz_split l
  have := congrArg List.length hn
  rw [List.length_append] at this
  omega
theorem lz_append (l r : List UInt8) (h : lz l ≠ []) : lz (l ++ r) = lz l ++ r := by
  induction l with
  | nil => exact absurd rfl h
  | cons c t ih =>
    rw [List.cons_append, lz_cons, lz_cons]
    rw [lz_cons] at h
    by_cases hc : c = 48
    · rw [if_pos hc] at h ⊢
      rw [if_pos hc, ih h]
    · rw [if_neg hc, if_neg hc, List.cons_append]
theorem lz_none (l r : List UInt8) (h : lz l = []) : lz (l ++ r) = lz r := by
  obtain ⟨n, hn⟩ := lz_split l
  rw [h, List.append_nil] at hn
  rw [hn, lz_noughts]
theorem tz_noughts (n : Nat) (l : List UInt8) : tz (l ++ List.replicate n 48) = tz l := by
  unfold tz
  rw [List.reverse_append, List.reverse_replicate, lz_noughts]
theorem tz_split (l : List UInt8) : ∃ n, l = tz l ++ List.replicate n 48 := by
  obtain ⟨n, hn⟩ := lz_split l.reverse
  refine ⟨n, ?_⟩
  have := congrArg List.reverse hn
  rw [List.reverse_reverse, List.reverse_append, List.reverse_replicate] at this
  exact this
theorem tz_len (l : List UInt8) : (tz l).length ≤ l.length := by
  unfold tz
  rw [List.length_reverse]
  exact Nat.le_trans (lz_len _) (by rw [List.length_reverse]; exact Nat.le_refl _)
theorem tz_last (l : List UInt8) : tz l = [] ∨ (tz l).getLast? ≠ some 48 := by
  unfold tz
  rcases lz_head l.reverse with h | h
  · left; rw [h]; rfl
  · right
    rw [List.getLast?_reverse]
    cases hl : lz l.reverse with
    | nil => simp
    | cons c t =>
      rw [hl] at h
      intro e
      simp at e h
      exact h e
theorem tz_head (l : List UInt8) (h : l = [] ∨ l.headD 0 ≠ 48) : tz l = [] ∧ l = [] ∨ tz l ≠ [] ∧ (tz l).headD 0 ≠ 48 := by
  obtain ⟨n, hn⟩ := tz_split l
  cases ht : tz l with
  | nil =>
    left
    refine ⟨rfl, ?_⟩
    rw [ht, List.nil_append] at hn
    rcases h with h | h
    · exact h
    · cases n with
      | zero => exact hn
      | succ n => rw [hn, List.replicate_succ] at h; exact absurd rfl h
  | cons c t =>
    right
    refine ⟨by simp, ?_⟩
    rcases h with h | h
    · rw [h] at ht; cases ht
    · rw [hn, ht] at h
      exact h
theorem allD_left {a b : List UInt8} (h : allD (a ++ b) = true) : allD a = true := by rw [allD_append, Bool.and_eq_true] at h; exact h.1
theorem allD_right {a b : List UInt8} (h : allD (a ++ b) = true) : allD b = true := by rw [allD_append, Bool.and_eq_true] at h; exact h.2
theorem lz_allD {l : List UInt8} (h : allD l = true) : allD (lz l) = true := by
  obtain ⟨n, hn⟩ := lz_split l
  rw [hn] at h
  exact allD_right h
theorem tz_allD {l : List UInt8} (h : allD l = true) : allD (tz l) = true := by
  obtain ⟨n, hn⟩ := tz_split l
  rw [hn] at h
  exact allD_left h
theorem allD_noughts (n : Nat) : allD (List.replicate n 48) = true := by
  induction n with
  | zero => rfl
  | succ n ih =>
    rw [List.replicate_succ]
    show (isD 48 && allD (List.replicate n 48)) = true
    rw [ih]; rfl

/-- What digits and a power come to. -/
structure Nm where
  d : Nat
  k : Int
  big : Int
  cut : Bool
/-- d: the digits without noughts at both ends; t: the power of ten behind the first of them. -/
def nm (d : List UInt8) (t : Int) : Nm :=
  if d = [] then ⟨0, 0, 0, false⟩
  else if 1000 < t then ⟨0, 0, 1, false⟩
  else if t ≤ -1000 then ⟨0, 0, -1, false⟩
  else if 1990 < d.length then ⟨vsa 0 (d.take 1990 ++ [49]), t - 1991, 0, true⟩
  else ⟨vsa 0 d, t - d.length, 0, false⟩
def num (ds : List UInt8) (k : Int) : Nm := nm (tz (lz ds)) (k + (lz ds).length)
/-- The power that was read. -/
def pwr (x : Sc) : Int := if x.dn = true then -(vsa 0 x.pw : Int) else (vsa 0 x.pw : Int)
structure It where
  kind : Nat
  neg : Bool
  n : Nm
def itm (x : Sc) : It := if 10 ≤ x.st then ⟨x.st / 10 + 1, x.neg, ⟨0, 0, 0, false⟩⟩ else ⟨1, x.neg, num x.ds (pwr x - x.bh)⟩
/-- Noughts at both ends do not matter. -/
theorem num_shift (a b : Nat) (ds : List UInt8) (k : Int) : num (List.replicate a 48 ++ (ds ++ List.replicate b 48)) (k - b) = num ds k := by
  unfold num
  rw [lz_noughts]
  by_cases h : lz ds = []
  · rw [lz_none _ _ h, h]
    have e : lz (List.replicate b 48) = [] := by
      have := lz_noughts b []
      rwa [List.append_nil] at this
    rw [e]
    have : tz [] = [] := rfl
    rw [this]
    simp [nm]
  · rw [lz_append _ _ h, tz_noughts, List.length_append, List.length_replicate]
    congr 1
    omega
/-- Powers that are far off are all one. -/
theorem num_far (ds : List UInt8) (k k' : Int) (h : k = k' ∨ (1000 < k ∧ 1000 < k') ∨ (k ≤ -1000 - ds.length ∧ k' ≤ -1000 - ds.length)) : num ds k = num ds k' := by
  have hl := lz_len ds
  unfold num nm
  by_cases hd : tz (lz ds) = []
  · rw [if_pos hd, if_pos hd]
  · rw [if_neg hd, if_neg hd]
    rcases h with h | ⟨h1, h2⟩ | ⟨h1, h2⟩
    · rw [h]
    · rw [if_pos (show (1000 : Int) < k + ((lz ds).length : Int) by omega), if_pos (show (1000 : Int) < k' + ((lz ds).length : Int) by omega)]
    · rw [if_neg (show ¬ (1000 : Int) < k + ((lz ds).length : Int) by omega), if_neg (show ¬ (1000 : Int) < k' + ((lz ds).length : Int) by omega), if_pos (show k + ((lz ds).length : Int) ≤ -1000 by omega), if_pos (show k' + ((lz ds).length : Int) ≤ -1000 by omega)]
theorem clamp_step (F V d : Nat) : min (10 * min V F + d) F = min (V * 10 + d) F := by omega
theorem vsa_noughts (n : Nat) (l : List UInt8) : vsa 0 (List.replicate n 48 ++ l) = vsa 0 l := by
  induction n with
  | zero => rfl
  | succ n ih => rw [List.replicate_succ, List.cons_append, vsa_cons]; exact ih

/-- What is told of a number is within what may be. -/
theorem num_bounds (ds : List UInt8) (k : Int) (hd : allD ds = true) :
    ((num ds k).d = 0 ∧ (num ds k).k = 0 ∧ (num ds k).cut = false) ∨
    (0 < (num ds k).d ∧ (num ds k).big = 0 ∧ ∃ s, s ≠ [] ∧ vsa 0 s = (num ds k).d ∧ allD s = true ∧ s.headD 0 ≠ 48 ∧ s.length ≤ 1991 ∧ (s.length = 1991 ↔ (num ds k).cut = true) ∧ s.getLast? ≠ some 48 ∧ (s.length : Int) + (num ds k).k ≤ 1000 ∧ -1000 < (s.length : Int) + (num ds k).k) := by
  unfold num
  have h1 := tz_head (lz ds) (lz_head ds)
  have h2 := tz_last (lz ds)
  have h3 := tz_allD (lz_allD hd)
  generalize tz (lz ds) = d at *
  generalize k + ((lz ds).length : Int) = t
  unfold nm
  by_cases hn : d = []
  · left; rw [if_pos hn]; exact ⟨rfl, rfl, rfl⟩
  · rw [if_neg hn]
    have hh : d.headD 0 ≠ 48 := by
      rcases h1 with h | h
      · exact absurd h.1 hn
      · exact h.2
    by_cases ht : 1000 < t
    · left; rw [if_pos ht]; exact ⟨rfl, rfl, rfl⟩
    · rw [if_neg ht]
      by_cases ht' : t ≤ -1000
      · left; rw [if_pos ht']; exact ⟨rfl, rfl, rfl⟩
      · rw [if_neg ht']
        right
        by_cases hc : 1990 < d.length
        · rw [if_pos hc]
          have ha : allD (d.take 1990 ++ [49]) = true := by
            rw [allD_append, Bool.and_eq_true]
            refine ⟨?_, rfl⟩
            rw [← List.take_append_drop 1990 d] at h3
            exact allD_left h3
          have hhd : (d.take 1990 ++ [49]).headD 0 ≠ 48 := by
            cases d with
            | nil => exact absurd rfl hn
            | cons c t => exact hh
          have hl : (d.take 1990 ++ [49]).length = 1991 := by
            rw [List.length_append, List.length_take, List.length_singleton]; omega
          have hne : d.take 1990 ++ [49] ≠ [] := by simp
          refine ⟨vsa_pos hne ha hhd, rfl, d.take 1990 ++ [49], hne, rfl, ha, hhd, by omega, by simp [hl], by simp, ?_, ?_⟩
          · rw [hl]; show (1991 : Int) + (t - 1991) ≤ 1000; omega
          · rw [hl]; show -1000 < (1991 : Int) + (t - 1991); omega
        · rw [if_neg hc]
          refine ⟨vsa_pos hn h3 hh, rfl, d, hn, rfl, h3, hh, by omega, ?_, ?_, ?_, ?_⟩
          · constructor
            · intro h; omega
            · intro h; cases h
          · rcases h2 with h | h
            · exact absurd h hn
            · exact h
          · show (d.length : Int) + (t - d.length) ≤ 1000; omega
          · show -1000 < (d.length : Int) + (t - d.length); omega

/-! A sign ahead. -/
def sgd (e : Except Nat Sc) : Except Nat Sc := match e with
  | .error n => .error (n + 1)
  | .ok x => .ok ⟨x.st, true, x.ds, x.bh, x.dn, x.pw⟩
theorem scf_sign : ∀ (r : List UInt8) (x : Sc) (i : Nat), scf ⟨x.st, true, x.ds, x.bh, x.dn, x.pw⟩ (i + 1) r = sgd (scf x i r)
  | [], x, i => by
    rw [scf, scf]
    by_cases h : wh x.st = true
    · rw [if_pos h, if_pos h]; rfl
    · rw [if_neg h, if_neg h]; rfl
  | c :: r, x, i => by
    rw [scf, scf]
    by_cases h : nx x.st c.toNat = 99
    · rw [if_pos h, if_pos h]; rfl
    · rw [if_neg h, if_neg h, ← scf_sign r (stp x c) (i + 1)]
      simp [stp]
theorem nx_one (c : Nat) (h : c ≠ 45) : nx 1 c = nx 0 c := by
  unfold nx
  simp [h]
theorem scan_sign (l : List UInt8) (h : l.headD 0 ≠ 45 ∨ l = []) : scan (45 :: l) = sgd (scan l) := by
  have e : nx 0 (45 : UInt8).toNat = 1 := rfl
  have es : stp sc0 45 = ⟨1, true, [], 0, false, []⟩ := rfl
  rw [scan, scf, if_neg (by show nx 0 (45 : UInt8).toNat ≠ 99; rw [e]; omega), es]
  cases l with
  | nil => rfl
  | cons c r =>
    have hc : c.toNat ≠ 45 := by
      rcases h with h | h
      · intro k
        exact h (UInt8.toNat_inj.1 (by show c.toNat = 45; exact k))
      · cases h
    rw [scan, scf, scf]
    show (if nx 1 c.toNat = 99 then _ else _) = sgd (if nx 0 c.toNat = 99 then _ else _)
    rw [nx_one _ hc]
    by_cases k : nx 0 c.toNat = 99
    · rw [if_pos k, if_pos k]; rfl
    · rw [if_neg k, if_neg k, ← scf_sign]
      congr 1
      unfold stp sc0
      simp only [nx_one _ hc, ite_self]
theorem ite_mem {P : Nat → Prop} {p : Prop} [Decidable p] {a b : Nat} (ha : p → P a) (hb : ¬ p → P b) : P (if p then a else b) := by
  by_cases h : p
  · rw [if_pos h]; exact ha h
  · rw [if_neg h]; exact hb h
def Nxs (s n : Nat) : Prop := n = 99 ∨ (n = 1 ∧ s = 0) ∨ n = 2 ∨ n = 3 ∨ n = 4 ∨ n = 5 ∨ n = 6 ∨ n = 7 ∨ n = 8 ∨ n = 10 ∨ n = 11 ∨ n = 12 ∨ n = 20 ∨ n = 21 ∨ n = 22 ∨ n = 30 ∨ n = 31 ∨ n = 32
theorem nx_cases (s c n : Nat) (hn : nx s c = n) : Nxs s n := by
  subst hn
  unfold nx
  repeat' (refine ite_mem (P := Nxs s) (fun _ => ?_) (fun _ => ?_))
  all_goals (unfold Nxs; omega)
theorem nx_zero_one (c : Nat) (h : c ≠ 45) : nx 0 c ≠ 1 := by
  unfold nx
  repeat' (refine ite_mem (P := fun n => n ≠ 1) (fun _ => ?_) (fun _ => ?_))
  all_goals omega
theorem nx_not0 (s c : Nat) : nx s c ≠ 0 := fun h => by have := nx_cases s c 0 h; unfold Nxs at this; omega
theorem nx_not1 (s c : Nat) (hs : s ≠ 0) : nx s c ≠ 1 := fun h => by have := nx_cases s c 1 h; unfold Nxs at this; omega
/-- The sign is the first byte. -/
theorem scf_neg : ∀ (r : List UInt8) (x y : Sc) (i : Nat), x.st ≠ 0 → scf x i r = .ok y → y.neg = x.neg
  | [], x, y, i, _, h => by
    rw [scf] at h
    split at h
    · injection h with h; rw [h]
    · cases h
  | c :: r, x, y, i, hs, h => by
    rw [scf] at h
    split at h
    · cases h
    · have h1 : nx x.st c.toNat ≠ 1 := nx_not1 _ _ hs
      have h0 : nx x.st c.toNat ≠ 0 := nx_not0 _ _
      rw [scf_neg r (stp x c) y (i + 1) h0 h]
      simp [stp, h1]
theorem scan_neg (l : List UInt8) (y : Sc) (h : scan l = .ok y) : y.neg = decide (l ≠ [] ∧ l.headD 0 = 45) := by
  cases l with
  | nil => rw [scan, scf] at h; cases h
  | cons c r =>
    rw [scan, scf] at h
    split at h
    · cases h
    · have h0 : nx 0 c.toNat ≠ 0 := nx_not0 _ _
      rw [scf_neg r _ y _ h0 h]
      by_cases hc : c = 45
      · subst hc; rfl
      · have : c.toNat ≠ 45 := fun k => hc (UInt8.toNat_inj.1 (by show c.toNat = 45; exact k))
        have := nx_zero_one _ this
        simp [stp, sc0, this, hc]

/-! Where no text goes on. -/
def lv (s : Nat) : Bool := s ≤ 8 || s == 10 || s == 11 || s == 12 || s == 20 || s == 21 || s == 22 || s == 30 || s == 31 || s == 32
theorem nx_lv (s c : Nat) (h : nx s c ≠ 99) : lv (nx s c) = true := by
  rcases nx_cases s c _ rfl with k | ⟨k, _⟩ | k | k | k | k | k | k | k | k | k | k | k | k | k | k | k | k
  · exact absurd k h
  all_goals (rw [k]; rfl)
theorem scf_place : ∀ (l : List UInt8) (x : Sc) (i n : Nat), lv x.st = true → scf x i l = .error n → ∃ y j, n = i + j ∧ j ≤ l.length ∧ lv y.st = true ∧ (∀ e, scf x i (l.take j ++ e) = scf y n e) ∧ (j < l.length → nx y.st (l.getD j 0).toNat = 99)
  | [], x, i, n, hl, h => by
    rw [scf] at h
    split at h
    · cases h
    · injection h with h
      subst h
      exact ⟨x, 0, rfl, Nat.le_refl _, hl, fun e => rfl, fun h => by simp at h⟩
  | c :: r, x, i, n, hl, h => by
    rw [scf] at h
    by_cases hn : nx x.st c.toNat = 99
    · rw [if_pos hn] at h
      injection h with h
      subst h
      exact ⟨x, 0, rfl, Nat.zero_le _, hl, fun e => rfl, fun _ => hn⟩
    · rw [if_neg hn] at h
      obtain ⟨y, j, h1, h2, h3, h4, h5⟩ := scf_place r (stp x c) (i + 1) n (nx_lv _ _ hn) h
      refine ⟨y, j + 1, by omega, by rw [List.length_cons]; omega, h3, fun e => ?_, fun hj => ?_⟩
      · rw [List.take_succ_cons, List.cons_append, scf, if_neg hn]
        exact h4 e
      · rw [List.getD_cons_succ]
        exact h5 (by rw [List.length_cons] at hj; omega)
/-- The endings, by number. -/
def ending (s : Nat) : Nat := if s ≤ 8 then 1 else if s = 10 then 2 else if s = 11 then 3 else if s = 20 then 5 else if s = 21 then 6 else if s = 30 then 7 else if s = 31 then 8 else 0
def endings : List (List UInt8) := [[], [48], [110, 102], [102], [105, 110, 102], [97, 110], [110], [97, 82], [82]]
def isOk (e : Except Nat Sc) : Bool := match e with | .ok _ => true | .error _ => false
theorem ends_ok (y : Sc) (n : Nat) (h : lv y.st = true) : ending y.st < 9 ∧ isOk (scf y n (endings.getD (ending y.st) [])) = true := by
  obtain ⟨st, neg, ds, bh, dn, pw⟩ := y
  have : st ≤ 32 := by
    simp [lv] at h
    omega
  have key : st = 0 ∨ st = 1 ∨ st = 2 ∨ st = 3 ∨ st = 4 ∨ st = 5 ∨ st = 6 ∨ st = 7 ∨ st = 8 ∨ st = 10 ∨ st = 11 ∨ st = 12 ∨ st = 20 ∨ st = 21 ∨ st = 22 ∨ st = 30 ∨ st = 31 ∨ st = 32 := by
    simp [lv] at h
    omega
  rcases key with rfl | rfl | rfl | rfl | rfl | rfl | rfl | rfl | rfl | rfl | rfl | rfl | rfl | rfl | rfl | rfl | rfl | rfl <;> exact ⟨Nat.lt_of_sub_eq_succ rfl, rfl⟩
theorem scan_place (l : List UInt8) (n : Nat) (h : scan l = .error n) :
    n ≤ l.length ∧ (∃ q, q < 9 ∧ isOk (scan (l.take n ++ endings.getD q [])) = true) ∧ (n < l.length → ∀ e, scan (l.take (n + 1) ++ e) = .error n) := by
  obtain ⟨y, j, h1, h2, h3, h4, h5⟩ := scf_place l sc0 0 n rfl h
  have hj : n = j := by omega
  subst hj
  obtain ⟨q1, q2⟩ := ends_ok y n h3
  refine ⟨h2, ⟨ending y.st, q1, ?_⟩, fun hl e => ?_⟩
  · rw [scan, h4]; exact q2
  · have e1 : l.take (n + 1) = l.take n ++ [l.getD n 0] := by
      rw [List.take_add_one]
      congr 1
      rw [List.getD_eq_getElem?_getD, List.getElem?_eq_getElem hl]
      rfl
    rw [scan, e1, List.append_assoc, h4, List.singleton_append, scf, if_pos (h5 hl)]
theorem scan_le (l : List UInt8) (n : Nat) (h : scan l = .error n) : n ≤ l.length := (scan_place l n h).1
end M
end Go.Proofs.YtjmnobgllnaljaaGreatDoor
