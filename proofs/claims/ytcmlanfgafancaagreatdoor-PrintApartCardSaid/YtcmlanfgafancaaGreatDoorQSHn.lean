import Derived.Lib.ItoaNum
set_option maxHeartbeats 32000000
set_option linter.unusedVariables false
set_option linter.unusedSimpArgs false
namespace Go.Proofs.YtcmlanfgafancaaGreatDoor
open Go
namespace M
def vsa (acc : Nat) (l : List UInt8) : Nat := l.foldl (fun a c => a * 10 + (c.toNat - 48)) acc
def isD (c : UInt8) : Bool := decide (48 ≤ c.toNat) && decide (c.toNat ≤ 57)
def allD (l : List UInt8) : Bool := l.all isD
theorem vsa_cons (acc : Nat) (c : UInt8) (r : List UInt8) : vsa acc (c :: r) = vsa (acc * 10 + (c.toNat - 48)) r := List.foldl_cons ..
theorem vsa_nil (acc : Nat) : vsa acc [] = acc := rfl
theorem vsa_append (a b : List UInt8) (acc : Nat) : vsa acc (a ++ b) = vsa (vsa acc a) b := List.foldl_append ..
theorem vsa_acc (l : List UInt8) : ∀ acc, vsa acc l = acc * 10 ^ l.length + vsa 0 l := by
 induction l with
 | nil => intro acc; rw [vsa_nil, vsa_nil, List.length_nil, Nat.pow_zero, Nat.mul_one, Nat.add_zero]
 | cons c r ih =>
  intro acc
  rw [vsa_cons, vsa_cons, ih (acc * 10 + _), ih (0 * 10 + _), List.length_cons, Nat.pow_succ]
  generalize c.toNat - 48 = d
  generalize 10 ^ r.length = p
  rw [Nat.add_mul, Nat.zero_mul, Nat.zero_add, Nat.mul_assoc, Nat.mul_comm 10 p]
  omega
theorem isD_iff (c : UInt8) : isD c = true ↔ 48 ≤ c.toNat ∧ c.toNat ≤ 57 := by simp [isD]
theorem vsa_lt (l : List UInt8) (h : allD l = true) : vsa 0 l < 10 ^ l.length := by
 induction l with
 | nil => rw [vsa_nil]; exact Nat.pow_pos (by omega)
 | cons c r ih =>
  simp only [allD, List.all_cons, Bool.and_eq_true] at h
  have h1 := (isD_iff c).1 h.1
  have h2 := ih h.2
  rw [vsa_cons, vsa_acc, List.length_cons, Nat.pow_succ]
  have h3 : (0 * 10 + (c.toNat - 48)) * 10 ^ r.length ≤ 9 * 10 ^ r.length := Nat.mul_le_mul_right _ (by omega)
  omega
theorem allD_append (a b : List UInt8) : allD (a ++ b) = (allD a && allD b) := List.all_append
theorem vsa_snoc (l : List UInt8) (c : UInt8) : vsa 0 (l ++ [c]) = vsa 0 l * 10 + (c.toNat - 48) := by rw [vsa_append, vsa_cons, vsa_nil]
theorem allD_snoc (l : List UInt8) (c : UInt8) : allD (l ++ [c]) = (allD l && isD c) := by rw [allD_append]; simp [allD]
theorem ofNat_toNat {d : Nat} (h : d ≤ 9) : (UInt8.ofNat (48 + d)).toNat = 48 + d := by
 rw [show (UInt8.ofNat (48 + d)).toNat = (48 + d) % 256 from rfl]; omega
theorem dd_all : ∀ (n a : Nat), a ≤ n → allD (Lib.decDigits a) = true ∧ vsa 0 (Lib.decDigits a) = a ∧ Lib.decDigits a ≠ [] ∧ ((Lib.decDigits a).headD 0 ≠ 48 ∨ Lib.decDigits a = [48])
 | n, a, h => by
  by_cases h10 : a < 10
  ·rw [Lib.decDigits_one h10]
   have e := ofNat_toNat (d := a) (by omega)
   refine ⟨?_, ?_, by simp, ?_⟩
   ·have : isD (UInt8.ofNat (48 + a)) = true := (isD_iff _).2 (by rw [e]; omega)
    simp only [allD, List.all_cons, List.all_nil, this, Bool.and_true]
   ·rw [vsa_cons, vsa_nil, e]; omega
   ·by_cases h0 : a = 0
    ·right; rw [h0]; rfl
    ·left
     intro e2
     have e3 : (UInt8.ofNat (48 + a)) = 48 := e2
     rw [e3] at e
     have : (48 : UInt8).toNat = 48 := rfl
     omega
  ·cases n with
   | zero => omega
   | succ n =>
    obtain ⟨k1, k2, k3, k4⟩ := dd_all n (a / 10) (by omega)
    have e := ofNat_toNat (d := a % 10) (by omega)
    have ed : Lib.decDigits a = Lib.decDigits (a / 10) ++ [UInt8.ofNat (48 + a % 10)] := by
     conv => lhs; rw [Lib.decDigits, dif_neg h10]
    rw [ed]
    refine ⟨?_, ?_, by simp, ?_⟩
    ·rw [allD_snoc, k1]
     exact (isD_iff _).2 (by rw [e]; omega)
    ·rw [vsa_snoc, k2, e]; omega
    ·left
     have hh : (Lib.decDigits (a / 10) ++ [UInt8.ofNat (48 + a % 10)]).headD 0 = (Lib.decDigits (a / 10)).headD 0 := by
      cases hl : Lib.decDigits (a / 10) with
      | nil => exact absurd hl k3
      | cons c r => rfl
     rw [hh]
     rcases k4 with k4 | k4
     ·exact k4
     ·rw [k4] at k2
      have : vsa 0 [48] = 0 := rfl
      omega
end M
end Go.Proofs.YtcmlanfgafancaaGreatDoor
namespace Go.Proofs.YtcmlanfgafancaaGreatDoor
open Go
namespace M
def nx (s c : Nat) : Nat :=
 if s < 2 ∧ c = 45 then (if s = 0 then 1 else 99)
 else if s < 2 ∧ c = 105 then 10
 else if s < 2 ∧ c = 110 then 20
 else if s < 2 ∧ c = 78 then 30
 else if s < 2 ∧ c = 46 then 4
 else if (48 ≤ c ∧ c ≤ 57) ∧ s ≤ 2 then 2
 else if (48 ≤ c ∧ c ≤ 57) ∧ s ≤ 5 then 5
 else if (48 ≤ c ∧ c ≤ 57) ∧ 6 ≤ s ∧ s ≤ 8 then 8
 else if s = 2 ∧ c = 46 then 3
 else if (s = 2 ∨ s = 3 ∨ s = 5) ∧ (c = 101 ∨ c = 69) then 6
 else if s = 6 ∧ (c = 43 ∨ c = 45) then 7
 else if s = 10 ∧ c = 110 ∨ s = 11 ∧ c = 102 ∨ s = 20 ∧ c = 97 ∨ s = 21 ∧ c = 110 ∨ s = 30 ∧ c = 97 ∨ s = 31 ∧ c = 82 then s + 1
 else 99
def wh (s : Nat) : Bool := s == 2 || s == 3 || s == 5 || s == 8 || s == 12 || s == 22 || s == 32
structure Sc where
 st : Nat
 neg : Bool
 ds : List UInt8
 bh : Nat
 dn : Bool
 pw : List UInt8
def sc0 : Sc := ⟨0, false, [], 0, false, []⟩
def stp (x : Sc) (c : UInt8) : Sc :=
  ⟨nx x.st c.toNat, if nx x.st c.toNat = 1 then true else x.neg, if nx x.st c.toNat = 2 ∨ nx x.st c.toNat = 5 then x.ds ++ [c] else x.ds, if nx x.st c.toNat = 5 then x.bh + 1 else x.bh,
   if nx x.st c.toNat = 7 then c.toNat == 45 else x.dn, if nx x.st c.toNat = 8 then x.pw ++ [c] else x.pw⟩
def scf (x : Sc) (i : Nat) : List UInt8 → Except Nat Sc
 | [] => if wh x.st = true then .ok x else .error i
 | c :: r => if nx x.st c.toNat = 99 then .error i else scf (stp x c) (i + 1) r
def scan (l : List UInt8) : Except Nat Sc := scf sc0 0 l
theorem isD_rng {c : UInt8} (h : isD c = true) : 48 ≤ c.toNat ∧ c.toNat ≤ 57 := (isD_iff c).1 h
theorem nx_dig {s c : Nat} (hc : 48 ≤ c ∧ c ≤ 57) : nx s c = if s ≤ 2 then 2 else if s ≤ 5 then 5 else if s ≤ 8 then 8 else 99 := by
 have h1 : c ≠ 45 ∧ c ≠ 105 ∧ c ≠ 110 ∧ c ≠ 78 ∧ c ≠ 46 ∧ c ≠ 101 ∧ c ≠ 69 ∧ c ≠ 43 ∧ c ≠ 102 ∧ c ≠ 97 ∧ c ≠ 82 := by omega
 unfold nx
 simp only [h1, hc, and_false, or_false, if_false, true_and, and_self]
 by_cases a : s ≤ 2
 ·simp only [a, if_true]
 ·by_cases b : s ≤ 5
  ·simp only [a, b, if_true, if_false]
  ·simp only [a, b, if_false, show 6 ≤ s from by omega, true_and]
theorem scf_whole : ∀ (ds r : List UInt8) (x : Sc) (i : Nat), allD ds = true → ds ≠ [] → x.st ≤ 2 → scf x i (ds ++ r) = scf ⟨2, x.neg, x.ds ++ ds, x.bh, x.dn, x.pw⟩ (i + ds.length) r
 | [], _, _, _, _, h0, _ => absurd rfl h0
 | c :: t, r, x, i, hd, _, hs => by
  rw [allD, List.all_cons, Bool.and_eq_true] at hd
  have e : nx x.st c.toNat = 2 := by rw [nx_dig (isD_rng hd.1), if_pos hs]
  have es : stp x c = ⟨2, x.neg, x.ds ++ [c], x.bh, x.dn, x.pw⟩ := by simp [stp, e]
  rw [List.cons_append, scf, if_neg (by rw [e]; omega), es]
  by_cases ht : t = []
  ·subst ht; rfl
  ·rw [scf_whole t r _ _ hd.2 ht (Nat.le_refl _), List.append_assoc, List.length_cons]
   simp only [List.singleton_append]
   rw [show i + 1 + t.length = i + (t.length + 1) from by omega]
theorem scf_frac : ∀ (ds r : List UInt8) (x : Sc) (i : Nat), allD ds = true → ds ≠ [] → 3 ≤ x.st → x.st ≤ 5 → scf x i (ds ++ r) = scf ⟨5, x.neg, x.ds ++ ds, x.bh + ds.length, x.dn, x.pw⟩ (i + ds.length) r
 | [], _, _, _, _, h0, _, _ => absurd rfl h0
 | c :: t, r, x, i, hd, _, hs, hs' => by
  rw [allD, List.all_cons, Bool.and_eq_true] at hd
  have e : nx x.st c.toNat = 5 := by rw [nx_dig (isD_rng hd.1), if_neg (by omega), if_pos hs']
  have es : stp x c = ⟨5, x.neg, x.ds ++ [c], x.bh + 1, x.dn, x.pw⟩ := by simp [stp, e]
  rw [List.cons_append, scf, if_neg (by rw [e]; omega), es]
  by_cases ht : t = []
  ·subst ht; rfl
  ·rw [scf_frac t r _ _ hd.2 ht (by show 3 ≤ 5; omega) (Nat.le_refl _), List.append_assoc, List.length_cons]
   simp only [List.singleton_append]
   rw [show i + 1 + t.length = i + (t.length + 1) from by omega, show x.bh + 1 + t.length = x.bh + (t.length + 1) from by omega]
theorem scf_power : ∀ (ds r : List UInt8) (x : Sc) (i : Nat), allD ds = true → ds ≠ [] → 6 ≤ x.st → x.st ≤ 8 → scf x i (ds ++ r) = scf ⟨8, x.neg, x.ds, x.bh, x.dn, x.pw ++ ds⟩ (i + ds.length) r
 | [], _, _, _, _, h0, _, _ => absurd rfl h0
 | c :: t, r, x, i, hd, _, hs, hs' => by
  rw [allD, List.all_cons, Bool.and_eq_true] at hd
  have e : nx x.st c.toNat = 8 := by rw [nx_dig (isD_rng hd.1), if_neg (by omega), if_neg (by omega), if_pos hs']
  have es : stp x c = ⟨8, x.neg, x.ds, x.bh, x.dn, x.pw ++ [c]⟩ := by simp [stp, e]
  rw [List.cons_append, scf, if_neg (by rw [e]; omega), es]
  by_cases ht : t = []
  ·subst ht; rfl
  ·rw [scf_power t r _ _ hd.2 ht (by show 6 ≤ 8; omega) (Nat.le_refl _), List.append_assoc, List.length_cons]
   simp only [List.singleton_append]
   rw [show i + 1 + t.length = i + (t.length + 1) from by omega]
theorem scf_tail (ec : UInt8) (sg pw : List UInt8) (x : Sc) (i : Nat) (hx : x.st = 2 ∨ x.st = 3 ∨ x.st = 5) (he : ec = 101 ∨ ec = 69) (hs : sg = [] ∨ sg = [43] ∨ sg = [45]) (hp : allD pw = true) (h0 : pw ≠ []) (hx0 : x.pw = []) (hd0 : x.dn = false) :
  scf x i (ec :: (sg ++ pw)) = .ok ⟨8, x.neg, x.ds, x.bh, decide (sg = [45]), pw⟩ := by
 have ee : ec.toNat = 101 ∨ ec.toNat = 69 := by rcases he with rfl | rfl <;> simp
 have e : nx x.st ec.toNat = 6 := by
  unfold nx
  rcases hx with h | h | h <;> rcases ee with k | k <;> simp [h, k]
 have es : stp x ec = ⟨6, x.neg, x.ds, x.bh, x.dn, x.pw⟩ := by simp [stp, e]
 rw [scf, if_neg (by rw [e]; omega), es]
 have fin : ∀ (y : Sc) (j : Nat), 6 ≤ y.st → y.st ≤ 8 → y.pw = [] → scf y j pw = .ok ⟨8, y.neg, y.ds, y.bh, y.dn, pw⟩ := by
  intro y j h1 h2 h3
  have := scf_power pw [] y j hp h0 h1 h2
  rw [List.append_nil] at this
  rw [this, scf, if_pos (by rfl), h3, List.nil_append]
 rcases hs with rfl | rfl | rfl
 ·rw [List.nil_append, fin ⟨6, x.neg, x.ds, x.bh, x.dn, x.pw⟩ _ (by show 6 ≤ 6; omega) (by show 6 ≤ 8; omega) hx0]
  simp [hd0]
 ·rw [List.singleton_append, scf, if_neg (by simp [nx])]
  rw [fin _ _ (by simp [stp, nx]) (by simp [stp, nx]) (by simp [stp, nx, hx0])]
  simp [stp, nx]
 ·rw [List.singleton_append, scf, if_neg (by simp [nx])]
  rw [fin _ _ (by simp [stp, nx]) (by simp [stp, nx]) (by simp [stp, nx, hx0])]
  simp [stp, nx]
theorem scan_plain (ds : List UInt8) (ec : UInt8) (sg pw : List UInt8) (hd : allD ds = true) (hd0 : ds ≠ []) (he : ec = 101 ∨ ec = 69) (hs : sg = [] ∨ sg = [43] ∨ sg = [45]) (hp : allD pw = true) (h0 : pw ≠ []) :
  scan (ds ++ (ec :: (sg ++ pw))) = .ok ⟨8, false, ds, 0, decide (sg = [45]), pw⟩ := by
 rw [scan, scf_whole ds _ sc0 0 hd hd0 (by show 0 ≤ 2; omega), scf_tail ec sg pw _ _ (.inl rfl) he hs hp h0 rfl rfl]
 rfl
theorem scf_point (fs r : List UInt8) (x : Sc) (i : Nat) (hx : x.st ≤ 2) (hf : allD fs = true) (hx0 : x.st = 2 ∨ fs ≠ []) :
  ∃ s, (s = 3 ∨ s = 5) ∧ scf x i (46 :: (fs ++ r)) = scf ⟨s, x.neg, x.ds ++ fs, x.bh + fs.length, x.dn, x.pw⟩ (i + 1 + fs.length) r := by
 have e : nx x.st 46 = 3 ∨ nx x.st 46 = 4 ∧ x.st ≠ 2 := by
  unfold nx
  rcases Nat.lt_or_ge x.st 2 with h | h
  ·right; constructor
   ·simp [h]
   ·omega
  ·left
   have : x.st = 2 := by omega
   simp [this]
 have es : stp x 46 = ⟨nx x.st 46, x.neg, x.ds, x.bh, x.dn, x.pw⟩ := by
  have k : (46 : UInt8).toNat = 46 := rfl
  rcases e with e | ⟨e, _⟩ <;> simp [stp, k, e]
 have k : (46 : UInt8).toNat = 46 := rfl
 have en : nx x.st 46 ≠ 99 := by rcases e with e | ⟨e, _⟩ <;> rw [e] <;> omega
 by_cases hf0 : fs = []
 ·subst hf0
  rcases e with e | ⟨_, e⟩
  ·refine ⟨3, .inl rfl, ?_⟩
   rw [scf, k, if_neg en, es, e, List.append_nil]
   rfl
  ·rcases hx0 with h | h
   ·exact absurd h e
   ·exact absurd rfl h
 ·refine ⟨5, .inr rfl, ?_⟩
  rw [scf, k, if_neg en, es, scf_frac fs r _ _ hf hf0 (by show 3 ≤ nx x.st 46; rcases e with e | ⟨e, _⟩ <;> omega) (by show nx x.st 46 ≤ 5; rcases e with e | ⟨e, _⟩ <;> omega)]
theorem scan_point (ds fs : List UInt8) (ec : UInt8) (sg pw : List UInt8) (hd : allD ds = true) (hf : allD fs = true) (h2 : ds ≠ [] ∨ fs ≠ []) (he : ec = 101 ∨ ec = 69) (hs : sg = [] ∨ sg = [43] ∨ sg = [45]) (hp : allD pw = true) (h0 : pw ≠ []) :
  scan (ds ++ (46 :: (fs ++ (ec :: (sg ++ pw))))) = .ok ⟨8, false, ds ++ fs, fs.length, decide (sg = [45]), pw⟩ := by
 have key : ∀ (x : Sc) (i : Nat), x.st ≤ 2 → (x.st = 2 ∨ fs ≠ []) → x.pw = [] → x.dn = false → x.neg = false → x.bh = 0 → scf x i (46 :: (fs ++ (ec :: (sg ++ pw)))) = .ok ⟨8, false, x.ds ++ fs, fs.length, decide (sg = [45]), pw⟩ := by
  intro x i h1 h2 h3 h4 h5 h6
  obtain ⟨s, hs', e⟩ := scf_point fs (ec :: (sg ++ pw)) x i h1 hf h2
  rw [e, scf_tail ec sg pw ⟨s, x.neg, x.ds ++ fs, x.bh + fs.length, x.dn, x.pw⟩ _ (by show s = 2 ∨ s = 3 ∨ s = 5; omega) he hs hp h0 h3 h4]
  simp [h5, h6]
 by_cases hd0 : ds = []
 ·subst hd0
  rw [scan, List.nil_append, key sc0 0 (by show 0 ≤ 2; omega) (.inr (by rcases h2 with h | h; exact absurd rfl h; exact h)) rfl rfl rfl rfl]
  rfl
 ·rw [scan, scf_whole ds _ sc0 0 hd hd0 (by show 0 ≤ 2; omega), key _ _ (Nat.le_refl _) (.inl rfl) rfl rfl rfl rfl]
  rfl
end M
end Go.Proofs.YtcmlanfgafancaaGreatDoor
namespace Go.Proofs.YtcmlanfgafancaaGreatDoor
open Go
namespace M
def lz (l : List UInt8) : List UInt8 := l.dropWhile (· == 48)
def tz (l : List UInt8) : List UInt8 := (lz l.reverse).reverse
theorem lz_cons (c : UInt8) (l : List UInt8) : lz (c :: l) = if c = 48 then lz l else c :: l := by
 unfold lz
 by_cases h : c = 48
 ·rw [if_pos h, List.dropWhile_cons_of_pos (by simp [h])]
 ·rw [if_neg h, List.dropWhile_cons_of_neg (by simp [h])]
theorem lz_noughts (n : Nat) (l : List UInt8) : lz (List.replicate n 48 ++ l) = lz l := by
 induction n with
 | zero => rfl
 | succ n ih => rw [List.replicate_succ, List.cons_append, lz_cons, if_pos rfl, ih]
theorem lz_split (l : List UInt8) : ∃ n, l = List.replicate n 48 ++ lz l := by
 induction l with
 | nil => exact ⟨0, rfl⟩
 | cons c t ih =>
  rw [lz_cons]
  by_cases h : c = 48
  ·rw [if_pos h]
   obtain ⟨n, hn⟩ := ih
   refine ⟨n + 1, ?_⟩
   rw [List.replicate_succ, List.cons_append, ← hn, h]
  ·rw [if_neg h]; exact ⟨0, rfl⟩
theorem lz_append (l r : List UInt8) (h : lz l ≠ []) : lz (l ++ r) = lz l ++ r := by
 induction l with
 | nil => exact absurd rfl h
 | cons c t ih =>
  rw [List.cons_append, lz_cons, lz_cons]
  rw [lz_cons] at h
  by_cases hc : c = 48
  ·rw [if_pos hc] at h ⊢
   rw [if_pos hc, ih h]
  ·rw [if_neg hc, if_neg hc, List.cons_append]
theorem lz_none (l r : List UInt8) (h : lz l = []) : lz (l ++ r) = lz r := by
 obtain ⟨n, hn⟩ := lz_split l
 rw [h, List.append_nil] at hn
 rw [hn, lz_noughts]
theorem tz_noughts (n : Nat) (l : List UInt8) : tz (l ++ List.replicate n 48) = tz l := by
 unfold tz
 rw [List.reverse_append, List.reverse_replicate, lz_noughts]
theorem allD_noughts (n : Nat) : allD (List.replicate n 48) = true := by
 induction n with
 | zero => rfl
 | succ n ih =>
  rw [List.replicate_succ]
  show (isD 48 && allD (List.replicate n 48)) = true
  rw [ih]; rfl
structure Nm where
 d : Nat
 k : Int
 big : Int
 cut : Bool
def nm (d : List UInt8) (t : Int) : Nm :=
 if d = [] then ⟨0, 0, 0, false⟩
 else if 1000 < t then ⟨0, 0, 1, false⟩
 else if t ≤ -1000 then ⟨0, 0, -1, false⟩
 else if 1990 < d.length then ⟨vsa 0 (d.take 1990 ++ [49]), t - 1991, 0, true⟩
 else ⟨vsa 0 d, t - d.length, 0, false⟩
def num (ds : List UInt8) (k : Int) : Nm := nm (tz (lz ds)) (k + (lz ds).length)
def pwr (x : Sc) : Int := if x.dn = true then -(vsa 0 x.pw : Int) else (vsa 0 x.pw : Int)
structure It where
 kind : Nat
 neg : Bool
 n : Nm
def itm (x : Sc) : It := if 10 ≤ x.st then ⟨x.st / 10 + 1, x.neg, ⟨0, 0, 0, false⟩⟩ else ⟨1, x.neg, num x.ds (pwr x - x.bh)⟩
theorem num_shift (a b : Nat) (ds : List UInt8) (k : Int) : num (List.replicate a 48 ++ (ds ++ List.replicate b 48)) (k - b) = num ds k := by
 unfold num
 rw [lz_noughts]
 by_cases h : lz ds = []
 ·rw [lz_none _ _ h, h]
  have e : lz (List.replicate b 48) = [] := by
   have := lz_noughts b []
   rwa [List.append_nil] at this
  rw [e]
  have : tz [] = [] := rfl
  rw [this]
  simp [nm]
 ·rw [lz_append _ _ h, tz_noughts, List.length_append, List.length_replicate]
  congr 1
  omega
def sgd (e : Except Nat Sc) : Except Nat Sc := match e with
 | .error n => .error (n + 1)
 | .ok x => .ok ⟨x.st, true, x.ds, x.bh, x.dn, x.pw⟩
theorem scf_sign : ∀ (r : List UInt8) (x : Sc) (i : Nat), scf ⟨x.st, true, x.ds, x.bh, x.dn, x.pw⟩ (i + 1) r = sgd (scf x i r)
 | [], x, i => by
  rw [scf, scf]
  by_cases h : wh x.st = true
  ·rw [if_pos h, if_pos h]; rfl
  ·rw [if_neg h, if_neg h]; rfl
 | c :: r, x, i => by
  rw [scf, scf]
  by_cases h : nx x.st c.toNat = 99
  ·rw [if_pos h, if_pos h]; rfl
  ·rw [if_neg h, if_neg h, ← scf_sign r (stp x c) (i + 1)]
   simp [stp]
theorem nx_one (c : Nat) (h : c ≠ 45) : nx 1 c = nx 0 c := by
 unfold nx
 simp [h]
theorem scan_sign (l : List UInt8) (h : l.headD 0 ≠ 45 ∨ l = []) : scan (45 :: l) = sgd (scan l) := by
 have e : nx 0 (45 : UInt8).toNat = 1 := rfl
 have es : stp sc0 45 = ⟨1, true, [], 0, false, []⟩ := rfl
 rw [scan, scf, if_neg (by show nx 0 (45 : UInt8).toNat ≠ 99; rw [e]; omega), es]
 cases l with
 | nil => rfl
 | cons c r =>
  have hc : c.toNat ≠ 45 := by
   rcases h with h | h
   ·intro k
    exact h (UInt8.toNat_inj.1 (by show c.toNat = 45; exact k))
   ·cases h
  rw [scan, scf, scf]
  show (if nx 1 c.toNat = 99 then _ else _) = sgd (if nx 0 c.toNat = 99 then _ else _)
  rw [nx_one _ hc]
  by_cases k : nx 0 c.toNat = 99
  ·rw [if_pos k, if_pos k]; rfl
  ·rw [if_neg k, if_neg k, ← scf_sign]
   congr 1
   unfold stp sc0
   simp only [nx_one _ hc, ite_self]
end M
end Go.Proofs.YtcmlanfgafancaaGreatDoor
namespace Go.Proofs.YtcmlanfgafancaaGreatDoor
open Go
namespace M
def sgt (b : Bool) : List UInt8 := if b = true then [45] else []
def ntx (z : Int) : List UInt8 := sgt (decide (z < 0)) ++ Lib.decDigits z.natAbs
def lfar (p : Int) : Prop := 21 < p ∨ p < -5
instance (p : Int) : Decidable (lfar p) := by unfold lfar; infer_instance
def lyb (S : List UInt8) (k : Int) : List UInt8 :=
 if lfar (S.length + k) then S.take 1 ++ ((if 1 < S.length then 46 :: S.drop 1 else []) ++ (101 :: ntx (S.length + k - 1)))
 else if (S.length : Int) + k ≤ 0 then 48 :: 46 :: (List.replicate (-((S.length : Int) + k)).toNat 48 ++ S)
 else if 0 ≤ k then S ++ List.replicate k.toNat 48
 else S.take ((S.length : Int) + k).toNat ++ (46 :: S.drop ((S.length : Int) + k).toNat)
def dgs (n : Nat) : List UInt8 := if n = 0 then [] else Lib.decDigits n
def ly (neg : Bool) (n : Nat) (k : Int) : List UInt8 := sgt neg ++ (if n = 0 then [48] else lyb (Lib.decDigits n) k)
structure Cl (S : List UInt8) : Prop where
 all : allD S = true
 ne : S ≠ []
 hd : S.headD 0 ≠ 48
 tl : S.getLast? ≠ some 48
theorem Cl.lz {S : List UInt8} (h : Cl S) : lz S = S := by
 cases S with
 | nil => rfl
 | cons c r => rw [lz_cons, if_neg (fun e => h.hd (by simp [e]))]
theorem Cl.tz {S : List UInt8} (h : Cl S) : tz S = S := by
 have h1 := h.tl
 have h2 := h.ne
 obtain ⟨b, c, rfl⟩ : ∃ b c, S = b ++ [c] := ⟨S.dropLast, S.getLast h2, (List.dropLast_concat_getLast h2).symm⟩
 unfold M.tz
 rw [List.reverse_append]
 show (M.lz (c :: b.reverse)).reverse = _
 rw [lz_cons, if_neg (fun e => h1 (by simp [e]))]
 simp
theorem Cl.pos {S : List UInt8} (h : Cl S) : 0 < S.length := List.length_pos_iff.2 h.ne
theorem cl_dec {n : Nat} (h0 : n ≠ 0) (h : n % 10 ≠ 0) : Cl (Lib.decDigits n) := by
 obtain ⟨k1, k2, k3, k4⟩ := dd_all n n (Nat.le_refl _)
 refine ⟨k1, k3, ?_, ?_⟩
 ·rcases k4 with k4 | k4
  ·exact k4
  ·rw [k4] at k2
   exact absurd k2.symm h0
 ·obtain ⟨b, c, e⟩ : ∃ b c, Lib.decDigits n = b ++ [c] := ⟨_, (Lib.decDigits n).getLast k3, (List.dropLast_concat_getLast k3).symm⟩
  rw [e, List.getLast?_concat]
  intro e2
  have hc : c = 48 := Option.some.inj e2
  rw [e, vsa_snoc, hc] at k2
  have : ((48 : UInt8).toNat - 48) = 0 := rfl
  rw [this] at k2
  omega
theorem ntx_dn (z : Int) : (sgt (decide (z < 0)) = [] ∨ sgt (decide (z < 0)) = [43] ∨ sgt (decide (z < 0)) = [45]) ∧ decide (sgt (decide (z < 0)) = [45]) = decide (z < 0) := by
 by_cases h : z < 0 <;> simp [sgt, h]
theorem pwr_x (st : Nat) (ng : Bool) (ds : List UInt8) (bh : Nat) (z : Int) : pwr ⟨st, ng, ds, bh, decide (z < 0), Lib.decDigits z.natAbs⟩ = z := by
 unfold pwr
 have e := (dd_all _ z.natAbs (Nat.le_refl _)).2.1
 show (if decide (z < 0) = true then -(vsa 0 (Lib.decDigits z.natAbs) : Int) else _) = _
 rw [e]
 by_cases h : z < 0
 ·rw [if_pos (by simp [h])]; omega
 ·rw [if_neg (by simp [h])]; omega
theorem pwr_nil (st : Nat) (ng : Bool) (ds : List UInt8) (bh : Nat) : pwr ⟨st, ng, ds, bh, false, []⟩ = 0 := rfl
structure Rdl (S : List UInt8) (k : Int) (x : Sc) : Prop where
 st : x.st < 10
 ds : ∃ m j : Nat, x.ds = List.replicate m 48 ++ (S ++ List.replicate j 48) ∧ pwr x - x.bh = k - j
theorem allD_take {S : List UInt8} (h : allD S = true) (n : Nat) : allD (S.take n) = true ∧ allD (S.drop n) = true := by
 have := h
 rw [← List.take_append_drop n S, allD_append, Bool.and_eq_true] at this
 exact this
theorem lyb_scan {S : List UInt8} (h : Cl S) (k : Int) : ∃ x, scan (lyb S k) = .ok x ∧ x.neg = false ∧ Rdl S k x := by
 have hp := h.pos
 unfold lyb
 by_cases h1 : lfar (S.length + k)
 ·rw [if_pos h1]
  obtain ⟨a1, a2⟩ := allD_take h.all 1
  obtain ⟨z1, z2⟩ := ntx_dn (S.length + k - 1)
  obtain ⟨d1, _, d3, _⟩ := dd_all _ (S.length + k - 1 : Int).natAbs (Nat.le_refl _)
  have hne : S.take 1 ≠ [] := by
   intro e
   have := congrArg List.length e
   rw [List.length_take, List.length_nil] at this
   omega
  by_cases h2 : 1 < S.length
  ·rw [if_pos h2]
   have e := scan_point (S.take 1) (S.drop 1) 101 (sgt (decide ((S.length + k - 1 : Int) < 0))) (Lib.decDigits (S.length + k - 1 : Int).natAbs) a1 a2 (.inl hne) (.inl rfl) z1 d1 d3
   refine ⟨_, e, rfl, ⟨by show 8 < 10; omega, 0, 0, by show S.take 1 ++ S.drop 1 = _; rw [List.take_append_drop]; simp, ?_⟩⟩
   rw [z2, pwr_x]
   show (S.length : Int) + k - 1 - ((S.drop 1).length : Int) = _
   rw [List.length_drop]
   omega
  ·rw [if_neg h2]
   have e := scan_plain (S.take 1) 101 (sgt (decide ((S.length + k - 1 : Int) < 0))) (Lib.decDigits (S.length + k - 1 : Int).natAbs) a1 hne (.inl rfl) z1 d1 d3
   refine ⟨_, e, rfl, ⟨by show 8 < 10; omega, 0, 0, ?_, ?_⟩⟩
   ·simp only [List.replicate_zero, List.append_nil, List.nil_append]
    exact List.take_of_length_le (by omega)
   ·rw [z2, pwr_x]
    show (S.length : Int) + k - 1 - ((0 : Nat) : Int) = _
    omega
 ·rw [if_neg h1]
  by_cases h2 : (S.length : Int) + k ≤ 0
  ·rw [if_pos h2]
   generalize hm : (-((S.length : Int) + k)).toNat = m
   have hf : allD (List.replicate m 48 ++ S) = true := by rw [allD_append, allD_noughts, h.all]; rfl
   have hf0 : List.replicate m 48 ++ S ≠ [] := by simp [h.ne]
   have e : scan (48 :: 46 :: (List.replicate m 48 ++ S)) = .ok ⟨5, false, [48] ++ (List.replicate m 48 ++ S), (List.replicate m 48 ++ S).length, false, []⟩ := by
    have e1 := scf_whole [48] (46 :: (List.replicate m 48 ++ S)) sc0 0 rfl (by simp) (by show 0 ≤ 2; omega)
    have e2 := scf_frac (List.replicate m 48 ++ S) [] ⟨3, false, [48], 0, false, []⟩ 2 hf hf0 (by show 3 ≤ 3; omega) (by show 3 ≤ 5; omega)
    rw [List.append_nil] at e2
    show scf sc0 0 ([48] ++ 46 :: _) = _
    rw [e1, scf, if_neg (by show nx 2 (46 : UInt8).toNat ≠ 99; decide)]
    show scf ⟨3, false, [48], 0, false, []⟩ 2 _ = _
    rw [e2, scf, if_pos (by rfl)]
    simp
   refine ⟨_, e, rfl, ⟨by show 5 < 10; omega, m + 1, 0, ?_, ?_⟩⟩
   ·show [48] ++ (List.replicate m 48 ++ S) = _
    rw [List.replicate_succ]
    simp
   ·rw [pwr_nil]
    show 0 - ((List.replicate m 48 ++ S).length : Int) = _
    rw [List.length_append, List.length_replicate]
    omega
  ·rw [if_neg h2]
   by_cases h3 : 0 ≤ k
   ·rw [if_pos h3]
    have hf : allD (S ++ List.replicate k.toNat 48) = true := by rw [allD_append, allD_noughts, h.all]; rfl
    have e : scan (S ++ List.replicate k.toNat 48) = .ok ⟨2, false, S ++ List.replicate k.toNat 48, 0, false, []⟩ := by
     have e1 := scf_whole (S ++ List.replicate k.toNat 48) [] sc0 0 hf (by simp [h.ne]) (by show 0 ≤ 2; omega)
     rw [List.append_nil] at e1
     rw [scan, e1, scf, if_pos (by rfl)]
     rfl
    refine ⟨_, e, rfl, ⟨by show 2 < 10; omega, 0, k.toNat, by simp, ?_⟩⟩
    rw [pwr_nil]
    show 0 - ((0 : Nat) : Int) = _
    omega
   ·rw [if_neg h3]
    generalize hq : ((S.length : Int) + k).toNat = q
    obtain ⟨a1, a2⟩ := allD_take h.all q
    have hq1 : 0 < q ∧ q < S.length := by omega
    have n1 : S.take q ≠ [] := by
     intro e
     have := congrArg List.length e
     rw [List.length_take, List.length_nil] at this
     omega
    have n2 : S.drop q ≠ [] := by
     intro e
     have := congrArg List.length e
     rw [List.length_drop, List.length_nil] at this
     omega
    have e : scan (S.take q ++ (46 :: S.drop q)) = .ok ⟨5, false, S.take q ++ S.drop q, (S.drop q).length, false, []⟩ := by
     have e1 := scf_whole (S.take q) (46 :: S.drop q) sc0 0 a1 n1 (by show 0 ≤ 2; omega)
     have e2 := scf_frac (S.drop q) [] ⟨3, false, S.take q, 0, false, []⟩ (0 + (S.take q).length + 1) a2 n2 (by show 3 ≤ 3; omega) (by show 3 ≤ 5; omega)
     rw [List.append_nil] at e2
     rw [scan, e1, scf, if_neg (by show nx 2 (46 : UInt8).toNat ≠ 99; decide)]
     show scf ⟨3, false, S.take q, 0, false, []⟩ _ _ = _
     rw [e2, scf, if_pos (by rfl)]
     simp
    refine ⟨_, e, rfl, ⟨by show 5 < 10; omega, 0, 0, by simp, ?_⟩⟩
    rw [pwr_nil]
    show 0 - ((S.drop q).length : Int) = _
    rw [List.length_drop]
    omega
def Lok (n : Nat) (k : Int) : Prop := (n = 0 ∧ k = 0) ∨ (n ≠ 0 ∧ n % 10 ≠ 0)
theorem head_lyb {S : List UInt8} (h : Cl S) (k : Int) : (lyb S k).headD 0 ≠ 45 := by
 have hs : ∀ r, (S ++ r).headD 0 ≠ 45 ∧ (∀ n, 0 < n → (S.take n ++ r).headD 0 ≠ 45) := by
  intro r
  cases hl : S with
  | nil => exact absurd hl h.ne
  | cons c t =>
   have k1 := h.all
   rw [hl] at k1
   simp only [allD, List.all_cons, Bool.and_eq_true] at k1
   have k2 := (isD_iff c).1 k1.1
   have hc : c ≠ 45 := by
    intro e2
    rw [e2] at k2
    have : (45 : UInt8).toNat = 45 := rfl
    omega
   refine ⟨hc, fun n hn => ?_⟩
   cases n with
   | zero => omega
   | succ n => exact hc
 have hp := h.pos
 unfold lyb
 split
 ·exact (hs _).2 1 (by omega)
 ·split
  ·show (48 : UInt8) ≠ 45; decide
  ·split
   ·exact (hs _).1
   ·exact (hs _).2 _ (by omega)
theorem ly_scan {n : Nat} {k : Int} (h : Lok n k) (neg : Bool) : ∃ x, scan (ly neg n k) = .ok x ∧ x.neg = neg ∧ Rdl (dgs n) k x := by
 have key : ∃ x, scan (if n = 0 then [48] else lyb (Lib.decDigits n) k) = .ok x ∧ x.neg = false ∧ Rdl (dgs n) k x := by
  unfold dgs
  rcases h with ⟨h1, h2⟩ | ⟨h1, h2⟩
  ·rw [if_pos h1, if_pos h1, h2]
   exact ⟨⟨2, false, [48], 0, false, []⟩, rfl, rfl, ⟨by show 2 < 10; omega, 1, 0, rfl, rfl⟩⟩
  ·rw [if_neg h1, if_neg h1]
   exact lyb_scan (cl_dec h1 h2) k
 obtain ⟨x, e1, e2, e3⟩ := key
 cases neg with
 | false => exact ⟨x, e1, e2, e3⟩
 | true =>
  have hh : (if n = 0 then [48] else lyb (Lib.decDigits n) k).headD 0 ≠ 45 := by
   rcases h with ⟨h1, _⟩ | ⟨h1, h2⟩
   ·rw [if_pos h1]; show (48 : UInt8) ≠ 45; decide
   ·rw [if_neg h1]; exact head_lyb (cl_dec h1 h2) k
  have e := scan_sign _ (.inl hh)
  rw [e1] at e
  exact ⟨_, e, rfl, ⟨e3.st, e3.ds⟩⟩
theorem Rdl.num {S : List UInt8} {k : Int} {x : Sc} (h : Rdl S k x) : num x.ds (pwr x - x.bh) = num S k := by
 obtain ⟨m, j, e1, e2⟩ := h.ds
 rw [e1, e2, num_shift]
theorem cl_dgs {n : Nat} {k : Int} (h : Lok n k) : dgs n = [] ∧ n = 0 ∧ k = 0 ∨ Cl (dgs n) ∧ n ≠ 0 := by
 unfold dgs
 rcases h with ⟨h1, h2⟩ | ⟨h1, h2⟩
 ·exact .inl ⟨if_pos h1, h1, h2⟩
 ·rw [if_neg h1]; exact .inr ⟨cl_dec h1 h2, h1⟩
theorem Rdl.tl {S : List UInt8} {k : Int} {x : Sc} (h : Rdl S k x) (hS : Cl S) : tz (lz x.ds) = S ∧ pwr x - x.bh + ((lz x.ds).length : Int) = k + S.length := by
 obtain ⟨m, j, e1, e2⟩ := h.ds
 have e3 : lz x.ds = S ++ List.replicate j 48 := by
  rw [e1, lz_noughts, lz_append _ _ (by rw [hS.lz]; exact hS.ne), hS.lz]
 rw [e3, tz_noughts, hS.tz]
 refine ⟨rfl, ?_⟩
 rw [e2, List.length_append, List.length_replicate]
 omega
theorem Rdl.tl0 {k : Int} {x : Sc} (h : Rdl [] k x) : tz (lz x.ds) = [] := by
 obtain ⟨m, j, e1, _⟩ := h.ds
 rw [e1, lz_noughts, List.nil_append]
 have e := lz_noughts j []
 rw [List.append_nil] at e
 rw [e]
 rfl
theorem vsa_dgs (n : Nat) : vsa 0 (dgs n) = n := by
 unfold dgs
 split
 ·rename_i h; rw [h]; rfl
 ·exact (dd_all n n (Nat.le_refl _)).2.1
theorem ly_inj {a b : Bool} {n m : Nat} {k j : Int} (h1 : Lok n k) (h2 : Lok m j) (e : ly a n k = ly b m j) : a = b ∧ n = m ∧ k = j := by
 obtain ⟨x, x1, x2, x3⟩ := ly_scan h1 a
 obtain ⟨y, y1, y2, y3⟩ := ly_scan h2 b
 rw [e, y1] at x1
 obtain rfl : y = x := Except.ok.inj x1
 refine ⟨x2.symm.trans y2, ?_⟩
 rcases cl_dgs h1 with ⟨p1, p2, p3⟩ | ⟨p1, p2⟩ <;> rcases cl_dgs h2 with ⟨q1, q2, q3⟩ | ⟨q1, q2⟩
 ·exact ⟨p2.trans q2.symm, p3.trans q3.symm⟩
 ·rw [p1] at x3
  have := (y3.tl q1).1
  rw [x3.tl0] at this
  exact absurd this.symm q1.ne
 ·rw [q1] at y3
  have := (x3.tl p1).1
  rw [y3.tl0] at this
  exact absurd this.symm p1.ne
 ·obtain ⟨u1, u2⟩ := x3.tl p1
  obtain ⟨v1, v2⟩ := y3.tl q1
  rw [v1] at u1
  rw [v2, u1] at u2
  refine ⟨?_, by omega⟩
  rw [← vsa_dgs n, ← vsa_dgs m, u1]
theorem num_ly {n : Nat} {k : Int} (h : Lok n k) (hl : (dgs n).length ≤ 1990) (hk : -1000 < ((dgs n).length : Int) + k ∧ ((dgs n).length : Int) + k ≤ 1000) : num (dgs n) k = ⟨n, k, 0, false⟩ := by
 rcases cl_dgs h with ⟨p1, p2, p3⟩ | ⟨p1, p2⟩
 ·rw [p1, p2, p3]; rfl
 ·unfold M.num nm
  rw [p1.lz, p1.tz, if_neg p1.ne, if_neg (by omega), if_neg (by omega), if_neg (by omega), vsa_dgs]
  congr 1
  omega
end M
end Go.Proofs.YtcmlanfgafancaaGreatDoor
