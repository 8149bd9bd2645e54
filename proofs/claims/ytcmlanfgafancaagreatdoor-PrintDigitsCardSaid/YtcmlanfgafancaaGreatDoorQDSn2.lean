import Derived.Lib.ItoaNum
set_option maxHeartbeats 32000000
set_option linter.unusedVariables false
set_option linter.unusedSimpArgs false
namespace Go.Proofs.YtcmlanfgafancaaGreatDoor
open Go
namespace M
def vsa (acc : Nat) (l : List UInt8) : Nat := l.foldl (fun a c => a * 10 + (c.toNat - 48)) acc
def isD (c : UInt8) : Bool := decide (48 ≤ c.toNat) && decide (c.toNat ≤ 57)
def allD (l : List UInt8) : Bool := l.all isD
theorem vsa_cons (acc : Nat) (c : UInt8) (r : List UInt8) : vsa acc (c :: r) = vsa (acc * 10 + (c.toNat - 48)) r := List.foldl_cons ..
theorem vsa_nil (acc : Nat) : vsa acc [] = acc := rfl
theorem vsa_append (a b : List UInt8) (acc : Nat) : vsa acc (a ++ b) = vsa (vsa acc a) b := List.foldl_append ..
theorem vsa_acc (l : List UInt8) : ∀ acc, vsa acc l = acc * 10 ^ l.length + vsa 0 l := by
 induction l with
 | nil => intro acc; rw [vsa_nil, vsa_nil, List.length_nil, Nat.pow_zero, Nat.mul_one, Nat.add_zero]
 | cons c r ih =>
  intro acc
  rw [vsa_cons, vsa_cons, ih (acc * 10 + _), ih (0 * 10 + _), List.length_cons, Nat.pow_succ]
  generalize c.toNat - 48 = d
  generalize 10 ^ r.length = p
  rw [Nat.add_mul, Nat.zero_mul, Nat.zero_add, Nat.mul_assoc, Nat.mul_comm 10 p]
  omega
theorem isD_iff (c : UInt8) : isD c = true ↔ 48 ≤ c.toNat ∧ c.toNat ≤ 57 := by simp [isD]
theorem vsa_lt (l : List UInt8) (h : allD l = true) : vsa 0 l < 10 ^ l.length := by
 induction l with
 | nil => rw [vsa_nil]; exact Nat.pow_pos (by omega)
 | cons c r ih =>
  simp only [allD, List.all_cons, Bool.and_eq_true] at h
  have h1 := (isD_iff c).1 h.1
  have h2 := ih h.2
  rw [vsa_cons, vsa_acc, List.length_cons, Nat.pow_succ]
  have h3 : (0 * 10 + (c.toNat - 48)) * 10 ^ r.length ≤ 9 * 10 ^ r.length := Nat.mul_le_mul_right _ (by omega)
  omega
theorem allD_append (a b : List UInt8) : allD (a ++ b) = (allD a && allD b) := List.all_append
theorem vsa_snoc (l : List UInt8) (c : UInt8) : vsa 0 (l ++ [c]) = vsa 0 l * 10 + (c.toNat - 48) := by rw [vsa_append, vsa_cons, vsa_nil]
theorem allD_snoc (l : List UInt8) (c : UInt8) : allD (l ++ [c]) = (allD l && isD c) := by rw [allD_append]; simp [allD]
theorem ofNat_toNat {d : Nat} (h : d ≤ 9) : (UInt8.ofNat (48 + d)).toNat = 48 + d := by
 rw [show (UInt8.ofNat (48 + d)).toNat = (48 + d) % 256 from rfl]; omega
theorem dd_all : ∀ (n a : Nat), a ≤ n → allD (Lib.decDigits a) = true ∧ vsa 0 (Lib.decDigits a) = a ∧ Lib.decDigits a ≠ [] ∧ ((Lib.decDigits a).headD 0 ≠ 48 ∨ Lib.decDigits a = [48])
 | n, a, h => by
  by_cases h10 : a < 10
  ·rw [Lib.decDigits_one h10]
   have e := ofNat_toNat (d := a) (by omega)
   refine ⟨?_, ?_, by simp, ?_⟩
   ·have : isD (UInt8.ofNat (48 + a)) = true := (isD_iff _).2 (by rw [e]; omega)
    simp only [allD, List.all_cons, List.all_nil, this, Bool.and_true]
   ·rw [vsa_cons, vsa_nil, e]; omega
   ·by_cases h0 : a = 0
    ·right; rw [h0]; rfl
    ·left
     intro e2
     have e3 : (UInt8.ofNat (48 + a)) = 48 := e2
     rw [e3] at e
     have : (48 : UInt8).toNat = 48 := rfl
     omega
  ·cases n with
   | zero => omega
   | succ n =>
    obtain ⟨k1, k2, k3, k4⟩ := dd_all n (a / 10) (by omega)
    have e := ofNat_toNat (d := a % 10) (by omega)
    have ed : Lib.decDigits a = Lib.decDigits (a / 10) ++ [UInt8.ofNat (48 + a % 10)] := by
     conv => lhs; rw [Lib.decDigits, dif_neg h10]
    rw [ed]
    refine ⟨?_, ?_, by simp, ?_⟩
    ·rw [allD_snoc, k1]
     exact (isD_iff _).2 (by rw [e]; omega)
    ·rw [vsa_snoc, k2, e]; omega
    ·left
     have hh : (Lib.decDigits (a / 10) ++ [UInt8.ofNat (48 + a % 10)]).headD 0 = (Lib.decDigits (a / 10)).headD 0 := by
      cases hl : Lib.decDigits (a / 10) with
      | nil => exact absurd hl k3
      | cons c r => rfl
     rw [hh]
     rcases k4 with k4 | k4
     ·exact k4
     ·rw [k4] at k2
      have : vsa 0 [48] = 0 := rfl
      omega
theorem vsa_pos {l : List UInt8} (h0 : l ≠ []) (hd : allD l = true) (hz : l.headD 0 ≠ 48) : 0 < vsa 0 l := by
 cases l with
 | nil => exact absurd rfl h0
 | cons c r =>
  have h1 : isD c = true := by simp only [allD, List.all_cons, Bool.and_eq_true] at hd; exact hd.1
  have h2 := (isD_iff c).1 h1
  have h3 : c.toNat ≠ 48 := fun e => hz (UInt8.toNat_inj.1 (by show c.toNat = 48; exact e))
  rw [vsa_cons, vsa_acc]
  have : 0 < (0 * 10 + (c.toNat - 48)) * 10 ^ r.length := Nat.mul_pos (by omega) (Nat.pow_pos (by omega))
  omega
theorem dd_vsa : ∀ (n : Nat) (l : List UInt8), l.length ≤ n → l ≠ [] → allD l = true → (l.headD 0 ≠ 48 ∨ l = [48]) → Lib.decDigits (vsa 0 l) = l
 | 0, l, h, h0, _, _ => absurd (List.eq_nil_of_length_eq_zero (by omega)) h0
 | n + 1, l, h, h0, hd, hz => by
  obtain ⟨b, c, rfl⟩ : ∃ b c, l = b ++ [c] := ⟨l.dropLast, l.getLast h0, (List.dropLast_concat_getLast h0).symm⟩
  rw [allD_snoc, Bool.and_eq_true] at hd
  have h2 := (isD_iff c).1 hd.2
  have hc : UInt8.ofNat (48 + (c.toNat - 48)) = c := by
   apply UInt8.toNat_inj.1
   rw [ofNat_toNat (by omega)]
   omega
  rw [vsa_snoc]
  by_cases hb : b = []
  ·subst hb
   rw [vsa_nil, Nat.zero_mul, Nat.zero_add, Lib.decDigits_one (by omega), hc]
   rfl
  ·have hh : (b ++ [c]).headD 0 = b.headD 0 := by
    cases hl : b with
    | nil => exact absurd hl hb
    | cons c r => rfl
   have hzb : b.headD 0 ≠ 48 := by
    rcases hz with e | e
    ·rw [hh] at e; exact e
    ·exfalso
     have := congrArg List.length e
     rw [List.length_append] at this
     simp at this
     exact hb this
   have hv := vsa_pos hb hd.1 hzb
   have ih := dd_vsa n b (by rw [List.length_append] at h; simp at h; omega) hb hd.1 (.inl hzb)
   rw [Lib.decDigits, dif_neg (by omega), show (vsa 0 b * 10 + (c.toNat - 48)) / 10 = vsa 0 b by omega, ih, show (vsa 0 b * 10 + (c.toNat - 48)) % 10 = c.toNat - 48 by omega, hc]
end M
end Go.Proofs.YtcmlanfgafancaaGreatDoor
namespace Go.Proofs.YtcmlanfgafancaaGreatDoor
open Go
namespace M
def nx (s c : Nat) : Nat :=
 if s < 2 ∧ c = 45 then (if s = 0 then 1 else 99)
 else if s < 2 ∧ c = 105 then 10
 else if s < 2 ∧ c = 110 then 20
 else if s < 2 ∧ c = 78 then 30
 else if s < 2 ∧ c = 46 then 4
 else if (48 ≤ c ∧ c ≤ 57) ∧ s ≤ 2 then 2
 else if (48 ≤ c ∧ c ≤ 57) ∧ s ≤ 5 then 5
 else if (48 ≤ c ∧ c ≤ 57) ∧ 6 ≤ s ∧ s ≤ 8 then 8
 else if s = 2 ∧ c = 46 then 3
 else if (s = 2 ∨ s = 3 ∨ s = 5) ∧ (c = 101 ∨ c = 69) then 6
 else if s = 6 ∧ (c = 43 ∨ c = 45) then 7
 else if s = 10 ∧ c = 110 ∨ s = 11 ∧ c = 102 ∨ s = 20 ∧ c = 97 ∨ s = 21 ∧ c = 110 ∨ s = 30 ∧ c = 97 ∨ s = 31 ∧ c = 82 then s + 1
 else 99
def wh (s : Nat) : Bool := s == 2 || s == 3 || s == 5 || s == 8 || s == 12 || s == 22 || s == 32
structure Sc where
 st : Nat
 neg : Bool
 ds : List UInt8
 bh : Nat
 dn : Bool
 pw : List UInt8
def sc0 : Sc := ⟨0, false, [], 0, false, []⟩
def stp (x : Sc) (c : UInt8) : Sc :=
  ⟨nx x.st c.toNat, if nx x.st c.toNat = 1 then true else x.neg, if nx x.st c.toNat = 2 ∨ nx x.st c.toNat = 5 then x.ds ++ [c] else x.ds, if nx x.st c.toNat = 5 then x.bh + 1 else x.bh,
   if nx x.st c.toNat = 7 then c.toNat == 45 else x.dn, if nx x.st c.toNat = 8 then x.pw ++ [c] else x.pw⟩
def scf (x : Sc) (i : Nat) : List UInt8 → Except Nat Sc
 | [] => if wh x.st = true then .ok x else .error i
 | c :: r => if nx x.st c.toNat = 99 then .error i else scf (stp x c) (i + 1) r
def scan (l : List UInt8) : Except Nat Sc := scf sc0 0 l
structure Rdn (l : List UInt8) (i : Nat) (x : Sc) : Prop where
 le : i ≤ l.length
 eq : scan l = scf x i (l.drop i)
theorem Rdn.start (l : List UInt8) : Rdn l 0 sc0 := ⟨Nat.zero_le _, by rw [List.drop_zero]; rfl⟩
theorem drop_at {l : List UInt8} {i : Nat} (h : i < l.length) : l.drop i = l.getD i 0 :: l.drop (i + 1) := by
 rw [List.drop_eq_getElem_cons h]
 simp [List.getD_eq_getElem?_getD, List.getElem?_eq_getElem h]
theorem Rdn.step {l : List UInt8} {i : Nat} {x : Sc} (h : Rdn l i x) (hi : i < l.length) (hn : nx x.st (l.getD i 0).toNat ≠ 99) : Rdn l (i + 1) (stp x (l.getD i 0)) := by
 refine ⟨hi, ?_⟩
 rw [h.eq, drop_at hi, scf, if_neg hn]
theorem Rdn.stop {l : List UInt8} {i : Nat} {x : Sc} (h : Rdn l i x) (hi : i < l.length) (hn : nx x.st (l.getD i 0).toNat = 99) : scan l = .error i := by
 rw [h.eq, drop_at hi, scf, if_pos hn]
theorem Rdn.fin {l : List UInt8} {i : Nat} {x : Sc} (h : Rdn l i x) (hi : i = l.length) (hw : wh x.st = true) : scan l = .ok x := by
 rw [h.eq, hi, List.drop_of_length_le (Nat.le_refl _), scf, if_pos hw]
theorem Rdn.short {l : List UInt8} {i : Nat} {x : Sc} (h : Rdn l i x) (hi : i = l.length) (hw : wh x.st = false) : scan l = .error i := by
 rw [h.eq, hi, List.drop_of_length_le (Nat.le_refl _), scf, if_neg (by rw [hw]; simp)]
theorem Rdn.none {l : List UInt8} {i : Nat} {x : Sc} (h : Rdn l i x) (hw : wh x.st = false) (hn : i < l.length → nx x.st (l.getD i 0).toNat = 99) : scan l = .error i := by
 rcases Nat.lt_or_ge i l.length with hi | hi
 ·exact h.stop hi (hn hi)
 ·exact h.short (Nat.le_antisymm h.le hi) hw
theorem isD_rng {c : UInt8} (h : isD c = true) : 48 ≤ c.toNat ∧ c.toNat ≤ 57 := (isD_iff c).1 h
theorem nx_dig {s c : Nat} (hc : 48 ≤ c ∧ c ≤ 57) : nx s c = if s ≤ 2 then 2 else if s ≤ 5 then 5 else if s ≤ 8 then 8 else 99 := by
 have h1 : c ≠ 45 ∧ c ≠ 105 ∧ c ≠ 110 ∧ c ≠ 78 ∧ c ≠ 46 ∧ c ≠ 101 ∧ c ≠ 69 ∧ c ≠ 43 ∧ c ≠ 102 ∧ c ≠ 97 ∧ c ≠ 82 := by omega
 unfold nx
 simp only [h1, hc, and_false, or_false, if_false, true_and, and_self]
 by_cases a : s ≤ 2
 ·simp only [a, if_true]
 ·by_cases b : s ≤ 5
  ·simp only [a, b, if_true, if_false]
  ·simp only [a, b, if_false, show 6 ≤ s from by omega, true_and]
theorem scf_whole : ∀ (ds r : List UInt8) (x : Sc) (i : Nat), allD ds = true → ds ≠ [] → x.st ≤ 2 → scf x i (ds ++ r) = scf ⟨2, x.neg, x.ds ++ ds, x.bh, x.dn, x.pw⟩ (i + ds.length) r
 | [], _, _, _, _, h0, _ => absurd rfl h0
 | c :: t, r, x, i, hd, _, hs => by
  rw [allD, List.all_cons, Bool.and_eq_true] at hd
  have e : nx x.st c.toNat = 2 := by rw [nx_dig (isD_rng hd.1), if_pos hs]
  have es : stp x c = ⟨2, x.neg, x.ds ++ [c], x.bh, x.dn, x.pw⟩ := by simp [stp, e]
  rw [List.cons_append, scf, if_neg (by rw [e]; omega), es]
  by_cases ht : t = []
  ·subst ht; rfl
  ·rw [scf_whole t r _ _ hd.2 ht (Nat.le_refl _), List.append_assoc, List.length_cons]
   simp only [List.singleton_append]
   rw [show i + 1 + t.length = i + (t.length + 1) from by omega]
theorem scf_frac : ∀ (ds r : List UInt8) (x : Sc) (i : Nat), allD ds = true → ds ≠ [] → 3 ≤ x.st → x.st ≤ 5 → scf x i (ds ++ r) = scf ⟨5, x.neg, x.ds ++ ds, x.bh + ds.length, x.dn, x.pw⟩ (i + ds.length) r
 | [], _, _, _, _, h0, _, _ => absurd rfl h0
 | c :: t, r, x, i, hd, _, hs, hs' => by
  rw [allD, List.all_cons, Bool.and_eq_true] at hd
  have e : nx x.st c.toNat = 5 := by rw [nx_dig (isD_rng hd.1), if_neg (by omega), if_pos hs']
  have es : stp x c = ⟨5, x.neg, x.ds ++ [c], x.bh + 1, x.dn, x.pw⟩ := by simp [stp, e]
  rw [List.cons_append, scf, if_neg (by rw [e]; omega), es]
  by_cases ht : t = []
  ·subst ht; rfl
  ·rw [scf_frac t r _ _ hd.2 ht (by show 3 ≤ 5; omega) (Nat.le_refl _), List.append_assoc, List.length_cons]
   simp only [List.singleton_append]
   rw [show i + 1 + t.length = i + (t.length + 1) from by omega, show x.bh + 1 + t.length = x.bh + (t.length + 1) from by omega]
theorem scf_power : ∀ (ds r : List UInt8) (x : Sc) (i : Nat), allD ds = true → ds ≠ [] → 6 ≤ x.st → x.st ≤ 8 → scf x i (ds ++ r) = scf ⟨8, x.neg, x.ds, x.bh, x.dn, x.pw ++ ds⟩ (i + ds.length) r
 | [], _, _, _, _, h0, _, _ => absurd rfl h0
 | c :: t, r, x, i, hd, _, hs, hs' => by
  rw [allD, List.all_cons, Bool.and_eq_true] at hd
  have e : nx x.st c.toNat = 8 := by rw [nx_dig (isD_rng hd.1), if_neg (by omega), if_neg (by omega), if_pos hs']
  have es : stp x c = ⟨8, x.neg, x.ds, x.bh, x.dn, x.pw ++ [c]⟩ := by simp [stp, e]
  rw [List.cons_append, scf, if_neg (by rw [e]; omega), es]
  by_cases ht : t = []
  ·subst ht; rfl
  ·rw [scf_power t r _ _ hd.2 ht (by show 6 ≤ 8; omega) (Nat.le_refl _), List.append_assoc, List.length_cons]
   simp only [List.singleton_append]
   rw [show i + 1 + t.length = i + (t.length + 1) from by omega]
theorem scf_tail (ec : UInt8) (sg pw : List UInt8) (x : Sc) (i : Nat) (hx : x.st = 2 ∨ x.st = 3 ∨ x.st = 5) (he : ec = 101 ∨ ec = 69) (hs : sg = [] ∨ sg = [43] ∨ sg = [45]) (hp : allD pw = true) (h0 : pw ≠ []) (hx0 : x.pw = []) (hd0 : x.dn = false) :
  scf x i (ec :: (sg ++ pw)) = .ok ⟨8, x.neg, x.ds, x.bh, decide (sg = [45]), pw⟩ := by
 have ee : ec.toNat = 101 ∨ ec.toNat = 69 := by rcases he with rfl | rfl <;> simp
 have e : nx x.st ec.toNat = 6 := by
  unfold nx
  rcases hx with h | h | h <;> rcases ee with k | k <;> simp [h, k]
 have es : stp x ec = ⟨6, x.neg, x.ds, x.bh, x.dn, x.pw⟩ := by simp [stp, e]
 rw [scf, if_neg (by rw [e]; omega), es]
 have fin : ∀ (y : Sc) (j : Nat), 6 ≤ y.st → y.st ≤ 8 → y.pw = [] → scf y j pw = .ok ⟨8, y.neg, y.ds, y.bh, y.dn, pw⟩ := by
  intro y j h1 h2 h3
  have := scf_power pw [] y j hp h0 h1 h2
  rw [List.append_nil] at this
  rw [this, scf, if_pos (by rfl), h3, List.nil_append]
 rcases hs with rfl | rfl | rfl
 ·rw [List.nil_append, fin ⟨6, x.neg, x.ds, x.bh, x.dn, x.pw⟩ _ (by show 6 ≤ 6; omega) (by show 6 ≤ 8; omega) hx0]
  simp [hd0]
 ·rw [List.singleton_append, scf, if_neg (by simp [nx])]
  rw [fin _ _ (by simp [stp, nx]) (by simp [stp, nx]) (by simp [stp, nx, hx0])]
  simp [stp, nx]
 ·rw [List.singleton_append, scf, if_neg (by simp [nx])]
  rw [fin _ _ (by simp [stp, nx]) (by simp [stp, nx]) (by simp [stp, nx, hx0])]
  simp [stp, nx]
theorem scan_plain (ds : List UInt8) (ec : UInt8) (sg pw : List UInt8) (hd : allD ds = true) (hd0 : ds ≠ []) (he : ec = 101 ∨ ec = 69) (hs : sg = [] ∨ sg = [43] ∨ sg = [45]) (hp : allD pw = true) (h0 : pw ≠ []) :
  scan (ds ++ (ec :: (sg ++ pw))) = .ok ⟨8, false, ds, 0, decide (sg = [45]), pw⟩ := by
 rw [scan, scf_whole ds _ sc0 0 hd hd0 (by show 0 ≤ 2; omega), scf_tail ec sg pw _ _ (.inl rfl) he hs hp h0 rfl rfl]
 rfl
theorem scf_point (fs r : List UInt8) (x : Sc) (i : Nat) (hx : x.st ≤ 2) (hf : allD fs = true) (hx0 : x.st = 2 ∨ fs ≠ []) :
  ∃ s, (s = 3 ∨ s = 5) ∧ scf x i (46 :: (fs ++ r)) = scf ⟨s, x.neg, x.ds ++ fs, x.bh + fs.length, x.dn, x.pw⟩ (i + 1 + fs.length) r := by
 have e : nx x.st 46 = 3 ∨ nx x.st 46 = 4 ∧ x.st ≠ 2 := by
  unfold nx
  rcases Nat.lt_or_ge x.st 2 with h | h
  ·right; constructor
   ·simp [h]
   ·omega
  ·left
   have : x.st = 2 := by omega
   simp [this]
 have es : stp x 46 = ⟨nx x.st 46, x.neg, x.ds, x.bh, x.dn, x.pw⟩ := by
  have k : (46 : UInt8).toNat = 46 := rfl
  rcases e with e | ⟨e, _⟩ <;> simp [stp, k, e]
 have k : (46 : UInt8).toNat = 46 := rfl
 have en : nx x.st 46 ≠ 99 := by rcases e with e | ⟨e, _⟩ <;> rw [e] <;> omega
 by_cases hf0 : fs = []
 ·subst hf0
  rcases e with e | ⟨_, e⟩
  ·refine ⟨3, .inl rfl, ?_⟩
   rw [scf, k, if_neg en, es, e, List.append_nil]
   rfl
  ·rcases hx0 with h | h
   ·exact absurd h e
   ·exact absurd rfl h
 ·refine ⟨5, .inr rfl, ?_⟩
  rw [scf, k, if_neg en, es, scf_frac fs r _ _ hf hf0 (by show 3 ≤ nx x.st 46; rcases e with e | ⟨e, _⟩ <;> omega) (by show nx x.st 46 ≤ 5; rcases e with e | ⟨e, _⟩ <;> omega)]
theorem scan_point (ds fs : List UInt8) (ec : UInt8) (sg pw : List UInt8) (hd : allD ds = true) (hf : allD fs = true) (h2 : ds ≠ [] ∨ fs ≠ []) (he : ec = 101 ∨ ec = 69) (hs : sg = [] ∨ sg = [43] ∨ sg = [45]) (hp : allD pw = true) (h0 : pw ≠ []) :
  scan (ds ++ (46 :: (fs ++ (ec :: (sg ++ pw))))) = .ok ⟨8, false, ds ++ fs, fs.length, decide (sg = [45]), pw⟩ := by
 have key : ∀ (x : Sc) (i : Nat), x.st ≤ 2 → (x.st = 2 ∨ fs ≠ []) → x.pw = [] → x.dn = false → x.neg = false → x.bh = 0 → scf x i (46 :: (fs ++ (ec :: (sg ++ pw)))) = .ok ⟨8, false, x.ds ++ fs, fs.length, decide (sg = [45]), pw⟩ := by
  intro x i h1 h2 h3 h4 h5 h6
  obtain ⟨s, hs', e⟩ := scf_point fs (ec :: (sg ++ pw)) x i h1 hf h2
  rw [e, scf_tail ec sg pw ⟨s, x.neg, x.ds ++ fs, x.bh + fs.length, x.dn, x.pw⟩ _ (by show s = 2 ∨ s = 3 ∨ s = 5; omega) he hs hp h0 h3 h4]
  simp [h5, h6]
 by_cases hd0 : ds = []
 ·subst hd0
  rw [scan, List.nil_append, key sc0 0 (by show 0 ≤ 2; omega) (.inr (by rcases h2 with h | h; exact absurd rfl h; exact h)) rfl rfl rfl rfl]
  rfl
 ·rw [scan, scf_whole ds _ sc0 0 hd hd0 (by show 0 ≤ 2; omega), key _ _ (Nat.le_refl _) (.inl rfl) rfl rfl rfl rfl]
  rfl
end M
end Go.Proofs.YtcmlanfgafancaaGreatDoor
namespace Go.Proofs.YtcmlanfgafancaaGreatDoor
open Go
namespace M
def lz (l : List UInt8) : List UInt8 := l.dropWhile (· == 48)
def tz (l : List UInt8) : List UInt8 := (lz l.reverse).reverse
theorem lz_cons (c : UInt8) (l : List UInt8) : lz (c :: l) = if c = 48 then lz l else c :: l := by
 unfold lz
 by_cases h : c = 48
 ·rw [if_pos h, List.dropWhile_cons_of_pos (by simp [h])]
 ·rw [if_neg h, List.dropWhile_cons_of_neg (by simp [h])]
theorem lz_noughts (n : Nat) (l : List UInt8) : lz (List.replicate n 48 ++ l) = lz l := by
 induction n with
 | zero => rfl
 | succ n ih => rw [List.replicate_succ, List.cons_append, lz_cons, if_pos rfl, ih]
theorem lz_split (l : List UInt8) : ∃ n, l = List.replicate n 48 ++ lz l := by
 induction l with
 | nil => exact ⟨0, rfl⟩
 | cons c t ih =>
  rw [lz_cons]
  by_cases h : c = 48
  ·rw [if_pos h]
   obtain ⟨n, hn⟩ := ih
   refine ⟨n + 1, ?_⟩
   rw [List.replicate_succ, List.cons_append, ← hn, h]
  ·rw [if_neg h]; exact ⟨0, rfl⟩
theorem lz_head (l : List UInt8) : lz l = [] ∨ (lz l).headD 0 ≠ 48 := by
 induction l with
 | nil => exact .inl rfl
 | cons c t ih =>
  rw [lz_cons]
  by_cases h : c = 48
  ·rw [if_pos h]; exact ih
  ·rw [if_neg h]; exact .inr h
theorem lz_len (l : List UInt8) : (lz l).length ≤ l.length := by
 obtain ⟨n, hn⟩ := lz_split l
 have := congrArg List.length hn
 rw [List.length_append] at this
 omega
theorem lz_append (l r : List UInt8) (h : lz l ≠ []) : lz (l ++ r) = lz l ++ r := by
 induction l with
 | nil => exact absurd rfl h
 | cons c t ih =>
  rw [List.cons_append, lz_cons, lz_cons]
  rw [lz_cons] at h
  by_cases hc : c = 48
  ·rw [if_pos hc] at h ⊢
   rw [if_pos hc, ih h]
  ·rw [if_neg hc, if_neg hc, List.cons_append]
theorem lz_none (l r : List UInt8) (h : lz l = []) : lz (l ++ r) = lz r := by
 obtain ⟨n, hn⟩ := lz_split l
 rw [h, List.append_nil] at hn
 rw [hn, lz_noughts]
theorem tz_noughts (n : Nat) (l : List UInt8) : tz (l ++ List.replicate n 48) = tz l := by
 unfold tz
 rw [List.reverse_append, List.reverse_replicate, lz_noughts]
theorem tz_split (l : List UInt8) : ∃ n, l = tz l ++ List.replicate n 48 := by
 obtain ⟨n, hn⟩ := lz_split l.reverse
 refine ⟨n, ?_⟩
 have := congrArg List.reverse hn
 rw [List.reverse_reverse, List.reverse_append, List.reverse_replicate] at this
 exact this
theorem tz_len (l : List UInt8) : (tz l).length ≤ l.length := by
 unfold tz
 rw [List.length_reverse]
 exact Nat.le_trans (lz_len _) (by rw [List.length_reverse]; exact Nat.le_refl _)
theorem tz_last (l : List UInt8) : tz l = [] ∨ (tz l).getLast? ≠ some 48 := by
 unfold tz
 rcases lz_head l.reverse with h | h
 ·left; rw [h]; rfl
 ·right
  rw [List.getLast?_reverse]
  cases hl : lz l.reverse with
  | nil => simp
  | cons c t =>
   rw [hl] at h
   intro e
   simp at e h
   exact h e
theorem tz_head (l : List UInt8) (h : l = [] ∨ l.headD 0 ≠ 48) : tz l = [] ∧ l = [] ∨ tz l ≠ [] ∧ (tz l).headD 0 ≠ 48 := by
 obtain ⟨n, hn⟩ := tz_split l
 cases ht : tz l with
 | nil =>
  left
  refine ⟨rfl, ?_⟩
  rw [ht, List.nil_append] at hn
  rcases h with h | h
  ·exact h
  ·cases n with
   | zero => exact hn
   | succ n => rw [hn, List.replicate_succ] at h; exact absurd rfl h
 | cons c t =>
  right
  refine ⟨by simp, ?_⟩
  rcases h with h | h
  ·rw [h] at ht; cases ht
  ·rw [hn, ht] at h
   exact h
theorem allD_left {a b : List UInt8} (h : allD (a ++ b) = true) : allD a = true := by rw [allD_append, Bool.and_eq_true] at h; exact h.1
theorem allD_right {a b : List UInt8} (h : allD (a ++ b) = true) : allD b = true := by rw [allD_append, Bool.and_eq_true] at h; exact h.2
theorem lz_allD {l : List UInt8} (h : allD l = true) : allD (lz l) = true := by
 obtain ⟨n, hn⟩ := lz_split l
 rw [hn] at h
 exact allD_right h
theorem tz_allD {l : List UInt8} (h : allD l = true) : allD (tz l) = true := by
 obtain ⟨n, hn⟩ := tz_split l
 rw [hn] at h
 exact allD_left h
theorem allD_noughts (n : Nat) : allD (List.replicate n 48) = true := by
 induction n with
 | zero => rfl
 | succ n ih =>
  rw [List.replicate_succ]
  show (isD 48 && allD (List.replicate n 48)) = true
  rw [ih]; rfl
structure Nm where
 d : Nat
 k : Int
 big : Int
 cut : Bool
def nm (d : List UInt8) (t : Int) : Nm :=
 if d = [] then ⟨0, 0, 0, false⟩
 else if 1000 < t then ⟨0, 0, 1, false⟩
 else if t ≤ -1000 then ⟨0, 0, -1, false⟩
 else if 1990 < d.length then ⟨vsa 0 (d.take 1990 ++ [49]), t - 1991, 0, true⟩
 else ⟨vsa 0 d, t - d.length, 0, false⟩
def num (ds : List UInt8) (k : Int) : Nm := nm (tz (lz ds)) (k + (lz ds).length)
def pwr (x : Sc) : Int := if x.dn = true then -(vsa 0 x.pw : Int) else (vsa 0 x.pw : Int)
structure It where
 kind : Nat
 neg : Bool
 n : Nm
def itm (x : Sc) : It := if 10 ≤ x.st then ⟨x.st / 10 + 1, x.neg, ⟨0, 0, 0, false⟩⟩ else ⟨1, x.neg, num x.ds (pwr x - x.bh)⟩
theorem num_shift (a b : Nat) (ds : List UInt8) (k : Int) : num (List.replicate a 48 ++ (ds ++ List.replicate b 48)) (k - b) = num ds k := by
 unfold num
 rw [lz_noughts]
 by_cases h : lz ds = []
 ·rw [lz_none _ _ h, h]
  have e : lz (List.replicate b 48) = [] := by
   have := lz_noughts b []
   rwa [List.append_nil] at this
  rw [e]
  have : tz [] = [] := rfl
  rw [this]
  simp [nm]
 ·rw [lz_append _ _ h, tz_noughts, List.length_append, List.length_replicate]
  congr 1
  omega
theorem num_far (ds : List UInt8) (k k' : Int) (h : k = k' ∨ (1000 < k ∧ 1000 < k') ∨ (k ≤ -1000 - ds.length ∧ k' ≤ -1000 - ds.length)) : num ds k = num ds k' := by
 have hl := lz_len ds
 unfold num nm
 by_cases hd : tz (lz ds) = []
 ·rw [if_pos hd, if_pos hd]
 ·rw [if_neg hd, if_neg hd]
  rcases h with h | ⟨h1, h2⟩ | ⟨h1, h2⟩
  ·rw [h]
  ·rw [if_pos (show (1000 : Int) < k + ((lz ds).length : Int) by omega), if_pos (show (1000 : Int) < k' + ((lz ds).length : Int) by omega)]
  ·rw [if_neg (show ¬ (1000 : Int) < k + ((lz ds).length : Int) by omega), if_neg (show ¬ (1000 : Int) < k' + ((lz ds).length : Int) by omega), if_pos (show k + ((lz ds).length : Int) ≤ -1000 by omega), if_pos (show k' + ((lz ds).length : Int) ≤ -1000 by omega)]
theorem clamp_step (F V d : Nat) : min (10 * min V F + d) F = min (V * 10 + d) F := by omega
theorem num_bounds (ds : List UInt8) (k : Int) (hd : allD ds = true) :
  ((num ds k).d = 0 ∧ (num ds k).k = 0 ∧ (num ds k).cut = false) ∨
  (0 < (num ds k).d ∧ (num ds k).big = 0 ∧ ∃ s, s ≠ [] ∧ vsa 0 s = (num ds k).d ∧ allD s = true ∧ s.headD 0 ≠ 48 ∧ s.length ≤ 1991 ∧ (s.length = 1991 ↔ (num ds k).cut = true) ∧ s.getLast? ≠ some 48 ∧ (s.length : Int) + (num ds k).k ≤ 1000 ∧ -1000 < (s.length : Int) + (num ds k).k) := by
 unfold num
 have h1 := tz_head (lz ds) (lz_head ds)
 have h2 := tz_last (lz ds)
 have h3 := tz_allD (lz_allD hd)
 generalize tz (lz ds) = d at *
 generalize k + ((lz ds).length : Int) = t
 unfold nm
 by_cases hn : d = []
 ·left; rw [if_pos hn]; exact ⟨rfl, rfl, rfl⟩
 ·rw [if_neg hn]
  have hh : d.headD 0 ≠ 48 := by
   rcases h1 with h | h
   ·exact absurd h.1 hn
   ·exact h.2
  by_cases ht : 1000 < t
  ·left; rw [if_pos ht]; exact ⟨rfl, rfl, rfl⟩
  ·rw [if_neg ht]
   by_cases ht' : t ≤ -1000
   ·left; rw [if_pos ht']; exact ⟨rfl, rfl, rfl⟩
   ·rw [if_neg ht']
    right
    by_cases hc : 1990 < d.length
    ·rw [if_pos hc]
     have ha : allD (d.take 1990 ++ [49]) = true := by
      rw [allD_append, Bool.and_eq_true]
      refine ⟨?_, rfl⟩
      rw [← List.take_append_drop 1990 d] at h3
      exact allD_left h3
     have hhd : (d.take 1990 ++ [49]).headD 0 ≠ 48 := by
      cases d with
      | nil => exact absurd rfl hn
      | cons c t => exact hh
     have hl : (d.take 1990 ++ [49]).length = 1991 := by
      rw [List.length_append, List.length_take, List.length_singleton]; omega
     have hne : d.take 1990 ++ [49] ≠ [] := by simp
     refine ⟨vsa_pos hne ha hhd, rfl, d.take 1990 ++ [49], hne, rfl, ha, hhd, by omega, by simp [hl], by simp, ?_, ?_⟩
     ·rw [hl]; show (1991 : Int) + (t - 1991) ≤ 1000; omega
     ·rw [hl]; show -1000 < (1991 : Int) + (t - 1991); omega
    ·rw [if_neg hc]
     refine ⟨vsa_pos hn h3 hh, rfl, d, hn, rfl, h3, hh, by omega, ?_, ?_, ?_, ?_⟩
     ·constructor
      ·intro h; omega
      ·intro h; cases h
     ·rcases h2 with h | h
      ·exact absurd h hn
      ·exact h
     ·show (d.length : Int) + (t - d.length) ≤ 1000; omega
     ·show -1000 < (d.length : Int) + (t - d.length); omega
def sgd (e : Except Nat Sc) : Except Nat Sc := match e with
 | .error n => .error (n + 1)
 | .ok x => .ok ⟨x.st, true, x.ds, x.bh, x.dn, x.pw⟩
theorem scf_sign : ∀ (r : List UInt8) (x : Sc) (i : Nat), scf ⟨x.st, true, x.ds, x.bh, x.dn, x.pw⟩ (i + 1) r = sgd (scf x i r)
 | [], x, i => by
  rw [scf, scf]
  by_cases h : wh x.st = true
  ·rw [if_pos h, if_pos h]; rfl
  ·rw [if_neg h, if_neg h]; rfl
 | c :: r, x, i => by
  rw [scf, scf]
  by_cases h : nx x.st c.toNat = 99
  ·rw [if_pos h, if_pos h]; rfl
  ·rw [if_neg h, if_neg h, ← scf_sign r (stp x c) (i + 1)]
   simp [stp]
theorem nx_one (c : Nat) (h : c ≠ 45) : nx 1 c = nx 0 c := by
 unfold nx
 simp [h]
theorem scan_sign (l : List UInt8) (h : l.headD 0 ≠ 45 ∨ l = []) : scan (45 :: l) = sgd (scan l) := by
 have e : nx 0 (45 : UInt8).toNat = 1 := rfl
 have es : stp sc0 45 = ⟨1, true, [], 0, false, []⟩ := rfl
 rw [scan, scf, if_neg (by show nx 0 (45 : UInt8).toNat ≠ 99; rw [e]; omega), es]
 cases l with
 | nil => rfl
 | cons c r =>
  have hc : c.toNat ≠ 45 := by
   rcases h with h | h
   ·intro k
    exact h (UInt8.toNat_inj.1 (by show c.toNat = 45; exact k))
   ·cases h
  rw [scan, scf, scf]
  show (if nx 1 c.toNat = 99 then _ else _) = sgd (if nx 0 c.toNat = 99 then _ else _)
  rw [nx_one _ hc]
  by_cases k : nx 0 c.toNat = 99
  ·rw [if_pos k, if_pos k]; rfl
  ·rw [if_neg k, if_neg k, ← scf_sign]
   congr 1
   unfold stp sc0
   simp only [nx_one _ hc, ite_self]
theorem ite_mem {P : Nat → Prop} {p : Prop} [Decidable p] {a b : Nat} (ha : p → P a) (hb : ¬ p → P b) : P (if p then a else b) := by
 by_cases h : p
 ·rw [if_pos h]; exact ha h
 ·rw [if_neg h]; exact hb h
def Nxs (s n : Nat) : Prop := n = 99 ∨ (n = 1 ∧ s = 0) ∨ n = 2 ∨ n = 3 ∨ n = 4 ∨ n = 5 ∨ n = 6 ∨ n = 7 ∨ n = 8 ∨ n = 10 ∨ n = 11 ∨ n = 12 ∨ n = 20 ∨ n = 21 ∨ n = 22 ∨ n = 30 ∨ n = 31 ∨ n = 32
theorem nx_cases (s c n : Nat) (hn : nx s c = n) : Nxs s n := by
 subst hn
 unfold nx
 repeat' (refine ite_mem (P := Nxs s) (fun _ => ?_) (fun _ => ?_))
 all_goals (unfold Nxs; omega)
theorem nx_zero_one (c : Nat) (h : c ≠ 45) : nx 0 c ≠ 1 := by
 unfold nx
 repeat' (refine ite_mem (P := fun n => n ≠ 1) (fun _ => ?_) (fun _ => ?_))
 all_goals omega
theorem nx_not0 (s c : Nat) : nx s c ≠ 0 := fun h => by have := nx_cases s c 0 h; unfold Nxs at this; omega
theorem nx_not1 (s c : Nat) (hs : s ≠ 0) : nx s c ≠ 1 := fun h => by have := nx_cases s c 1 h; unfold Nxs at this; omega
theorem scf_neg : ∀ (r : List UInt8) (x y : Sc) (i : Nat), x.st ≠ 0 → scf x i r = .ok y → y.neg = x.neg
 | [], x, y, i, _, h => by
  rw [scf] at h
  split at h
  ·injection h with h; rw [h]
  ·cases h
 | c :: r, x, y, i, hs, h => by
  rw [scf] at h
  split at h
  ·cases h
  ·have h1 : nx x.st c.toNat ≠ 1 := nx_not1 _ _ hs
   have h0 : nx x.st c.toNat ≠ 0 := nx_not0 _ _
   rw [scf_neg r (stp x c) y (i + 1) h0 h]
   simp [stp, h1]
theorem scan_neg (l : List UInt8) (y : Sc) (h : scan l = .ok y) : y.neg = decide (l ≠ [] ∧ l.headD 0 = 45) := by
 cases l with
 | nil => rw [scan, scf] at h; cases h
 | cons c r =>
  rw [scan, scf] at h
  split at h
  ·cases h
  ·have h0 : nx 0 c.toNat ≠ 0 := nx_not0 _ _
   rw [scf_neg r _ y _ h0 h]
   by_cases hc : c = 45
   ·subst hc; rfl
   ·have : c.toNat ≠ 45 := fun k => hc (UInt8.toNat_inj.1 (by show c.toNat = 45; exact k))
    have := nx_zero_one _ this
    simp [stp, sc0, this, hc]
def lv (s : Nat) : Bool := s ≤ 8 || s == 10 || s == 11 || s == 12 || s == 20 || s == 21 || s == 22 || s == 30 || s == 31 || s == 32
theorem nx_lv (s c : Nat) (h : nx s c ≠ 99) : lv (nx s c) = true := by
 rcases nx_cases s c _ rfl with k | ⟨k, _⟩ | k | k | k | k | k | k | k | k | k | k | k | k | k | k | k | k
 ·exact absurd k h
 all_goals (rw [k]; rfl)
theorem scf_place : ∀ (l : List UInt8) (x : Sc) (i n : Nat), lv x.st = true → scf x i l = .error n → ∃ y j, n = i + j ∧ j ≤ l.length ∧ lv y.st = true ∧ (∀ e, scf x i (l.take j ++ e) = scf y n e) ∧ (j < l.length → nx y.st (l.getD j 0).toNat = 99)
 | [], x, i, n, hl, h => by
  rw [scf] at h
  split at h
  ·cases h
  ·injection h with h
   subst h
   exact ⟨x, 0, rfl, Nat.le_refl _, hl, fun e => rfl, fun h => by simp at h⟩
 | c :: r, x, i, n, hl, h => by
  rw [scf] at h
  by_cases hn : nx x.st c.toNat = 99
  ·rw [if_pos hn] at h
   injection h with h
   subst h
   exact ⟨x, 0, rfl, Nat.zero_le _, hl, fun e => rfl, fun _ => hn⟩
  ·rw [if_neg hn] at h
   obtain ⟨y, j, h1, h2, h3, h4, h5⟩ := scf_place r (stp x c) (i + 1) n (nx_lv _ _ hn) h
   refine ⟨y, j + 1, by omega, by rw [List.length_cons]; omega, h3, fun e => ?_, fun hj => ?_⟩
   ·rw [List.take_succ_cons, List.cons_append, scf, if_neg hn]
    exact h4 e
   ·rw [List.getD_cons_succ]
    exact h5 (by rw [List.length_cons] at hj; omega)
def ending (s : Nat) : Nat := if s ≤ 8 then 1 else if s = 10 then 2 else if s = 11 then 3 else if s = 20 then 5 else if s = 21 then 6 else if s = 30 then 7 else if s = 31 then 8 else 0
def endings : List (List UInt8) := [[], [48], [110, 102], [102], [105, 110, 102], [97, 110], [110], [97, 82], [82]]
def isOk (e : Except Nat Sc) : Bool := match e with | .ok _ => true | .error _ => false
theorem ends_ok (y : Sc) (n : Nat) (h : lv y.st = true) : ending y.st < 9 ∧ isOk (scf y n (endings.getD (ending y.st) [])) = true := by
 obtain ⟨st, neg, ds, bh, dn, pw⟩ := y
 have : st ≤ 32 := by
  simp [lv] at h
  omega
 have key : st = 0 ∨ st = 1 ∨ st = 2 ∨ st = 3 ∨ st = 4 ∨ st = 5 ∨ st = 6 ∨ st = 7 ∨ st = 8 ∨ st = 10 ∨ st = 11 ∨ st = 12 ∨ st = 20 ∨ st = 21 ∨ st = 22 ∨ st = 30 ∨ st = 31 ∨ st = 32 := by
  simp [lv] at h
  omega
 rcases key with rfl | rfl | rfl | rfl | rfl | rfl | rfl | rfl | rfl | rfl | rfl | rfl | rfl | rfl | rfl | rfl | rfl | rfl <;> exact ⟨Nat.lt_of_sub_eq_succ rfl, rfl⟩
theorem scan_place (l : List UInt8) (n : Nat) (h : scan l = .error n) :
  n ≤ l.length ∧ (∃ q, q < 9 ∧ isOk (scan (l.take n ++ endings.getD q [])) = true) ∧ (n < l.length → ∀ e, scan (l.take (n + 1) ++ e) = .error n) := by
 obtain ⟨y, j, h1, h2, h3, h4, h5⟩ := scf_place l sc0 0 n rfl h
 have hj : n = j := by omega
 subst hj
 obtain ⟨q1, q2⟩ := ends_ok y n h3
 refine ⟨h2, ⟨ending y.st, q1, ?_⟩, fun hl e => ?_⟩
 ·rw [scan, h4]; exact q2
 ·have e1 : l.take (n + 1) = l.take n ++ [l.getD n 0] := by
   rw [List.take_add_one]
   congr 1
   rw [List.getD_eq_getElem?_getD, List.getElem?_eq_getElem hl]
   rfl
  rw [scan, e1, List.append_assoc, h4, List.singleton_append, scf, if_pos (h5 hl)]
theorem scan_le (l : List UInt8) (n : Nat) (h : scan l = .error n) : n ≤ l.length := (scan_place l n h).1
end M
end Go.Proofs.YtcmlanfgafancaaGreatDoor
