/-
  What a text of a number is: the automaton that reads it, and what its digits say. No program is named here.
-/
import Derived.Test.YtjmnobgllnaljaaGreatDoorVsa
namespace Go.Proofs.YtjmnobgllnaljaaGreatDoor
open Go

namespace M
/-- The state behind a byte; 99: no text goes on so. -/
def nx (s c : Nat) : Nat :=
  if s < 2 ∧ c = 45 then (if s = 0 then 1 else 99)
  else if s < 2 ∧ c = 105 then 10
  else if s < 2 ∧ c = 110 then 20
  else if s < 2 ∧ c = 78 then 30
  else if s < 2 ∧ c = 46 then 4
  else if (48 ≤ c ∧ c ≤ 57) ∧ s ≤ 2 then 2
  else if (48 ≤ c ∧ c ≤ 57) ∧ s ≤ 5 then 5
  else if (48 ≤ c ∧ c ≤ 57) ∧ 6 ≤ s ∧ s ≤ 8 then 8
  else if s = 2 ∧ c = 46 then 3
  else if (s = 2 ∨ s = 3 ∨ s = 5) ∧ (c = 101 ∨ c = 69) then 6
  else if s = 6 ∧ (c = 43 ∨ c = 45) then 7
  else if s = 10 ∧ c = 110 ∨ s = 11 ∧ c = 102 ∨ s = 20 ∧ c = 97 ∨ s = 21 ∧ c = 110 ∨ s = 30 ∧ c = 97 ∨ s = 31 ∧ c = 82 then s + 1
  else 99
/-- Is a text over in a state? -/
def wh (s : Nat) : Bool := s == 2 || s == 3 || s == 5 || s == 8 || s == 12 || s == 22 || s == 32
/-- What has been read. -/
structure Sc where
  st : Nat
  neg : Bool
  ds : List UInt8
  bh : Nat
  dn : Bool
  pw : List UInt8
def sc0 : Sc := ⟨0, false, [], 0, false, []⟩
def stp (x : Sc) (c : UInt8) : Sc :=
  ⟨nx x.st c.toNat, if nx x.st c.toNat = 1 then true else x.neg, if nx x.st c.toNat = 2 ∨ nx x.st c.toNat = 5 then x.ds ++ [c] else x.ds, if nx x.st c.toNat = 5 then x.bh + 1 else x.bh,
   if nx x.st c.toNat = 7 then c.toNat == 45 else x.dn, if nx x.st c.toNat = 8 then x.pw ++ [c] else x.pw⟩
def scf (x : Sc) (i : Nat) : List UInt8 → Except Nat Sc
  | [] => if wh x.st = true then .ok x else .error i
  | c :: r => if nx x.st c.toNat = 99 then .error i else scf (stp x c) (i + 1) r
def scan (l : List UInt8) : Except Nat Sc := scf sc0 0 l

/-- i bytes have been read. -/
structure Rdn (l : List UInt8) (i : Nat) (x : Sc) : Prop where
  le : i ≤ l.length
  eq : scan l = scf x i (l.drop i)
theorem Rdn.start (l : List UInt8) : Rdn l 0 sc0 := ⟨Nat.zero_le _, by rw [List.drop_zero]; rfl⟩
theorem drop_at {l : List UInt8} {i : Nat} (h : i < l.length) : l.drop i = l.getD i 0 :: l.drop (i + 1) := by
  rw [List.drop_eq_getElem_cons h]
  simp [List.getD_eq_getElem?_getD, List.getElem?_eq_getElem h]
theorem Rdn.step {l : List UInt8} {i : Nat} {x : Sc} (h : Rdn l i x) (hi : i < l.length) (hn : nx x.st (l.getD i 0).toNat ≠ 99) : Rdn l (i + 1) (stp x (l.getD i 0)) := by
  refine ⟨hi, ?_⟩
  rw [h.eq, drop_at hi, scf, if_neg hn]
theorem Rdn.stop {l : List UInt8} {i : Nat} {x : Sc} (h : Rdn l i x) (hi : i < l.length) (hn : nx x.st (l.getD i 0).toNat = 99) : scan l = .error i := by
  rw [h.eq, drop_at hi, scf, if_pos hn]
theorem Rdn.fin {l : List UInt8} {i : Nat} {x : Sc} (h : Rdn l i x) (hi : i = l.length) (hw : wh x.st = true) : scan l = .ok x := by
  rw [h.eq, hi, List.drop_of_length_le (Nat.le_refl _), scf, if_pos hw]
theorem Rdn.short {l : List UInt8} {i : Nat} {x : Sc} (h : Rdn l i x) (hi : i = l.length) (hw : wh x.st = false) : scan l = .error i := by
  rw [h.eq, hi, List.drop_of_length_le (Nat.le_refl _), scf, if_neg (by rw [hw]; simp)]
/-- Where no text goes on: at the end, or with the next byte. -/
theorem Rdn.none {l : List UInt8} {i : Nat} {x : Sc} (h : Rdn l i x) (hw : wh x.st = false) (hn : i < l.length → nx x.st (l.getD i 0).toNat = 99) : scan l = .error i := by
  rcases Nat.lt_or_ge i l.length with hi | hi
  · exact h.stop hi (hn hi)
  · exact h.short (Nat.le_antisymm h.le hi) hw

/-! What is read of digits. -/
theorem isD_rng {c : UInt8} (h : isD c = true) : 48 ≤ c.toNat ∧ c.toNat ≤ 57 := (isD_iff c).1 h
theorem nx_dig {s c : Nat} (hc : 48 ≤ c ∧ c ≤ 57) : nx s c = if s ≤ 2 then 2 else if s ≤ 5 then 5 else if s ≤ 8 then 8 else 99 := by
  have h1 : c ≠ 45 ∧ c ≠ 105 ∧ c ≠ 110 ∧ c ≠ 78 ∧ c ≠ 46 ∧ c ≠ 101 ∧ c ≠ 69 ∧ c ≠ 43 ∧ c ≠ 102 ∧ c ≠ 97 ∧ c ≠ 82 := by omega
  unfold nx
  simp only [h1, hc, and_false, or_false, if_false, true_and, and_self]
  by_cases a : s ≤ 2
  · simp only [a, if_true]
  · by_cases b : s ≤ 5
    · simp only [a, b, if_true, if_false]
    · simp only [a, b, if_false, show 6 ≤ s from by omega, true_and]
theorem scf_whole : ∀ (ds r : List UInt8) (x : Sc) (i : Nat), allD ds = true → ds ≠ [] → x.st ≤ 2 → scf x i (ds ++ r) = scf ⟨2, x.neg, x.ds ++ ds, x.bh, x.dn, x.pw⟩ (i + ds.length) r
  | [], _, _, _, _, h0, _ => absurd rfl h0
  | c :: t, r, x, i, hd, _, hs => by
    rw [allD, List.all_cons, Bool.and_eq_true] at hd
    have e : nx x.st c.toNat = 2 := by rw [nx_dig (isD_rng hd.1), if_pos hs]
    have es : stp x c = ⟨2, x.neg, x.ds ++ [c], x.bh, x.dn, x.pw⟩ := by simp [stp, e]
    rw [List.cons_append, scf, if_neg (by rw [e]; omega), es]
    by_cases ht : t = []
    · subst ht; rfl
    · rw [scf_whole t r _ _ hd.2 ht (Nat.le_refl _), List.append_assoc, List.length_cons]
      simp only [List.singleton_append]
      rw [show i + 1 + t.length = i + (t.length + 1) from by omega]
theorem scf_frac : ∀ (ds r : List UInt8) (x : Sc) (i : Nat), allD ds = true → ds ≠ [] → 3 ≤ x.st → x.st ≤ 5 → scf x i (ds ++ r) = scf ⟨5, x.neg, x.ds ++ ds, x.bh + ds.length, x.dn, x.pw⟩ (i + ds.length) r
  | [], _, _, _, _, h0, _, _ => absurd rfl h0
  | c :: t, r, x, i, hd, _, hs, hs' => by
    rw [allD, List.all_cons, Bool.and_eq_true] at hd
    have e : nx x.st c.toNat = 5 := by rw [nx_dig (isD_rng hd.1), if_neg (by omega), if_pos hs']
    have es : stp x c = ⟨5, x.neg, x.ds ++ [c], x.bh + 1, x.dn, x.pw⟩ := by simp [stp, e]
    rw [List.cons_append, scf, if_neg (by rw [e]; omega), es]
    by_cases ht : t = []
    · subst ht; rfl
    · rw [scf_frac t r _ _ hd.2 ht (by show 3 ≤ 5; omega) (Nat.le_refl _), List.append_assoc, List.length_cons]
      simp only [List.singleton_append]
      rw [show i + 1 + t.length = i + (t.length + 1) from by omega, show x.bh + 1 + t.length = x.bh + (t.length + 1) from by omega]
theorem scf_power : ∀ (ds r : List UInt8) (x : Sc) (i : Nat), allD ds = true → ds ≠ [] → 6 ≤ x.st → x.st ≤ 8 → scf x i (ds ++ r) = scf ⟨8, x.neg, x.ds, x.bh, x.dn, x.pw ++ ds⟩ (i + ds.length) r
  | [], _, _, _, _, h0, _, _ => absurd rfl h0
  | c :: t, r, x, i, hd, _, hs, hs' => by
    rw [allD, List.all_cons, Bool.and_eq_true] at hd
    have e : nx x.st c.toNat = 8 := by rw [nx_dig (isD_rng hd.1), if_neg (by omega), if_neg (by omega), if_pos hs']
    have es : stp x c = ⟨8, x.neg, x.ds, x.bh, x.dn, x.pw ++ [c]⟩ := by simp [stp, e]
    rw [List.cons_append, scf, if_neg (by rw [e]; omega), es]
    by_cases ht : t = []
    · subst ht; rfl
    · rw [scf_power t r _ _ hd.2 ht (by show 6 ≤ 8; omega) (Nat.le_refl _), List.append_assoc, List.length_cons]
      simp only [List.singleton_append]
      rw [show i + 1 + t.length = i + (t.length + 1) from by omega]
/-- What stands behind the digits: an e, a sign or none, digits. -/
theorem scf_tail (ec : UInt8) (sg pw : List UInt8) (x : Sc) (i : Nat) (hx : x.st = 2 ∨ x.st = 3 ∨ x.st = 5) (he : ec = 101 ∨ ec = 69) (hs : sg = [] ∨ sg = [43] ∨ sg = [45]) (hp : allD pw = true) (h0 : pw ≠ []) (hx0 : x.pw = []) (hd0 : x.dn = false) :
    scf x i (ec :: (sg ++ pw)) = .ok ⟨8, x.neg, x.ds, x.bh, decide (sg = [45]), pw⟩ := by
  have ee : ec.toNat = 101 ∨ ec.toNat = 69 := by rcases he with rfl | rfl <;> simp
  have e : nx x.st ec.toNat = 6 := by
    unfold nx
    rcases hx with h | h | h <;> rcases ee with k | k <;> simp [h, k]
  have es : stp x ec = ⟨6, x.neg, x.ds, x.bh, x.dn, x.pw⟩ := by simp [stp, e]
  rw [scf, if_neg (by rw [e]; omega), es]
  have fin : ∀ (y : Sc) (j : Nat), 6 ≤ y.st → y.st ≤ 8 → y.pw = [] → scf y j pw = .ok ⟨8, y.neg, y.ds, y.bh, y.dn, pw⟩ := by
    intro y j h1 h2 h3
    have := scf_power pw [] y j hp h0 h1 h2
    rw [List.append_nil] at this
    rw [this, scf, if_pos (by rfl), h3, List.nil_append]
  rcases hs with rfl | rfl | rfl
  · rw [List.nil_append, fin ⟨6, x.neg, x.ds, x.bh, x.dn, x.pw⟩ _ (by show 6 ≤ 6; omega) (by show 6 ≤ 8; omega) hx0]
    simp [hd0]
  · rw [List.singleton_append, scf, if_neg (by simp [nx])]
    rw [fin _ _ (by simp [stp, nx]) (by simp [stp, nx]) (by simp [stp, nx, hx0])]
    simp [stp, nx]
  · rw [List.singleton_append, scf, if_neg (by simp [nx])]
    rw [fin _ _ (by simp [stp, nx]) (by simp [stp, nx]) (by simp [stp, nx, hx0])]
    simp [stp, nx]
/-- A number without a point. -/
theorem scan_plain (ds : List UInt8) (ec : UInt8) (sg pw : List UInt8) (hd : allD ds = true) (hd0 : ds ≠ []) (he : ec = 101 ∨ ec = 69) (hs : sg = [] ∨ sg = [43] ∨ sg = [45]) (hp : allD pw = true) (h0 : pw ≠ []) :
    scan (ds ++ (ec :: (sg ++ pw))) = .ok ⟨8, false, ds, 0, decide (sg = [45]), pw⟩ := by
  rw [scan, scf_whole ds _ sc0 0 hd hd0 (by show 0 ≤ 2; omega), scf_tail ec sg pw _ _ (.inl rfl) he hs hp h0 rfl rfl]
  rfl
theorem scf_point (fs r : List UInt8) (x : Sc) (i : Nat) (hx : x.st ≤ 2) (hf : allD fs = true) (hx0 : x.st = 2 ∨ fs ≠ []) :
    ∃ s, (s = 3 ∨ s = 5) ∧ scf x i (46 :: (fs ++ r)) = scf ⟨s, x.neg, x.ds ++ fs, x.bh + fs.length, x.dn, x.pw⟩ (i + 1 + fs.length) r := by
  have e : nx x.st 46 = 3 ∨ nx x.st 46 = 4 ∧ x.st ≠ 2 := by
    unfold nx
    rcases Nat.lt_or_ge x.st 2 with h | h
    · right; constructor
      · simp [h]
      · omega
    · left
      have : x.st = 2 := by omega
      simp [this]
  have es : stp x 46 = ⟨nx x.st 46, x.neg, x.ds, x.bh, x.dn, x.pw⟩ := by
    have k : (46 : UInt8).toNat = 46 := rfl
    rcases e with e | ⟨e, _⟩ <;> simp [stp, k, e]
  have k : (46 : UInt8).toNat = 46 := rfl
  have en : nx x.st 46 ≠ 99 := by rcases e with e | ⟨e, _⟩ <;> rw [e] <;> omega
  by_cases hf0 : fs = []
  · subst hf0
    rcases e with e | ⟨_, e⟩
    · refine ⟨3, .inl rfl, ?_⟩
      rw [scf, k, if_neg en, es, e, List.append_nil]
      rfl
    · rcases hx0 with h | h
      · exact absurd h e
      · exact absurd rfl h
  · refine ⟨5, .inr rfl, ?_⟩
    rw [scf, k, if_neg en, es, scf_frac fs r _ _ hf hf0 (by show 3 ≤ nx x.st 46; rcases e with e | ⟨e, _⟩ <;> omega) (by show nx x.st 46 ≤ 5; rcases e with e | ⟨e, _⟩ <;> omega)]
/-- A number with a point. -/
theorem scan_point (ds fs : List UInt8) (ec : UInt8) (sg pw : List UInt8) (hd : allD ds = true) (hf : allD fs = true) (h2 : ds ≠ [] ∨ fs ≠ []) (he : ec = 101 ∨ ec = 69) (hs : sg = [] ∨ sg = [43] ∨ sg = [45]) (hp : allD pw = true) (h0 : pw ≠ []) :
    scan (ds ++ (46 :: (fs ++ (ec :: (sg ++ pw))))) = .ok ⟨8, false, ds ++ fs, fs.length, decide (sg = [45]), pw⟩ := by
  have key : ∀ (x : Sc) (i : Nat), x.st ≤ 2 → (x.st = 2 ∨ fs ≠ []) → x.pw = [] → x.dn = false → x.neg = false → x.bh = 0 → scf x i (46 :: (fs ++ (ec :: (sg ++ pw)))) = .ok ⟨8, false, x.ds ++ fs, fs.length, decide (sg = [45]), pw⟩ := by
    intro x i h1 h2 h3 h4 h5 h6
    obtain ⟨s, hs', e⟩ := scf_point fs (ec :: (sg ++ pw)) x i h1 hf h2
    rw [e, scf_tail ec sg pw ⟨s, x.neg, x.ds ++ fs, x.bh + fs.length, x.dn, x.pw⟩ _ (by show s = 2 ∨ s = 3 ∨ s = 5; omega) he hs hp h0 h3 h4]
    simp [h5, h6]
  by_cases hd0 : ds = []
  · subst hd0
    rw [scan, List.nil_append, key sc0 0 (by show 0 ≤ 2; omega) (.inr (by rcases h2 with h | h; exact absurd rfl h; exact h)) rfl rfl rfl rfl]
    rfl
  · rw [scan, scf_whole ds _ sc0 0 hd hd0 (by show 0 ≤ 2; omega), key _ _ (Nat.le_refl _) (.inl rfl) rfl rfl rfl rfl]
    rfl
end M
end Go.Proofs.YtjmnobgllnaljaaGreatDoor
