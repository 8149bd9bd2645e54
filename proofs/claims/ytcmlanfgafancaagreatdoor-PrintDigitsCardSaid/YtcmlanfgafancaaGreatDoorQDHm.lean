import Derived.Test.YtcmlanfgafancaaGreatDoorQDHn
import Derived.Lib.IndexMore
import Derived.Lib.TrimByte
import Derived.Lib.AtoiAllCases
import Derived.Lib.Strings
import Derived.Laws.BitsLemmas
set_option maxHeartbeats 32000000
set_option linter.unusedVariables false
set_option linter.unusedSimpArgs false
namespace Go.Proofs.YtcmlanfgafancaaGreatDoor
open Go
namespace M
theorem index_hit (a b : List UInt8) (c : UInt8) (h : c ∉ a) : Lib.index (a ++ c :: b) [c] = a.length := by
 induction a with
 | nil =>
  show Lib.index (c :: b) [c] = _
  unfold Lib.index
  rw [if_pos (by simp [List.isPrefixOf])]
  rfl
 | cons x r ih =>
  have h1 : ¬ c = x := fun e => h (by rw [e]; exact List.mem_cons_self)
  have h2 := ih (fun m => h (List.mem_cons_of_mem _ m))
  show Lib.index (x :: (r ++ c :: b)) [c] = _
  unfold Lib.index
  rw [if_neg (by simp [List.isPrefixOf, h1]), h2, if_neg (by simp), List.length_cons]
  omega
theorem index_miss (a : List UInt8) (c : UInt8) (h : c ∉ a) : Lib.index a [c] = -1 := by
 induction a with
 | nil => rfl
 | cons x r ih =>
  have h1 : ¬ c = x := fun e => h (by rw [e]; exact List.mem_cons_self)
  have h2 := ih (fun m => h (List.mem_cons_of_mem _ m))
  unfold Lib.index
  rw [if_neg (by simp [List.isPrefixOf, h1]), h2, if_pos (by rfl)]
theorem cut_hit (a b : List UInt8) (c : UInt8) (h : c ∉ a) : Lib.cut (a ++ c :: b) [c] = (a, b, true) := by
 unfold Lib.cut
 rw [index_hit a b c h, if_pos (by omega)]
 have e : ((a.length : Int)).toNat = a.length := by omega
 rw [e, List.take_left]
 have e2 : a ++ c :: b = (a ++ [c]) ++ b := by simp
 rw [e2, List.drop_left' (by simp)]
theorem cut_miss (a : List UInt8) (c : UInt8) (h : c ∉ a) : Lib.cut a [c] = (a, [], false) := by
 unfold Lib.cut
 rw [index_miss a c h, if_neg (by omega)]
theorem cut_len (l p : List UInt8) : (Lib.cut l p).1.length ≤ l.length ∧ (Lib.cut l p).2.1.length ≤ l.length ∧ (Lib.cut l p).1.length + (Lib.cut l p).2.1.length ≤ l.length := by
 unfold Lib.cut
 split
 ·simp only [List.length_take, List.length_drop]
  omega
 ·simp
theorem no_46 {S : List UInt8} (h : allD S = true) : (46 : UInt8) ∉ S := List.count_eq_zero.1 (count_dig h).1
theorem no_101 {S : List UInt8} (h : allD S = true) : (101 : UInt8) ∉ S := List.count_eq_zero.1 (count_dig h).2
theorem pu_ok : ∀ (l : List UInt8) (acc : Nat), allD l = true → vsa acc l < 18446744073709551616 → Lib.parseUint10 acc l = .ok (vsa acc l)
 | [], acc, _, _ => rfl
 | c :: r, acc, h, hv => by
  simp only [allD, List.all_cons, Bool.and_eq_true] at h
  have hc := (isD_iff c).1 h.1
  rw [vsa_cons] at hv ⊢
  have hge : acc * 10 + (c.toNat - 48) ≤ vsa (acc * 10 + (c.toNat - 48)) r := by
   rw [vsa_acc]
   have := Nat.le_mul_of_pos_right (acc * 10 + (c.toNat - 48)) (Nat.pow_pos (n := r.length) (show 0 < 10 by omega))
   omega
  unfold Lib.parseUint10
  rw [if_pos hc, if_neg (by omega), if_neg (by omega)]
  exact pu_ok r _ h.2 hv
theorem pm_dd (n : Nat) (h : n < 18446744073709551616) : Lib.parseMag (Lib.decDigits n) = .ok n := by
 obtain ⟨k1, k2, k3, _⟩ := dd_all n n (Nat.le_refl _)
 unfold Lib.parseMag
 rw [if_neg k3, pu_ok _ _ k1 (by rw [k2]; exact h), k2]
theorem atoi_ntx (z : Int) (h : -1000000 ≤ z ∧ z ≤ 1000000) : Lib.atoiAll (ntx z) = .ok z := by
 have hp := pm_dd z.natAbs (by omega)
 unfold ntx sgt
 by_cases h1 : z < 0
 ·rw [if_pos (by simp [h1])]
  show Lib.atoiAll (45 :: Lib.decDigits z.natAbs) = _
  rw [Lib.atoiAll_minus, hp]
  unfold Lib.signed
  simp only
  rw [if_neg (by omega)]
  congr 1
  omega
 ·rw [if_neg (by simp [h1]), List.nil_append]
  obtain ⟨k1, _, k3, _⟩ := dd_all z.natAbs z.natAbs (Nat.le_refl _)
  obtain ⟨c, r, e⟩ : ∃ c r, Lib.decDigits z.natAbs = c :: r := by
   cases hl : Lib.decDigits z.natAbs with
   | nil => exact absurd hl k3
   | cons c r => exact ⟨c, r, rfl⟩
  have hc : 48 ≤ c.toNat ∧ c.toNat ≤ 57 := by
   rw [e] at k1
   simp only [allD, List.all_cons, Bool.and_eq_true] at k1
   exact (isD_iff c).1 k1.1
  rw [e, Lib.atoiAll_plain c r (by omega) (by omega), ← e, hp]
  unfold Lib.signless
  simp only
  rw [if_neg (by omega)]
  congr 1
  omega
theorem itoa_ntx (z : Int) : Lib.itoa z = ntx z := by
 unfold Lib.itoa ntx sgt
 by_cases h : z < 0
 ·rw [if_pos h, if_pos (by simp [h])]; rfl
 ·rw [if_neg h, if_neg (by simp [h]), List.nil_append]
  congr 1
  omega
def szx (l : List UInt8) : Option (Nat × Int) :=
 if tz (lz ((Lib.cut (Lib.cut l [101]).1 [46]).1 ++ (Lib.cut (Lib.cut l [101]).1 [46]).2.1)) = [] then some (0, 0)
 else if allD (tz (lz ((Lib.cut (Lib.cut l [101]).1 [46]).1 ++ (Lib.cut (Lib.cut l [101]).1 [46]).2.1))) = true ∧ (tz (lz ((Lib.cut (Lib.cut l [101]).1 [46]).1 ++ (Lib.cut (Lib.cut l [101]).1 [46]).2.1))).length ≤ 2000 then
  (if (Lib.cut l [101]).2.2 = true then
   match Lib.atoiAll (Lib.cut l [101]).2.1 with
   | .ok v => some (vsa 0 (tz (lz ((Lib.cut (Lib.cut l [101]).1 [46]).1 ++ (Lib.cut (Lib.cut l [101]).1 [46]).2.1))), IntKind.i64.wrap ((lz ((Lib.cut (Lib.cut l [101]).1 [46]).1 ++ (Lib.cut (Lib.cut l [101]).1 [46]).2.1)).length - (tz (lz ((Lib.cut (Lib.cut l [101]).1 [46]).1 ++ (Lib.cut (Lib.cut l [101]).1 [46]).2.1))).length - (Lib.cut (Lib.cut l [101]).1 [46]).2.1.length + v))
   | _ => none
  else some (vsa 0 (tz (lz ((Lib.cut (Lib.cut l [101]).1 [46]).1 ++ (Lib.cut (Lib.cut l [101]).1 [46]).2.1))), (lz ((Lib.cut (Lib.cut l [101]).1 [46]).1 ++ (Lib.cut (Lib.cut l [101]).1 [46]).2.1)).length - (tz (lz ((Lib.cut (Lib.cut l [101]).1 [46]).1 ++ (Lib.cut (Lib.cut l [101]).1 [46]).2.1))).length - (Lib.cut (Lib.cut l [101]).1 [46]).2.1.length))
 else none
theorem szx_none {l x y u v : List UInt8} {hp q : Bool} (h1 : Lib.cut l [101] = (x, y, hp)) (h2 : Lib.cut x [46] = (u, v, q)) (h3 : tz (lz (u ++ v)) = []) : szx l = some (0, 0) := by
 unfold szx
 simp only [h1, h2]
 rw [if_pos h3]
theorem szx_bad {l x y u v : List UInt8} {hp q : Bool} (h1 : Lib.cut l [101] = (x, y, hp)) (h2 : Lib.cut x [46] = (u, v, q)) (h3 : tz (lz (u ++ v)) ≠ []) (h4 : ¬ (allD (tz (lz (u ++ v))) = true ∧ (tz (lz (u ++ v))).length ≤ 2000)) : szx l = none := by
 unfold szx
 simp only [h1, h2]
 rw [if_neg h3, if_neg h4]
theorem szx_plain {l x y u v : List UInt8} {q : Bool} (h1 : Lib.cut l [101] = (x, y, false)) (h2 : Lib.cut x [46] = (u, v, q)) (h3 : tz (lz (u ++ v)) ≠ []) (h4 : allD (tz (lz (u ++ v))) = true ∧ (tz (lz (u ++ v))).length ≤ 2000) :
  szx l = some (vsa 0 (tz (lz (u ++ v))), ((lz (u ++ v)).length : Int) - (tz (lz (u ++ v))).length - v.length) := by
 unfold szx
 simp only [h1, h2]
 rw [if_neg h3, if_pos h4, if_neg (by simp)]
theorem szx_pow {l x y u v : List UInt8} {q : Bool} {z : Int} (h1 : Lib.cut l [101] = (x, y, true)) (h2 : Lib.cut x [46] = (u, v, q)) (h3 : tz (lz (u ++ v)) ≠ []) (h4 : allD (tz (lz (u ++ v))) = true ∧ (tz (lz (u ++ v))).length ≤ 2000) (h5 : Lib.atoiAll y = .ok z) :
  szx l = some (vsa 0 (tz (lz (u ++ v))), IntKind.i64.wrap (((lz (u ++ v)).length : Int) - (tz (lz (u ++ v))).length - v.length + z)) := by
 unfold szx
 simp only [h1, h2, h5]
 rw [if_neg h3, if_pos h4, if_pos trivial]
theorem szx_far {l x y u v : List UInt8} {q : Bool} (h1 : Lib.cut l [101] = (x, y, true)) (h2 : Lib.cut x [46] = (u, v, q)) (h3 : tz (lz (u ++ v)) ≠ []) (h4 : allD (tz (lz (u ++ v))) = true ∧ (tz (lz (u ++ v))).length ≤ 2000) (h5 : ∀ z, Lib.atoiAll y ≠ .ok z) : szx l = none := by
 unfold szx
 simp only [h1, h2]
 rw [if_neg h3, if_pos h4, if_pos trivial]
theorem szx_lyb {S : List UInt8} (h : Cl S) (hl : S.length ≤ 2000) (k : Int) (hk : -5000 ≤ k ∧ k ≤ 5000) : szx (lyb S k) = some (vsa 0 S, k) := by
 have hp := h.pos
 have hS : tz (lz S) = S := by rw [h.lz, h.tz]
 have hd : allD S = true ∧ S.length ≤ 2000 := ⟨h.all, hl⟩
 obtain ⟨t1, t2⟩ := allD_take h.all 1
 unfold lyb
 by_cases h1 : lfar (S.length + k)
 ·rw [if_pos h1]
  have hz := atoi_ntx (S.length + k - 1) (by omega)
  by_cases h2 : 1 < S.length
  ·rw [if_pos h2]
   have e1 : Lib.cut (S.take 1 ++ ((46 :: S.drop 1) ++ (101 :: ntx (S.length + k - 1)))) [101] = (S.take 1 ++ 46 :: S.drop 1, ntx (S.length + k - 1), true) := by
    rw [← List.append_assoc]
    refine cut_hit _ _ _ ?_
    rw [List.mem_append, List.mem_cons]
    rintro (m | m | m)
    ·exact no_101 t1 m
    ·exact absurd m (by decide)
    ·exact no_101 t2 m
   have e2 := cut_hit (S.take 1) (S.drop 1) 46 (no_46 t1)
   have e3 : S.take 1 ++ S.drop 1 = S := List.take_append_drop _ _
   have e := szx_pow e1 e2 (by rw [e3, hS]; exact h.ne) (by rw [e3, hS]; exact hd) hz
   rw [e, e3, hS, h.lz, List.length_drop]
   congr 2
   have e4 : ((S.length : Int) - S.length - ((S.length - 1 : Nat) : Int) + (S.length + k - 1)) = k := by omega
   rw [e4]
   rw [IntKind.wrap_i64]; omega
  ·rw [if_neg h2, List.nil_append]
   have e0 : S.take 1 = S := List.take_of_length_le (by omega)
   rw [e0]
   have e1 := cut_hit S (ntx (S.length + k - 1)) 101 (no_101 h.all)
   have e2 := cut_miss S 46 (no_46 h.all)
   have e3 : S ++ [] = S := List.append_nil _
   have e := szx_pow e1 e2 (by rw [e3, hS]; exact h.ne) (by rw [e3, hS]; exact hd) hz
   rw [e, e3, hS, h.lz]
   congr 2
   have e4 : ((S.length : Int) - S.length - (([] : List UInt8).length : Int) + (S.length + k - 1)) = k := by simp; omega
   rw [e4]
   rw [IntKind.wrap_i64]; omega
 ·rw [if_neg h1]
  by_cases h2 : (S.length : Int) + k ≤ 0
  ·rw [if_pos h2]
   obtain ⟨m, hm⟩ : ∃ m, (-((S.length : Int) + k)).toNat = m := ⟨_, rfl⟩
   rw [hm]
   have ha : allD (List.replicate m 48 ++ S) = true := by rw [allD_append, allD_noughts, h.all]; rfl
   have e1 : Lib.cut (48 :: 46 :: (List.replicate m 48 ++ S)) [101] = (48 :: 46 :: (List.replicate m 48 ++ S), [], false) := by
    refine cut_miss _ _ ?_
    rw [List.mem_cons, List.mem_cons]
    rintro (x | x | x)
    ·exact absurd x (by decide)
    ·exact absurd x (by decide)
    ·exact no_101 ha x
   have e2 : Lib.cut (48 :: 46 :: (List.replicate m 48 ++ S)) [46] = ([48], List.replicate m 48 ++ S, true) := cut_hit [48] _ 46 (by decide)
   have e3 : lz ([48] ++ (List.replicate m 48 ++ S)) = S := by
    show lz (48 :: (List.replicate m 48 ++ S)) = _
    rw [lz_cons, if_pos rfl, lz_noughts, h.lz]
   have e := szx_plain e1 e2 (by rw [e3, h.tz]; exact h.ne) (by rw [e3, h.tz]; exact hd)
   rw [e, e3, h.tz, List.length_append, List.length_replicate]
   congr 2
   omega
  ·rw [if_neg h2]
   by_cases h3 : 0 ≤ k
   ·rw [if_pos h3]
    have ha : allD (S ++ List.replicate k.toNat 48) = true := by rw [allD_append, allD_noughts, h.all]; rfl
    have e1 := cut_miss _ _ (no_101 ha)
    have e2 := cut_miss _ _ (no_46 ha)
    have e3 : S ++ List.replicate k.toNat 48 ++ [] = S ++ List.replicate k.toNat 48 := List.append_nil _
    have e4 : lz (S ++ List.replicate k.toNat 48 ++ []) = S ++ List.replicate k.toNat 48 := by
     rw [e3, lz_append _ _ (by rw [h.lz]; exact h.ne), h.lz]
    have e5 : tz (lz (S ++ List.replicate k.toNat 48 ++ [])) = S := by rw [e4, tz_noughts, h.tz]
    have e := szx_plain e1 e2 (by rw [e5]; exact h.ne) (by rw [e5]; exact hd)
    rw [e, e5, e4, List.length_append, List.length_replicate]
    congr 2
    simp
    omega
   ·rw [if_neg h3]
    obtain ⟨q, hq⟩ : ∃ q, ((S.length : Int) + k).toNat = q := ⟨_, rfl⟩
    rw [hq]
    obtain ⟨a1, a2⟩ := allD_take h.all q
    have e1 : Lib.cut (S.take q ++ 46 :: S.drop q) [101] = (S.take q ++ 46 :: S.drop q, [], false) := by
     refine cut_miss _ _ ?_
     rw [List.mem_append, List.mem_cons]
     rintro (m | m | m)
     ·exact no_101 a1 m
     ·exact absurd m (by decide)
     ·exact no_101 a2 m
    have e2 := cut_hit (S.take q) (S.drop q) 46 (no_46 a1)
    have e3 : S.take q ++ S.drop q = S := List.take_append_drop _ _
    have e := szx_plain e1 e2 (by rw [e3, hS]; exact h.ne) (by rw [e3, hS]; exact hd)
    rw [e, e3, hS, h.lz, List.length_drop]
    congr 2
    omega
theorem ly_back (ng : Bool) (n : Nat) (k : Int) (h : (n = 0 ∧ k = 0) ∨ (n ≠ 0 ∧ n % 10 ≠ 0 ∧ (Lib.decDigits n).length ≤ 2000 ∧ -5000 ≤ k ∧ k ≤ 5000)) :
  Lib.hasPrefix (ly ng n k) [45] = ng ∧ szx (Lib.trimPrefix (ly ng n k) [45]) = some (n, k) := by
 have hb : ∃ B, (if n = 0 then [48] else lyb (Lib.decDigits n) k) = B ∧ B.headD 0 ≠ 45 ∧ szx B = some (n, k) := by
  refine ⟨_, rfl, ?_, ?_⟩
  ·rcases h with ⟨h1, _⟩ | ⟨h1, h2, _⟩
   ·rw [if_pos h1]; show (48 : UInt8) ≠ 45; decide
   ·rw [if_neg h1]; exact head_lyb (cl_dec h1 h2) k
  ·rcases h with ⟨h1, h2⟩ | ⟨h1, h2, h3, h4⟩
   ·rw [if_pos h1, h1, h2]
    exact szx_none (x := [48]) (u := [48]) (cut_miss [48] 101 (by decide)) (cut_miss [48] 46 (by decide)) rfl
   ·rw [if_neg h1, szx_lyb (cl_dec h1 h2) h3 k h4, (dd_all n n (Nat.le_refl _)).2.1]
 obtain ⟨B, e, b1, b2⟩ := hb
 unfold ly
 rw [e]
 unfold sgt Lib.trimPrefix Lib.hasPrefix
 cases ng with
 | true =>
  rw [if_pos rfl]
  have e2 : List.isPrefixOf [45] ([45] ++ B) = true := by simp [List.isPrefixOf]
  rw [e2, if_pos rfl]
  exact ⟨rfl, b2⟩
 | false =>
  rw [if_neg (by simp), List.nil_append]
  have e2 : List.isPrefixOf [45] B = false := by
   cases B with
   | nil => rfl
   | cons c r =>
    have : ¬ (45 : UInt8) = c := fun x => b1 x.symm
    simp [List.isPrefixOf, this]
  rw [e2, if_neg (by simp)]
  exact ⟨rfl, b2⟩
end M
end Go.Proofs.YtcmlanfgafancaaGreatDoor
