import Derived.Test.YtcmlanfgafancaaGreatDoorQTHb
import Derived.Test.YtcmlanfgafancaaGreatDoorQTObm
import Derived.OwnWalk
import Derived.LoopTactic
import Derived.BigQuiet
import Derived.Deep.RegionHeld3
import Derived.Deep.RegionWith
set_option maxHeartbeats 32000000
set_option linter.unusedVariables false
set_option linter.unusedSimpArgs false
namespace Go.Proofs.YtcmlanfgafancaaGreatDoor
open Go.RowKit Go.Shelf
namespace M
def lyr (ng : Bool) (xs : List Nat) (k : Int) : List UInt8 := if rt xs k then ly ng (val xs) k else []
def gl (T : List UInt8) (P i : Nat) : List UInt8 := if i ≤ P then T.take i else T.take P ++ (46 :: (T.drop P).take (i - P))
theorem take_all (l : List UInt8) (n : Nat) (h : l.length ≤ n) : l.take n = l := List.take_of_length_le h
theorem take_one {T : List UInt8} {i : Nat} (h : i < T.length) : T.take (i + 1) = T.take i ++ [T.getD i 0] := by
 rw [List.take_add_one]
 congr 1
 rw [List.getD_eq_getElem?_getD, List.getElem?_eq_getElem h]
 rfl
theorem gl_zero (T : List UInt8) (P : Nat) : gl T P 0 = [] := by
 unfold gl
 rw [if_pos (Nat.zero_le _)]
 rfl
theorem gl_plain {T : List UInt8} {P i : Nat} (h : i < T.length) (hi : i ≠ P) : gl T P (i + 1) = gl T P i ++ [T.getD i 0] := by
 unfold gl
 by_cases h1 : i + 1 ≤ P
 ·rw [if_pos h1, if_pos (by omega), take_one h]
 ·rw [if_neg h1, if_neg (by omega), show i + 1 - P = (i - P) + 1 by omega, take_one (by rw [List.length_drop]; omega)]
  have e : (T.drop P).getD (i - P) 0 = T.getD i 0 := by
   rw [List.getD_eq_getElem?_getD, List.getD_eq_getElem?_getD, List.getElem?_drop, show P + (i - P) = i by omega]
  rw [e, List.append_assoc, List.cons_append]
theorem gl_point {T : List UInt8} {i : Nat} (h : i < T.length) : gl T i (i + 1) = (gl T i i ++ [46]) ++ [T.getD i 0] := by
 unfold gl
 rw [if_neg (by omega), if_pos (Nat.le_refl _), show i + 1 - i = 0 + 1 by omega, take_one (by rw [List.length_drop]; omega)]
 have e : (T.drop i).getD 0 0 = T.getD i 0 := by
  rw [List.getD_eq_getElem?_getD, List.getD_eq_getElem?_getD, List.getElem?_drop, Nat.add_zero]
 rw [e]
 simp
theorem gl_len (T : List UInt8) (P i : Nat) : (gl T P i).length ≤ T.length + 1 := by
 unfold gl
 split
 ·rw [List.length_take]; omega
 ·rw [List.length_append, List.length_cons, List.length_take, List.length_take, List.length_drop]; omega
theorem gl_end {S : List UInt8} {k : Int} {P : Nat} (hP : (S.length : Int) + k = P) (h1 : 1 ≤ P) (h2 : P ≤ 21) :
  gl (S ++ List.replicate (P - S.length) 48) P (max S.length P) = lyb S k := by
 unfold lyb gl
 rw [if_neg (show ¬ lfar (S.length + k) by unfold lfar; omega), if_neg (show ¬ (S.length : Int) + k ≤ 0 by omega)]
 by_cases h3 : 0 ≤ k
 ·rw [if_pos h3, if_pos (by omega)]
  rw [List.take_of_length_le (by rw [List.length_append, List.length_replicate]; omega), show P - S.length = k.toNat by omega]
 ·rw [if_neg h3, if_neg (by omega), show P - S.length = 0 by omega, show ((S.length : Int) + k).toNat = P by omega]
  rw [List.replicate_zero, List.append_nil, take_all (S.drop P) _ (by rw [List.length_drop]; omega)]
end M
theorem cat_tx (a b : ByteArray) (la lb : List UInt8) (K : Nat) (ha : Hid (Tx a la)) (hb : Hid (Tx b lb)) (hk : a.size + b.size ≤ K) : ∃ c, a ++ b = c ∧ Hid (Tx c (la ++ lb)) ∧ c.size ≤ K :=
 ⟨a ++ b, rfl, ha.out.cat hb.out, by rw [ByteArray.size_append]; exact hk⟩
theorem ext_tx (s : ByteArray) (l : List UInt8) (h : Hid (Tx s l)) (i j : Nat) : ∃ c, s.extract i j = c ∧ Hid (Tx c ((l.drop i).take (j - i))) := ⟨_, rfl, h.out.ext i j⟩
theorem Tx.to {s : ByteArray} {l m : List UInt8} (h : Tx s l) (e : l = m) : Tx s m := e ▸ h
theorem digits12_any (w : World) (lo : Nat) (v : Value) (a : Nat) (h : Nw w lo 128 v a) (hl : (Lib.decDigits a).length ≤ 2000) (S : ByteArray) (hS : Tx S (Lib.decDigits a)) :
  Calls Tryz.prog 51 #[v] w (fun e w' => ∃ v2, e = .returned v2 ∧ Up w w' ∧ Calls Tryz.prog 50 #[v2] w' (Str S w')) := by
 refine (halves_of _ _ _ _ _ h (by omega)).mono ?_
 rintro _ w2 ⟨v2, rfl, N2, u2⟩
 exact ⟨v2, rfl, u2, rdigits1_any w2 _ _ v2 a N2 (by omega) (by omega) S (Tx.uniq (Tx.lit _) hS)⟩
set_option maxRecDepth 100000 in
theorem rlayout12_false (w : World) (A : Option Addr) (n c : Nat) (xs : List Nat) (k : Int) (h : Dr w A n c xs) (hr : M.rt xs k) :
  Calls Tryz.prog 23 #[dv false (.slice A n c) k] w (Tex (M.ly false (M.val xs) k) w) := by
 have hu := (Up.refl w).alloc (.cells #[.bool false, .slice A n c, .int .i64 k] 44)
 have CR := Lib.hid (rright12_any (w.alloc (.cells #[.bool false, .slice A n c, .int .i64 k] 44)) false A n c xs k (h.up hu) true (decide_eq_true hr))
 have hlen := M.rt_len hr
 rw [h.num] at hlen
 have hnm := h.mx
 obtain ⟨hr1, hr2⟩ := hr
 rcases Nat.eq_zero_or_pos n with h0 | h0
 ·subst h0
  have hx := h.nil
  subst hx
  have HE : Hid (M.ly false (M.val []) k = [] ++ [48]) := rfl
  clear hr1 hr2 h
  go_enter Tryz.func23, Tryz.ntmps23
  go_wp2_with fail
  refine CR.out.mono ?_
  rintro _ w1 ⟨rfl, u1⟩
  obtain ⟨O, hO⟩ : ∃ O : ByteArray, (⟨#[]⟩ : ByteArray) ++ ⟨#[48]⟩ = O := ⟨_, rfl⟩
  have HO := Lib.hid (show Tx O ([] ++ [48]) by rw [← hO]; exact (Tx.lit []).cat (Tx.lit [48]))
  have B := (Ob.mk_ w 44 #[.bool false, .slice A 0 c, .int .i64 k]).up u1
  obtain ⟨b0, b1, b2⟩ := B.g3
  go_wp2_with fail
  go_ret
  exact ⟨_, rfl, by rw [HE.out]; exact HO.out, hu.trans u1⟩
 ·have hn0 : ((n : Int) == 0) = false := by rw [beq_eq_false_iff_ne]; omega
  have hwd := h.wd (by omega)
  obtain ⟨a, ha⟩ : ∃ a, M.val xs = a := ⟨_, rfl⟩
  have hne : a ≠ 0 := by
   intro e
   rw [e] at ha
   have h1 := M.val_zero hr1 ha
   have h2 := h.num
   rw [h1] at h2
   simp at h2
   omega
  rw [ha] at hr2 ⊢
  obtain ⟨⟨k1, k2⟩, hl, h10⟩ : (-5000 ≤ k ∧ k ≤ 5000) ∧ (Lib.decDigits a).length ≤ 2000 ∧ a % 10 ≠ 0 := by
   rcases hr2 with h | h
   ·exact absurd h.1 hne
   ·exact h.2
  have NW : Hid (Nw (w.alloc (.cells #[.bool false, .slice A n c, .int .i64 k] 44)) 0 128 (.slice A n c) a) := ⟨_, _, _, _, rfl, hwd.up hu, ha, hlen⟩
  obtain ⟨S, HS0⟩ := tx_ex (Lib.decDigits a)
  have HS := Lib.hid HS0
  have hcl := M.cl_dec hne h10
  obtain ⟨l, hl'⟩ : ∃ l, Lib.decDigits a = l := ⟨_, rfl⟩
  have hsz := HS0.size
  have CD : Hid (∀ w1, Up (w.alloc (.cells #[.bool false, .slice A n c, .int .i64 k] 44)) w1 → Calls Tryz.prog 51 #[.slice A n c] w1 (fun e w' => ∃ v2, e = .returned v2 ∧ Up w1 w' ∧ Calls Tryz.prog 50 #[v2] w' (Str S w'))) := fun w1 u1 => digits12_any w1 0 _ a (NW.out.up u1) hl S HS.out
  have HE : Hid (M.ly false a k = [] ++ M.lyb l k) := by show _ = _; unfold M.ly; rw [if_neg hne, hl']; rfl
  rw [hl'] at hcl hsz hl HS
  have hpos := hcl.pos
  have HC := Lib.hid hcl
  clear NW hwd hr1 hr2 HS0 hcl ha h10 hl' h hne
  obtain ⟨p, hp⟩ : ∃ p : Int, (S.size : Int) + k = p := ⟨_, rfl⟩
  have hpl : (l.length : Int) + k = p := by omega
  have HPL := Lib.hid hpl
  go_enter Tryz.func23, Tryz.ntmps23
  go_wp2_with fail
  refine CR.out.mono ?_
  rintro _ w1 ⟨rfl, u1⟩
  have B := (Ob.mk_ w 44 #[.bool false, .slice A n c, .int .i64 k]).up u1
  obtain ⟨b0, b1, b2⟩ := B.g3
  have CD1 := Lib.hid (CD.out w1 u1)
  clear CR CD
  go_wp2_with fail
  refine CD1.out.mono ?_
  rintro _ w2 ⟨v2, rfl, u2, CD2⟩
  have CD3 := Lib.hid CD2
  clear CD1 CD2 b0 b1 b2
  go_wp2_with fail
  refine CD3.out.mono ?_
  rintro _ w3 ⟨rfl, u3⟩
  clear CD3
  replace B := B.up (u2.trans u3)
  obtain ⟨b0, b1, b2⟩ := B.g3
  have u := ((hu.trans u1).trans u2).trans u3
  clear u1 u2 u3 hu B
  have hS2 : S.size ≤ 2000 := by omega
  have hS1 : 0 < S.size := by omega
  clear hpl hl hpos hlen
  by_cases hf : 21 < p ∨ p < -5
  ·have HF : Hid (M.lfar (l.length + k)) := by show M.lfar _; rw [HPL.out]; exact hf
   obtain ⟨z, hz⟩ : ∃ z : Int, p - 1 = z := ⟨_, rfl⟩
   have CN := Lib.hid (rnum12_any w3 z (by omega))
   have HNL : Hid ((M.ntx z).length ≤ 8) := by
    show _ ≤ 8
    have := M.dd_len7 z.natAbs (by omega)
    unfold M.ntx M.sgt
    rw [List.length_append]
    split <;> simp <;> omega
   have HZ : Hid ((l.length : Int) + k - 1 = z) := by show _ = _; rw [HPL.out]; exact hz
   obtain ⟨S1, e1, T1⟩ := ext_tx S l HS 0 1
   have z1 : S1.size ≤ 1 := by rw [T1.out.size, List.length_take]; omega
   obtain ⟨C1, f1, T2, z2⟩ := cat_tx (⟨#[]⟩ : ByteArray) S1 _ _ 2 (Lib.hid (Tx.lit [])) T1 (by show 0 + S1.size ≤ 2; omega)
   have d0 : (decide (p > 21) || decide (p < -5)) = true := by rw [Bool.or_eq_true, decide_eq_true_iff, decide_eq_true_iff]; omega
   by_cases h1 : 1 < S.size
   ·have d1 : decide ((S.size : Int) > 1) = true := decide_eq_true (by omega)
    obtain ⟨S2, e2, T3⟩ := ext_tx S l HS 1 S.size
    have z3 : S2.size ≤ 2000 := by rw [T3.out.size, List.length_take, List.length_drop]; omega
    obtain ⟨C2, f2, T4, z4⟩ := cat_tx C1 ⟨#[46]⟩ _ _ 3 T2 (Lib.hid (Tx.lit [46])) (by show C1.size + 1 ≤ 3; omega)
    obtain ⟨C3, f3, T5, z5⟩ := cat_tx C2 S2 _ _ 2003 T4 T3 (by omega)
    obtain ⟨C4, f4, T6, z6⟩ := cat_tx C3 ⟨#[101]⟩ _ _ 2004 T5 (Lib.hid (Tx.lit [101])) (by show C3.size + 1 ≤ 2004; omega)
    have HE2 : Hid (([] ++ (l.drop 0).take (1 - 0) ++ [46] ++ (l.drop 1).take (S.size - 1) ++ [101]) ++ M.ntx z = [] ++ M.lyb l k) := by
     show _ = _
     unfold M.lyb
     rw [if_pos HF.out, if_pos (by omega), HZ.out, hsz, M.take_all (l.drop 1) _ (by rw [List.length_drop]; omega)]
     simp
    clear T1 T2 T3 T4 T5 hsz
    by_cases hp21 : p > 21
    ·have d2 : decide (p > 21) = true := decide_eq_true hp21
     go_wp2_with fail
     refine CN.out.mono ?_
     rintro _ w4 ⟨R, rfl, HR, u4⟩
     have hRs : R.size ≤ 8 := by rw [HR.size]; exact HNL.out
     replace HR := Lib.hid HR
     go_wp2_with fail
     go_ret
     exact ⟨_, rfl, by rw [HE.out, ← HE2.out]; exact T6.out.cat HR.out, u.trans u4⟩
    ·have d2 : decide (p > 21) = false := decide_eq_false hp21
     have d3 : decide (p < -5) = true := decide_eq_true (by omega)
     go_wp2_with fail
     refine CN.out.mono ?_
     rintro _ w4 ⟨R, rfl, HR, u4⟩
     have hRs : R.size ≤ 8 := by rw [HR.size]; exact HNL.out
     replace HR := Lib.hid HR
     go_wp2_with fail
     go_ret
     exact ⟨_, rfl, by rw [HE.out, ← HE2.out]; exact T6.out.cat HR.out, u.trans u4⟩
   ·have d1 : decide ((S.size : Int) > 1) = false := decide_eq_false (by omega)
    obtain ⟨C4, f4, T6, z6⟩ := cat_tx C1 ⟨#[101]⟩ _ _ 2004 T2 (Lib.hid (Tx.lit [101])) (by show C1.size + 1 ≤ 2004; omega)
    have HE2 : Hid (([] ++ (l.drop 0).take (1 - 0) ++ [101]) ++ M.ntx z = [] ++ M.lyb l k) := by
     show _ = _
     unfold M.lyb
     rw [if_pos HF.out, if_neg (by omega), HZ.out]
     simp
    clear T1 T2 hsz
    by_cases hp21 : p > 21
    ·have d2 : decide (p > 21) = true := decide_eq_true hp21
     go_wp2_with fail
     refine CN.out.mono ?_
     rintro _ w4 ⟨R, rfl, HR, u4⟩
     have hRs : R.size ≤ 8 := by rw [HR.size]; exact HNL.out
     replace HR := Lib.hid HR
     go_wp2_with fail
     go_ret
     exact ⟨_, rfl, by rw [HE.out, ← HE2.out]; exact T6.out.cat HR.out, u.trans u4⟩
    ·have d2 : decide (p > 21) = false := decide_eq_false hp21
     have d3 : decide (p < -5) = true := decide_eq_true (by omega)
     go_wp2_with fail
     refine CN.out.mono ?_
     rintro _ w4 ⟨R, rfl, HR, u4⟩
     have hRs : R.size ≤ 8 := by rw [HR.size]; exact HNL.out
     replace HR := Lib.hid HR
     go_wp2_with fail
     go_ret
     exact ⟨_, rfl, by rw [HE.out, ← HE2.out]; exact T6.out.cat HR.out, u.trans u4⟩
  ·have d2 : decide (p > 21) = false := decide_eq_false (by omega)
   have d3 : decide (p < -5) = false := decide_eq_false (by omega)
   by_cases hp0 : p ≤ 0
   ·have d4 : decide (p ≤ 0) = true := decide_eq_true hp0
    obtain ⟨C1, f1, T1, z1⟩ := cat_tx (⟨#[]⟩ : ByteArray) ⟨#[48, 46]⟩ _ _ 3 (Lib.hid (Tx.lit [])) (Lib.hid (Tx.lit [48, 46])) (by show 0 + 2 ≤ 3; omega)
    obtain ⟨m, hm⟩ : ∃ m : Nat, -p = (m : Int) := ⟨(-p).toNat, by omega⟩
    have HE2 : Hid (([] ++ [48, 46] ++ List.replicate m 48) ++ l = [] ++ M.lyb l k) := by
     show _ = _
     unfold M.lyb
     have := HPL.out
     rw [if_neg (show ¬ M.lfar (l.length + k) by unfold M.lfar; omega), if_pos (by omega), show (-((l.length : Int) + k)).toNat = m by omega]
     simp
    have hm5 : m ≤ 5 := by omega
    have HPM := Lib.hid (show p = -(m : Int) by omega)
    clear hsz hf hm
    go_wp2_with fail
    go_loopw [4, 7] (fun ov iv wr => ∃ (j : Nat) (D : ByteArray), j ≤ m ∧ ov = .string D ∧ iv = .int .i64 (p + (j : Int)) ∧ Hid (Tx D ([] ++ [48, 46] ++ List.replicate j 48)) ∧ Up w wr) (fun _ iv _ => (0 - intOf iv).toNat)
    case atStart => exact ⟨0, C1, Nat.zero_le _, rfl, by simp, by simpa using T1, u⟩
    case round =>
     obtain ⟨j, D, hj, rfl, rfl, HD, hu⟩ := hrel
     have hDs : D.size ≤ 20 := by
      rw [HD.out.size]
      simp
      omega
     obtain ⟨q, hq⟩ : ∃ q : Int, p + (j : Int) = q := ⟨_, rfl⟩
     rw [hq]
     have HQ := Lib.hid hq
     clear hq b0 b1 b2
     by_cases hq0 : q < 0
     ·have d5 : decide (q < 0) = true := decide_eq_true hq0
      obtain ⟨D2, g2, T2, y2⟩ := cat_tx D ⟨#[48]⟩ _ _ 21 HD (Lib.hid (Tx.lit [48])) (by show D.size + 1 ≤ 21; omega)
      have hq6 : -6 ≤ q := by have := HQ.out; have := HPM.out; omega
      go_wp2_with fail
      go_roundw
      case rel => exact ⟨j + 1, D2, by have := HQ.out; have := HPM.out; omega, by first | rfl | rw [g2], by have := HQ.out; go_num, by rw [List.replicate_succ']; simpa using T2, hu⟩
      case measure => simp [intOf]; omega
     ·have d5 : decide (q < 0) = false := decide_eq_false hq0
      have hjm : j = m := by have := HQ.out; have := HPM.out; omega
      have HD2 : Hid (Tx D ([] ++ [48, 46] ++ List.replicate m 48)) := by rw [← hjm]; exact HD
      clear HD hjm
      go_wp2_with fail
      go_ret
      exact ⟨_, rfl, by rw [HE.out, ← HE2.out]; exact HD2.out.cat HS.out, hu⟩
   ·have d4 : decide (p ≤ 0) = false := decide_eq_false hp0
    obtain ⟨Q, hQ⟩ : ∃ Q : Nat, p = (Q : Int) := ⟨p.toNat, by omega⟩
    have hQ1 : 1 ≤ Q ∧ Q ≤ 21 := by omega
    have HG := Lib.hid (M.gl_end (HPL.out.trans hQ) hQ1.1 hQ1.2)
    obtain ⟨T, hT⟩ : ∃ T, l ++ List.replicate (Q - l.length) 48 = T := ⟨_, rfl⟩
    have hTl : T.length = max l.length Q := by rw [← hT, List.length_append, List.length_replicate]; omega
    rw [hT, ← hTl] at HG
    have HTL := Lib.hid hTl
    have HT := Lib.hid hT
    have hTb : T.length ≤ 2021 := by omega
    have HQ := Lib.hid hQ
    have HSZ := Lib.hid hsz
    clear hsz hf hTl hT hQ hQ1
    go_wp2_with fail
    go_loopw [4, 8] (fun ov iv wr => ∃ (i : Nat) (D : ByteArray), i ≤ T.length ∧ ov = .string D ∧ iv = .int .i64 (i : Int) ∧ Hid (Tx D ([] ++ M.gl T Q i)) ∧ Up w wr) (fun _ iv _ => T.length - (intOf iv).toNat)
    case atStart => exact ⟨0, _, Nat.zero_le _, rfl, rfl, by rw [M.gl_zero]; exact Lib.hid (Tx.lit []), u⟩
    case round =>
     clear u b0 b1 b2
     obtain ⟨i, D, hi, rfl, rfl, HD, hu⟩ := hrel
     have hDs : D.size ≤ 2030 := by
      rw [HD.out.size, List.length_append]
      have := M.gl_len T Q i
      simp
      omega
     by_cases hiL : i < S.size
     ·have d5 : decide ((i : Int) < (S.size : Int)) = true := decide_eq_true (by omega)
      have d6 : decide (i < S.size) = true := decide_eq_true hiL
      obtain ⟨S1, e1, T1⟩ := ext_tx S l HS i (i + 1)
      have hg : T.getD i 0 = l.getD i 0 := by
       rw [← HT.out, List.getD_eq_getElem?_getD, List.getD_eq_getElem?_getD, List.getElem?_append_left (by have := HSZ.out; omega)]
      have hone : (l.drop i).take (i + 1 - i) = [T.getD i 0] := by
       rw [hg, M.drop_at (by have := HSZ.out; omega), show i + 1 - i = 1 by omega]
       rfl
      have T1' : Hid (Tx S1 [T.getD i 0]) := by rw [← hone]; exact T1
      have hiT : i < T.length := by have := HSZ.out; have := HTL.out; omega
      have z1 : S1.size ≤ 1 := by rw [T1'.out.size]; simp
      by_cases hiQ : i = Q
      ·have d7 : ((i : Int) == p) = true := by rw [beq_iff_eq, HQ.out]; omega
       obtain ⟨D2, g2, T2, y2⟩ := cat_tx D ⟨#[46]⟩ _ _ 2031 HD (Lib.hid (Tx.lit [46])) (by show D.size + 1 ≤ 2031; omega)
       obtain ⟨D3, g3, T3, y3⟩ := cat_tx D2 S1 _ _ 2032 T2 T1' (by omega)
       have T4 : Hid (Tx D3 ([] ++ M.gl T Q (i + 1))) := by
        show Tx _ _
        have e := M.gl_point hiT
        rw [← hiQ, e]
        have := T3.out
        rw [← hiQ] at this
        exact this.to (by simp)
       have HIT := Lib.hid hiT
       clear hg hone T1 T1' T2 T3 hiQ HD hiT
       go_wp2_with fail
       go_roundw
       case rel => exact ⟨i + 1, D3, by have := HIT.out; omega, by first | rfl | rw [g3], by go_num, T4, hu⟩
       case measure => have := HIT.out; simp [intOf]; omega
      ·have d7 : ((i : Int) == p) = false := by rw [beq_eq_false_iff_ne, HQ.out]; omega
       obtain ⟨D3, g3, T3, y3⟩ := cat_tx D S1 _ _ 2032 HD T1' (by omega)
       have T4 : Hid (Tx D3 ([] ++ M.gl T Q (i + 1))) := by
        show Tx _ _
        rw [M.gl_plain hiT hiQ]
        exact T3.out.to (by simp)
       have HIT := Lib.hid hiT
       clear hg hone T1 T1' T3 hiQ HD hiT
       go_wp2_with fail
       go_roundw
       case rel => exact ⟨i + 1, D3, by have := HIT.out; omega, by first | rfl | rw [g3], by go_num, T4, hu⟩
       case measure => have := HIT.out; simp [intOf]; omega
     ·have d5 : decide ((i : Int) < (S.size : Int)) = false := decide_eq_false (by omega)
      have d6 : decide (i < S.size) = false := decide_eq_false hiL
      by_cases hiP : i < Q
      ·have d7 : ((i : Int) == p) = false := by rw [beq_eq_false_iff_ne, HQ.out]; omega
       have d8 : decide ((i : Int) < p) = true := decide_eq_true (by rw [HQ.out]; omega)
       have hiT : i < T.length := by have := HTL.out; omega
       have hg : T.getD i 0 = 48 := by
        have := HSZ.out
        rw [← HT.out, List.getD_eq_getElem?_getD, List.getElem?_append_right (by omega), List.getElem?_replicate, if_pos (by omega)]
        rfl
       obtain ⟨D3, g3, T3, y3⟩ := cat_tx D ⟨#[48]⟩ _ _ 2031 HD (Lib.hid (Tx.lit [48])) (by show D.size + 1 ≤ 2031; omega)
       have T4 : Hid (Tx D3 ([] ++ M.gl T Q (i + 1))) := by
        show Tx _ _
        rw [M.gl_plain hiT (by omega), hg]
        exact T3.out.to (by simp)
       have HIT := Lib.hid hiT
       clear hg T3 HD hiT
       go_wp2_with fail
       go_roundw
       case rel => exact ⟨i + 1, D3, by have := HIT.out; omega, by first | rfl | rw [g3], by go_num, T4, hu⟩
       case measure => have := HIT.out; simp [intOf]; omega
      ·have d8 : decide ((i : Int) < p) = false := decide_eq_false (by rw [HQ.out]; omega)
       have hiT : i = T.length := by have := HTL.out; have := HSZ.out; omega
       have T4 : Hid (Tx D ([] ++ M.lyb l k)) := by
        show Tx _ _
        rw [← HG.out, ← hiT]
        exact HD.out
       clear hiT HD
       go_wp2_with fail
       go_ret
       exact ⟨_, rfl, by rw [HE.out]; exact T4.out, hu⟩
set_option maxRecDepth 100000 in
theorem rlayout12_true (w : World) (A : Option Addr) (n c : Nat) (xs : List Nat) (k : Int) (h : Dr w A n c xs) (hr : M.rt xs k) :
  Calls Tryz.prog 23 #[dv true (.slice A n c) k] w (Tex (M.ly true (M.val xs) k) w) := by
 have hu := (Up.refl w).alloc (.cells #[.bool true, .slice A n c, .int .i64 k] 44)
 have CR := Lib.hid (rright12_any (w.alloc (.cells #[.bool true, .slice A n c, .int .i64 k] 44)) true A n c xs k (h.up hu) true (decide_eq_true hr))
 have hlen := M.rt_len hr
 rw [h.num] at hlen
 have hnm := h.mx
 obtain ⟨hr1, hr2⟩ := hr
 rcases Nat.eq_zero_or_pos n with h0 | h0
 ·subst h0
  have hx := h.nil
  subst hx
  have HE : Hid (M.ly true (M.val []) k = [45] ++ [48]) := rfl
  clear hr1 hr2 h
  go_enter Tryz.func23, Tryz.ntmps23
  go_wp2_with fail
  refine CR.out.mono ?_
  rintro _ w1 ⟨rfl, u1⟩
  obtain ⟨O, hO⟩ : ∃ O : ByteArray, (⟨#[45]⟩ : ByteArray) ++ ⟨#[48]⟩ = O := ⟨_, rfl⟩
  have HO := Lib.hid (show Tx O ([45] ++ [48]) by rw [← hO]; exact (Tx.lit [45]).cat (Tx.lit [48]))
  have B := (Ob.mk_ w 44 #[.bool true, .slice A 0 c, .int .i64 k]).up u1
  obtain ⟨b0, b1, b2⟩ := B.g3
  go_wp2_with fail
  go_ret
  exact ⟨_, rfl, by rw [HE.out]; exact HO.out, hu.trans u1⟩
 ·have hn0 : ((n : Int) == 0) = false := by rw [beq_eq_false_iff_ne]; omega
  have hwd := h.wd (by omega)
  obtain ⟨a, ha⟩ : ∃ a, M.val xs = a := ⟨_, rfl⟩
  have hne : a ≠ 0 := by
   intro e
   rw [e] at ha
   have h1 := M.val_zero hr1 ha
   have h2 := h.num
   rw [h1] at h2
   simp at h2
   omega
  rw [ha] at hr2 ⊢
  obtain ⟨⟨k1, k2⟩, hl, h10⟩ : (-5000 ≤ k ∧ k ≤ 5000) ∧ (Lib.decDigits a).length ≤ 2000 ∧ a % 10 ≠ 0 := by
   rcases hr2 with h | h
   ·exact absurd h.1 hne
   ·exact h.2
  have NW : Hid (Nw (w.alloc (.cells #[.bool true, .slice A n c, .int .i64 k] 44)) 0 128 (.slice A n c) a) := ⟨_, _, _, _, rfl, hwd.up hu, ha, hlen⟩
  obtain ⟨S, HS0⟩ := tx_ex (Lib.decDigits a)
  have HS := Lib.hid HS0
  have hcl := M.cl_dec hne h10
  obtain ⟨l, hl'⟩ : ∃ l, Lib.decDigits a = l := ⟨_, rfl⟩
  have hsz := HS0.size
  have CD : Hid (∀ w1, Up (w.alloc (.cells #[.bool true, .slice A n c, .int .i64 k] 44)) w1 → Calls Tryz.prog 51 #[.slice A n c] w1 (fun e w' => ∃ v2, e = .returned v2 ∧ Up w1 w' ∧ Calls Tryz.prog 50 #[v2] w' (Str S w'))) := fun w1 u1 => digits12_any w1 0 _ a (NW.out.up u1) hl S HS.out
  have HE : Hid (M.ly true a k = [45] ++ M.lyb l k) := by show _ = _; unfold M.ly; rw [if_neg hne, hl']; rfl
  rw [hl'] at hcl hsz hl HS
  have hpos := hcl.pos
  have HC := Lib.hid hcl
  clear NW hwd hr1 hr2 HS0 hcl ha h10 hl' h hne
  obtain ⟨p, hp⟩ : ∃ p : Int, (S.size : Int) + k = p := ⟨_, rfl⟩
  have hpl : (l.length : Int) + k = p := by omega
  have HPL := Lib.hid hpl
  go_enter Tryz.func23, Tryz.ntmps23
  go_wp2_with fail
  refine CR.out.mono ?_
  rintro _ w1 ⟨rfl, u1⟩
  have B := (Ob.mk_ w 44 #[.bool true, .slice A n c, .int .i64 k]).up u1
  obtain ⟨b0, b1, b2⟩ := B.g3
  have CD1 := Lib.hid (CD.out w1 u1)
  clear CR CD
  go_wp2_with fail
  refine CD1.out.mono ?_
  rintro _ w2 ⟨v2, rfl, u2, CD2⟩
  have CD3 := Lib.hid CD2
  clear CD1 CD2 b0 b1 b2
  go_wp2_with fail
  refine CD3.out.mono ?_
  rintro _ w3 ⟨rfl, u3⟩
  clear CD3
  replace B := B.up (u2.trans u3)
  obtain ⟨b0, b1, b2⟩ := B.g3
  have u := ((hu.trans u1).trans u2).trans u3
  clear u1 u2 u3 hu B
  have hS2 : S.size ≤ 2000 := by omega
  have hS1 : 0 < S.size := by omega
  clear hpl hl hpos hlen
  by_cases hf : 21 < p ∨ p < -5
  ·have HF : Hid (M.lfar (l.length + k)) := by show M.lfar _; rw [HPL.out]; exact hf
   obtain ⟨z, hz⟩ : ∃ z : Int, p - 1 = z := ⟨_, rfl⟩
   have CN := Lib.hid (rnum12_any w3 z (by omega))
   have HNL : Hid ((M.ntx z).length ≤ 8) := by
    show _ ≤ 8
    have := M.dd_len7 z.natAbs (by omega)
    unfold M.ntx M.sgt
    rw [List.length_append]
    split <;> simp <;> omega
   have HZ : Hid ((l.length : Int) + k - 1 = z) := by show _ = _; rw [HPL.out]; exact hz
   obtain ⟨S1, e1, T1⟩ := ext_tx S l HS 0 1
   have z1 : S1.size ≤ 1 := by rw [T1.out.size, List.length_take]; omega
   obtain ⟨C1, f1, T2, z2⟩ := cat_tx (⟨#[45]⟩ : ByteArray) S1 _ _ 2 (Lib.hid (Tx.lit [45])) T1 (by show 1 + S1.size ≤ 2; omega)
   have d0 : (decide (p > 21) || decide (p < -5)) = true := by rw [Bool.or_eq_true, decide_eq_true_iff, decide_eq_true_iff]; omega
   by_cases h1 : 1 < S.size
   ·have d1 : decide ((S.size : Int) > 1) = true := decide_eq_true (by omega)
    obtain ⟨S2, e2, T3⟩ := ext_tx S l HS 1 S.size
    have z3 : S2.size ≤ 2000 := by rw [T3.out.size, List.length_take, List.length_drop]; omega
    obtain ⟨C2, f2, T4, z4⟩ := cat_tx C1 ⟨#[46]⟩ _ _ 3 T2 (Lib.hid (Tx.lit [46])) (by show C1.size + 1 ≤ 3; omega)
    obtain ⟨C3, f3, T5, z5⟩ := cat_tx C2 S2 _ _ 2003 T4 T3 (by omega)
    obtain ⟨C4, f4, T6, z6⟩ := cat_tx C3 ⟨#[101]⟩ _ _ 2004 T5 (Lib.hid (Tx.lit [101])) (by show C3.size + 1 ≤ 2004; omega)
    have HE2 : Hid (([45] ++ (l.drop 0).take (1 - 0) ++ [46] ++ (l.drop 1).take (S.size - 1) ++ [101]) ++ M.ntx z = [45] ++ M.lyb l k) := by
     show _ = _
     unfold M.lyb
     rw [if_pos HF.out, if_pos (by omega), HZ.out, hsz, M.take_all (l.drop 1) _ (by rw [List.length_drop]; omega)]
     simp
    clear T1 T2 T3 T4 T5 hsz
    by_cases hp21 : p > 21
    ·have d2 : decide (p > 21) = true := decide_eq_true hp21
     go_wp2_with fail
     refine CN.out.mono ?_
     rintro _ w4 ⟨R, rfl, HR, u4⟩
     have hRs : R.size ≤ 8 := by rw [HR.size]; exact HNL.out
     replace HR := Lib.hid HR
     go_wp2_with fail
     go_ret
     exact ⟨_, rfl, by rw [HE.out, ← HE2.out]; exact T6.out.cat HR.out, u.trans u4⟩
    ·have d2 : decide (p > 21) = false := decide_eq_false hp21
     have d3 : decide (p < -5) = true := decide_eq_true (by omega)
     go_wp2_with fail
     refine CN.out.mono ?_
     rintro _ w4 ⟨R, rfl, HR, u4⟩
     have hRs : R.size ≤ 8 := by rw [HR.size]; exact HNL.out
     replace HR := Lib.hid HR
     go_wp2_with fail
     go_ret
     exact ⟨_, rfl, by rw [HE.out, ← HE2.out]; exact T6.out.cat HR.out, u.trans u4⟩
   ·have d1 : decide ((S.size : Int) > 1) = false := decide_eq_false (by omega)
    obtain ⟨C4, f4, T6, z6⟩ := cat_tx C1 ⟨#[101]⟩ _ _ 2004 T2 (Lib.hid (Tx.lit [101])) (by show C1.size + 1 ≤ 2004; omega)
    have HE2 : Hid (([45] ++ (l.drop 0).take (1 - 0) ++ [101]) ++ M.ntx z = [45] ++ M.lyb l k) := by
     show _ = _
     unfold M.lyb
     rw [if_pos HF.out, if_neg (by omega), HZ.out]
     simp
    clear T1 T2 hsz
    by_cases hp21 : p > 21
    ·have d2 : decide (p > 21) = true := decide_eq_true hp21
     go_wp2_with fail
     refine CN.out.mono ?_
     rintro _ w4 ⟨R, rfl, HR, u4⟩
     have hRs : R.size ≤ 8 := by rw [HR.size]; exact HNL.out
     replace HR := Lib.hid HR
     go_wp2_with fail
     go_ret
     exact ⟨_, rfl, by rw [HE.out, ← HE2.out]; exact T6.out.cat HR.out, u.trans u4⟩
    ·have d2 : decide (p > 21) = false := decide_eq_false hp21
     have d3 : decide (p < -5) = true := decide_eq_true (by omega)
     go_wp2_with fail
     refine CN.out.mono ?_
     rintro _ w4 ⟨R, rfl, HR, u4⟩
     have hRs : R.size ≤ 8 := by rw [HR.size]; exact HNL.out
     replace HR := Lib.hid HR
     go_wp2_with fail
     go_ret
     exact ⟨_, rfl, by rw [HE.out, ← HE2.out]; exact T6.out.cat HR.out, u.trans u4⟩
  ·have d2 : decide (p > 21) = false := decide_eq_false (by omega)
   have d3 : decide (p < -5) = false := decide_eq_false (by omega)
   by_cases hp0 : p ≤ 0
   ·have d4 : decide (p ≤ 0) = true := decide_eq_true hp0
    obtain ⟨C1, f1, T1, z1⟩ := cat_tx (⟨#[45]⟩ : ByteArray) ⟨#[48, 46]⟩ _ _ 3 (Lib.hid (Tx.lit [45])) (Lib.hid (Tx.lit [48, 46])) (by show 1 + 2 ≤ 3; omega)
    obtain ⟨m, hm⟩ : ∃ m : Nat, -p = (m : Int) := ⟨(-p).toNat, by omega⟩
    have HE2 : Hid (([45] ++ [48, 46] ++ List.replicate m 48) ++ l = [45] ++ M.lyb l k) := by
     show _ = _
     unfold M.lyb
     have := HPL.out
     rw [if_neg (show ¬ M.lfar (l.length + k) by unfold M.lfar; omega), if_pos (by omega), show (-((l.length : Int) + k)).toNat = m by omega]
     simp
    have hm5 : m ≤ 5 := by omega
    have HPM := Lib.hid (show p = -(m : Int) by omega)
    clear hsz hf hm
    go_wp2_with fail
    go_loopw [4, 7] (fun ov iv wr => ∃ (j : Nat) (D : ByteArray), j ≤ m ∧ ov = .string D ∧ iv = .int .i64 (p + (j : Int)) ∧ Hid (Tx D ([45] ++ [48, 46] ++ List.replicate j 48)) ∧ Up w wr) (fun _ iv _ => (0 - intOf iv).toNat)
    case atStart => exact ⟨0, C1, Nat.zero_le _, rfl, by simp, by simpa using T1, u⟩
    case round =>
     obtain ⟨j, D, hj, rfl, rfl, HD, hu⟩ := hrel
     have hDs : D.size ≤ 20 := by
      rw [HD.out.size]
      simp
      omega
     obtain ⟨q, hq⟩ : ∃ q : Int, p + (j : Int) = q := ⟨_, rfl⟩
     rw [hq]
     have HQ := Lib.hid hq
     clear hq b0 b1 b2
     by_cases hq0 : q < 0
     ·have d5 : decide (q < 0) = true := decide_eq_true hq0
      obtain ⟨D2, g2, T2, y2⟩ := cat_tx D ⟨#[48]⟩ _ _ 21 HD (Lib.hid (Tx.lit [48])) (by show D.size + 1 ≤ 21; omega)
      have hq6 : -6 ≤ q := by have := HQ.out; have := HPM.out; omega
      go_wp2_with fail
      go_roundw
      case rel => exact ⟨j + 1, D2, by have := HQ.out; have := HPM.out; omega, by first | rfl | rw [g2], by have := HQ.out; go_num, by rw [List.replicate_succ']; simpa using T2, hu⟩
      case measure => simp [intOf]; omega
     ·have d5 : decide (q < 0) = false := decide_eq_false hq0
      have hjm : j = m := by have := HQ.out; have := HPM.out; omega
      have HD2 : Hid (Tx D ([45] ++ [48, 46] ++ List.replicate m 48)) := by rw [← hjm]; exact HD
      clear HD hjm
      go_wp2_with fail
      go_ret
      exact ⟨_, rfl, by rw [HE.out, ← HE2.out]; exact HD2.out.cat HS.out, hu⟩
   ·have d4 : decide (p ≤ 0) = false := decide_eq_false hp0
    obtain ⟨Q, hQ⟩ : ∃ Q : Nat, p = (Q : Int) := ⟨p.toNat, by omega⟩
    have hQ1 : 1 ≤ Q ∧ Q ≤ 21 := by omega
    have HG := Lib.hid (M.gl_end (HPL.out.trans hQ) hQ1.1 hQ1.2)
    obtain ⟨T, hT⟩ : ∃ T, l ++ List.replicate (Q - l.length) 48 = T := ⟨_, rfl⟩
    have hTl : T.length = max l.length Q := by rw [← hT, List.length_append, List.length_replicate]; omega
    rw [hT, ← hTl] at HG
    have HTL := Lib.hid hTl
    have HT := Lib.hid hT
    have hTb : T.length ≤ 2021 := by omega
    have HQ := Lib.hid hQ
    have HSZ := Lib.hid hsz
    clear hsz hf hTl hT hQ hQ1
    go_wp2_with fail
    go_loopw [4, 8] (fun ov iv wr => ∃ (i : Nat) (D : ByteArray), i ≤ T.length ∧ ov = .string D ∧ iv = .int .i64 (i : Int) ∧ Hid (Tx D ([45] ++ M.gl T Q i)) ∧ Up w wr) (fun _ iv _ => T.length - (intOf iv).toNat)
    case atStart => exact ⟨0, _, Nat.zero_le _, rfl, rfl, by rw [M.gl_zero]; exact Lib.hid (Tx.lit [45]), u⟩
    case round =>
     clear u b0 b1 b2
     obtain ⟨i, D, hi, rfl, rfl, HD, hu⟩ := hrel
     have hDs : D.size ≤ 2030 := by
      rw [HD.out.size, List.length_append]
      have := M.gl_len T Q i
      simp
      omega
     by_cases hiL : i < S.size
     ·have d5 : decide ((i : Int) < (S.size : Int)) = true := decide_eq_true (by omega)
      have d6 : decide (i < S.size) = true := decide_eq_true hiL
      obtain ⟨S1, e1, T1⟩ := ext_tx S l HS i (i + 1)
      have hg : T.getD i 0 = l.getD i 0 := by
       rw [← HT.out, List.getD_eq_getElem?_getD, List.getD_eq_getElem?_getD, List.getElem?_append_left (by have := HSZ.out; omega)]
      have hone : (l.drop i).take (i + 1 - i) = [T.getD i 0] := by
       rw [hg, M.drop_at (by have := HSZ.out; omega), show i + 1 - i = 1 by omega]
       rfl
      have T1' : Hid (Tx S1 [T.getD i 0]) := by rw [← hone]; exact T1
      have hiT : i < T.length := by have := HSZ.out; have := HTL.out; omega
      have z1 : S1.size ≤ 1 := by rw [T1'.out.size]; simp
      by_cases hiQ : i = Q
      ·have d7 : ((i : Int) == p) = true := by rw [beq_iff_eq, HQ.out]; omega
       obtain ⟨D2, g2, T2, y2⟩ := cat_tx D ⟨#[46]⟩ _ _ 2031 HD (Lib.hid (Tx.lit [46])) (by show D.size + 1 ≤ 2031; omega)
       obtain ⟨D3, g3, T3, y3⟩ := cat_tx D2 S1 _ _ 2032 T2 T1' (by omega)
       have T4 : Hid (Tx D3 ([45] ++ M.gl T Q (i + 1))) := by
        show Tx _ _
        have e := M.gl_point hiT
        rw [← hiQ, e]
        have := T3.out
        rw [← hiQ] at this
        exact this.to (by simp)
       have HIT := Lib.hid hiT
       clear hg hone T1 T1' T2 T3 hiQ HD hiT
       go_wp2_with fail
       go_roundw
       case rel => exact ⟨i + 1, D3, by have := HIT.out; omega, by first | rfl | rw [g3], by go_num, T4, hu⟩
       case measure => have := HIT.out; simp [intOf]; omega
      ·have d7 : ((i : Int) == p) = false := by rw [beq_eq_false_iff_ne, HQ.out]; omega
       obtain ⟨D3, g3, T3, y3⟩ := cat_tx D S1 _ _ 2032 HD T1' (by omega)
       have T4 : Hid (Tx D3 ([45] ++ M.gl T Q (i + 1))) := by
        show Tx _ _
        rw [M.gl_plain hiT hiQ]
        exact T3.out.to (by simp)
       have HIT := Lib.hid hiT
       clear hg hone T1 T1' T3 hiQ HD hiT
       go_wp2_with fail
       go_roundw
       case rel => exact ⟨i + 1, D3, by have := HIT.out; omega, by first | rfl | rw [g3], by go_num, T4, hu⟩
       case measure => have := HIT.out; simp [intOf]; omega
     ·have d5 : decide ((i : Int) < (S.size : Int)) = false := decide_eq_false (by omega)
      have d6 : decide (i < S.size) = false := decide_eq_false hiL
      by_cases hiP : i < Q
      ·have d7 : ((i : Int) == p) = false := by rw [beq_eq_false_iff_ne, HQ.out]; omega
       have d8 : decide ((i : Int) < p) = true := decide_eq_true (by rw [HQ.out]; omega)
       have hiT : i < T.length := by have := HTL.out; omega
       have hg : T.getD i 0 = 48 := by
        have := HSZ.out
        rw [← HT.out, List.getD_eq_getElem?_getD, List.getElem?_append_right (by omega), List.getElem?_replicate, if_pos (by omega)]
        rfl
       obtain ⟨D3, g3, T3, y3⟩ := cat_tx D ⟨#[48]⟩ _ _ 2031 HD (Lib.hid (Tx.lit [48])) (by show D.size + 1 ≤ 2031; omega)
       have T4 : Hid (Tx D3 ([45] ++ M.gl T Q (i + 1))) := by
        show Tx _ _
        rw [M.gl_plain hiT (by omega), hg]
        exact T3.out.to (by simp)
       have HIT := Lib.hid hiT
       clear hg T3 HD hiT
       go_wp2_with fail
       go_roundw
       case rel => exact ⟨i + 1, D3, by have := HIT.out; omega, by first | rfl | rw [g3], by go_num, T4, hu⟩
       case measure => have := HIT.out; simp [intOf]; omega
      ·have d8 : decide ((i : Int) < p) = false := decide_eq_false (by rw [HQ.out]; omega)
       have hiT : i = T.length := by have := HTL.out; have := HSZ.out; omega
       have T4 : Hid (Tx D ([45] ++ M.lyb l k)) := by
        show Tx _ _
        rw [← HG.out, ← hiT]
        exact HD.out
       clear hiT HD
       go_wp2_with fail
       go_ret
       exact ⟨_, rfl, by rw [HE.out]; exact T4.out, hu⟩
theorem rlayout12_any (w : World) (ng : Bool) (A : Option Addr) (n c : Nat) (xs : List Nat) (k : Int) (h : Dr w A n c xs) :
  Calls Tryz.prog 23 #[dv ng (.slice A n c) k] w (Tex (M.lyr ng xs k) w) := by
 by_cases hr : M.rt xs k
 ·rw [M.lyr, if_pos hr]
  cases ng
  ·exact rlayout12_false w A n c xs k h hr
  ·exact rlayout12_true w A n c xs k h hr
 ·rw [M.lyr, if_neg hr]
  have hu := (Up.refl w).alloc (.cells #[.bool ng, .slice A n c, .int .i64 k] 44)
  have CR := Lib.hid (rright12_any (w.alloc (.cells #[.bool ng, .slice A n c, .int .i64 k] 44)) ng A n c xs k (h.up hu) false (decide_eq_false hr))
  clear hr h
  go_enter Tryz.func23, Tryz.ntmps23
  go_wp2_with fail
  refine CR.out.mono ?_
  rintro _ w1 ⟨rfl, u1⟩
  go_wp2_with fail
  go_ret
  exact ⟨_, rfl, Tx.lit [], hu.trans u1⟩
namespace M
def lyn (ng : Bool) (a : Nat) (k : Int) : List UInt8 := if rtn a k then ly ng a k else []
theorem lyr_nrm {xs : List Nat} (h : Nrm xs) (ng : Bool) (k : Int) : lyr ng xs k = lyn ng (val xs) k := by
 unfold lyr lyn
 by_cases e : rtn (val xs) k
 ·rw [if_pos (show rt xs k from ⟨h, e⟩), if_pos e]
 ·rw [if_neg (show ¬ rt xs k from fun x => e x.2), if_neg e]
end M
end Go.Proofs.YtcmlanfgafancaaGreatDoor
