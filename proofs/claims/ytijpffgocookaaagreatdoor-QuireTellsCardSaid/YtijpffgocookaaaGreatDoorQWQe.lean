import Derived.Test.YtijpffgocookaaaGreatDoorQWQb
import Derived.Test.YtijpffgocookaaaGreatDoorQWWf
import Derived.Test.YtijpffgocookaaaGreatDoorQWWi
import Derived.Test.YtijpffgocookaaaGreatDoorQWVca
import Derived.Test.YtijpffgocookaaaGreatDoorQWYe
set_option maxHeartbeats 32000000
set_option linter.unusedVariables false
set_option linter.unusedSimpArgs false
namespace Go.Proofs.YtijpffgocookaaaGreatDoor
open Go.RowKit Go.Shelf
namespace M
def les (i : Nat) (less : Bool) (o : Option Nat) : Option Nat := if less = true then tk i true o else o
theorem les_none (i : Nat) (less : Bool) : les i less none = none := by cases less <;> rfl
theorem les_zero (i : Nat) (less : Bool) : les i less (some 0) = some 0 := by
 cases less
 ·rfl
 ·show some (ng _ 0) = _; rw [ng_zero]
theorem les_end {i P : Nat} (h : P < 2 ^ qS i) (less g g' : Bool) : les i less (some (if g = g' then P else ng (2 ^ qS i) P)) = some (if ((g != g') != less) = true then ng (2 ^ qS i) P else P) := by
 unfold les
 cases less <;> cases g <;> cases g' <;> simp [tk, ng_ng h]
structure Cpy (ls : List Bool) (S j : Nat) (zs : List Bool) : Prop where
 len : zs.length = S
 at_ : ∀ k, k < S → zs.getD k false = (decide (k < j) && ls.getD k false)
theorem Cpy.start (ls : List Bool) (S : Nat) : Cpy ls S 0 (List.replicate S false) := by
 refine ⟨by simp, fun k hk => ?_⟩
 rw [List.getD_eq_getElem?_getD, List.getElem?_replicate_of_lt hk]
 simp
theorem Cpy.step {ls : List Bool} {S j : Nat} {zs : List Bool} (h : Cpy ls S j zs) (hj : j < S) : Cpy ls S (j + 1) (zs.set j (ls.getD j false)) := by
 refine ⟨by rw [List.length_set, h.len], fun k hk => ?_⟩
 rw [List.getD_eq_getElem?_getD]
 by_cases e : k = j
 ·subst e
  rw [List.getElem?_set_self (by rw [h.len]; exact hk), decide_eq_true (by omega), Bool.true_and]; rfl
 ·rw [List.getElem?_set_ne (by omega), ← List.getD_eq_getElem?_getD, h.at_ k hk]
  by_cases f : k < j
  ·rw [decide_eq_true f, decide_eq_true (show k < j + 1 by omega)]
  ·rw [decide_eq_false f, decide_eq_false (show ¬ k < j + 1 by omega)]
theorem Cpy.fin {ls : List Bool} {S j : Nat} {zs : List Bool} (h : Cpy ls S j zs) (hj : S ≤ j ∨ ls.length ≤ j) : bq zs = bq ls % 2 ^ S := by
 have e : zs = bqt S (bq ls) := by
  apply List.ext_getElem?
  intro k
  by_cases hk : k < S
  ·have h1 := h.at_ k hk
   have h2 : (bqt S (bq ls)).getD k false = (bq ls).testBit k := bqt_get hk
   rw [bq_bit] at h2
   have h3 : (decide (k < j) && ls.getD k false) = ls.getD k false := by
    by_cases f : k < j
    ·rw [decide_eq_true f, Bool.true_and]
    ·have : ls.length ≤ k := by rcases hj with e | e <;> omega
     rw [decide_eq_false f, Bool.false_and, List.getD_eq_getElem?_getD, List.getElem?_eq_none this]; rfl
   rw [h3, ← h2] at h1
   rw [List.getD_eq_getElem?_getD, List.getD_eq_getElem?_getD, List.getElem?_eq_getElem (by rw [h.len]; exact hk), List.getElem?_eq_getElem (by rw [bqt_len]; exact hk)] at h1
   rw [List.getElem?_eq_getElem (by rw [h.len]; exact hk), List.getElem?_eq_getElem (by rw [bqt_len]; exact hk)]
   exact congrArg some h1
  ·rw [List.getElem?_eq_none (by rw [h.len]; omega), List.getElem?_eq_none (by rw [bqt_len]; omega)]
 rw [e, bq_bqt]
end M
set_option maxRecDepth 100000 in
theorem radd15 {q i b : Nat} {w : World} {F : Nat → Prop} (h : Rqt q i b w F) (a c : Nat) (ha : a < 18446744073709551616) (hc : c < 18446744073709551616) (o : Option Nat) (hq : M.Qi i a c o) (less : Bool) :
  Calls Tryz.prog 17 #[ptr q, u64 a, u64 c, .bool less] w (Mu (α := Unit) F (fun _ => Rqt q i (M.qst i b (M.les i less o))) (fun _ => .tuple #[]) w) := by
 have HH := Lib.hid h
 have U := Up.refl w
 obtain ⟨⟨i1, i2⟩, A, cA, l, h1, hr, hb, hne, _⟩ := h
 have fct := M.q_facts i1 i2
 by_cases hn : b = M.qn i
 ·have CN := Lib.hid (rnar15 HH.out true (decide_eq_true hn))
  have HE : Hid (b = M.qst i b (M.les i less o)) := Lib.hid (by rw [hn, M.qst_nar])
  clear h1 hr hb hne hn fct hq
  go_enter Tryz.func17, Tryz.ntmps17
  go_wp2_with fail
  refine CN.out.mono ?_
  rintro _ w1 ⟨rfl, u1⟩
  go_wp2_with fail
  go_end0
  rw [← HE.out]
  exact ⟨(), rfl, F, HH.out.stay (by first | exact u1 | exact u1.drew | exact u1.drewN _)⟩
 ·have CN := Lib.hid (rnar15 HH.out false (decide_eq_false hn))
  obtain ⟨v1, g, m, z, v2, g', m', z', e1, e2, hq⟩ := hq
  have C1 := Lib.hid (fun W => rdecode_any W (i : Int) a ha v1 g m z 0 e1)
  have C2 := Lib.hid (fun W => rdecode_any W (i : Int) c hc v2 g' m' z' 0 e2)
  obtain ⟨S, hS⟩ : ∃ S, M.qS i = S := ⟨_, rfl⟩
  obtain ⟨Wd, hWd⟩ : ∃ Wd, (M.tb i).W = Wd := ⟨_, rfl⟩
  have hl := hr.num
  rw [hS] at h1 hr hl
  rw [hWd] at h1
  have HQ := Lib.hid h1
  have HS := Lib.hid hS
  have HWd := Lib.hid hWd
  have HB := Lib.hid hb
  have HN := Lib.hid hn
  have s1 : 128 ≤ S := by omega
  have s2 : S ≤ 1024 := by omega
  have RR := Lib.hid hr
  have HI : Hid (1 ≤ i ∧ i ≤ 4) := ⟨i1, i2⟩
  obtain ⟨bb, oo, rfl, _⟩ := hr.form (by omega)
  have b1 := hr.len
  rcases hq with ⟨rfl, h4⟩ | ⟨rfl, h4, h5⟩ | ⟨h4, h5, P, hP, rfl⟩
  ·have CK := Lib.hid (fun W => nar15_any W S (by omega) (by omega))
   clear e1 e2 hl hb hn h1 hr hS hWd hne i1 i2 fct
   rcases (show v1 = 4 ∨ (v1 ≠ 4 ∧ v2 = 4) by omega) with rfl | ⟨x4, rfl⟩
   ·go_enter Tryz.func17, Tryz.ntmps17
    have Q1 := HQ.out.up (by first | exact U | exact U.drew | exact U.drewN _)
    have Q10 := Q1.get 0
    have Q11 := Q1.get 1
    have Q12 := Q1.get 2
    have Q1f := Q1.fr 2
    have Q1l := Ob.lt Q1
    simp only [M.z7, M.z8, M.z9] at Q10 Q11 Q12
    go_wp2_with fail
    clear Q1 Q10 Q11 Q12 Q1f Q1l
    refine (CN.out).mono ?_
    rintro _ w1 ⟨rfl, u⟩
    replace U := Up.trans (by first | exact U | exact U.drew | exact U.drewN _) u
    have Q1 := HQ.out.up (by first | exact U | exact U.drew | exact U.drewN _)
    have Q10 := Q1.get 0
    have Q11 := Q1.get 1
    have Q12 := Q1.get 2
    have Q1f := Q1.fr 2
    have Q1l := Ob.lt Q1
    simp only [M.z7, M.z8, M.z9] at Q10 Q11 Q12
    go_wp2_with fail
    clear Q1 Q10 Q11 Q12 Q1f Q1l
    refine (C1.out _).mono ?_
    rintro _ w2 ⟨rfl, u⟩
    replace U := Up.trans (by first | exact U | exact U.drew | exact U.drewN _) u
    clear u
    have Q1 := HQ.out.up (by first | exact U | exact U.drew | exact U.drewN _)
    have Q10 := Q1.get 0
    have Q11 := Q1.get 1
    have Q12 := Q1.get 2
    have Q1f := Q1.fr 2
    have Q1l := Ob.lt Q1
    simp only [M.z7, M.z8, M.z9] at Q10 Q11 Q12
    go_upto_region 3 with fail
    clear Q1 Q10 Q11 Q12 Q1f Q1l
    obtain ⟨VX, hVX, X, uVX⟩ := Ob.nw w2 85 #[.int .i64 4, .bool g, u64 m, .int .i64 z]
    rw [hVX]
    clear hVX
    replace U := U.trans uVX
    clear uVX
    have Q1 := HQ.out.up (by first | exact U | exact U.drew | exact U.drewN _)
    have Q10 := Q1.get 0
    have Q11 := Q1.get 1
    have Q12 := Q1.get 2
    have Q1f := Q1.fr 2
    have Q1l := Ob.lt Q1
    simp only [M.z7, M.z8, M.z9] at Q10 Q11 Q12
    obtain ⟨X0, X1, X2, X3⟩ := X.g4
    go_wp2_with fail
    clear Q1 Q10 Q11 Q12 Q1f Q1l X0 X1 X2 X3
    refine (C2.out _).mono ?_
    rintro _ w3 ⟨rfl, u⟩
    replace U := Up.trans (by first | exact U | exact U.drew | exact U.drewN _) u
    replace X := X.up (Up.trans (by first | exact Up.refl _ | exact (Up.refl _).drew | exact (Up.refl _).drewN _) u)
    clear u
    have Q1 := HQ.out.up (by first | exact U | exact U.drew | exact U.drewN _)
    have Q10 := Q1.get 0
    have Q11 := Q1.get 1
    have Q12 := Q1.get 2
    have Q1f := Q1.fr 2
    have Q1l := Ob.lt Q1
    simp only [M.z7, M.z8, M.z9] at Q10 Q11 Q12
    obtain ⟨X0, X1, X2, X3⟩ := X.g4
    go_upto_region 4 with fail
    clear Q1 Q10 Q11 Q12 Q1f Q1l X0 X1 X2 X3
    obtain ⟨VY, hVY, Y, uVY⟩ := Ob.nw w3 85 #[.int .i64 v2, .bool g', u64 m', .int .i64 z']
    rw [hVY]
    clear hVY
    replace U := U.trans uVY
    replace X := X.up uVY
    clear uVY
    have Q1 := HQ.out.up (by first | exact U | exact U.drew | exact U.drewN _)
    have Q10 := Q1.get 0
    have Q11 := Q1.get 1
    have Q12 := Q1.get 2
    have Q1f := Q1.fr 2
    have Q1l := Ob.lt Q1
    simp only [M.z7, M.z8, M.z9] at Q10 Q11 Q12
    obtain ⟨X0, X1, X2, X3⟩ := X.g4
    obtain ⟨Y0, Y1, Y2, Y3⟩ := Y.g4
    go_wp2_with fail
    clear Q1 Q10 Q11 Q12 Q1f Q1l X0 X1 X2 X3 Y0 Y1 Y2 Y3
    have U0 := U
    refine (CK.out _).mono ?_
    rintro _ w4 ⟨B, d, rfl, R2, u⟩
    replace U := Up.trans (by first | exact U | exact U.drew | exact U.drewN _) u
    replace X := X.up (Up.trans (by first | exact Up.refl _ | exact (Up.refl _).drew | exact (Up.refl _).drewN _) u)
    replace Y := Y.up (Up.trans (by first | exact Up.refl _ | exact (Up.refl _).drew | exact (Up.refl _).drewN _) u)
    have eN : (M.nr15 S).length = S := M.nr15_len (by omega)
    rw [eN] at R2 ⊢
    have RB : Hid (Rb w4 w.heap.size B S d (M.nr15 S)) := Lib.hid (R2.lower (by have := U0.size; simp at this ⊢; omega))
    clear eN R2 u
    have Q1 := HQ.out.up (by first | exact U | exact U.drew | exact U.drewN _)
    have Q10 := Q1.get 0
    have Q11 := Q1.get 1
    have Q12 := Q1.get 2
    have Q1f := Q1.fr 2
    have Q1l := Ob.lt Q1
    simp only [M.z7, M.z8, M.z9] at Q10 Q11 Q12
    obtain ⟨X0, X1, X2, X3⟩ := X.g4
    obtain ⟨Y0, Y1, Y2, Y3⟩ := Y.g4
    go_wp2_with fail
    clear Q1 Q10 Q11 Q12 Q1f Q1l X0 X1 X2 X3 Y0 Y1 Y2 Y3
    go_end0
    have UF := U
    have hx := HH.out.put (by first | exact U | exact U.drew | exact U.drewN _) (by rw [HS.out]; exact RB.out)
    rw [HS.out] at hx
    rw [M.les_none, M.qst_none]
    have e : M.bq (M.nr15 S) = M.qn i := by rw [M.nr15_bq, ← HS.out]; rfl
    rw [e] at hx
    exact ⟨(), rfl, hx⟩
   ·have x5 : (v1 == 4) = false := by simpa using x4
    clear x4
    go_enter Tryz.func17, Tryz.ntmps17
    have Q1 := HQ.out.up (by first | exact U | exact U.drew | exact U.drewN _)
    have Q10 := Q1.get 0
    have Q11 := Q1.get 1
    have Q12 := Q1.get 2
    have Q1f := Q1.fr 2
    have Q1l := Ob.lt Q1
    simp only [M.z7, M.z8, M.z9] at Q10 Q11 Q12
    go_wp2_with fail
    clear Q1 Q10 Q11 Q12 Q1f Q1l
    refine (CN.out).mono ?_
    rintro _ w1 ⟨rfl, u⟩
    replace U := Up.trans (by first | exact U | exact U.drew | exact U.drewN _) u
    have Q1 := HQ.out.up (by first | exact U | exact U.drew | exact U.drewN _)
    have Q10 := Q1.get 0
    have Q11 := Q1.get 1
    have Q12 := Q1.get 2
    have Q1f := Q1.fr 2
    have Q1l := Ob.lt Q1
    simp only [M.z7, M.z8, M.z9] at Q10 Q11 Q12
    go_wp2_with fail
    clear Q1 Q10 Q11 Q12 Q1f Q1l
    refine (C1.out _).mono ?_
    rintro _ w2 ⟨rfl, u⟩
    replace U := Up.trans (by first | exact U | exact U.drew | exact U.drewN _) u
    clear u
    have Q1 := HQ.out.up (by first | exact U | exact U.drew | exact U.drewN _)
    have Q10 := Q1.get 0
    have Q11 := Q1.get 1
    have Q12 := Q1.get 2
    have Q1f := Q1.fr 2
    have Q1l := Ob.lt Q1
    simp only [M.z7, M.z8, M.z9] at Q10 Q11 Q12
    go_upto_region 3 with fail
    clear Q1 Q10 Q11 Q12 Q1f Q1l
    obtain ⟨VX, hVX, X, uVX⟩ := Ob.nw w2 85 #[.int .i64 v1, .bool g, u64 m, .int .i64 z]
    rw [hVX]
    clear hVX
    replace U := U.trans uVX
    clear uVX
    have Q1 := HQ.out.up (by first | exact U | exact U.drew | exact U.drewN _)
    have Q10 := Q1.get 0
    have Q11 := Q1.get 1
    have Q12 := Q1.get 2
    have Q1f := Q1.fr 2
    have Q1l := Ob.lt Q1
    simp only [M.z7, M.z8, M.z9] at Q10 Q11 Q12
    obtain ⟨X0, X1, X2, X3⟩ := X.g4
    go_wp2_with fail
    clear Q1 Q10 Q11 Q12 Q1f Q1l X0 X1 X2 X3
    refine (C2.out _).mono ?_
    rintro _ w3 ⟨rfl, u⟩
    replace U := Up.trans (by first | exact U | exact U.drew | exact U.drewN _) u
    replace X := X.up (Up.trans (by first | exact Up.refl _ | exact (Up.refl _).drew | exact (Up.refl _).drewN _) u)
    clear u
    have Q1 := HQ.out.up (by first | exact U | exact U.drew | exact U.drewN _)
    have Q10 := Q1.get 0
    have Q11 := Q1.get 1
    have Q12 := Q1.get 2
    have Q1f := Q1.fr 2
    have Q1l := Ob.lt Q1
    simp only [M.z7, M.z8, M.z9] at Q10 Q11 Q12
    obtain ⟨X0, X1, X2, X3⟩ := X.g4
    go_upto_region 4 with fail
    clear Q1 Q10 Q11 Q12 Q1f Q1l X0 X1 X2 X3
    obtain ⟨VY, hVY, Y, uVY⟩ := Ob.nw w3 85 #[.int .i64 4, .bool g', u64 m', .int .i64 z']
    rw [hVY]
    clear hVY
    replace U := U.trans uVY
    replace X := X.up uVY
    clear uVY
    have Q1 := HQ.out.up (by first | exact U | exact U.drew | exact U.drewN _)
    have Q10 := Q1.get 0
    have Q11 := Q1.get 1
    have Q12 := Q1.get 2
    have Q1f := Q1.fr 2
    have Q1l := Ob.lt Q1
    simp only [M.z7, M.z8, M.z9] at Q10 Q11 Q12
    obtain ⟨X0, X1, X2, X3⟩ := X.g4
    obtain ⟨Y0, Y1, Y2, Y3⟩ := Y.g4
    go_wp2_with fail
    clear Q1 Q10 Q11 Q12 Q1f Q1l X0 X1 X2 X3 Y0 Y1 Y2 Y3
    have U0 := U
    refine (CK.out _).mono ?_
    rintro _ w4 ⟨B, d, rfl, R2, u⟩
    replace U := Up.trans (by first | exact U | exact U.drew | exact U.drewN _) u
    replace X := X.up (Up.trans (by first | exact Up.refl _ | exact (Up.refl _).drew | exact (Up.refl _).drewN _) u)
    replace Y := Y.up (Up.trans (by first | exact Up.refl _ | exact (Up.refl _).drew | exact (Up.refl _).drewN _) u)
    have eN : (M.nr15 S).length = S := M.nr15_len (by omega)
    rw [eN] at R2 ⊢
    have RB : Hid (Rb w4 w.heap.size B S d (M.nr15 S)) := Lib.hid (R2.lower (by have := U0.size; simp at this ⊢; omega))
    clear eN R2 u
    have Q1 := HQ.out.up (by first | exact U | exact U.drew | exact U.drewN _)
    have Q10 := Q1.get 0
    have Q11 := Q1.get 1
    have Q12 := Q1.get 2
    have Q1f := Q1.fr 2
    have Q1l := Ob.lt Q1
    simp only [M.z7, M.z8, M.z9] at Q10 Q11 Q12
    obtain ⟨X0, X1, X2, X3⟩ := X.g4
    obtain ⟨Y0, Y1, Y2, Y3⟩ := Y.g4
    go_wp2_with fail
    clear Q1 Q10 Q11 Q12 Q1f Q1l X0 X1 X2 X3 Y0 Y1 Y2 Y3
    go_end0
    have UF := U
    have hx := HH.out.put (by first | exact U | exact U.drew | exact U.drewN _) (by rw [HS.out]; exact RB.out)
    rw [HS.out] at hx
    rw [M.les_none, M.qst_none]
    have e : M.bq (M.nr15 S) = M.qn i := by rw [M.nr15_bq, ← HS.out]; rfl
    rw [e] at hx
    exact ⟨(), rfl, hx⟩
  ·have HE : Hid (b = M.qst i b (M.les i less (some 0))) := Lib.hid (by rw [M.les_zero, M.qst_some hn, M.ad_zero (by rw [← hb, hS, ← hl]; exact M.bq_lt l)])
   have x1 : (v1 == 4) = false := by simpa using fun e => h4 (.inl e)
   have x2 : (v2 == 4) = false := by simpa using fun e => h4 (.inr e)
   clear e1 e2 hl hb hn h1 hr hS hWd hne i1 i2 fct h4
   rcases (show v1 = 1 ∨ (v1 ≠ 1 ∧ v2 = 1) by omega) with rfl | ⟨x4, rfl⟩
   ·go_enter Tryz.func17, Tryz.ntmps17
    have Q1 := HQ.out.up (by first | exact U | exact U.drew | exact U.drewN _)
    have Q10 := Q1.get 0
    have Q11 := Q1.get 1
    have Q12 := Q1.get 2
    have Q1f := Q1.fr 2
    have Q1l := Ob.lt Q1
    simp only [M.z7, M.z8, M.z9] at Q10 Q11 Q12
    go_wp2_with fail
    clear Q1 Q10 Q11 Q12 Q1f Q1l
    refine (CN.out).mono ?_
    rintro _ w1 ⟨rfl, u⟩
    replace U := Up.trans (by first | exact U | exact U.drew | exact U.drewN _) u
    have Q1 := HQ.out.up (by first | exact U | exact U.drew | exact U.drewN _)
    have Q10 := Q1.get 0
    have Q11 := Q1.get 1
    have Q12 := Q1.get 2
    have Q1f := Q1.fr 2
    have Q1l := Ob.lt Q1
    simp only [M.z7, M.z8, M.z9] at Q10 Q11 Q12
    go_wp2_with fail
    clear Q1 Q10 Q11 Q12 Q1f Q1l
    refine (C1.out _).mono ?_
    rintro _ w2 ⟨rfl, u⟩
    replace U := Up.trans (by first | exact U | exact U.drew | exact U.drewN _) u
    clear u
    have Q1 := HQ.out.up (by first | exact U | exact U.drew | exact U.drewN _)
    have Q10 := Q1.get 0
    have Q11 := Q1.get 1
    have Q12 := Q1.get 2
    have Q1f := Q1.fr 2
    have Q1l := Ob.lt Q1
    simp only [M.z7, M.z8, M.z9] at Q10 Q11 Q12
    go_upto_region 3 with fail
    clear Q1 Q10 Q11 Q12 Q1f Q1l
    obtain ⟨VX, hVX, X, uVX⟩ := Ob.nw w2 85 #[.int .i64 1, .bool g, u64 m, .int .i64 z]
    rw [hVX]
    clear hVX
    replace U := U.trans uVX
    clear uVX
    have Q1 := HQ.out.up (by first | exact U | exact U.drew | exact U.drewN _)
    have Q10 := Q1.get 0
    have Q11 := Q1.get 1
    have Q12 := Q1.get 2
    have Q1f := Q1.fr 2
    have Q1l := Ob.lt Q1
    simp only [M.z7, M.z8, M.z9] at Q10 Q11 Q12
    obtain ⟨X0, X1, X2, X3⟩ := X.g4
    go_wp2_with fail
    clear Q1 Q10 Q11 Q12 Q1f Q1l X0 X1 X2 X3
    refine (C2.out _).mono ?_
    rintro _ w3 ⟨rfl, u⟩
    replace U := Up.trans (by first | exact U | exact U.drew | exact U.drewN _) u
    replace X := X.up (Up.trans (by first | exact Up.refl _ | exact (Up.refl _).drew | exact (Up.refl _).drewN _) u)
    clear u
    have Q1 := HQ.out.up (by first | exact U | exact U.drew | exact U.drewN _)
    have Q10 := Q1.get 0
    have Q11 := Q1.get 1
    have Q12 := Q1.get 2
    have Q1f := Q1.fr 2
    have Q1l := Ob.lt Q1
    simp only [M.z7, M.z8, M.z9] at Q10 Q11 Q12
    obtain ⟨X0, X1, X2, X3⟩ := X.g4
    go_upto_region 4 with fail
    clear Q1 Q10 Q11 Q12 Q1f Q1l X0 X1 X2 X3
    obtain ⟨VY, hVY, Y, uVY⟩ := Ob.nw w3 85 #[.int .i64 v2, .bool g', u64 m', .int .i64 z']
    rw [hVY]
    clear hVY
    replace U := U.trans uVY
    replace X := X.up uVY
    clear uVY
    have Q1 := HQ.out.up (by first | exact U | exact U.drew | exact U.drewN _)
    have Q10 := Q1.get 0
    have Q11 := Q1.get 1
    have Q12 := Q1.get 2
    have Q1f := Q1.fr 2
    have Q1l := Ob.lt Q1
    simp only [M.z7, M.z8, M.z9] at Q10 Q11 Q12
    obtain ⟨X0, X1, X2, X3⟩ := X.g4
    obtain ⟨Y0, Y1, Y2, Y3⟩ := Y.g4
    go_wp2_with fail
    clear Q1 Q10 Q11 Q12 Q1f Q1l X0 X1 X2 X3 Y0 Y1 Y2 Y3
    go_end0
    rw [← HE.out]
    exact ⟨(), rfl, F, HH.out.stay (by first | exact U | exact U.drew | exact U.drewN _)⟩
   ·have x5 : (v1 == 1) = false := by simpa using x4
    clear x4
    go_enter Tryz.func17, Tryz.ntmps17
    have Q1 := HQ.out.up (by first | exact U | exact U.drew | exact U.drewN _)
    have Q10 := Q1.get 0
    have Q11 := Q1.get 1
    have Q12 := Q1.get 2
    have Q1f := Q1.fr 2
    have Q1l := Ob.lt Q1
    simp only [M.z7, M.z8, M.z9] at Q10 Q11 Q12
    go_wp2_with fail
    clear Q1 Q10 Q11 Q12 Q1f Q1l
    refine (CN.out).mono ?_
    rintro _ w1 ⟨rfl, u⟩
    replace U := Up.trans (by first | exact U | exact U.drew | exact U.drewN _) u
    have Q1 := HQ.out.up (by first | exact U | exact U.drew | exact U.drewN _)
    have Q10 := Q1.get 0
    have Q11 := Q1.get 1
    have Q12 := Q1.get 2
    have Q1f := Q1.fr 2
    have Q1l := Ob.lt Q1
    simp only [M.z7, M.z8, M.z9] at Q10 Q11 Q12
    go_wp2_with fail
    clear Q1 Q10 Q11 Q12 Q1f Q1l
    refine (C1.out _).mono ?_
    rintro _ w2 ⟨rfl, u⟩
    replace U := Up.trans (by first | exact U | exact U.drew | exact U.drewN _) u
    clear u
    have Q1 := HQ.out.up (by first | exact U | exact U.drew | exact U.drewN _)
    have Q10 := Q1.get 0
    have Q11 := Q1.get 1
    have Q12 := Q1.get 2
    have Q1f := Q1.fr 2
    have Q1l := Ob.lt Q1
    simp only [M.z7, M.z8, M.z9] at Q10 Q11 Q12
    go_upto_region 3 with fail
    clear Q1 Q10 Q11 Q12 Q1f Q1l
    obtain ⟨VX, hVX, X, uVX⟩ := Ob.nw w2 85 #[.int .i64 v1, .bool g, u64 m, .int .i64 z]
    rw [hVX]
    clear hVX
    replace U := U.trans uVX
    clear uVX
    have Q1 := HQ.out.up (by first | exact U | exact U.drew | exact U.drewN _)
    have Q10 := Q1.get 0
    have Q11 := Q1.get 1
    have Q12 := Q1.get 2
    have Q1f := Q1.fr 2
    have Q1l := Ob.lt Q1
    simp only [M.z7, M.z8, M.z9] at Q10 Q11 Q12
    obtain ⟨X0, X1, X2, X3⟩ := X.g4
    go_wp2_with fail
    clear Q1 Q10 Q11 Q12 Q1f Q1l X0 X1 X2 X3
    refine (C2.out _).mono ?_
    rintro _ w3 ⟨rfl, u⟩
    replace U := Up.trans (by first | exact U | exact U.drew | exact U.drewN _) u
    replace X := X.up (Up.trans (by first | exact Up.refl _ | exact (Up.refl _).drew | exact (Up.refl _).drewN _) u)
    clear u
    have Q1 := HQ.out.up (by first | exact U | exact U.drew | exact U.drewN _)
    have Q10 := Q1.get 0
    have Q11 := Q1.get 1
    have Q12 := Q1.get 2
    have Q1f := Q1.fr 2
    have Q1l := Ob.lt Q1
    simp only [M.z7, M.z8, M.z9] at Q10 Q11 Q12
    obtain ⟨X0, X1, X2, X3⟩ := X.g4
    go_upto_region 4 with fail
    clear Q1 Q10 Q11 Q12 Q1f Q1l X0 X1 X2 X3
    obtain ⟨VY, hVY, Y, uVY⟩ := Ob.nw w3 85 #[.int .i64 1, .bool g', u64 m', .int .i64 z']
    rw [hVY]
    clear hVY
    replace U := U.trans uVY
    replace X := X.up uVY
    clear uVY
    have Q1 := HQ.out.up (by first | exact U | exact U.drew | exact U.drewN _)
    have Q10 := Q1.get 0
    have Q11 := Q1.get 1
    have Q12 := Q1.get 2
    have Q1f := Q1.fr 2
    have Q1l := Ob.lt Q1
    simp only [M.z7, M.z8, M.z9] at Q10 Q11 Q12
    obtain ⟨X0, X1, X2, X3⟩ := X.g4
    obtain ⟨Y0, Y1, Y2, Y3⟩ := Y.g4
    go_wp2_with fail
    clear Q1 Q10 Q11 Q12 Q1f Q1l X0 X1 X2 X3 Y0 Y1 Y2 Y3
    go_end0
    rw [← HE.out]
    exact ⟨(), rfl, F, HH.out.stay (by first | exact U | exact U.drew | exact U.drewN _)⟩
  ·have x1 : (v1 == 4) = false := by simpa using fun e => h4 (.inl e)
   have x2 : (v2 == 4) = false := by simpa using fun e => h4 (.inr e)
   have x3 : (v1 == 1) = false := by simpa using fun e => h5 (.inl e)
   have x4 : (v2 == 1) = false := by simpa using fun e => h5 (.inr e)
   have r1 : (m ≠ 0 ∧ m < 18446744073709551616 ∧ -3000 ≤ z ∧ z ≤ 3000) ∧ 8 - 4 * Wd ≤ z := by
    obtain ⟨j, e, _, _, hp, dv⟩ := M.dc_have e1
    obtain rfl : i = j := by omega
    have h14 := M.four14 i2
    rcases M.dv_four_ i1 i2 dv with e | e | e
    ·exact absurd (.inl e) h5
    ·subst e
     exact ⟨M.pt_rng (M.ok i i1 h14) (M.ok2 i i1 h14) (M.ok3 i i1 h14) hp dv, by rw [← hWd]; exact M.dv_low i1 i2 dv⟩
    ·exact absurd (.inl e) h4
   have r2 : (m' ≠ 0 ∧ m' < 18446744073709551616 ∧ -3000 ≤ z' ∧ z' ≤ 3000) ∧ 8 - 4 * Wd ≤ z' := by
    obtain ⟨j, e, _, _, hp, dv⟩ := M.dc_have e2
    obtain rfl : i = j := by omega
    have h14 := M.four14 i2
    rcases M.dv_four_ i1 i2 dv with e | e | e
    ·exact absurd (.inr e) h5
    ·subst e
     exact ⟨M.pt_rng (M.ok i i1 h14) (M.ok2 i i1 h14) (M.ok3 i i1 h14) hp dv, by rw [← hWd]; exact M.dv_low i1 i2 dv⟩
    ·exact absurd (.inr e) h4
   obtain ⟨⟨m0, mb, za, zb⟩, zl⟩ := r1
   obtain ⟨⟨m0', mb', za', zb'⟩, zl'⟩ := r2
   have wd : 8 ≤ Wd ∧ Wd ≤ 64 := by omega
   obtain ⟨K, hK⟩ : ∃ K : Nat, z + z' - 16 + 8 * Wd = (K : Int) := ⟨(z + z' - 16 + 8 * Wd).toNat, by omega⟩
   have K9 : K ≤ 10000 := by omega
   obtain ⟨Za, hZa⟩ : ∃ Za, z + z' = Za := ⟨_, rfl⟩
   obtain ⟨Zb, hZb⟩ : ∃ Zb, Za - 16 = Zb := ⟨_, rfl⟩
   obtain ⟨E8, hE8⟩ : ∃ E8, 8 * Wd = E8 := ⟨_, rfl⟩
   have q3 : Zb + E8 = (K : Int) := by omega
   have bZ : (-10000 ≤ Za ∧ Za ≤ 10000) ∧ (-10000 ≤ Zb ∧ Zb ≤ 10000) ∧ (0 ≤ E8 ∧ E8 ≤ 1000) := by omega
   have wk1 : IntKind.i64.wrap Za = Za := IntWalk.i64_in _ (by omega)
   have wk2 : IntKind.i64.wrap Zb = Zb := IntWalk.i64_in _ (by omega)
   have wk3 : IntKind.i64.wrap E8 = E8 := IntWalk.i64_in _ (by omega)
   have wk4 : IntKind.i64.wrap (K : Int) = (K : Int) := IntWalk.i64_in _ (by omega)
   have HP : Hid (P = m * m' * 2 ^ K % 2 ^ S) := by
    show _ = _
    rw [hP, hS, show z + z' - M.qz i = (K : Int) by unfold M.qz; rw [hWd]; omega, Int.toNat_natCast]
   have P128 : Hid (m * m' < 2 ^ 128) := by
    have : m * m' < 18446744073709551616 * 18446744073709551616 := Nat.mul_lt_mul'' mb mb'
    show _ < _
    rw [show (2 : Nat) ^ 128 = 18446744073709551616 * 18446744073709551616 by decide]; exact this
   have PL : Hid (P < 2 ^ M.qS i) := by show _ < _; rw [hP]; exact Nat.mod_lt _ (Nat.two_pow_pos _)
   obtain ⟨tt, htt⟩ : ∃ tt, ((g != g') != less) = tt := ⟨_, rfl⟩
   have HT := Lib.hid htt
   have HL := Lib.hid hl
   obtain ⟨BB, hBB⟩ : ∃ BB, M.qst i b (M.les i less (some (if g = g' then P else M.ng (2 ^ M.qS i) P))) = BB := ⟨_, rfl⟩
   rw [hBB]
   have HB1 : Hid (tt = true → BB = M.ad (2 ^ M.qS i) b (M.ng (2 ^ M.qS i) P)) := Lib.hid (fun e => by rw [← hBB, M.les_end PL.out, htt, e, if_pos rfl, M.qst_some HN.out])
   have HB0 : Hid (tt = false → BB = M.ad (2 ^ M.qS i) b P) := Lib.hid (fun e => by rw [← hBB, M.les_end PL.out, htt, e, if_neg (by decide), M.qst_some HN.out])
   clear hBB
   clear e1 e2 hb hn h1 hr hWd hne i1 i2 fct h4 h5 hP hK zl zl' hS hl
   go_enter Tryz.func17, Tryz.ntmps17
   have Q1 := HQ.out.up (by first | exact U | exact U.drew | exact U.drewN _)
   have Q10 := Q1.get 0
   have Q11 := Q1.get 1
   have Q12 := Q1.get 2
   have Q1f := Q1.fr 2
   have Q1l := Ob.lt Q1
   simp only [M.z7, M.z8, M.z9] at Q10 Q11 Q12
   go_wp2_with fail
   clear Q1 Q10 Q11 Q12 Q1f Q1l
   refine (CN.out).mono ?_
   rintro _ w1 ⟨rfl, u⟩
   replace U := Up.trans (by first | exact U | exact U.drew | exact U.drewN _) u
   have Q1 := HQ.out.up (by first | exact U | exact U.drew | exact U.drewN _)
   have Q10 := Q1.get 0
   have Q11 := Q1.get 1
   have Q12 := Q1.get 2
   have Q1f := Q1.fr 2
   have Q1l := Ob.lt Q1
   simp only [M.z7, M.z8, M.z9] at Q10 Q11 Q12
   go_wp2_with fail
   clear Q1 Q10 Q11 Q12 Q1f Q1l
   refine (C1.out _).mono ?_
   rintro _ w2 ⟨rfl, u⟩
   replace U := Up.trans (by first | exact U | exact U.drew | exact U.drewN _) u
   clear u
   have Q1 := HQ.out.up (by first | exact U | exact U.drew | exact U.drewN _)
   have Q10 := Q1.get 0
   have Q11 := Q1.get 1
   have Q12 := Q1.get 2
   have Q1f := Q1.fr 2
   have Q1l := Ob.lt Q1
   simp only [M.z7, M.z8, M.z9] at Q10 Q11 Q12
   go_upto_region 3 with fail
   clear Q1 Q10 Q11 Q12 Q1f Q1l
   obtain ⟨VX, hVX, X, uVX⟩ := Ob.nw w2 85 #[.int .i64 v1, .bool g, u64 m, .int .i64 z]
   rw [hVX]
   clear hVX
   replace U := U.trans uVX
   clear uVX
   have Q1 := HQ.out.up (by first | exact U | exact U.drew | exact U.drewN _)
   have Q10 := Q1.get 0
   have Q11 := Q1.get 1
   have Q12 := Q1.get 2
   have Q1f := Q1.fr 2
   have Q1l := Ob.lt Q1
   simp only [M.z7, M.z8, M.z9] at Q10 Q11 Q12
   obtain ⟨X0, X1, X2, X3⟩ := X.g4
   go_wp2_with fail
   clear Q1 Q10 Q11 Q12 Q1f Q1l X0 X1 X2 X3
   refine (C2.out _).mono ?_
   rintro _ w3 ⟨rfl, u⟩
   replace U := Up.trans (by first | exact U | exact U.drew | exact U.drewN _) u
   replace X := X.up (Up.trans (by first | exact Up.refl _ | exact (Up.refl _).drew | exact (Up.refl _).drewN _) u)
   clear u
   have Q1 := HQ.out.up (by first | exact U | exact U.drew | exact U.drewN _)
   have Q10 := Q1.get 0
   have Q11 := Q1.get 1
   have Q12 := Q1.get 2
   have Q1f := Q1.fr 2
   have Q1l := Ob.lt Q1
   simp only [M.z7, M.z8, M.z9] at Q10 Q11 Q12
   obtain ⟨X0, X1, X2, X3⟩ := X.g4
   go_upto_region 4 with fail
   clear Q1 Q10 Q11 Q12 Q1f Q1l X0 X1 X2 X3
   obtain ⟨VY, hVY, Y, uVY⟩ := Ob.nw w3 85 #[.int .i64 v2, .bool g', u64 m', .int .i64 z']
   rw [hVY]
   clear hVY
   replace U := U.trans uVY
   replace X := X.up uVY
   clear uVY
   have Q1 := HQ.out.up (by first | exact U | exact U.drew | exact U.drewN _)
   have Q10 := Q1.get 0
   have Q11 := Q1.get 1
   have Q12 := Q1.get 2
   have Q1f := Q1.fr 2
   have Q1l := Ob.lt Q1
   simp only [M.z7, M.z8, M.z9] at Q10 Q11 Q12
   obtain ⟨X0, X1, X2, X3⟩ := X.g4
   obtain ⟨Y0, Y1, Y2, Y3⟩ := Y.g4
   go_upto_region 7 with fail
   clear Q1 Q10 Q11 Q12 Q1f Q1l X0 X1 X2 X3 Y0 Y1 Y2 Y3
   have Q1 := HQ.out.up (by first | exact U | exact U.drew | exact U.drewN _)
   have Q10 := Q1.get 0
   have Q11 := Q1.get 1
   have Q12 := Q1.get 2
   have Q1f := Q1.fr 2
   have Q1l := Ob.lt Q1
   simp only [M.z7, M.z8, M.z9] at Q10 Q11 Q12
   obtain ⟨X0, X1, X2, X3⟩ := X.g4
   obtain ⟨Y0, Y1, Y2, Y3⟩ := Y.g4
   have Yb := (Y.up ((Up.refl VY).alloc (.cells #[u64 m] 30))).get 2
   simp only [M.z7, M.z8, M.z9] at Yb
   go_wp2_with fail
   clear Q1 Q10 Q11 Q12 Q1f Q1l X0 X1 X2 X3 Y0 Y1 Y2 Y3
   clear Yb
   refine (rmul_any _ _ _ 1 _ _ m m' (((lit1n VY m (m : Int) rfl mb m0).up ((Up.refl _).alloc _)).nw) (lit1_at (.cells #[u64 m] 30) VY m' (m' : Int) rfl mb' m0').nw (by decide)).mono ?_
   rintro _ w5 ⟨v5, rfl, N5, u⟩
   replace u : Up VY w5 := Up.trans (((Up.refl _).alloc _).alloc _) u
   replace U := U.trans u
   replace X := X.up u
   replace Y := Y.up u
   clear u
   obtain ⟨MA, mn, mc, rfl, N5⟩ := N5.slr
   have X5 := X
   have Y5 := Y
   have U5 := Lib.hid U
   have s05 := U.size
   have Q1 := HQ.out.up (by first | exact U | exact U.drew | exact U.drewN _)
   have Q10 := Q1.get 0
   have Q11 := Q1.get 1
   have Q12 := Q1.get 2
   have Q1f := Q1.fr 2
   have Q1l := Ob.lt Q1
   simp only [M.z7, M.z8, M.z9] at Q10 Q11 Q12
   obtain ⟨X0, X1, X2, X3⟩ := X.g4
   obtain ⟨Y0, Y1, Y2, Y3⟩ := Y.g4
   go_upto_region 8 with fail
   clear Q1 Q10 Q11 Q12 Q1f Q1l X0 X1 X2 X3 Y0 Y1 Y2 Y3
   have Q1 := HQ.out.up (by first | exact U | exact U.drew | exact U.drewN _)
   have Q10 := Q1.get 0
   have Q11 := Q1.get 1
   have Q12 := Q1.get 2
   have Q1f := Q1.fr 2
   have Q1l := Ob.lt Q1
   simp only [M.z7, M.z8, M.z9] at Q10 Q11 Q12
   obtain ⟨X0, X1, X2, X3⟩ := X.g4
   obtain ⟨Y0, Y1, Y2, Y3⟩ := Y.g4
   go_wp2_with fail
   obtain ⟨i0, hi, hz0, hz1, hz2⟩ := info_parts info_bool
   obtain ⟨w6, hrun, r6, hg6⟩ := run_make_full (P := Tryz.prog) w5.drew w5.drew.heap.size 40 4 i0 _ 1 Tryz.underlying40 hi hz0 hz1 .i64 .i64 K (by rw [hz2]; omega) (by simp only [maxLen]; omega) (Nat.le_refl _)
   rw [made_false] at r6
   have OL : Obw w6 w5.heap.size (.slice (some ⟨w5.drew.heap.size, 0, none⟩) K K) K (List.replicate K false) := r6
   have u6 : Up w5 w6 := (Up.refl _).drew.grown hg6 (by simp)
   clear hi hz0 hz1 hz2 r6 hg6
   go_region
   clear Q1 Q10 Q11 Q12 Q1f Q1l X0 X1 X2 X3 Y0 Y1 Y2 Y3
   clear hrun
   have E5 := u6
   replace U := U.trans u6
   replace X := X.up u6
   replace Y := Y.up u6
   replace N5 := N5.up u6
   have s56 := u6.size
   clear u6
   obtain ⟨A9, n9, c9, ws, e9, W5, hv5, hn5, _⟩ := N5
   cases e9
   have CTr := Lib.hid (fun W (u : Up w6 W) => truths15_any W _ _ _ _ ws (W5.up u) (by omega) 128 (by decide))
   rw [hv5] at CTr
   clear hv5
   have Q1 := HQ.out.up (by first | exact U | exact U.drew | exact U.drewN _)
   have Q10 := Q1.get 0
   have Q11 := Q1.get 1
   have Q12 := Q1.get 2
   have Q1f := Q1.fr 2
   have Q1l := Ob.lt Q1
   simp only [M.z7, M.z8, M.z9] at Q10 Q11 Q12
   obtain ⟨X0, X1, X2, X3⟩ := X.g4
   obtain ⟨Y0, Y1, Y2, Y3⟩ := Y.g4
   go_wp2_with fail
   clear Q1 Q10 Q11 Q12 Q1f Q1l X0 X1 X2 X3 Y0 Y1 Y2 Y3
   refine (CTr.out _ (by first | exact Up.refl _ | exact (Up.refl _).drew | exact (Up.refl _).drewN _)).mono ?_
   rintro _ w7 (⟨_, PA, pc, rfl, R7, u⟩ | ⟨e, _⟩)
   rotate_left
   ·exact absurd P128.out e
   replace u : Up w6 w7 := Up.trans (by first | exact Up.refl _ | exact (Up.refl _).drew | exact (Up.refl _).drewN _) u
   replace U := U.trans u
   replace X := X.up u
   replace Y := Y.up u
   replace OL := OL.up u
   replace E5 := E5.trans u
   have s67 := u.size
   clear u W5 CTr
   have Q1 := HQ.out.up (by first | exact U | exact U.drew | exact U.drewN _)
   have Q10 := Q1.get 0
   have Q11 := Q1.get 1
   have Q12 := Q1.get 2
   have Q1f := Q1.fr 2
   have Q1l := Ob.lt Q1
   simp only [M.z7, M.z8, M.z9] at Q10 Q11 Q12
   obtain ⟨X0, X1, X2, X3⟩ := X.g4
   obtain ⟨Y0, Y1, Y2, Y3⟩ := Y.g4
   go_upto_region 11 with (at_builtin; refine wpList_append_rb _ rfl (.tmp 90) (.tmp 91) 40 rfl info_bool w5.heap.size Tryz.underlying40 _ K (List.replicate K false) rfl (by first | exact OL | exact OL.up ((Up.refl _).drew) | exact OL.up ((Up.refl _).drewN _)) _ _ 128 _ _ rfl (by first | exact R7 | exact R7.up ((Up.refl _).drew) | exact R7.up ((Up.refl _).drewN _)) (by omega) (by first | omega | (simp; omega)) ?_; intro v8 w8 OL8 hg8 hat8)
   clear Q1 Q10 Q11 Q12 Q1f Q1l X0 X1 X2 X3 Y0 Y1 Y2 Y3
   replace E5 := E5.grown hg8 (fun b hb => (World.ownsRow.lt OL b hb).1)
   clear hg8 hat8 R7 OL X Y U
   have X := X5.up E5
   have Y := Y5.up E5
   have U := U5.out.trans E5
   obtain ⟨LA, lc, rfl, RL⟩ := OL8.rb
   obtain ⟨lb, lo, rfl, _⟩ := RL.form (by omega)
   obtain ⟨ls, hls⟩ : ∃ ls, List.replicate K false ++ M.bqt 128 (m * m') = ls := ⟨_, rfl⟩
   rw [hls] at RL
   have HLS : Hid (M.bq ls % 2 ^ S = P) := by
    show _ = _
    rw [← hls, M.bq_append, M.bq_rep, M.bq_bqt, Nat.mod_eq_of_lt P128.out, List.length_replicate, HP.out, Nat.zero_add, Nat.mul_comm (2 ^ K)]
   clear hls OL8
   have Q1 := HQ.out.up (by first | exact U | exact U.drew | exact U.drewN _)
   have Q10 := Q1.get 0
   have Q11 := Q1.get 1
   have Q12 := Q1.get 2
   have Q1f := Q1.fr 2
   have Q1l := Ob.lt Q1
   simp only [M.z7, M.z8, M.z9] at Q10 Q11 Q12
   obtain ⟨X0, X1, X2, X3⟩ := X.g4
   obtain ⟨Y0, Y1, Y2, Y3⟩ := Y.g4
   go_upto_region 12 with (at_make; refine wpList_make_rb _ rfl (.tmp 97) (.tmp 97) 40 rfl info_bool Tryz.underlying40 (S : Int) (S : Int) S rfl rfl (by omega) (by omega) (by omega) ?_; intro w9 OR hg9)
   clear Q1 Q10 Q11 Q12 Q1f Q1l X0 X1 X2 X3 Y0 Y1 Y2 Y3
   have u9 : Up w8 w9 := (Up.refl _).grown hg9 (by simp)
   clear hg9
   go_wp2_with fail
   have U8 := Lib.hid U
   have X8 := X
   have Y8 := Y
   clear U X Y
   have tK : (((K + 128 : Nat) : Int)) = (K : Int) + 128 := by omega
   go_loopw [18] (fun iv wr => ∃ (j : Nat) (zs : List Bool), iv = .int .i64 (j : Int) ∧ j ≤ K + 128 ∧ j ≤ S ∧ Up w8 wr ∧ Obw wr w8.heap.size (.slice (some ⟨w8.heap.size, 0, none⟩) S S) S zs ∧ Hid (M.Cpy ls S j zs)) (fun iv _ => K + 128 - (intOf iv).toNat)
   case atStart => exact ⟨0, _, rfl, Nat.zero_le _, Nat.zero_le _, u9, OR, M.Cpy.start ls S⟩
   case round =>
    clear OR u9
    obtain ⟨j, zs, rfl, hj, hjS, E8', OZ, HC⟩ := hrel
    by_cases hjj : j < K + 128 ∧ j < S
    ·obtain ⟨j1, j2⟩ := hjj
     have e1 : (j : Int) < (K : Int) + 128 := by omega
     have e2 : (j : Int) < (S : Int) := by omega
     have hc1 := (RL.up E8').cell j1
     obtain ⟨x, hx⟩ : ∃ x, ls.getD j false = x := ⟨_, rfl⟩
     rw [hx] at hc1
     have HX := Lib.hid hx
     have hf := OZ.frozenAt j
     have hcz := OZ.cellAt j (by omega)
     rw [cb_get (by rw [OZ.num]; exact j2)] at hcz
     clear hx
     go_wp2_with fail
     go_roundw
     case rel =>
      obtain ⟨h1, _⟩ := OZ.stored j (.bool x)
      rw [cb_set] at h1
      have hC := HC.out.step j2
      rw [HX.out] at hC
      exact ⟨j + 1, _, by go_num, by omega, by omega, E8'.setCell (Nat.le_refl _) _, h1, hC⟩
     case measure => simp [intOf]; omega
    ·have HZ : Hid (M.bq zs = P) := by
      show _ = _
      rw [HC.out.fin (by have := RL.num; omega)]; exact HLS.out
     have OB := Obw.rb_ OZ
     have U := U8.out.trans E8'
     have X := X8.up E8'
     have Y := Y8.up E8'
     have RR1 := RR.out.up U
     have hz := OZ.num
     clear HC OZ RL
     by_cases hj1 : j < K + 128
     ·have e1 : (j : Int) < (K : Int) + 128 := by omega
      have e2 : ¬ (j : Int) < (S : Int) := by omega
      clear htt
      cases g <;> cases g' <;> cases less
      ·obtain rfl : tt = false := HT.out.symm.trans (by decide)
       have ez : zs.length = S := hz
       have CS := Lib.hid (fun W (u : Up wr W) => sum15_any W _ _ _ _ S cA S l zs (RR1.up u) (OB.up u) (by omega))
       have U0 := U
       have Q1 := HQ.out.up (by first | exact U | exact U.drew | exact U.drewN _)
       have Q10 := Q1.get 0
       have Q11 := Q1.get 1
       have Q12 := Q1.get 2
       have Q1f := Q1.fr 2
       have Q1l := Ob.lt Q1
       simp only [M.z7, M.z8, M.z9] at Q10 Q11 Q12
       obtain ⟨X0, X1, X2, X3⟩ := X.g4
       obtain ⟨Y0, Y1, Y2, Y3⟩ := Y.g4
       go_wp2_with fail
       clear Q1 Q10 Q11 Q12 Q1f Q1l X0 X1 X2 X3 Y0 Y1 Y2 Y3
       refine (CS.out _ (by first | exact Up.refl _ | exact (Up.refl _).drew | exact (Up.refl _).drewN _)).mono ?_
       rintro _ w21 ⟨B, d, rfl, R2, u⟩
       replace U := Up.trans (by first | exact U | exact U.drew | exact U.drewN _) u
       replace X := X.up (Up.trans (by first | exact Up.refl _ | exact (Up.refl _).drew | exact (Up.refl _).drewN _) u)
       replace Y := Y.up (Up.trans (by first | exact Up.refl _ | exact (Up.refl _).drew | exact (Up.refl _).drewN _) u)
       have eN : (M.sqm false l (zs)).length = S := by rw [M.sqm_len _ _ _ (by rw [HL.out]; exact ez.symm)]; exact HL.out
       have HD : Hid (M.bq (M.sqm false l (zs)) = M.ad (2 ^ M.qS i) b P) := by
        show _ = _
        rw [M.bq_sqm _ _ _ (by rw [HL.out]; exact ez.symm), HL.out, HB.out, HS.out]
        rw [HZ.out]; rfl
       rw [eN] at R2 ⊢
       have RB : Hid (Rb w21 w.heap.size B S d (M.sqm false l (zs))) := Lib.hid (R2.lower (by have := U0.size; first | exact this | (simp at this ⊢; omega) | omega))
       clear eN R2 u U0 CS
       have Q1 := HQ.out.up (by first | exact U | exact U.drew | exact U.drewN _)
       have Q10 := Q1.get 0
       have Q11 := Q1.get 1
       have Q12 := Q1.get 2
       have Q1f := Q1.fr 2
       have Q1l := Ob.lt Q1
       simp only [M.z7, M.z8, M.z9] at Q10 Q11 Q12
       obtain ⟨X0, X1, X2, X3⟩ := X.g4
       obtain ⟨Y0, Y1, Y2, Y3⟩ := Y.g4
       go_wp2_with fail
       clear Q1 Q10 Q11 Q12 Q1f Q1l X0 X1 X2 X3 Y0 Y1 Y2 Y3
       go_end0
       have hx := HH.out.put (by first | exact U | exact U.drew | exact U.drewN _) (by rw [HS.out]; exact RB.out)
       rw [HB0.out (by first | rfl | trivial)]
       rw [HD.out] at hx
       rw [HS.out] at hx ⊢
       exact ⟨(), rfl, hx⟩
      ·obtain rfl : tt = true := HT.out.symm.trans (by decide)
       have CT := Lib.hid (fun W (u : Up wr W) => turned15_any W _ _ S S zs (OB.up u) (by omega))
       have Q1 := HQ.out.up (by first | exact U | exact U.drew | exact U.drewN _)
       have Q10 := Q1.get 0
       have Q11 := Q1.get 1
       have Q12 := Q1.get 2
       have Q1f := Q1.fr 2
       have Q1l := Ob.lt Q1
       simp only [M.z7, M.z8, M.z9] at Q10 Q11 Q12
       obtain ⟨X0, X1, X2, X3⟩ := X.g4
       obtain ⟨Y0, Y1, Y2, Y3⟩ := Y.g4
       go_wp2_with fail
       clear Q1 Q10 Q11 Q12 Q1f Q1l X0 X1 X2 X3 Y0 Y1 Y2 Y3
       refine (CT.out _ (by first | exact Up.refl _ | exact (Up.refl _).drew | exact (Up.refl _).drewN _)).mono ?_
       rintro _ w21 ⟨TA, tc, rfl, RT, u⟩
       replace U := Up.trans (by first | exact U | exact U.drew | exact U.drewN _) u
       replace X := X.up (Up.trans (by first | exact Up.refl _ | exact (Up.refl _).drew | exact (Up.refl _).drewN _) u)
       replace Y := Y.up (Up.trans (by first | exact Up.refl _ | exact (Up.refl _).drew | exact (Up.refl _).drewN _) u)
       have ez : (M.tqn false zs).length = S := by rw [M.tqn_len, hz]
       rw [ez] at RT ⊢
       replace RR1 := RR1.up (Up.trans (by first | exact Up.refl _ | exact (Up.refl _).drew | exact (Up.refl _).drewN _) u)
       clear u CT
       have CS := Lib.hid (fun W (u : Up w21 W) => sum15_any W _ _ _ _ S cA tc l (M.tqn false zs) (RR1.up u) (RT.up u) (by omega))
       have U0 := U
       have Q1 := HQ.out.up (by first | exact U | exact U.drew | exact U.drewN _)
       have Q10 := Q1.get 0
       have Q11 := Q1.get 1
       have Q12 := Q1.get 2
       have Q1f := Q1.fr 2
       have Q1l := Ob.lt Q1
       simp only [M.z7, M.z8, M.z9] at Q10 Q11 Q12
       obtain ⟨X0, X1, X2, X3⟩ := X.g4
       obtain ⟨Y0, Y1, Y2, Y3⟩ := Y.g4
       go_wp2_with fail
       clear Q1 Q10 Q11 Q12 Q1f Q1l X0 X1 X2 X3 Y0 Y1 Y2 Y3
       refine (CS.out _ (by first | exact Up.refl _ | exact (Up.refl _).drew | exact (Up.refl _).drewN _)).mono ?_
       rintro _ w22 ⟨B, d, rfl, R2, u⟩
       replace U := Up.trans (by first | exact U | exact U.drew | exact U.drewN _) u
       replace X := X.up (Up.trans (by first | exact Up.refl _ | exact (Up.refl _).drew | exact (Up.refl _).drewN _) u)
       replace Y := Y.up (Up.trans (by first | exact Up.refl _ | exact (Up.refl _).drew | exact (Up.refl _).drewN _) u)
       have eN : (M.sqm false l (M.tqn false zs)).length = S := by rw [M.sqm_len _ _ _ (by rw [HL.out]; exact ez.symm)]; exact HL.out
       have HD : Hid (M.bq (M.sqm false l (M.tqn false zs)) = M.ad (2 ^ M.qS i) b (M.ng (2 ^ M.qS i) P)) := by
        show _ = _
        rw [M.bq_sqm _ _ _ (by rw [HL.out]; exact ez.symm), HL.out, HB.out, HS.out]
        rw [M.bq_tqn, hz, HZ.out]; rfl
       rw [eN] at R2 ⊢
       have RB : Hid (Rb w22 w.heap.size B S d (M.sqm false l (M.tqn false zs))) := Lib.hid (R2.lower (by have := U0.size; first | exact this | (simp at this ⊢; omega) | omega))
       clear eN R2 u U0 CS
       have Q1 := HQ.out.up (by first | exact U | exact U.drew | exact U.drewN _)
       have Q10 := Q1.get 0
       have Q11 := Q1.get 1
       have Q12 := Q1.get 2
       have Q1f := Q1.fr 2
       have Q1l := Ob.lt Q1
       simp only [M.z7, M.z8, M.z9] at Q10 Q11 Q12
       obtain ⟨X0, X1, X2, X3⟩ := X.g4
       obtain ⟨Y0, Y1, Y2, Y3⟩ := Y.g4
       go_wp2_with fail
       clear Q1 Q10 Q11 Q12 Q1f Q1l X0 X1 X2 X3 Y0 Y1 Y2 Y3
       go_end0
       have hx := HH.out.put (by first | exact U | exact U.drew | exact U.drewN _) (by rw [HS.out]; exact RB.out)
       rw [HB1.out (by first | rfl | trivial)]
       rw [HD.out] at hx
       rw [HS.out] at hx ⊢
       exact ⟨(), rfl, hx⟩
      ·obtain rfl : tt = true := HT.out.symm.trans (by decide)
       have CT := Lib.hid (fun W (u : Up wr W) => turned15_any W _ _ S S zs (OB.up u) (by omega))
       have Q1 := HQ.out.up (by first | exact U | exact U.drew | exact U.drewN _)
       have Q10 := Q1.get 0
       have Q11 := Q1.get 1
       have Q12 := Q1.get 2
       have Q1f := Q1.fr 2
       have Q1l := Ob.lt Q1
       simp only [M.z7, M.z8, M.z9] at Q10 Q11 Q12
       obtain ⟨X0, X1, X2, X3⟩ := X.g4
       obtain ⟨Y0, Y1, Y2, Y3⟩ := Y.g4
       go_wp2_with fail
       clear Q1 Q10 Q11 Q12 Q1f Q1l X0 X1 X2 X3 Y0 Y1 Y2 Y3
       refine (CT.out _ (by first | exact Up.refl _ | exact (Up.refl _).drew | exact (Up.refl _).drewN _)).mono ?_
       rintro _ w21 ⟨TA, tc, rfl, RT, u⟩
       replace U := Up.trans (by first | exact U | exact U.drew | exact U.drewN _) u
       replace X := X.up (Up.trans (by first | exact Up.refl _ | exact (Up.refl _).drew | exact (Up.refl _).drewN _) u)
       replace Y := Y.up (Up.trans (by first | exact Up.refl _ | exact (Up.refl _).drew | exact (Up.refl _).drewN _) u)
       have ez : (M.tqn false zs).length = S := by rw [M.tqn_len, hz]
       rw [ez] at RT ⊢
       replace RR1 := RR1.up (Up.trans (by first | exact Up.refl _ | exact (Up.refl _).drew | exact (Up.refl _).drewN _) u)
       clear u CT
       have CS := Lib.hid (fun W (u : Up w21 W) => sum15_any W _ _ _ _ S cA tc l (M.tqn false zs) (RR1.up u) (RT.up u) (by omega))
       have U0 := U
       have Q1 := HQ.out.up (by first | exact U | exact U.drew | exact U.drewN _)
       have Q10 := Q1.get 0
       have Q11 := Q1.get 1
       have Q12 := Q1.get 2
       have Q1f := Q1.fr 2
       have Q1l := Ob.lt Q1
       simp only [M.z7, M.z8, M.z9] at Q10 Q11 Q12
       obtain ⟨X0, X1, X2, X3⟩ := X.g4
       obtain ⟨Y0, Y1, Y2, Y3⟩ := Y.g4
       go_wp2_with fail
       clear Q1 Q10 Q11 Q12 Q1f Q1l X0 X1 X2 X3 Y0 Y1 Y2 Y3
       refine (CS.out _ (by first | exact Up.refl _ | exact (Up.refl _).drew | exact (Up.refl _).drewN _)).mono ?_
       rintro _ w22 ⟨B, d, rfl, R2, u⟩
       replace U := Up.trans (by first | exact U | exact U.drew | exact U.drewN _) u
       replace X := X.up (Up.trans (by first | exact Up.refl _ | exact (Up.refl _).drew | exact (Up.refl _).drewN _) u)
       replace Y := Y.up (Up.trans (by first | exact Up.refl _ | exact (Up.refl _).drew | exact (Up.refl _).drewN _) u)
       have eN : (M.sqm false l (M.tqn false zs)).length = S := by rw [M.sqm_len _ _ _ (by rw [HL.out]; exact ez.symm)]; exact HL.out
       have HD : Hid (M.bq (M.sqm false l (M.tqn false zs)) = M.ad (2 ^ M.qS i) b (M.ng (2 ^ M.qS i) P)) := by
        show _ = _
        rw [M.bq_sqm _ _ _ (by rw [HL.out]; exact ez.symm), HL.out, HB.out, HS.out]
        rw [M.bq_tqn, hz, HZ.out]; rfl
       rw [eN] at R2 ⊢
       have RB : Hid (Rb w22 w.heap.size B S d (M.sqm false l (M.tqn false zs))) := Lib.hid (R2.lower (by have := U0.size; first | exact this | (simp at this ⊢; omega) | omega))
       clear eN R2 u U0 CS
       have Q1 := HQ.out.up (by first | exact U | exact U.drew | exact U.drewN _)
       have Q10 := Q1.get 0
       have Q11 := Q1.get 1
       have Q12 := Q1.get 2
       have Q1f := Q1.fr 2
       have Q1l := Ob.lt Q1
       simp only [M.z7, M.z8, M.z9] at Q10 Q11 Q12
       obtain ⟨X0, X1, X2, X3⟩ := X.g4
       obtain ⟨Y0, Y1, Y2, Y3⟩ := Y.g4
       go_wp2_with fail
       clear Q1 Q10 Q11 Q12 Q1f Q1l X0 X1 X2 X3 Y0 Y1 Y2 Y3
       go_end0
       have hx := HH.out.put (by first | exact U | exact U.drew | exact U.drewN _) (by rw [HS.out]; exact RB.out)
       rw [HB1.out (by first | rfl | trivial)]
       rw [HD.out] at hx
       rw [HS.out] at hx ⊢
       exact ⟨(), rfl, hx⟩
      ·obtain rfl : tt = false := HT.out.symm.trans (by decide)
       have ez : zs.length = S := hz
       have CS := Lib.hid (fun W (u : Up wr W) => sum15_any W _ _ _ _ S cA S l zs (RR1.up u) (OB.up u) (by omega))
       have U0 := U
       have Q1 := HQ.out.up (by first | exact U | exact U.drew | exact U.drewN _)
       have Q10 := Q1.get 0
       have Q11 := Q1.get 1
       have Q12 := Q1.get 2
       have Q1f := Q1.fr 2
       have Q1l := Ob.lt Q1
       simp only [M.z7, M.z8, M.z9] at Q10 Q11 Q12
       obtain ⟨X0, X1, X2, X3⟩ := X.g4
       obtain ⟨Y0, Y1, Y2, Y3⟩ := Y.g4
       go_wp2_with fail
       clear Q1 Q10 Q11 Q12 Q1f Q1l X0 X1 X2 X3 Y0 Y1 Y2 Y3
       refine (CS.out _ (by first | exact Up.refl _ | exact (Up.refl _).drew | exact (Up.refl _).drewN _)).mono ?_
       rintro _ w21 ⟨B, d, rfl, R2, u⟩
       replace U := Up.trans (by first | exact U | exact U.drew | exact U.drewN _) u
       replace X := X.up (Up.trans (by first | exact Up.refl _ | exact (Up.refl _).drew | exact (Up.refl _).drewN _) u)
       replace Y := Y.up (Up.trans (by first | exact Up.refl _ | exact (Up.refl _).drew | exact (Up.refl _).drewN _) u)
       have eN : (M.sqm false l (zs)).length = S := by rw [M.sqm_len _ _ _ (by rw [HL.out]; exact ez.symm)]; exact HL.out
       have HD : Hid (M.bq (M.sqm false l (zs)) = M.ad (2 ^ M.qS i) b P) := by
        show _ = _
        rw [M.bq_sqm _ _ _ (by rw [HL.out]; exact ez.symm), HL.out, HB.out, HS.out]
        rw [HZ.out]; rfl
       rw [eN] at R2 ⊢
       have RB : Hid (Rb w21 w.heap.size B S d (M.sqm false l (zs))) := Lib.hid (R2.lower (by have := U0.size; first | exact this | (simp at this ⊢; omega) | omega))
       clear eN R2 u U0 CS
       have Q1 := HQ.out.up (by first | exact U | exact U.drew | exact U.drewN _)
       have Q10 := Q1.get 0
       have Q11 := Q1.get 1
       have Q12 := Q1.get 2
       have Q1f := Q1.fr 2
       have Q1l := Ob.lt Q1
       simp only [M.z7, M.z8, M.z9] at Q10 Q11 Q12
       obtain ⟨X0, X1, X2, X3⟩ := X.g4
       obtain ⟨Y0, Y1, Y2, Y3⟩ := Y.g4
       go_wp2_with fail
       clear Q1 Q10 Q11 Q12 Q1f Q1l X0 X1 X2 X3 Y0 Y1 Y2 Y3
       go_end0
       have hx := HH.out.put (by first | exact U | exact U.drew | exact U.drewN _) (by rw [HS.out]; exact RB.out)
       rw [HB0.out (by first | rfl | trivial)]
       rw [HD.out] at hx
       rw [HS.out] at hx ⊢
       exact ⟨(), rfl, hx⟩
      ·obtain rfl : tt = true := HT.out.symm.trans (by decide)
       have CT := Lib.hid (fun W (u : Up wr W) => turned15_any W _ _ S S zs (OB.up u) (by omega))
       have Q1 := HQ.out.up (by first | exact U | exact U.drew | exact U.drewN _)
       have Q10 := Q1.get 0
       have Q11 := Q1.get 1
       have Q12 := Q1.get 2
       have Q1f := Q1.fr 2
       have Q1l := Ob.lt Q1
       simp only [M.z7, M.z8, M.z9] at Q10 Q11 Q12
       obtain ⟨X0, X1, X2, X3⟩ := X.g4
       obtain ⟨Y0, Y1, Y2, Y3⟩ := Y.g4
       go_wp2_with fail
       clear Q1 Q10 Q11 Q12 Q1f Q1l X0 X1 X2 X3 Y0 Y1 Y2 Y3
       refine (CT.out _ (by first | exact Up.refl _ | exact (Up.refl _).drew | exact (Up.refl _).drewN _)).mono ?_
       rintro _ w21 ⟨TA, tc, rfl, RT, u⟩
       replace U := Up.trans (by first | exact U | exact U.drew | exact U.drewN _) u
       replace X := X.up (Up.trans (by first | exact Up.refl _ | exact (Up.refl _).drew | exact (Up.refl _).drewN _) u)
       replace Y := Y.up (Up.trans (by first | exact Up.refl _ | exact (Up.refl _).drew | exact (Up.refl _).drewN _) u)
       have ez : (M.tqn false zs).length = S := by rw [M.tqn_len, hz]
       rw [ez] at RT ⊢
       replace RR1 := RR1.up (Up.trans (by first | exact Up.refl _ | exact (Up.refl _).drew | exact (Up.refl _).drewN _) u)
       clear u CT
       have CS := Lib.hid (fun W (u : Up w21 W) => sum15_any W _ _ _ _ S cA tc l (M.tqn false zs) (RR1.up u) (RT.up u) (by omega))
       have U0 := U
       have Q1 := HQ.out.up (by first | exact U | exact U.drew | exact U.drewN _)
       have Q10 := Q1.get 0
       have Q11 := Q1.get 1
       have Q12 := Q1.get 2
       have Q1f := Q1.fr 2
       have Q1l := Ob.lt Q1
       simp only [M.z7, M.z8, M.z9] at Q10 Q11 Q12
       obtain ⟨X0, X1, X2, X3⟩ := X.g4
       obtain ⟨Y0, Y1, Y2, Y3⟩ := Y.g4
       go_wp2_with fail
       clear Q1 Q10 Q11 Q12 Q1f Q1l X0 X1 X2 X3 Y0 Y1 Y2 Y3
       refine (CS.out _ (by first | exact Up.refl _ | exact (Up.refl _).drew | exact (Up.refl _).drewN _)).mono ?_
       rintro _ w22 ⟨B, d, rfl, R2, u⟩
       replace U := Up.trans (by first | exact U | exact U.drew | exact U.drewN _) u
       replace X := X.up (Up.trans (by first | exact Up.refl _ | exact (Up.refl _).drew | exact (Up.refl _).drewN _) u)
       replace Y := Y.up (Up.trans (by first | exact Up.refl _ | exact (Up.refl _).drew | exact (Up.refl _).drewN _) u)
       have eN : (M.sqm false l (M.tqn false zs)).length = S := by rw [M.sqm_len _ _ _ (by rw [HL.out]; exact ez.symm)]; exact HL.out
       have HD : Hid (M.bq (M.sqm false l (M.tqn false zs)) = M.ad (2 ^ M.qS i) b (M.ng (2 ^ M.qS i) P)) := by
        show _ = _
        rw [M.bq_sqm _ _ _ (by rw [HL.out]; exact ez.symm), HL.out, HB.out, HS.out]
        rw [M.bq_tqn, hz, HZ.out]; rfl
       rw [eN] at R2 ⊢
       have RB : Hid (Rb w22 w.heap.size B S d (M.sqm false l (M.tqn false zs))) := Lib.hid (R2.lower (by have := U0.size; first | exact this | (simp at this ⊢; omega) | omega))
       clear eN R2 u U0 CS
       have Q1 := HQ.out.up (by first | exact U | exact U.drew | exact U.drewN _)
       have Q10 := Q1.get 0
       have Q11 := Q1.get 1
       have Q12 := Q1.get 2
       have Q1f := Q1.fr 2
       have Q1l := Ob.lt Q1
       simp only [M.z7, M.z8, M.z9] at Q10 Q11 Q12
       obtain ⟨X0, X1, X2, X3⟩ := X.g4
       obtain ⟨Y0, Y1, Y2, Y3⟩ := Y.g4
       go_wp2_with fail
       clear Q1 Q10 Q11 Q12 Q1f Q1l X0 X1 X2 X3 Y0 Y1 Y2 Y3
       go_end0
       have hx := HH.out.put (by first | exact U | exact U.drew | exact U.drewN _) (by rw [HS.out]; exact RB.out)
       rw [HB1.out (by first | rfl | trivial)]
       rw [HD.out] at hx
       rw [HS.out] at hx ⊢
       exact ⟨(), rfl, hx⟩
      ·obtain rfl : tt = false := HT.out.symm.trans (by decide)
       have ez : zs.length = S := hz
       have CS := Lib.hid (fun W (u : Up wr W) => sum15_any W _ _ _ _ S cA S l zs (RR1.up u) (OB.up u) (by omega))
       have U0 := U
       have Q1 := HQ.out.up (by first | exact U | exact U.drew | exact U.drewN _)
       have Q10 := Q1.get 0
       have Q11 := Q1.get 1
       have Q12 := Q1.get 2
       have Q1f := Q1.fr 2
       have Q1l := Ob.lt Q1
       simp only [M.z7, M.z8, M.z9] at Q10 Q11 Q12
       obtain ⟨X0, X1, X2, X3⟩ := X.g4
       obtain ⟨Y0, Y1, Y2, Y3⟩ := Y.g4
       go_wp2_with fail
       clear Q1 Q10 Q11 Q12 Q1f Q1l X0 X1 X2 X3 Y0 Y1 Y2 Y3
       refine (CS.out _ (by first | exact Up.refl _ | exact (Up.refl _).drew | exact (Up.refl _).drewN _)).mono ?_
       rintro _ w21 ⟨B, d, rfl, R2, u⟩
       replace U := Up.trans (by first | exact U | exact U.drew | exact U.drewN _) u
       replace X := X.up (Up.trans (by first | exact Up.refl _ | exact (Up.refl _).drew | exact (Up.refl _).drewN _) u)
       replace Y := Y.up (Up.trans (by first | exact Up.refl _ | exact (Up.refl _).drew | exact (Up.refl _).drewN _) u)
       have eN : (M.sqm false l (zs)).length = S := by rw [M.sqm_len _ _ _ (by rw [HL.out]; exact ez.symm)]; exact HL.out
       have HD : Hid (M.bq (M.sqm false l (zs)) = M.ad (2 ^ M.qS i) b P) := by
        show _ = _
        rw [M.bq_sqm _ _ _ (by rw [HL.out]; exact ez.symm), HL.out, HB.out, HS.out]
        rw [HZ.out]; rfl
       rw [eN] at R2 ⊢
       have RB : Hid (Rb w21 w.heap.size B S d (M.sqm false l (zs))) := Lib.hid (R2.lower (by have := U0.size; first | exact this | (simp at this ⊢; omega) | omega))
       clear eN R2 u U0 CS
       have Q1 := HQ.out.up (by first | exact U | exact U.drew | exact U.drewN _)
       have Q10 := Q1.get 0
       have Q11 := Q1.get 1
       have Q12 := Q1.get 2
       have Q1f := Q1.fr 2
       have Q1l := Ob.lt Q1
       simp only [M.z7, M.z8, M.z9] at Q10 Q11 Q12
       obtain ⟨X0, X1, X2, X3⟩ := X.g4
       obtain ⟨Y0, Y1, Y2, Y3⟩ := Y.g4
       go_wp2_with fail
       clear Q1 Q10 Q11 Q12 Q1f Q1l X0 X1 X2 X3 Y0 Y1 Y2 Y3
       go_end0
       have hx := HH.out.put (by first | exact U | exact U.drew | exact U.drewN _) (by rw [HS.out]; exact RB.out)
       rw [HB0.out (by first | rfl | trivial)]
       rw [HD.out] at hx
       rw [HS.out] at hx ⊢
       exact ⟨(), rfl, hx⟩
      ·obtain rfl : tt = false := HT.out.symm.trans (by decide)
       have ez : zs.length = S := hz
       have CS := Lib.hid (fun W (u : Up wr W) => sum15_any W _ _ _ _ S cA S l zs (RR1.up u) (OB.up u) (by omega))
       have U0 := U
       have Q1 := HQ.out.up (by first | exact U | exact U.drew | exact U.drewN _)
       have Q10 := Q1.get 0
       have Q11 := Q1.get 1
       have Q12 := Q1.get 2
       have Q1f := Q1.fr 2
       have Q1l := Ob.lt Q1
       simp only [M.z7, M.z8, M.z9] at Q10 Q11 Q12
       obtain ⟨X0, X1, X2, X3⟩ := X.g4
       obtain ⟨Y0, Y1, Y2, Y3⟩ := Y.g4
       go_wp2_with fail
       clear Q1 Q10 Q11 Q12 Q1f Q1l X0 X1 X2 X3 Y0 Y1 Y2 Y3
       refine (CS.out _ (by first | exact Up.refl _ | exact (Up.refl _).drew | exact (Up.refl _).drewN _)).mono ?_
       rintro _ w21 ⟨B, d, rfl, R2, u⟩
       replace U := Up.trans (by first | exact U | exact U.drew | exact U.drewN _) u
       replace X := X.up (Up.trans (by first | exact Up.refl _ | exact (Up.refl _).drew | exact (Up.refl _).drewN _) u)
       replace Y := Y.up (Up.trans (by first | exact Up.refl _ | exact (Up.refl _).drew | exact (Up.refl _).drewN _) u)
       have eN : (M.sqm false l (zs)).length = S := by rw [M.sqm_len _ _ _ (by rw [HL.out]; exact ez.symm)]; exact HL.out
       have HD : Hid (M.bq (M.sqm false l (zs)) = M.ad (2 ^ M.qS i) b P) := by
        show _ = _
        rw [M.bq_sqm _ _ _ (by rw [HL.out]; exact ez.symm), HL.out, HB.out, HS.out]
        rw [HZ.out]; rfl
       rw [eN] at R2 ⊢
       have RB : Hid (Rb w21 w.heap.size B S d (M.sqm false l (zs))) := Lib.hid (R2.lower (by have := U0.size; first | exact this | (simp at this ⊢; omega) | omega))
       clear eN R2 u U0 CS
       have Q1 := HQ.out.up (by first | exact U | exact U.drew | exact U.drewN _)
       have Q10 := Q1.get 0
       have Q11 := Q1.get 1
       have Q12 := Q1.get 2
       have Q1f := Q1.fr 2
       have Q1l := Ob.lt Q1
       simp only [M.z7, M.z8, M.z9] at Q10 Q11 Q12
       obtain ⟨X0, X1, X2, X3⟩ := X.g4
       obtain ⟨Y0, Y1, Y2, Y3⟩ := Y.g4
       go_wp2_with fail
       clear Q1 Q10 Q11 Q12 Q1f Q1l X0 X1 X2 X3 Y0 Y1 Y2 Y3
       go_end0
       have hx := HH.out.put (by first | exact U | exact U.drew | exact U.drewN _) (by rw [HS.out]; exact RB.out)
       rw [HB0.out (by first | rfl | trivial)]
       rw [HD.out] at hx
       rw [HS.out] at hx ⊢
       exact ⟨(), rfl, hx⟩
      ·obtain rfl : tt = true := HT.out.symm.trans (by decide)
       have CT := Lib.hid (fun W (u : Up wr W) => turned15_any W _ _ S S zs (OB.up u) (by omega))
       have Q1 := HQ.out.up (by first | exact U | exact U.drew | exact U.drewN _)
       have Q10 := Q1.get 0
       have Q11 := Q1.get 1
       have Q12 := Q1.get 2
       have Q1f := Q1.fr 2
       have Q1l := Ob.lt Q1
       simp only [M.z7, M.z8, M.z9] at Q10 Q11 Q12
       obtain ⟨X0, X1, X2, X3⟩ := X.g4
       obtain ⟨Y0, Y1, Y2, Y3⟩ := Y.g4
       go_wp2_with fail
       clear Q1 Q10 Q11 Q12 Q1f Q1l X0 X1 X2 X3 Y0 Y1 Y2 Y3
       refine (CT.out _ (by first | exact Up.refl _ | exact (Up.refl _).drew | exact (Up.refl _).drewN _)).mono ?_
       rintro _ w21 ⟨TA, tc, rfl, RT, u⟩
       replace U := Up.trans (by first | exact U | exact U.drew | exact U.drewN _) u
       replace X := X.up (Up.trans (by first | exact Up.refl _ | exact (Up.refl _).drew | exact (Up.refl _).drewN _) u)
       replace Y := Y.up (Up.trans (by first | exact Up.refl _ | exact (Up.refl _).drew | exact (Up.refl _).drewN _) u)
       have ez : (M.tqn false zs).length = S := by rw [M.tqn_len, hz]
       rw [ez] at RT ⊢
       replace RR1 := RR1.up (Up.trans (by first | exact Up.refl _ | exact (Up.refl _).drew | exact (Up.refl _).drewN _) u)
       clear u CT
       have CS := Lib.hid (fun W (u : Up w21 W) => sum15_any W _ _ _ _ S cA tc l (M.tqn false zs) (RR1.up u) (RT.up u) (by omega))
       have U0 := U
       have Q1 := HQ.out.up (by first | exact U | exact U.drew | exact U.drewN _)
       have Q10 := Q1.get 0
       have Q11 := Q1.get 1
       have Q12 := Q1.get 2
       have Q1f := Q1.fr 2
       have Q1l := Ob.lt Q1
       simp only [M.z7, M.z8, M.z9] at Q10 Q11 Q12
       obtain ⟨X0, X1, X2, X3⟩ := X.g4
       obtain ⟨Y0, Y1, Y2, Y3⟩ := Y.g4
       go_wp2_with fail
       clear Q1 Q10 Q11 Q12 Q1f Q1l X0 X1 X2 X3 Y0 Y1 Y2 Y3
       refine (CS.out _ (by first | exact Up.refl _ | exact (Up.refl _).drew | exact (Up.refl _).drewN _)).mono ?_
       rintro _ w22 ⟨B, d, rfl, R2, u⟩
       replace U := Up.trans (by first | exact U | exact U.drew | exact U.drewN _) u
       replace X := X.up (Up.trans (by first | exact Up.refl _ | exact (Up.refl _).drew | exact (Up.refl _).drewN _) u)
       replace Y := Y.up (Up.trans (by first | exact Up.refl _ | exact (Up.refl _).drew | exact (Up.refl _).drewN _) u)
       have eN : (M.sqm false l (M.tqn false zs)).length = S := by rw [M.sqm_len _ _ _ (by rw [HL.out]; exact ez.symm)]; exact HL.out
       have HD : Hid (M.bq (M.sqm false l (M.tqn false zs)) = M.ad (2 ^ M.qS i) b (M.ng (2 ^ M.qS i) P)) := by
        show _ = _
        rw [M.bq_sqm _ _ _ (by rw [HL.out]; exact ez.symm), HL.out, HB.out, HS.out]
        rw [M.bq_tqn, hz, HZ.out]; rfl
       rw [eN] at R2 ⊢
       have RB : Hid (Rb w22 w.heap.size B S d (M.sqm false l (M.tqn false zs))) := Lib.hid (R2.lower (by have := U0.size; first | exact this | (simp at this ⊢; omega) | omega))
       clear eN R2 u U0 CS
       have Q1 := HQ.out.up (by first | exact U | exact U.drew | exact U.drewN _)
       have Q10 := Q1.get 0
       have Q11 := Q1.get 1
       have Q12 := Q1.get 2
       have Q1f := Q1.fr 2
       have Q1l := Ob.lt Q1
       simp only [M.z7, M.z8, M.z9] at Q10 Q11 Q12
       obtain ⟨X0, X1, X2, X3⟩ := X.g4
       obtain ⟨Y0, Y1, Y2, Y3⟩ := Y.g4
       go_wp2_with fail
       clear Q1 Q10 Q11 Q12 Q1f Q1l X0 X1 X2 X3 Y0 Y1 Y2 Y3
       go_end0
       have hx := HH.out.put (by first | exact U | exact U.drew | exact U.drewN _) (by rw [HS.out]; exact RB.out)
       rw [HB1.out (by first | rfl | trivial)]
       rw [HD.out] at hx
       rw [HS.out] at hx ⊢
       exact ⟨(), rfl, hx⟩
     ·have e1 : ¬ (j : Int) < (K : Int) + 128 := by omega
      clear htt
      cases g <;> cases g' <;> cases less
      ·obtain rfl : tt = false := HT.out.symm.trans (by decide)
       have ez : zs.length = S := hz
       have CS := Lib.hid (fun W (u : Up wr W) => sum15_any W _ _ _ _ S cA S l zs (RR1.up u) (OB.up u) (by omega))
       have U0 := U
       have Q1 := HQ.out.up (by first | exact U | exact U.drew | exact U.drewN _)
       have Q10 := Q1.get 0
       have Q11 := Q1.get 1
       have Q12 := Q1.get 2
       have Q1f := Q1.fr 2
       have Q1l := Ob.lt Q1
       simp only [M.z7, M.z8, M.z9] at Q10 Q11 Q12
       obtain ⟨X0, X1, X2, X3⟩ := X.g4
       obtain ⟨Y0, Y1, Y2, Y3⟩ := Y.g4
       go_wp2_with fail
       clear Q1 Q10 Q11 Q12 Q1f Q1l X0 X1 X2 X3 Y0 Y1 Y2 Y3
       refine (CS.out _ (by first | exact Up.refl _ | exact (Up.refl _).drew | exact (Up.refl _).drewN _)).mono ?_
       rintro _ w21 ⟨B, d, rfl, R2, u⟩
       replace U := Up.trans (by first | exact U | exact U.drew | exact U.drewN _) u
       replace X := X.up (Up.trans (by first | exact Up.refl _ | exact (Up.refl _).drew | exact (Up.refl _).drewN _) u)
       replace Y := Y.up (Up.trans (by first | exact Up.refl _ | exact (Up.refl _).drew | exact (Up.refl _).drewN _) u)
       have eN : (M.sqm false l (zs)).length = S := by rw [M.sqm_len _ _ _ (by rw [HL.out]; exact ez.symm)]; exact HL.out
       have HD : Hid (M.bq (M.sqm false l (zs)) = M.ad (2 ^ M.qS i) b P) := by
        show _ = _
        rw [M.bq_sqm _ _ _ (by rw [HL.out]; exact ez.symm), HL.out, HB.out, HS.out]
        rw [HZ.out]; rfl
       rw [eN] at R2 ⊢
       have RB : Hid (Rb w21 w.heap.size B S d (M.sqm false l (zs))) := Lib.hid (R2.lower (by have := U0.size; first | exact this | (simp at this ⊢; omega) | omega))
       clear eN R2 u U0 CS
       have Q1 := HQ.out.up (by first | exact U | exact U.drew | exact U.drewN _)
       have Q10 := Q1.get 0
       have Q11 := Q1.get 1
       have Q12 := Q1.get 2
       have Q1f := Q1.fr 2
       have Q1l := Ob.lt Q1
       simp only [M.z7, M.z8, M.z9] at Q10 Q11 Q12
       obtain ⟨X0, X1, X2, X3⟩ := X.g4
       obtain ⟨Y0, Y1, Y2, Y3⟩ := Y.g4
       go_wp2_with fail
       clear Q1 Q10 Q11 Q12 Q1f Q1l X0 X1 X2 X3 Y0 Y1 Y2 Y3
       go_end0
       have hx := HH.out.put (by first | exact U | exact U.drew | exact U.drewN _) (by rw [HS.out]; exact RB.out)
       rw [HB0.out (by first | rfl | trivial)]
       rw [HD.out] at hx
       rw [HS.out] at hx ⊢
       exact ⟨(), rfl, hx⟩
      ·obtain rfl : tt = true := HT.out.symm.trans (by decide)
       have CT := Lib.hid (fun W (u : Up wr W) => turned15_any W _ _ S S zs (OB.up u) (by omega))
       have Q1 := HQ.out.up (by first | exact U | exact U.drew | exact U.drewN _)
       have Q10 := Q1.get 0
       have Q11 := Q1.get 1
       have Q12 := Q1.get 2
       have Q1f := Q1.fr 2
       have Q1l := Ob.lt Q1
       simp only [M.z7, M.z8, M.z9] at Q10 Q11 Q12
       obtain ⟨X0, X1, X2, X3⟩ := X.g4
       obtain ⟨Y0, Y1, Y2, Y3⟩ := Y.g4
       go_wp2_with fail
       clear Q1 Q10 Q11 Q12 Q1f Q1l X0 X1 X2 X3 Y0 Y1 Y2 Y3
       refine (CT.out _ (by first | exact Up.refl _ | exact (Up.refl _).drew | exact (Up.refl _).drewN _)).mono ?_
       rintro _ w21 ⟨TA, tc, rfl, RT, u⟩
       replace U := Up.trans (by first | exact U | exact U.drew | exact U.drewN _) u
       replace X := X.up (Up.trans (by first | exact Up.refl _ | exact (Up.refl _).drew | exact (Up.refl _).drewN _) u)
       replace Y := Y.up (Up.trans (by first | exact Up.refl _ | exact (Up.refl _).drew | exact (Up.refl _).drewN _) u)
       have ez : (M.tqn false zs).length = S := by rw [M.tqn_len, hz]
       rw [ez] at RT ⊢
       replace RR1 := RR1.up (Up.trans (by first | exact Up.refl _ | exact (Up.refl _).drew | exact (Up.refl _).drewN _) u)
       clear u CT
       have CS := Lib.hid (fun W (u : Up w21 W) => sum15_any W _ _ _ _ S cA tc l (M.tqn false zs) (RR1.up u) (RT.up u) (by omega))
       have U0 := U
       have Q1 := HQ.out.up (by first | exact U | exact U.drew | exact U.drewN _)
       have Q10 := Q1.get 0
       have Q11 := Q1.get 1
       have Q12 := Q1.get 2
       have Q1f := Q1.fr 2
       have Q1l := Ob.lt Q1
       simp only [M.z7, M.z8, M.z9] at Q10 Q11 Q12
       obtain ⟨X0, X1, X2, X3⟩ := X.g4
       obtain ⟨Y0, Y1, Y2, Y3⟩ := Y.g4
       go_wp2_with fail
       clear Q1 Q10 Q11 Q12 Q1f Q1l X0 X1 X2 X3 Y0 Y1 Y2 Y3
       refine (CS.out _ (by first | exact Up.refl _ | exact (Up.refl _).drew | exact (Up.refl _).drewN _)).mono ?_
       rintro _ w22 ⟨B, d, rfl, R2, u⟩
       replace U := Up.trans (by first | exact U | exact U.drew | exact U.drewN _) u
       replace X := X.up (Up.trans (by first | exact Up.refl _ | exact (Up.refl _).drew | exact (Up.refl _).drewN _) u)
       replace Y := Y.up (Up.trans (by first | exact Up.refl _ | exact (Up.refl _).drew | exact (Up.refl _).drewN _) u)
       have eN : (M.sqm false l (M.tqn false zs)).length = S := by rw [M.sqm_len _ _ _ (by rw [HL.out]; exact ez.symm)]; exact HL.out
       have HD : Hid (M.bq (M.sqm false l (M.tqn false zs)) = M.ad (2 ^ M.qS i) b (M.ng (2 ^ M.qS i) P)) := by
        show _ = _
        rw [M.bq_sqm _ _ _ (by rw [HL.out]; exact ez.symm), HL.out, HB.out, HS.out]
        rw [M.bq_tqn, hz, HZ.out]; rfl
       rw [eN] at R2 ⊢
       have RB : Hid (Rb w22 w.heap.size B S d (M.sqm false l (M.tqn false zs))) := Lib.hid (R2.lower (by have := U0.size; first | exact this | (simp at this ⊢; omega) | omega))
       clear eN R2 u U0 CS
       have Q1 := HQ.out.up (by first | exact U | exact U.drew | exact U.drewN _)
       have Q10 := Q1.get 0
       have Q11 := Q1.get 1
       have Q12 := Q1.get 2
       have Q1f := Q1.fr 2
       have Q1l := Ob.lt Q1
       simp only [M.z7, M.z8, M.z9] at Q10 Q11 Q12
       obtain ⟨X0, X1, X2, X3⟩ := X.g4
       obtain ⟨Y0, Y1, Y2, Y3⟩ := Y.g4
       go_wp2_with fail
       clear Q1 Q10 Q11 Q12 Q1f Q1l X0 X1 X2 X3 Y0 Y1 Y2 Y3
       go_end0
       have hx := HH.out.put (by first | exact U | exact U.drew | exact U.drewN _) (by rw [HS.out]; exact RB.out)
       rw [HB1.out (by first | rfl | trivial)]
       rw [HD.out] at hx
       rw [HS.out] at hx ⊢
       exact ⟨(), rfl, hx⟩
      ·obtain rfl : tt = true := HT.out.symm.trans (by decide)
       have CT := Lib.hid (fun W (u : Up wr W) => turned15_any W _ _ S S zs (OB.up u) (by omega))
       have Q1 := HQ.out.up (by first | exact U | exact U.drew | exact U.drewN _)
       have Q10 := Q1.get 0
       have Q11 := Q1.get 1
       have Q12 := Q1.get 2
       have Q1f := Q1.fr 2
       have Q1l := Ob.lt Q1
       simp only [M.z7, M.z8, M.z9] at Q10 Q11 Q12
       obtain ⟨X0, X1, X2, X3⟩ := X.g4
       obtain ⟨Y0, Y1, Y2, Y3⟩ := Y.g4
       go_wp2_with fail
       clear Q1 Q10 Q11 Q12 Q1f Q1l X0 X1 X2 X3 Y0 Y1 Y2 Y3
       refine (CT.out _ (by first | exact Up.refl _ | exact (Up.refl _).drew | exact (Up.refl _).drewN _)).mono ?_
       rintro _ w21 ⟨TA, tc, rfl, RT, u⟩
       replace U := Up.trans (by first | exact U | exact U.drew | exact U.drewN _) u
       replace X := X.up (Up.trans (by first | exact Up.refl _ | exact (Up.refl _).drew | exact (Up.refl _).drewN _) u)
       replace Y := Y.up (Up.trans (by first | exact Up.refl _ | exact (Up.refl _).drew | exact (Up.refl _).drewN _) u)
       have ez : (M.tqn false zs).length = S := by rw [M.tqn_len, hz]
       rw [ez] at RT ⊢
       replace RR1 := RR1.up (Up.trans (by first | exact Up.refl _ | exact (Up.refl _).drew | exact (Up.refl _).drewN _) u)
       clear u CT
       have CS := Lib.hid (fun W (u : Up w21 W) => sum15_any W _ _ _ _ S cA tc l (M.tqn false zs) (RR1.up u) (RT.up u) (by omega))
       have U0 := U
       have Q1 := HQ.out.up (by first | exact U | exact U.drew | exact U.drewN _)
       have Q10 := Q1.get 0
       have Q11 := Q1.get 1
       have Q12 := Q1.get 2
       have Q1f := Q1.fr 2
       have Q1l := Ob.lt Q1
       simp only [M.z7, M.z8, M.z9] at Q10 Q11 Q12
       obtain ⟨X0, X1, X2, X3⟩ := X.g4
       obtain ⟨Y0, Y1, Y2, Y3⟩ := Y.g4
       go_wp2_with fail
       clear Q1 Q10 Q11 Q12 Q1f Q1l X0 X1 X2 X3 Y0 Y1 Y2 Y3
       refine (CS.out _ (by first | exact Up.refl _ | exact (Up.refl _).drew | exact (Up.refl _).drewN _)).mono ?_
       rintro _ w22 ⟨B, d, rfl, R2, u⟩
       replace U := Up.trans (by first | exact U | exact U.drew | exact U.drewN _) u
       replace X := X.up (Up.trans (by first | exact Up.refl _ | exact (Up.refl _).drew | exact (Up.refl _).drewN _) u)
       replace Y := Y.up (Up.trans (by first | exact Up.refl _ | exact (Up.refl _).drew | exact (Up.refl _).drewN _) u)
       have eN : (M.sqm false l (M.tqn false zs)).length = S := by rw [M.sqm_len _ _ _ (by rw [HL.out]; exact ez.symm)]; exact HL.out
       have HD : Hid (M.bq (M.sqm false l (M.tqn false zs)) = M.ad (2 ^ M.qS i) b (M.ng (2 ^ M.qS i) P)) := by
        show _ = _
        rw [M.bq_sqm _ _ _ (by rw [HL.out]; exact ez.symm), HL.out, HB.out, HS.out]
        rw [M.bq_tqn, hz, HZ.out]; rfl
       rw [eN] at R2 ⊢
       have RB : Hid (Rb w22 w.heap.size B S d (M.sqm false l (M.tqn false zs))) := Lib.hid (R2.lower (by have := U0.size; first | exact this | (simp at this ⊢; omega) | omega))
       clear eN R2 u U0 CS
       have Q1 := HQ.out.up (by first | exact U | exact U.drew | exact U.drewN _)
       have Q10 := Q1.get 0
       have Q11 := Q1.get 1
       have Q12 := Q1.get 2
       have Q1f := Q1.fr 2
       have Q1l := Ob.lt Q1
       simp only [M.z7, M.z8, M.z9] at Q10 Q11 Q12
       obtain ⟨X0, X1, X2, X3⟩ := X.g4
       obtain ⟨Y0, Y1, Y2, Y3⟩ := Y.g4
       go_wp2_with fail
       clear Q1 Q10 Q11 Q12 Q1f Q1l X0 X1 X2 X3 Y0 Y1 Y2 Y3
       go_end0
       have hx := HH.out.put (by first | exact U | exact U.drew | exact U.drewN _) (by rw [HS.out]; exact RB.out)
       rw [HB1.out (by first | rfl | trivial)]
       rw [HD.out] at hx
       rw [HS.out] at hx ⊢
       exact ⟨(), rfl, hx⟩
      ·obtain rfl : tt = false := HT.out.symm.trans (by decide)
       have ez : zs.length = S := hz
       have CS := Lib.hid (fun W (u : Up wr W) => sum15_any W _ _ _ _ S cA S l zs (RR1.up u) (OB.up u) (by omega))
       have U0 := U
       have Q1 := HQ.out.up (by first | exact U | exact U.drew | exact U.drewN _)
       have Q10 := Q1.get 0
       have Q11 := Q1.get 1
       have Q12 := Q1.get 2
       have Q1f := Q1.fr 2
       have Q1l := Ob.lt Q1
       simp only [M.z7, M.z8, M.z9] at Q10 Q11 Q12
       obtain ⟨X0, X1, X2, X3⟩ := X.g4
       obtain ⟨Y0, Y1, Y2, Y3⟩ := Y.g4
       go_wp2_with fail
       clear Q1 Q10 Q11 Q12 Q1f Q1l X0 X1 X2 X3 Y0 Y1 Y2 Y3
       refine (CS.out _ (by first | exact Up.refl _ | exact (Up.refl _).drew | exact (Up.refl _).drewN _)).mono ?_
       rintro _ w21 ⟨B, d, rfl, R2, u⟩
       replace U := Up.trans (by first | exact U | exact U.drew | exact U.drewN _) u
       replace X := X.up (Up.trans (by first | exact Up.refl _ | exact (Up.refl _).drew | exact (Up.refl _).drewN _) u)
       replace Y := Y.up (Up.trans (by first | exact Up.refl _ | exact (Up.refl _).drew | exact (Up.refl _).drewN _) u)
       have eN : (M.sqm false l (zs)).length = S := by rw [M.sqm_len _ _ _ (by rw [HL.out]; exact ez.symm)]; exact HL.out
       have HD : Hid (M.bq (M.sqm false l (zs)) = M.ad (2 ^ M.qS i) b P) := by
        show _ = _
        rw [M.bq_sqm _ _ _ (by rw [HL.out]; exact ez.symm), HL.out, HB.out, HS.out]
        rw [HZ.out]; rfl
       rw [eN] at R2 ⊢
       have RB : Hid (Rb w21 w.heap.size B S d (M.sqm false l (zs))) := Lib.hid (R2.lower (by have := U0.size; first | exact this | (simp at this ⊢; omega) | omega))
       clear eN R2 u U0 CS
       have Q1 := HQ.out.up (by first | exact U | exact U.drew | exact U.drewN _)
       have Q10 := Q1.get 0
       have Q11 := Q1.get 1
       have Q12 := Q1.get 2
       have Q1f := Q1.fr 2
       have Q1l := Ob.lt Q1
       simp only [M.z7, M.z8, M.z9] at Q10 Q11 Q12
       obtain ⟨X0, X1, X2, X3⟩ := X.g4
       obtain ⟨Y0, Y1, Y2, Y3⟩ := Y.g4
       go_wp2_with fail
       clear Q1 Q10 Q11 Q12 Q1f Q1l X0 X1 X2 X3 Y0 Y1 Y2 Y3
       go_end0
       have hx := HH.out.put (by first | exact U | exact U.drew | exact U.drewN _) (by rw [HS.out]; exact RB.out)
       rw [HB0.out (by first | rfl | trivial)]
       rw [HD.out] at hx
       rw [HS.out] at hx ⊢
       exact ⟨(), rfl, hx⟩
      ·obtain rfl : tt = true := HT.out.symm.trans (by decide)
       have CT := Lib.hid (fun W (u : Up wr W) => turned15_any W _ _ S S zs (OB.up u) (by omega))
       have Q1 := HQ.out.up (by first | exact U | exact U.drew | exact U.drewN _)
       have Q10 := Q1.get 0
       have Q11 := Q1.get 1
       have Q12 := Q1.get 2
       have Q1f := Q1.fr 2
       have Q1l := Ob.lt Q1
       simp only [M.z7, M.z8, M.z9] at Q10 Q11 Q12
       obtain ⟨X0, X1, X2, X3⟩ := X.g4
       obtain ⟨Y0, Y1, Y2, Y3⟩ := Y.g4
       go_wp2_with fail
       clear Q1 Q10 Q11 Q12 Q1f Q1l X0 X1 X2 X3 Y0 Y1 Y2 Y3
       refine (CT.out _ (by first | exact Up.refl _ | exact (Up.refl _).drew | exact (Up.refl _).drewN _)).mono ?_
       rintro _ w21 ⟨TA, tc, rfl, RT, u⟩
       replace U := Up.trans (by first | exact U | exact U.drew | exact U.drewN _) u
       replace X := X.up (Up.trans (by first | exact Up.refl _ | exact (Up.refl _).drew | exact (Up.refl _).drewN _) u)
       replace Y := Y.up (Up.trans (by first | exact Up.refl _ | exact (Up.refl _).drew | exact (Up.refl _).drewN _) u)
       have ez : (M.tqn false zs).length = S := by rw [M.tqn_len, hz]
       rw [ez] at RT ⊢
       replace RR1 := RR1.up (Up.trans (by first | exact Up.refl _ | exact (Up.refl _).drew | exact (Up.refl _).drewN _) u)
       clear u CT
       have CS := Lib.hid (fun W (u : Up w21 W) => sum15_any W _ _ _ _ S cA tc l (M.tqn false zs) (RR1.up u) (RT.up u) (by omega))
       have U0 := U
       have Q1 := HQ.out.up (by first | exact U | exact U.drew | exact U.drewN _)
       have Q10 := Q1.get 0
       have Q11 := Q1.get 1
       have Q12 := Q1.get 2
       have Q1f := Q1.fr 2
       have Q1l := Ob.lt Q1
       simp only [M.z7, M.z8, M.z9] at Q10 Q11 Q12
       obtain ⟨X0, X1, X2, X3⟩ := X.g4
       obtain ⟨Y0, Y1, Y2, Y3⟩ := Y.g4
       go_wp2_with fail
       clear Q1 Q10 Q11 Q12 Q1f Q1l X0 X1 X2 X3 Y0 Y1 Y2 Y3
       refine (CS.out _ (by first | exact Up.refl _ | exact (Up.refl _).drew | exact (Up.refl _).drewN _)).mono ?_
       rintro _ w22 ⟨B, d, rfl, R2, u⟩
       replace U := Up.trans (by first | exact U | exact U.drew | exact U.drewN _) u
       replace X := X.up (Up.trans (by first | exact Up.refl _ | exact (Up.refl _).drew | exact (Up.refl _).drewN _) u)
       replace Y := Y.up (Up.trans (by first | exact Up.refl _ | exact (Up.refl _).drew | exact (Up.refl _).drewN _) u)
       have eN : (M.sqm false l (M.tqn false zs)).length = S := by rw [M.sqm_len _ _ _ (by rw [HL.out]; exact ez.symm)]; exact HL.out
       have HD : Hid (M.bq (M.sqm false l (M.tqn false zs)) = M.ad (2 ^ M.qS i) b (M.ng (2 ^ M.qS i) P)) := by
        show _ = _
        rw [M.bq_sqm _ _ _ (by rw [HL.out]; exact ez.symm), HL.out, HB.out, HS.out]
        rw [M.bq_tqn, hz, HZ.out]; rfl
       rw [eN] at R2 ⊢
       have RB : Hid (Rb w22 w.heap.size B S d (M.sqm false l (M.tqn false zs))) := Lib.hid (R2.lower (by have := U0.size; first | exact this | (simp at this ⊢; omega) | omega))
       clear eN R2 u U0 CS
       have Q1 := HQ.out.up (by first | exact U | exact U.drew | exact U.drewN _)
       have Q10 := Q1.get 0
       have Q11 := Q1.get 1
       have Q12 := Q1.get 2
       have Q1f := Q1.fr 2
       have Q1l := Ob.lt Q1
       simp only [M.z7, M.z8, M.z9] at Q10 Q11 Q12
       obtain ⟨X0, X1, X2, X3⟩ := X.g4
       obtain ⟨Y0, Y1, Y2, Y3⟩ := Y.g4
       go_wp2_with fail
       clear Q1 Q10 Q11 Q12 Q1f Q1l X0 X1 X2 X3 Y0 Y1 Y2 Y3
       go_end0
       have hx := HH.out.put (by first | exact U | exact U.drew | exact U.drewN _) (by rw [HS.out]; exact RB.out)
       rw [HB1.out (by first | rfl | trivial)]
       rw [HD.out] at hx
       rw [HS.out] at hx ⊢
       exact ⟨(), rfl, hx⟩
      ·obtain rfl : tt = false := HT.out.symm.trans (by decide)
       have ez : zs.length = S := hz
       have CS := Lib.hid (fun W (u : Up wr W) => sum15_any W _ _ _ _ S cA S l zs (RR1.up u) (OB.up u) (by omega))
       have U0 := U
       have Q1 := HQ.out.up (by first | exact U | exact U.drew | exact U.drewN _)
       have Q10 := Q1.get 0
       have Q11 := Q1.get 1
       have Q12 := Q1.get 2
       have Q1f := Q1.fr 2
       have Q1l := Ob.lt Q1
       simp only [M.z7, M.z8, M.z9] at Q10 Q11 Q12
       obtain ⟨X0, X1, X2, X3⟩ := X.g4
       obtain ⟨Y0, Y1, Y2, Y3⟩ := Y.g4
       go_wp2_with fail
       clear Q1 Q10 Q11 Q12 Q1f Q1l X0 X1 X2 X3 Y0 Y1 Y2 Y3
       refine (CS.out _ (by first | exact Up.refl _ | exact (Up.refl _).drew | exact (Up.refl _).drewN _)).mono ?_
       rintro _ w21 ⟨B, d, rfl, R2, u⟩
       replace U := Up.trans (by first | exact U | exact U.drew | exact U.drewN _) u
       replace X := X.up (Up.trans (by first | exact Up.refl _ | exact (Up.refl _).drew | exact (Up.refl _).drewN _) u)
       replace Y := Y.up (Up.trans (by first | exact Up.refl _ | exact (Up.refl _).drew | exact (Up.refl _).drewN _) u)
       have eN : (M.sqm false l (zs)).length = S := by rw [M.sqm_len _ _ _ (by rw [HL.out]; exact ez.symm)]; exact HL.out
       have HD : Hid (M.bq (M.sqm false l (zs)) = M.ad (2 ^ M.qS i) b P) := by
        show _ = _
        rw [M.bq_sqm _ _ _ (by rw [HL.out]; exact ez.symm), HL.out, HB.out, HS.out]
        rw [HZ.out]; rfl
       rw [eN] at R2 ⊢
       have RB : Hid (Rb w21 w.heap.size B S d (M.sqm false l (zs))) := Lib.hid (R2.lower (by have := U0.size; first | exact this | (simp at this ⊢; omega) | omega))
       clear eN R2 u U0 CS
       have Q1 := HQ.out.up (by first | exact U | exact U.drew | exact U.drewN _)
       have Q10 := Q1.get 0
       have Q11 := Q1.get 1
       have Q12 := Q1.get 2
       have Q1f := Q1.fr 2
       have Q1l := Ob.lt Q1
       simp only [M.z7, M.z8, M.z9] at Q10 Q11 Q12
       obtain ⟨X0, X1, X2, X3⟩ := X.g4
       obtain ⟨Y0, Y1, Y2, Y3⟩ := Y.g4
       go_wp2_with fail
       clear Q1 Q10 Q11 Q12 Q1f Q1l X0 X1 X2 X3 Y0 Y1 Y2 Y3
       go_end0
       have hx := HH.out.put (by first | exact U | exact U.drew | exact U.drewN _) (by rw [HS.out]; exact RB.out)
       rw [HB0.out (by first | rfl | trivial)]
       rw [HD.out] at hx
       rw [HS.out] at hx ⊢
       exact ⟨(), rfl, hx⟩
      ·obtain rfl : tt = false := HT.out.symm.trans (by decide)
       have ez : zs.length = S := hz
       have CS := Lib.hid (fun W (u : Up wr W) => sum15_any W _ _ _ _ S cA S l zs (RR1.up u) (OB.up u) (by omega))
       have U0 := U
       have Q1 := HQ.out.up (by first | exact U | exact U.drew | exact U.drewN _)
       have Q10 := Q1.get 0
       have Q11 := Q1.get 1
       have Q12 := Q1.get 2
       have Q1f := Q1.fr 2
       have Q1l := Ob.lt Q1
       simp only [M.z7, M.z8, M.z9] at Q10 Q11 Q12
       obtain ⟨X0, X1, X2, X3⟩ := X.g4
       obtain ⟨Y0, Y1, Y2, Y3⟩ := Y.g4
       go_wp2_with fail
       clear Q1 Q10 Q11 Q12 Q1f Q1l X0 X1 X2 X3 Y0 Y1 Y2 Y3
       refine (CS.out _ (by first | exact Up.refl _ | exact (Up.refl _).drew | exact (Up.refl _).drewN _)).mono ?_
       rintro _ w21 ⟨B, d, rfl, R2, u⟩
       replace U := Up.trans (by first | exact U | exact U.drew | exact U.drewN _) u
       replace X := X.up (Up.trans (by first | exact Up.refl _ | exact (Up.refl _).drew | exact (Up.refl _).drewN _) u)
       replace Y := Y.up (Up.trans (by first | exact Up.refl _ | exact (Up.refl _).drew | exact (Up.refl _).drewN _) u)
       have eN : (M.sqm false l (zs)).length = S := by rw [M.sqm_len _ _ _ (by rw [HL.out]; exact ez.symm)]; exact HL.out
       have HD : Hid (M.bq (M.sqm false l (zs)) = M.ad (2 ^ M.qS i) b P) := by
        show _ = _
        rw [M.bq_sqm _ _ _ (by rw [HL.out]; exact ez.symm), HL.out, HB.out, HS.out]
        rw [HZ.out]; rfl
       rw [eN] at R2 ⊢
       have RB : Hid (Rb w21 w.heap.size B S d (M.sqm false l (zs))) := Lib.hid (R2.lower (by have := U0.size; first | exact this | (simp at this ⊢; omega) | omega))
       clear eN R2 u U0 CS
       have Q1 := HQ.out.up (by first | exact U | exact U.drew | exact U.drewN _)
       have Q10 := Q1.get 0
       have Q11 := Q1.get 1
       have Q12 := Q1.get 2
       have Q1f := Q1.fr 2
       have Q1l := Ob.lt Q1
       simp only [M.z7, M.z8, M.z9] at Q10 Q11 Q12
       obtain ⟨X0, X1, X2, X3⟩ := X.g4
       obtain ⟨Y0, Y1, Y2, Y3⟩ := Y.g4
       go_wp2_with fail
       clear Q1 Q10 Q11 Q12 Q1f Q1l X0 X1 X2 X3 Y0 Y1 Y2 Y3
       go_end0
       have hx := HH.out.put (by first | exact U | exact U.drew | exact U.drewN _) (by rw [HS.out]; exact RB.out)
       rw [HB0.out (by first | rfl | trivial)]
       rw [HD.out] at hx
       rw [HS.out] at hx ⊢
       exact ⟨(), rfl, hx⟩
      ·obtain rfl : tt = true := HT.out.symm.trans (by decide)
       have CT := Lib.hid (fun W (u : Up wr W) => turned15_any W _ _ S S zs (OB.up u) (by omega))
       have Q1 := HQ.out.up (by first | exact U | exact U.drew | exact U.drewN _)
       have Q10 := Q1.get 0
       have Q11 := Q1.get 1
       have Q12 := Q1.get 2
       have Q1f := Q1.fr 2
       have Q1l := Ob.lt Q1
       simp only [M.z7, M.z8, M.z9] at Q10 Q11 Q12
       obtain ⟨X0, X1, X2, X3⟩ := X.g4
       obtain ⟨Y0, Y1, Y2, Y3⟩ := Y.g4
       go_wp2_with fail
       clear Q1 Q10 Q11 Q12 Q1f Q1l X0 X1 X2 X3 Y0 Y1 Y2 Y3
       refine (CT.out _ (by first | exact Up.refl _ | exact (Up.refl _).drew | exact (Up.refl _).drewN _)).mono ?_
       rintro _ w21 ⟨TA, tc, rfl, RT, u⟩
       replace U := Up.trans (by first | exact U | exact U.drew | exact U.drewN _) u
       replace X := X.up (Up.trans (by first | exact Up.refl _ | exact (Up.refl _).drew | exact (Up.refl _).drewN _) u)
       replace Y := Y.up (Up.trans (by first | exact Up.refl _ | exact (Up.refl _).drew | exact (Up.refl _).drewN _) u)
       have ez : (M.tqn false zs).length = S := by rw [M.tqn_len, hz]
       rw [ez] at RT ⊢
       replace RR1 := RR1.up (Up.trans (by first | exact Up.refl _ | exact (Up.refl _).drew | exact (Up.refl _).drewN _) u)
       clear u CT
       have CS := Lib.hid (fun W (u : Up w21 W) => sum15_any W _ _ _ _ S cA tc l (M.tqn false zs) (RR1.up u) (RT.up u) (by omega))
       have U0 := U
       have Q1 := HQ.out.up (by first | exact U | exact U.drew | exact U.drewN _)
       have Q10 := Q1.get 0
       have Q11 := Q1.get 1
       have Q12 := Q1.get 2
       have Q1f := Q1.fr 2
       have Q1l := Ob.lt Q1
       simp only [M.z7, M.z8, M.z9] at Q10 Q11 Q12
       obtain ⟨X0, X1, X2, X3⟩ := X.g4
       obtain ⟨Y0, Y1, Y2, Y3⟩ := Y.g4
       go_wp2_with fail
       clear Q1 Q10 Q11 Q12 Q1f Q1l X0 X1 X2 X3 Y0 Y1 Y2 Y3
       refine (CS.out _ (by first | exact Up.refl _ | exact (Up.refl _).drew | exact (Up.refl _).drewN _)).mono ?_
       rintro _ w22 ⟨B, d, rfl, R2, u⟩
       replace U := Up.trans (by first | exact U | exact U.drew | exact U.drewN _) u
       replace X := X.up (Up.trans (by first | exact Up.refl _ | exact (Up.refl _).drew | exact (Up.refl _).drewN _) u)
       replace Y := Y.up (Up.trans (by first | exact Up.refl _ | exact (Up.refl _).drew | exact (Up.refl _).drewN _) u)
       have eN : (M.sqm false l (M.tqn false zs)).length = S := by rw [M.sqm_len _ _ _ (by rw [HL.out]; exact ez.symm)]; exact HL.out
       have HD : Hid (M.bq (M.sqm false l (M.tqn false zs)) = M.ad (2 ^ M.qS i) b (M.ng (2 ^ M.qS i) P)) := by
        show _ = _
        rw [M.bq_sqm _ _ _ (by rw [HL.out]; exact ez.symm), HL.out, HB.out, HS.out]
        rw [M.bq_tqn, hz, HZ.out]; rfl
       rw [eN] at R2 ⊢
       have RB : Hid (Rb w22 w.heap.size B S d (M.sqm false l (M.tqn false zs))) := Lib.hid (R2.lower (by have := U0.size; first | exact this | (simp at this ⊢; omega) | omega))
       clear eN R2 u U0 CS
       have Q1 := HQ.out.up (by first | exact U | exact U.drew | exact U.drewN _)
       have Q10 := Q1.get 0
       have Q11 := Q1.get 1
       have Q12 := Q1.get 2
       have Q1f := Q1.fr 2
       have Q1l := Ob.lt Q1
       simp only [M.z7, M.z8, M.z9] at Q10 Q11 Q12
       obtain ⟨X0, X1, X2, X3⟩ := X.g4
       obtain ⟨Y0, Y1, Y2, Y3⟩ := Y.g4
       go_wp2_with fail
       clear Q1 Q10 Q11 Q12 Q1f Q1l X0 X1 X2 X3 Y0 Y1 Y2 Y3
       go_end0
       have hx := HH.out.put (by first | exact U | exact U.drew | exact U.drewN _) (by rw [HS.out]; exact RB.out)
       rw [HB1.out (by first | rfl | trivial)]
       rw [HD.out] at hx
       rw [HS.out] at hx ⊢
       exact ⟨(), rfl, hx⟩
end Go.Proofs.YtijpffgocookaaaGreatDoor
