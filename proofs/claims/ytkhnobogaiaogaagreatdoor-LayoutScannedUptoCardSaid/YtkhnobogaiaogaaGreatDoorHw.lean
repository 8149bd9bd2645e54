/-
  Package layout: the digits of a text, or a panic: digitsOf's contract.
-/
import Derived.Test.YtkhnobogaiaogaaGreatDoorHv
namespace Go.Proofs.YtkhnobogaiaogaaGreatDoor
open Go.RowKit Go.Shelf
set_option linter.unusedVariables false
set_option linter.unusedSimpArgs false

/-- What digitsOf comes to. -/
def Dgo (l : List UInt8) (w : World) (e : Ending) (w' : World) : Prop :=
  (∃ ng a k A n c, M.rtn a k ∧ M.ly ng a k = l ∧ e = .returned (dv ng (.slice A n c) k) ∧ Nt w' w.heap.size 128 (.slice A n c) a ∧ Up w w') ∨ ((∀ ng a k, M.rtn a k → M.ly ng a k ≠ l) ∧ Pnl w e w')
theorem M.ly_only {l : List UInt8} {ng : Bool} {a : Nat} {k : Int} (h : M.rtn a k) (e : M.ly ng a k = l) : Lib.hasPrefix l [45] = ng ∧ M.szx (Lib.trimPrefix l [45]) = some (a, k) := by
  subst e
  refine M.ly_back ng a k ?_
  rcases h with h | ⟨h1, h2, h3, h4⟩
  · exact .inl h
  · exact .inr ⟨h1, h4, h3, h2.1, h2.2⟩
theorem M.trim_len (l p : List UInt8) : (Lib.trimPrefix l p).length ≤ l.length := by
  unfold Lib.trimPrefix
  split
  · rw [List.length_drop]; omega
  · exact Nat.le_refl _
theorem cutp_any (w : World) (s : ByteArray) (l : List UInt8) (hs : Tx s l) : Calls Tryz.prog 45 #[.string s, .string ⟨#[45]⟩] w (fun e w' => ∃ t, e = .returned (.tuple #[.string t, .bool (Lib.hasPrefix l [45])]) ∧ Tx t (Lib.trimPrefix l [45]) ∧ w = w') := by
  refine (Tryz.strings_CutPrefix s ⟨#[45]⟩ w).mono ?_
  rintro _ _ ⟨rfl, rfl⟩
  rw [show s.data.toList = l from hs, show (⟨#[45]⟩ : ByteArray).data.toList = [45] from rfl]
  exact ⟨_, rfl, Tx.lit _, rfl⟩

set_option maxHeartbeats 4000000 in
set_option maxRecDepth 100000 in
theorem digitsOf_any (w : World) (TW : TabW w) (EB : ErrB w) (s : ByteArray) (l : List UInt8) (hs : Tx s l) (hl : l.length ≤ 3000) :
    Calls Tryz.prog 29 #[.string s] w (Dgo l w) := by
  have hone := Lib.hid (fun ng a k (h : M.rtn a k) (e : M.ly ng a k = l) => M.ly_only h e)
  have htl := M.trim_len l [45]
  have CC := Lib.hid (fun W => cutp_any W s l hs)
  have TWh := Lib.hid TW
  have EBh := Lib.hid EB
  have HS := Lib.hid hs
  obtain ⟨ng, hng⟩ : ∃ ng, Lib.hasPrefix l [45] = ng := ⟨_, rfl⟩
  have CS := Lib.hid (fun W (u : Up w W) X (tX : Tx X (Lib.trimPrefix l [45])) => sizeOf_any W (EB.up u) X _ tX (by omega))
  rw [hng] at hone CC
  generalize Lib.trimPrefix l [45] = tl at *
  clear TW EB hs hng
  go_enter Tryz.func29, Tryz.ntmps29
  go_upto_region 1 with fail
  obtain ⟨V, hV⟩ : ∃ V, w.alloc (.cells #[.bool false, .slice none 0 0, .int .i64 0] 25) = V := ⟨_, rfl⟩
  have R : Ob V w.heap.size 25 #[.bool false, .slice none 0 0, .int .i64 0] := by rw [← hV]; exact Ob.mk_ _ _ _
  have U : Up w V := by rw [← hV]; exact (Up.refl _).alloc _
  rw [hV]
  clear hV
  go_wp2_with fail
  refine (CC.out _).mono ?_
  rintro _ W0 ⟨X, rfl, tX, hw0⟩
  replace U : Up w W0 := by rw [← hw0]; first | exact U | exact U.drew
  replace R : Ob W0 w.heap.size 25 #[.bool false, .slice none 0 0, .int .i64 0] := by rw [← hw0]; exact R
  clear hw0 CC
  go_wp2_with fail
  refine (CS.out _ (by first | exact U | exact U.drew) X tX).mono ?_
  rintro _ W1 (⟨a, k, A, n, c, hz, rfl, N1, u1⟩ | ⟨hz, rfl, u1⟩)
  · have g0 : w.heap.size < W0.heap.size := R.lt
    replace N1 := N1.lower (lo' := W0.heap.size) (by first | exact Nat.le_refl _ | (show W0.heap.size ≤ W0.drew.heap.size; exact Nat.le_refl _))
    replace U := Up.trans (by first | exact U | exact U.drew) u1
    replace R := R.up u1
    have HZ := Lib.hid hz
    clear u1 hz CS tX
    go_upto_region 3 with (refine store_ob rfl 25 (.tmp 5) (.tmp 12) rfl _ #[.bool false, .slice none 0 0, .int .i64 0] #[.bool false, .slice A n c, .int .i64 k] rfl rfl 3 (by kernel_rfl) rfl rfl (by simp [Value.oneCell']) W1 ((Up.refl _).alloc _) (Nat.le_refl _) 25 (Ob.mk_ _ _ _) ?_; intro V2 X2 q2)
    have gx : w.heap.size < W1.heap.size := R.lt
    obtain ⟨ga, hga⟩ : ∃ g, W1.heap.size = g := ⟨_, rfl⟩
    have x0 := X2.get 0
    have x1 := X2.get 1
    have x2 := X2.get 2
    simp only [List.getElem?_toArray, List.getElem?_cons_zero, List.getElem?_cons_succ] at x0 x1 x2
    have xf0 := X2.fr 0
    rw [hga] at x0 x1 x2 xf0 X2 gx ⊢
    replace R := R.up q2
    go_upto_region 4 with fail
    have oV : ∀ b', b' ≠ ga → (V2.setCell ⟨ga, 0, none⟩ (.bool ng)).heap[b']? = V2.heap[b']? := fun b' hne => Below.heap_setCell _ _ _ b' hne
    have X3 : Ob (V2.setCell ⟨ga, 0, none⟩ (.bool ng)) ga 25 #[.bool ng, .slice A n c, .int .i64 k] := X2.put 0 (.bool ng)
    have R3 := R.oth oV (by omega)
    have q3 : Up W1 (V2.setCell ⟨ga, 0, none⟩ (.bool ng)) := q2.setCell (p := ⟨ga, 0, none⟩) (Nat.le_of_eq hga) _
    obtain ⟨V3, hV3⟩ : ∃ V3, V2.setCell ⟨ga, 0, none⟩ (.bool ng) = V3 := ⟨_, rfl⟩
    rw [hV3] at X3 R3 q3 ⊢
    clear hV3 oV X2 R q2 x0 x1 x2 xf0 hga
    have N3 := N1.up q3
    replace U := U.trans q3
    clear N1 q3
    obtain ⟨xs, D3, hv, hn⟩ := (N3.lower (Nat.zero_le _)).dr (by omega)
    obtain ⟨r, hr⟩ : ∃ r, decide (M.rt xs k) = r := ⟨_, rfl⟩
    have CR := Lib.hid (fun W (u : Up V3 W) => lright_any W ng A n c xs k r (TWh.out.up (U.trans u)) (D3.up u) (Lib.hid hr))
    have CL := Lib.hid (fun W (u : Up V3 W) => llayout_any W ng A n c xs k (TWh.out.up (U.trans u)) (D3.up u))
    rw [M.lyr_nrm hn, hv] at CL
    have hr2 : decide (M.rtn a k) = r := by
      rw [← hr, Bool.eq_iff_iff, decide_eq_true_iff, decide_eq_true_iff, ← hv]
      exact ⟨fun h => ⟨hn, h⟩, fun h => h.2⟩
    clear D3 hv hn hr
    have x0 := X3.get 0
    have x1 := X3.get 1
    have x2 := X3.get 2
    simp only [List.getElem?_toArray, List.getElem?_cons_zero, List.getElem?_cons_succ] at x0 x1 x2
    cases r with
    | false =>
      have hno : Hid (∀ ng a k, M.rtn a k → M.ly ng a k ≠ l) := fun ng' a' k' h' e' => by
        obtain ⟨e1, e2⟩ := hone.out ng' a' k' h' e'
        rw [HZ.out] at e2
        cases e2
        exact absurd h' (of_decide_eq_false hr2)
      clear CL hone hr2
      go_wp2_with fail
      refine (CR.out _ (by repeat (first | exact Up.refl _ | refine Up.drew ?_ | refine Up.drewN ?_ _))).mono ?_
      rintro _ W5 ⟨rfl, u5⟩
      replace U := U.trans (Up.trans (by repeat (first | exact Up.refl _ | refine Up.drew ?_ | refine Up.drewN ?_ _)) u5)
      clear u5
      go_wp2_with fail
      refine (lmust_bad _).mono ?_
      rintro _ W6 ⟨rfl, u6⟩
      exact ⟨rfl, .inr ⟨hno.out, rfl, Up.trans (by first | exact U | exact U.drew) u6⟩⟩
    | true =>
      have hrt : M.rtn a k := of_decide_eq_true hr2
      have HRT := Lib.hid hrt
      rw [show M.lyn ng a k = M.ly ng a k from if_pos hrt] at CL
      clear hr2 hrt
      go_wp2_with fail
      refine (CR.out _ (by repeat (first | exact Up.refl _ | refine Up.drew ?_ | refine Up.drewN ?_ _))).mono ?_
      rintro _ W5 ⟨rfl, u5⟩
      have v5 : Up V3 W5 := Up.trans (by repeat (first | exact Up.refl _ | refine Up.drew ?_ | refine Up.drewN ?_ _)) u5
      replace U := U.trans v5
      replace X3 := X3.up v5
      replace R3 := R3.up v5
      replace N3 := N3.up v5
      clear u5 x0 x1 x2 CR
      have x0 := X3.get 0
      have x1 := X3.get 1
      have x2 := X3.get 2
      simp only [List.getElem?_toArray, List.getElem?_cons_zero, List.getElem?_cons_succ] at x0 x1 x2
      go_wp2_with fail
      refine (CL.out _ (by first | exact v5 | exact v5.drew)).mono ?_
      rintro _ W6 ⟨T, rfl, tT, u6⟩
      have v6 : Up W5 W6 := Up.trans (by repeat (first | exact Up.refl _ | refine Up.drew ?_ | refine Up.drewN ?_ _)) u6
      replace U := U.trans v6
      replace X3 := X3.up v6
      replace R3 := R3.up v6
      replace N3 := N3.up v6
      clear u6 x0 x1 x2 CL v5 v6
      have x0 := X3.get 0
      have x1 := X3.get 1
      have x2 := X3.get 2
      simp only [List.getElem?_toArray, List.getElem?_cons_zero, List.getElem?_cons_succ] at x0 x1 x2
      have HT := Lib.hid tT
      clear tT
      have hb : (T.toList == s.toList) = decide (M.ly ng a k = l) := by
        rw [Lib.toList_data, Lib.toList_data, show T.data.toList = M.ly ng a k from HT.out, show s.data.toList = l from HS.out, Bool.eq_iff_iff, beq_iff_eq, decide_eq_true_iff]
      by_cases he : M.ly ng a k = l
      · rw [decide_eq_true he] at hb
        have HE := Lib.hid he
        clear he
        go_wp2_with fail
        refine (lmust_ok _).mono ?_
        rintro _ _ ⟨rfl, rfl⟩
        go_wp2_with (refine store_ob2 rfl 25 (.tmp 2) (.tmp 24) rfl _ #[.bool false, .slice none 0 0, .int .i64 0] #[.bool ng, .slice A n c, .int .i64 k] rfl rfl 3 (by kernel_rfl) rfl rfl (by simp [Value.oneCell']) w U (Nat.le_refl _) 25 R3 ?_; intro V9 Z9 U9 ho)
        have z0 := Z9.get 0
        have z1 := Z9.get 1
        have z2 := Z9.get 2
        simp only [List.getElem?_toArray, List.getElem?_cons_zero, List.getElem?_cons_succ] at z0 z1 z2
        refine bodyPost_ret (v := dv ng (.slice A n c) k) (by simp [results, Tryz.results29, go_sem, z0, z1, z2]) rfl ?_
        exact .inl ⟨ng, a, k, A, n, c, HRT.out, HE.out, rfl, (N3.other ho g0).lower (Nat.le_of_lt g0), U9⟩
      · have hno : Hid (∀ ng a k, M.rtn a k → M.ly ng a k ≠ l) := fun ng' a' k' h' e' => by
          obtain ⟨e1, e2⟩ := hone.out ng' a' k' h' e'
          rw [HZ.out] at e2
          cases e2
          rw [e1] at he
          exact he e'
        rw [decide_eq_false he] at hb
        clear hone he
        go_wp2_with fail
        refine (lmust_bad _).mono ?_
        rintro _ W9 ⟨rfl, u9⟩
        exact ⟨rfl, .inr ⟨hno.out, rfl, Up.trans (by first | exact U | exact U.drew) u9⟩⟩
  · have hno : Hid (∀ ng a k, M.rtn a k → M.ly ng a k ≠ l) := fun ng' a' k' h' e' => by
      obtain ⟨e1, e2⟩ := hone.out ng' a' k' h' e'
      rw [hz] at e2
      cases e2
    exact ⟨rfl, .inr ⟨hno.out, rfl, Up.trans (by first | exact U | exact U.drew) u1⟩⟩
end Go.Proofs.YtkhnobogaiaogaaGreatDoor
