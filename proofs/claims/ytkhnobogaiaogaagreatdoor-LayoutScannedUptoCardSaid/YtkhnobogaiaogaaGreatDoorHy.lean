/-
  LayoutScanned: its walk, of digits of not too many words.
-/
import Derived.Test.YtkhnobogaiaogaaGreatDoorHf
import Derived.Test.YtkhnobogaiaogaaGreatDoorHx
import Derived.Test.YtkhnobogaiaogaaGreatDoorSva
namespace Go.Proofs.YtkhnobogaiaogaaGreatDoor
open Go.RowKit Go.Shelf
set_option linter.unusedVariables false
set_option linter.unusedSimpArgs false

namespace M
theorem rs_ly {a : Nat} {k : Int} (h : Lok a k) (ng : Bool) (hl : (dgs a).length ≤ 1990) (hk : -1000 < ((dgs a).length : Int) + k ∧ ((dgs a).length : Int) + k ≤ 1000) : rs (ly ng a k) = (⟨1, ng, ⟨a, k, 0, false⟩⟩, 0, 0) := by
  obtain ⟨x, h1, h2, h3⟩ := ly_scan h ng
  rw [rs_ok h1]
  have h4 := h3.st
  unfold itm
  rw [if_neg (by omega), h3.num, num_ly h hl hk, h2]
theorem dgs_len (a : Nat) : (dgs a).length = (if a = 0 then 0 else (Lib.decDigits a).length) := by
  unfold dgs
  split <;> rfl
end M
/-- Words that came in, of not too many. -/
theorem wd_src {w : World} {A : Option Addr} {n c : Nat} {xs : List Nat} (h : Src w A n c xs) (hz : ∀ ad, A = some ad → ∀ j, j < n → w.frozen? (ad.add j) = false) (hn : n ≤ 1099511627776) : Wd w 0 A n c xs := by
  have hlen := h.len
  refine ⟨h.num, h.len, hn, h.wds, fun h0 => ?_⟩
  rcases A with _ | ⟨b, o, sp⟩
  · have := h.none_ rfl
    omega
  · have c0 := h.at_ _ rfl 0 h0
    have e : sp = none := by
      rcases sp with _ | sp
      · rfl
      · exfalso
        simp only [Addr.add, if_pos rfl, World.cell?] at c0
        split at c0 <;> simp at c0
    subst e
    refine ⟨b, o, rfl, Nat.zero_le _, fun j hj => ?_⟩
    have e : (Addr.mk b o none).add j = ⟨b, o + j, none⟩ := by
      unfold Addr.add
      split
      · rename_i e; subst e; rfl
      · rfl
    rw [← e]
    exact ⟨h.at_ _ rfl j hj, hz _ rfl j hj⟩

set_option maxHeartbeats 8000000 in
set_option maxRecDepth 100000 in
theorem lscan_walk (w : World) (TW : TabW w) (EW : ErrB w) (F : Lay) (ng : Bool) (A : Option Addr) (n c : Nat) (xs : List Nat) (D : Dr w A n c xs) (hW : Wd w 0 A n c xs) (hn : n ≤ 1048576) (k : Int) (hk : -9223372036854775808 ≤ k ∧ k ≤ 9223372036854775807) :
    Calls Tryz.prog 5 #[dv ng (.slice A n c) k] w (True12 w) := by
  obtain ⟨r, hr⟩ : ∃ r, decide (M.rt xs k) = r := ⟨_, rfl⟩
  obtain ⟨a, ha⟩ : ∃ a, M.val xs = a := ⟨_, rfl⟩
  have NW : Nw w 0 1048576 (.slice A n c) a := ⟨_, _, _, _, rfl, hW, ha, hn⟩
  have hlt := NW.lt
  have hroom := M.dd_room a 1048576 hlt
  obtain ⟨S, HS0⟩ := tx_ex (Lib.decDigits a)
  have hsz := HS0.size
  have CT : Hid (∀ W, Up w W → Calls Tryz.prog 16 #[.slice A n c] W (Str S W)) := fun W u => text_of W 0 1048576 _ a (NW.up u) (by omega) (TW.up u) S (Tx.uniq (Tx.lit _) HS0)
  have C1 : Hid (∀ W, Up w W → Calls Tryz.prog 10 #[dv ng (.slice A n c) k] W (Boo r W)) := fun W u => F.right W ng A n c xs k r (TW.up u) (EW.up u) (D.up u) hk (Lib.hid hr)
  have C3 : Hid (∀ W, Up w W → Calls Tryz.prog 12 #[dv ng (.slice A n c) k] W (Tex (M.lyr ng xs k) W)) := fun W u => F.layout W ng A n c xs k (TW.up u) (EW.up u) (D.up u) hk
  have U := (Up.refl w).alloc (.cells #[.bool ng, .slice A n c, .int .i64 k] 25)
  have CS := Lib.hid (shown12_any F _ (TW.up U) (EW.up U))
  have sl : S.size ≤ 30000000 := by omega
  have HNW := Lib.hid NW
  have HEW := Lib.hid EW
  clear hlt hroom hW D F TW NW EW
  cases r with
  | false =>
    clear hr hsz HS0 ha hk C3
    go_enter Tryz.func5, Tryz.ntmps5
    go_wp2_with fail
    refine CS.out.mono ?_
    rintro _ w1 ⟨rfl, u1⟩
    have B := (Ob.mk_ w 25 #[.bool ng, .slice A n c, .int .i64 k]).up u1
    have b0 := B.get 0
    have b1 := B.get 1
    have b2 := B.get 2
    simp only [List.getElem?_toArray, List.getElem?_cons_zero, List.getElem?_cons_succ] at b0 b1 b2
    replace U := U.trans u1
    clear u1 CS
    go_wp2_with fail
    refine (CT.out _ U).mono ?_
    rintro _ w2 ⟨rfl, u2⟩
    replace B := B.up u2
    clear b0 b1 b2
    have b0 := B.get 0
    have b1 := B.get 1
    have b2 := B.get 2
    simp only [List.getElem?_toArray, List.getElem?_cons_zero, List.getElem?_cons_succ] at b0 b1 b2
    replace U := U.trans u2
    clear u2 CT
    go_wp2_with fail
    refine (C1.out _ U).mono ?_
    rintro _ w3 ⟨rfl, u3⟩
    replace U := U.trans u3
    go_wp2_with fail
    go_ret
    exact ⟨rfl, U⟩
  | true =>
    have hrt : M.rt xs k := of_decide_eq_true hr
    have hra : M.rtn a k := by rw [← ha]; exact hrt.2
    have e3 : M.lyr ng xs k = M.ly ng a k := by
      unfold M.lyr
      rw [if_pos hrt, ha]
    rw [e3] at C3
    obtain ⟨⟨k1, k2⟩, hl⟩ := hra.bds
    obtain ⟨p, hp⟩ : ∃ p : Int, (S.size : Int) + k = p := ⟨_, rfl⟩
    have bp : -6000 ≤ p ∧ p ≤ 8000 := by omega
    obtain ⟨bp1, bp2⟩ := bp
    have key : (decide ((S.size : Int) > 1900) = true ∨ (decide ((S.size : Int) > 1900) = false ∧ decide (p > 900) = true) ∨ (decide ((S.size : Int) > 1900) = false ∧ decide (p > 900) = false ∧ decide (p < -900) = true)) ∨ (decide ((S.size : Int) > 1900) = false ∧ decide (p > 900) = false ∧ decide (p < -900) = false ∧ S.size ≤ 1900 ∧ p ≤ 900 ∧ -900 ≤ p) := by
      by_cases x1 : (S.size : Int) > 1900
      · exact .inl (.inl (decide_eq_true x1))
      · by_cases x2 : p > 900
        · exact .inl (.inr (.inl ⟨decide_eq_false x1, decide_eq_true x2⟩))
        · by_cases x3 : p < -900
          · exact .inl (.inr (.inr ⟨decide_eq_false x1, decide_eq_false x2, decide_eq_true x3⟩))
          · exact .inr ⟨decide_eq_false x1, decide_eq_false x2, decide_eq_false x3, by omega, by omega, by omega⟩
    have HRA := Lib.hid hra
    have HSZ := Lib.hid hsz
    have KEY := Lib.hid key
    clear hr hrt hra e3 hl hk ha HS0 hsz key
    go_enter Tryz.func5, Tryz.ntmps5
    go_wp2_with fail
    refine CS.out.mono ?_
    rintro _ w1 ⟨rfl, u1⟩
    have B := (Ob.mk_ w 25 #[.bool ng, .slice A n c, .int .i64 k]).up u1
    have b0 := B.get 0
    have b1 := B.get 1
    have b2 := B.get 2
    simp only [List.getElem?_toArray, List.getElem?_cons_zero, List.getElem?_cons_succ] at b0 b1 b2
    replace U := U.trans u1
    clear u1 CS
    go_wp2_with fail
    refine (CT.out _ U).mono ?_
    rintro _ w2 ⟨rfl, u2⟩
    replace B := B.up u2
    clear b0 b1 b2
    have b0 := B.get 0
    have b1 := B.get 1
    have b2 := B.get 2
    simp only [List.getElem?_toArray, List.getElem?_cons_zero, List.getElem?_cons_succ] at b0 b1 b2
    replace U := U.trans u2
    clear u2 CT
    go_wp2_with fail
    refine (C1.out _ U).mono ?_
    rintro _ w3 ⟨rfl, u3⟩
    replace B := B.up u3
    clear b0 b1 b2
    have b0 := B.get 0
    have b1 := B.get 1
    have b2 := B.get 2
    simp only [List.getElem?_toArray, List.getElem?_cons_zero, List.getElem?_cons_succ] at b0 b1 b2
    replace U := U.trans u3
    clear u3 C1
    rcases KEY.out with (d1 | ⟨d1, d2⟩ | ⟨d1, d2, d3⟩) | ⟨d1, d2, d3, n1, n2, n3⟩
    · go_wp2_with fail
      go_ret
      exact ⟨rfl, U⟩
    · go_wp2_with fail
      go_ret
      exact ⟨rfl, U⟩
    · go_wp2_with fail
      go_ret
      exact ⟨rfl, U⟩
    · have hrs : M.rs (M.ly ng a k) = (⟨1, ng, ⟨a, k, 0, false⟩⟩, 0, 0) := by
        have hz := HSZ.out
        refine M.rs_ly HRA.out.lok ng ?_ ?_
        · rw [M.dgs_len]; split <;> omega
        · rw [M.dgs_len]
          split
          · rename_i e0
            rcases HRA.out with ⟨_, e1⟩ | ⟨e1, _⟩
            · rw [e1]; decide
            · exact absurd e0 e1
          · omega
      have HRS := Lib.hid hrs
      have hlen : (M.ly ng a k).length ≤ 20000 := by
        obtain ⟨kk, hl⟩ := HRA.out.bds
        rw [M.ly_lyu, List.length_append]
        have h1 : (M.sgt ng).length ≤ 1 := by cases ng <;> simp [M.sgt]
        have h2 : (M.lyu a k).length ≤ 12000 := by
          unfold M.lyu
          split
          · simp
          · exact M.lyb_len _ k hl kk
        omega
      have HLEN := Lib.hid hlen
      clear hrs hlen HSZ
      go_wp2_with fail
      refine (C3.out _ U).mono ?_
      rintro _ w4 ⟨T, rfl, tT, u4⟩
      replace B := B.up u4
      clear b0 b1 b2
      replace U := U.trans u4
      have hts := tT.size
      have ht : T.size ≤ 20000 := by rw [hts]; exact HLEN.out
      obtain ⟨c5, w5, hcv, SB, u5⟩ := conv_str w4 T _ tT (by omega)
      obtain ⟨g, hg⟩ : ∃ g, w4.heap.size = g := ⟨_, rfl⟩
      rw [hg] at hcv SB
      obtain ⟨m, hm⟩ : ∃ m, T.size = m := ⟨_, rfl⟩
      rw [hm] at hcv SB ht
      have v5 := U.trans u5
      have CV := Lib.hid (scan_val w5 (Lib.hid (HEW.out.syn.up v5)) _ m c5 _ SB (by omega) _ 0 0 HRS.out 1 ng a k 0 false 0 rfl rfl rfl rfl)
      replace B := B.up u5
      replace U := v5
      clear u4 u5 v5 SB hts tT C3 hg hm
      go_wp2_with fail
      refine CV.out.mono ?_
      rintro _ w6 ⟨A6, n6, c6, xs6, rfl, N6, v6, l6, r6, u6⟩
      have T6 := wd_nt N6 v6 l6 r6
      replace B := B.up u6
      replace U := U.trans u6
      clear N6 v6 l6 r6 u6 CV hcv
      go_upto_region 6 with (refine store_ob rfl 36 (.tmp 5) (.tmp 40) rfl _ #[.int .i64 0, .bool false, .slice none 0 0, .int .i64 0, .int .i64 0, .bool false] #[.int .i64 1, .bool ng, .slice A6 n6 c6, .int .i64 k, .int .i64 0, .bool false] rfl rfl 6 (by kernel_rfl) rfl rfl (by simp [Value.oneCell']) w6 ((Up.refl _).alloc _) (Nat.le_refl _) 36 (Ob.mk_ _ _ _) ?_; intro V7 X7 q7)
      replace B := B.up q7
      replace U := U.trans q7
      replace T6 := T6.up q7
      clear q7
      obtain ⟨g7, hg7⟩ : ∃ g, w6.heap.size = g := ⟨_, rfl⟩
      rw [hg7] at X7 ⊢
      clear hg7
      have b0 := B.get 0
      have b1 := B.get 1
      have b2 := B.get 2
      have x0 := X7.get 0
      have x1 := X7.get 1
      have x2 := X7.get 2
      have x3 := X7.get 3
      have x4 := X7.get 4
      have x5 := X7.get 5
      simp only [List.getElem?_toArray, List.getElem?_cons_zero, List.getElem?_cons_succ] at b0 b1 b2 x0 x1 x2 x3 x4 x5
      have CC : Hid (∀ W, Up V7 W → Calls Tryz.prog 18 #[.slice A6 n6 c6, .slice A n c] W (Val (.int .i64 0) W)) := fun W u => by
        have := cmp_any W _ _ _ _ _ _ a a (T6.nw.up u) (HNW.out.up (U.trans u))
        rw [M.cmp_eq rfl] at this
        exact this
      have dn : (ng == ng) = true := by simp
      have dk : (k == k) = true := by simp
      clear T6 HNW HRS HLEN HRA
      go_wp2_with fail
      refine (CC.out _ (by repeat (first | exact Up.refl _ | refine Up.drew ?_ | refine Up.drewN ?_ _))).mono ?_
      rintro _ w8 ⟨rfl, kk, rfl⟩
      go_wp2_with fail
      go_ret
      exact ⟨rfl, U.drewN _⟩
end Go.Proofs.YtkhnobogaiaogaaGreatDoor
