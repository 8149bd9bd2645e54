/-
  LayoutSigns: its walk.
-/
import Derived.Test.YtkhnobogaiaogaaGreatDoorHg
namespace Go.Proofs.YtkhnobogaiaogaaGreatDoor
open Go.RowKit Go.Shelf
set_option linter.unusedVariables false
set_option linter.unusedSimpArgs false

namespace M
theorem count_take {l : List UInt8} {i : Nat} (h : i < l.length) (x : UInt8) : (l.take (i + 1)).count x = (l.take i).count x + (if l.getD i 0 = x then 1 else 0) := by
  rw [take_one h, List.count_append]
  congr 1
  by_cases e : l.getD i 0 = x
  · rw [if_pos e, e]; simp
  · rw [if_neg e, List.count_singleton, if_neg (by simpa using e)]
/-- The cases of LayoutSigns. -/
theorem sign_cases {xs : List Nat} {k : Int} (h : rt xs k) {n L E P : Nat} {p : Int} (hn : xs.length = n) (hL : (Lib.decDigits (val xs)).length = L) (hp : (L : Int) + k = p) (hE : (lyr false xs k).count 101 = E) (hP : (lyr false xs k).count 46 = P) :
    (n = 0 ∧ p = 1 ∧ E = 0 ∧ P = 0) ∨ (0 < n ∧ (21 < p ∧ 1 < L ∧ E = 1 ∧ P = 1 ∨ 21 < p ∧ ¬ 1 < L ∧ E = 1 ∧ P = 0 ∨ ¬ 21 < p ∧ p < -5 ∧ 1 < L ∧ E = 1 ∧ P = 1 ∨ ¬ 21 < p ∧ p < -5 ∧ ¬ 1 < L ∧ E = 1 ∧ P = 0 ∨ ¬ 21 < p ∧ ¬ p < -5 ∧ k < 0 ∧ E = 0 ∧ P = 1 ∨ ¬ 21 < p ∧ ¬ p < -5 ∧ ¬ k < 0 ∧ E = 0 ∧ P = 0)) := by
  have h0 := h
  rw [lyr, if_pos h] at hE hP
  obtain ⟨h1, h2⟩ := h
  rcases h2 with ⟨h3, h4⟩ | ⟨h3, _, _, h4⟩
  · left
    have hx := val_zero h1 h3
    subst hx
    have e : ly false (val []) k = [48] := rfl
    rw [e] at hE hP
    have : (Lib.decDigits (val [])).length = 1 := by rw [show val [] = 0 from rfl, Lib.decDigits_one (by omega)]; rfl
    refine ⟨by rw [← hn]; rfl, by omega, hE.symm, hP.symm⟩
  · right
    have e : ly false (val xs) k = lyb (Lib.decDigits (val xs)) k := by unfold ly; rw [if_neg h3]; rfl
    obtain ⟨c1, c2⟩ := lyb_counts (cl_dec h3 h4) k
    rw [e, c1, hL, hp] at hE
    rw [e, c2, hL, hp] at hP
    have hn0 : 0 < n := by
      rcases Nat.eq_zero_or_pos n with e0 | e0
      · exfalso
        have : xs = [] := List.eq_nil_of_length_eq_zero (by omega)
        rw [this] at h3
        exact h3 rfl
      · exact e0
    refine ⟨hn0, ?_⟩
    by_cases a1 : 21 < p
    · have hf : lfar p := .inl a1
      rw [if_pos hf] at hE
      by_cases a2 : 1 < L
      · rw [if_pos (.inl ⟨hf, a2⟩)] at hP
        exact .inl ⟨a1, a2, hE.symm, hP.symm⟩
      · rw [if_neg (by rintro (h | h); exact a2 h.2; exact h.1 hf)] at hP
        exact .inr (.inl ⟨a1, a2, hE.symm, hP.symm⟩)
    · by_cases a3 : p < -5
      · have hf : lfar p := .inr a3
        rw [if_pos hf] at hE
        by_cases a2 : 1 < L
        · rw [if_pos (.inl ⟨hf, a2⟩)] at hP
          exact .inr (.inr (.inl ⟨a1, a3, a2, hE.symm, hP.symm⟩))
        · rw [if_neg (by rintro (h | h); exact a2 h.2; exact h.1 hf)] at hP
          exact .inr (.inr (.inr (.inl ⟨a1, a3, a2, hE.symm, hP.symm⟩)))
      · have hf : ¬ lfar p := by rintro (h | h); exact a1 h; exact a3 h
        rw [if_neg hf] at hE
        by_cases a4 : k < 0
        · rw [if_pos (.inr ⟨hf, a4⟩)] at hP
          exact .inr (.inr (.inr (.inr (.inl ⟨a1, a3, a4, hE.symm, hP.symm⟩))))
        · rw [if_neg (by rintro (h | h); exact hf h.1; exact a4 h.2)] at hP
          exact .inr (.inr (.inr (.inr (.inr ⟨a1, a3, a4, hE.symm, hP.symm⟩))))
theorem ly_len {ng : Bool} {a : Nat} {k : Int} (h : rtn a k) : (ly ng a k).length ≤ 2100 := by
  have hs : (sgt ng).length ≤ 1 := by unfold sgt; split <;> simp
  unfold ly
  rw [List.length_append]
  rcases h with ⟨h1, _⟩ | ⟨h1, ⟨k1, k2⟩, h2, _⟩
  · rw [if_pos h1]; simp; omega
  · rw [if_neg h1]
    generalize Lib.decDigits a = S at *
    have hn : (ntx (S.length + k - 1)).length ≤ 8 := by
      have := dd_len7 (S.length + k - 1 : Int).natAbs (by omega)
      unfold ntx sgt
      rw [List.length_append]
      split <;> simp <;> omega
    unfold lyb
    split
    · rw [List.length_append, List.length_append, List.length_cons, List.length_take]
      split
      · rw [List.length_cons, List.length_drop]; omega
      · simp; omega
    · rename_i hf
      unfold lfar at hf
      split
      · rw [List.length_cons, List.length_cons, List.length_append, List.length_replicate]; omega
      · split
        · rw [List.length_append, List.length_replicate]; omega
        · rw [List.length_append, List.length_cons, List.length_take, List.length_drop]; omega
theorem lyr_len (ng : Bool) (xs : List Nat) (k : Int) : (lyr ng xs k).length ≤ 2100 := by
  unfold lyr
  split
  · rename_i h; exact ly_len h.2
  · simp
end M

set_option maxHeartbeats 8000000 in
set_option maxRecDepth 100000 in
theorem lsigns_walk (w : World) (TW : TabW w) (EW : ErrB w) (F : Lay) (ng : Bool) (A : Option Addr) (n c : Nat) (xs : List Nat) (D : Dr w A n c xs) (k : Int) (hk : -9223372036854775808 ≤ k ∧ k ≤ 9223372036854775807) :
    Calls Tryz.prog 6 #[dv ng (.slice A n c) k] w (True12 w) := by
  obtain ⟨r, hr⟩ : ∃ r, decide (M.rt xs k) = r := ⟨_, rfl⟩
  have C1 : Hid (∀ W, Up w W → Calls Tryz.prog 10 #[dv ng (.slice A n c) k] W (Boo r W)) := fun W u => F.right W ng A n c xs k r (TW.up u) (EW.up u) (D.up u) hk (Lib.hid hr)
  have U := (Up.refl w).alloc (.cells #[.bool ng, .slice A n c, .int .i64 k] 25)
  have CS := Lib.hid (shown12_any F _ (TW.up U) (EW.up U))
  have BX := Ob.mk_ w 25 #[.bool ng, .slice A n c, .int .i64 k]
  rcases r with _ | _
  · clear hr D hk F TW EW
    go_enter Tryz.func6, Tryz.ntmps6
    go_wp2_with fail
    refine CS.out.mono ?_
    rintro _ w1 ⟨rfl, u1⟩
    replace BX := BX.up u1
    have b0 := BX.get 0
    have b1 := BX.get 1
    have b2 := BX.get 2
    simp only [List.getElem?_toArray, List.getElem?_cons_zero, List.getElem?_cons_succ] at b0 b1 b2
    replace U := U.trans u1
    clear u1 BX CS
    go_wp2_with fail
    refine (C1.out _ U).mono ?_
    rintro _ w2 ⟨rfl, u2⟩
    go_wp2_with fail
    go_ret
    exact ⟨rfl, U.trans u2⟩
  · have hr2 : M.rt xs k := of_decide_eq_true hr
    have hn : n ≤ 128 := by have := M.rt_len hr2; rw [D.num] at this; exact this
    obtain ⟨l, hl⟩ : ∃ l, M.lyr false xs k = l := ⟨_, rfl⟩
    have hl2 : M.lyr true xs k = [45] ++ l := by rw [← hl, M.lyr, M.lyr, if_pos hr2, if_pos hr2]; rfl
    have hll : l.length ≤ 2100 := by rw [← hl]; exact M.lyr_len _ _ _
    obtain ⟨SA, hSA⟩ := tx_ex l
    have HCA := Lib.hid (M.sign_cases hr2 D.num rfl rfl rfl rfl)
    obtain ⟨L, hL⟩ : ∃ L, (Lib.decDigits (M.val xs)).length = L := ⟨_, rfl⟩
    obtain ⟨E, hE⟩ : ∃ E, l.count 101 = E := ⟨_, rfl⟩
    obtain ⟨P, hP⟩ : ∃ P, l.count 46 = P := ⟨_, rfl⟩
    rw [hl, hL, hE, hP] at HCA
    have hz := hSA.size
    obtain ⟨ST, hST⟩ := tx_ex (Lib.decDigits (M.val xs))
    have hTz : ST.size = L := hST.size.trans hL
    have hLb : L ≤ 3000 := by
      rcases hr2.2 with h | h
      · rw [← hL, h.1, Lib.decDigits_one (by omega)]; simp
      · have := h.2.2.1; omega
    have hkb : -5000 ≤ k ∧ k ≤ 5000 := by
      rcases hr2.2 with h | h
      · omega
      · exact h.2.1
    have C3 : Hid (∀ W, Up w W → Calls Tryz.prog 12 #[dv false (.slice A n c) k] W (Str SA W)) := fun W u => F.text W (TW.up u) (EW.up u) false A n c xs k (D.up u) hk SA (by rw [hl]; exact hSA)
    have C4 : Hid (∀ W, Up w W → Calls Tryz.prog 12 #[dv true (.slice A n c) k] W (Str (⟨#[45]⟩ ++ SA) W)) := fun W u => F.text W (TW.up u) (EW.up u) true A n c xs k (D.up u) hk _ (by rw [hl2]; exact (Tx.lit [45]).cat hSA)
    have C5 : Hid (∀ W, Up w W → Calls Tryz.prog 16 #[.slice A n c] W (Str ST W)) := fun W u => text_of W _ _ _ _ ((D.up u).nw hn) (by omega) (TW.up u) ST (Tx.uniq (Tx.lit _) hST)
    have HSA := Lib.hid hSA
    have HSZ := Lib.hid hz
    have HE := Lib.hid hE
    have HP := Lib.hid hP
    have HTZ := Lib.hid hTz
    have hzb : SA.size ≤ 2100 := by omega
    clear hr D hk F TW EW hr2 hl hl2 hSA hz hST hTz hL hE hP
    go_enter Tryz.func6, Tryz.ntmps6
    go_wp2_with fail
    refine CS.out.mono ?_
    rintro _ w1 ⟨rfl, u1⟩
    replace BX := BX.up u1
    have b0 := BX.get 0
    have b1 := BX.get 1
    have b2 := BX.get 2
    simp only [List.getElem?_toArray, List.getElem?_cons_zero, List.getElem?_cons_succ] at b0 b1 b2
    replace U := U.trans u1
    clear u1 CS
    go_wp2_with fail
    refine (C1.out _ U).mono ?_
    rintro _ w2 ⟨rfl, u2⟩
    replace BX := BX.up u2
    replace U := U.trans u2
    clear u2 b0 b1 b2 C1
    have b0 := BX.get 0
    have b1 := BX.get 1
    have b2 := BX.get 2
    simp only [List.getElem?_toArray, List.getElem?_cons_zero, List.getElem?_cons_succ] at b0 b1 b2
    go_upto_region 5 with (refine store_ob rfl 25 (.tmp 4) (.tmp 19) rfl _ #[.bool false, .slice none 0 0, .int .i64 0] #[.bool ng, .slice A n c, .int .i64 k] rfl rfl 3 (by kernel_rfl) rfl rfl (by simp [Value.oneCell']) w2 ((Up.refl _).alloc _) (Nat.le_refl _) 25 (Ob.mk_ _ _ _) ?_; intro V2 X q2)
    have gx : w.heap.size < w2.heap.size := BX.lt
    obtain ⟨ga, hga⟩ : ∃ g, w2.heap.size = g := ⟨_, rfl⟩
    rw [hga] at X gx ⊢
    replace BX := BX.up q2
    replace U := U.trans q2
    clear q2 b0 b1 b2 hga
    have b0 := BX.get 0
    have b1 := BX.get 1
    have b2 := BX.get 2
    simp only [List.getElem?_toArray, List.getElem?_cons_zero, List.getElem?_cons_succ] at b0 b1 b2
    go_upto_region 6 with (refine store_ob rfl 25 (.tmp 5) (.tmp 20) rfl _ #[.bool false, .slice none 0 0, .int .i64 0] #[.bool ng, .slice A n c, .int .i64 k] rfl rfl 3 (by kernel_rfl) rfl rfl (by simp [Value.oneCell']) V2 ((Up.refl _).alloc _) (Nat.le_refl _) 25 (Ob.mk_ _ _ _) ?_; intro V3 Y q3)
    have gy : ga < V2.heap.size := X.lt
    obtain ⟨gb, hgb⟩ : ∃ g, V2.heap.size = g := ⟨_, rfl⟩
    rw [hgb] at Y gy ⊢
    replace X := X.up q3
    replace BX := BX.up q3
    replace U := U.trans q3
    clear q3 b0 b1 b2 hgb
    have x0 := X.get 0
    have x1 := X.get 1
    have x2 := X.get 2
    simp only [List.getElem?_toArray, List.getElem?_cons_zero, List.getElem?_cons_succ] at x0 x1 x2
    have xf0 := X.fr 0
    have xf1 := X.fr 1
    have xf2 := X.fr 2
    have xl := X.lt
    go_upto_region 7 with fail
    have oV : ∀ b', b' ≠ ga → (V3.setCell ⟨ga, 0, none⟩ (.bool false)).heap[b']? = V3.heap[b']? := fun b' hne => Below.heap_setCell _ _ _ b' hne
    have X2 : Ob (V3.setCell ⟨ga, 0, none⟩ (.bool false)) ga 25 #[.bool false, .slice A n c, .int .i64 k] := X.put 0 (.bool false)
    have Y2 := Y.oth oV (by omega)
    have BX2 := BX.oth oV (by omega)
    have U2 : Up w (V3.setCell ⟨ga, 0, none⟩ (.bool false)) := U.setCell (p := ⟨ga, 0, none⟩) (Nat.le_of_lt gx) _
    obtain ⟨V4, hV4⟩ : ∃ V4, V3.setCell ⟨ga, 0, none⟩ (.bool false) = V4 := ⟨_, rfl⟩
    rw [hV4] at X2 Y2 BX2 U2 ⊢
    clear hV4 oV X Y BX U x0 x1 x2 xf0 xf1 xf2 xl
    have y0 := Y2.get 0
    have y1 := Y2.get 1
    have y2 := Y2.get 2
    simp only [List.getElem?_toArray, List.getElem?_cons_zero, List.getElem?_cons_succ] at y0 y1 y2
    have yf0 := Y2.fr 0
    have yf1 := Y2.fr 1
    have yf2 := Y2.fr 2
    have yl := Y2.lt
    go_upto_region 8 with fail
    have oV : ∀ b', b' ≠ gb → (V4.setCell ⟨gb, 0, none⟩ (.bool true)).heap[b']? = V4.heap[b']? := fun b' hne => Below.heap_setCell _ _ _ b' hne
    have Y : Ob (V4.setCell ⟨gb, 0, none⟩ (.bool true)) gb 25 #[.bool true, .slice A n c, .int .i64 k] := Y2.put 0 (.bool true)
    have X := X2.oth oV (by omega)
    have BX := BX2.oth oV (by omega)
    have U : Up w (V4.setCell ⟨gb, 0, none⟩ (.bool true)) := U2.setCell (p := ⟨gb, 0, none⟩) (by show w.heap.size ≤ gb; omega) _
    obtain ⟨V5, hV5⟩ : ∃ V5, V4.setCell ⟨gb, 0, none⟩ (.bool true) = V5 := ⟨_, rfl⟩
    rw [hV5] at X Y BX U ⊢
    clear hV5 oV X2 Y2 BX2 U2 y0 y1 y2 yf0 yf1 yf2 yl
    have x0 := X.get 0
    have x1 := X.get 1
    have x2 := X.get 2
    simp only [List.getElem?_toArray, List.getElem?_cons_zero, List.getElem?_cons_succ] at x0 x1 x2
    go_wp2_with fail
    refine (C3.out _ U).mono ?_
    rintro _ w3 ⟨rfl, u3⟩
    replace Y := Y.up u3
    replace BX := BX.up u3
    replace U := U.trans u3
    clear u3 x0 x1 x2 X C3
    have y0 := Y.get 0
    have y1 := Y.get 1
    have y2 := Y.get 2
    simp only [List.getElem?_toArray, List.getElem?_cons_zero, List.getElem?_cons_succ] at y0 y1 y2
    go_wp2_with fail
    refine (C4.out _ U).mono ?_
    rintro _ w4 ⟨rfl, u4⟩
    replace BX := BX.up u4
    replace U := U.trans u4
    clear u4 y0 y1 y2 Y C4 gx gy
    obtain ⟨SB, hSB⟩ : ∃ SB : ByteArray, (⟨#[45]⟩ : ByteArray) ++ SA = SB := ⟨_, rfl⟩
    rw [hSB]
    go_wp2_with fail
    go_loopw [7, 8, 9] (fun pv ev iv wr => ∃ i : Nat, i ≤ SA.size ∧ pv = .int .i64 (((l.take i).count 46 : Nat) : Int) ∧ ev = .int .i64 (((l.take i).count 101 : Nat) : Int) ∧ iv = .int .i64 (i : Int) ∧ Ob wr w.heap.size 25 #[.bool ng, .slice A n c, .int .i64 k] ∧ Up w wr) (fun _ _ iv _ => SA.size - (intOf iv).toNat)
    case atStart => exact ⟨0, Nat.zero_le _, rfl, rfl, rfl, BX, U⟩
    case round =>
      clear BX U
      obtain ⟨i, hi, rfl, rfl, rfl, BX, U⟩ := hrel
      obtain ⟨x, hx⟩ : ∃ x, (l.take i).count 46 = x := ⟨_, rfl⟩
      obtain ⟨y, hy⟩ : ∃ y, (l.take i).count 101 = y := ⟨_, rfl⟩
      have hxb : x ≤ 2100 := by rw [← hx]; exact Nat.le_trans List.count_le_length (by rw [List.length_take]; omega)
      have hyb : y ≤ 2100 := by rw [← hy]; exact Nat.le_trans List.count_le_length (by rw [List.length_take]; omega)
      rw [hx, hy]
      have HX := Lib.hid hx
      have HY := Lib.hid hy
      clear hx hy
      by_cases hlt : i < SA.size
      · have d1 : decide ((i : Int) < (SA.size : Int)) = true := decide_eq_true (by omega)
        have d2 : decide (i < SA.size) = true := decide_eq_true hlt
        obtain ⟨cc, hcc⟩ : ∃ cc, l.getD i 0 = cc := ⟨_, rfl⟩
        have hix : ((SA[i]).toNat : Int) = (cc.toNat : Int) := by rw [HSA.out.get i hlt, hcc]
        have hil : i < l.length := by have := HSZ.out; omega
        have e1 := M.count_take hil 46
        have e2 := M.count_take hil 101
        rw [hcc, HX.out] at e1
        rw [hcc, HY.out] at e2
        by_cases c1 : cc = 46
        · have k1 : ((cc.toNat : Int) == 46) = true := by rw [c1]; rfl
          have k2 : ((cc.toNat : Int) == 101) = false := by rw [c1]; rfl
          rw [if_pos c1] at e1
          rw [if_neg (by rw [c1]; decide)] at e2
          have E1 := Lib.hid e1
          have E2 := Lib.hid e2
          clear e1 e2 c1 hcc hil
          go_wp2_with fail
          go_roundw
          case rel => exact ⟨i + 1, by omega, by rw [E1.out]; go_num, by rw [E2.out]; rfl, by go_num, BX, U⟩
          case measure => simp [intOf]; omega
        · have k1 : ((cc.toNat : Int) == 46) = false := by rw [beq_eq_false_iff_ne]; intro h; exact c1 (UInt8.toNat_inj.1 (by show cc.toNat = 46; omega))
          rw [if_neg c1] at e1
          by_cases c2 : cc = 101
          · have k2 : ((cc.toNat : Int) == 101) = true := by rw [c2]; rfl
            rw [if_pos c2] at e2
            have E1 := Lib.hid e1
            have E2 := Lib.hid e2
            clear e1 e2 c1 c2 hcc hil
            go_wp2_with fail
            go_roundw
            case rel => exact ⟨i + 1, by omega, by rw [E1.out]; rfl, by rw [E2.out]; go_num, by go_num, BX, U⟩
            case measure => simp [intOf]; omega
          · have k2 : ((cc.toNat : Int) == 101) = false := by rw [beq_eq_false_iff_ne]; intro h; exact c2 (UInt8.toNat_inj.1 (by show cc.toNat = 101; omega))
            rw [if_neg c2] at e2
            have E1 := Lib.hid e1
            have E2 := Lib.hid e2
            clear e1 e2 c1 c2 hcc hil
            go_wp2_with fail
            go_roundw
            case rel => exact ⟨i + 1, by omega, by rw [E1.out]; rfl, by rw [E2.out]; rfl, by go_num, BX, U⟩
            case measure => simp [intOf]; omega
      · have d1 : decide ((i : Int) < (SA.size : Int)) = false := decide_eq_false (by omega)
        have d2 : decide (i < SA.size) = false := decide_eq_false hlt
        have ea : l.take i = l := List.take_of_length_le (by have := HSZ.out; omega)
        have ex : x = P := by rw [← HX.out, ea, HP.out]
        have ey : y = E := by rw [← HY.out, ea, HE.out]
        have hts := HTZ.out
        have hpk : ((ST.size : Nat) : Int) + k = (L : Int) + k := by rw [hts]
        obtain ⟨p, hp⟩ : ∃ p : Int, (ST.size : Int) + k = p := ⟨_, rfl⟩
        have hp2 : (L : Int) + k = p := by omega
        rw [hp2] at HCA
        rw [← hts] at HCA
        have HPP := Lib.hid hp2
        have hTb : ST.size ≤ 3000 := by omega
        have hp3 : -5000 ≤ p := by omega
        have hp4 : p ≤ 8000 := by omega
        subst ex ey
        clear ea HX HY HE HP hts hpk hp2 HTZ
        have b0 := BX.get 0
        have b1 := BX.get 1
        have b2 := BX.get 2
        simp only [List.getElem?_toArray, List.getElem?_cons_zero, List.getElem?_cons_succ] at b0 b1 b2
        rcases HCA.out with ⟨rfl, rfl, rfl, rfl⟩ | ⟨hn0, h⟩
        · clear HCA HPP
          go_wp2_with fail
          refine (C5.out _ U).mono ?_
          rintro _ w5 ⟨rfl, u5⟩
          replace BX := BX.up u5
          replace U := U.trans u5
          clear u5 b0 b1 b2 C5
          have b0 := BX.get 0
          have b1 := BX.get 1
          have b2 := BX.get 2
          simp only [List.getElem?_toArray, List.getElem?_cons_zero, List.getElem?_cons_succ] at b0 b1 b2
          go_wp2_with fail
          go_ret
          exact ⟨rfl, U⟩
        · have dn : decide ((n : Int) > 0) = true := decide_eq_true (by omega)
          rcases h with ⟨h1, h2, rfl, rfl⟩ | ⟨h1, h2, rfl, rfl⟩ | ⟨h1, h2, h3, rfl, rfl⟩ | ⟨h1, h2, h3, rfl, rfl⟩ | ⟨h1, h2, h3, rfl, rfl⟩ | ⟨h1, h2, h3, rfl, rfl⟩
          · clear HCA HPP
            have t1 : decide (p > 21) = true := decide_eq_true (by omega)
            have t2 : decide ((ST.size : Int) > 1) = true := decide_eq_true (by omega)
            go_wp2_with fail
            refine (C5.out _ U).mono ?_
            rintro _ w5 ⟨rfl, u5⟩
            replace BX := BX.up u5
            replace U := U.trans u5
            clear u5 b0 b1 b2 C5
            have b0 := BX.get 0
            have b1 := BX.get 1
            have b2 := BX.get 2
            simp only [List.getElem?_toArray, List.getElem?_cons_zero, List.getElem?_cons_succ] at b0 b1 b2
            go_wp2_with fail
            go_ret
            exact ⟨rfl, U⟩
          · clear HCA HPP
            have t1 : decide (p > 21) = true := decide_eq_true (by omega)
            have t2 : decide ((ST.size : Int) > 1) = false := decide_eq_false (by omega)
            go_wp2_with fail
            refine (C5.out _ U).mono ?_
            rintro _ w5 ⟨rfl, u5⟩
            replace BX := BX.up u5
            replace U := U.trans u5
            clear u5 b0 b1 b2 C5
            have b0 := BX.get 0
            have b1 := BX.get 1
            have b2 := BX.get 2
            simp only [List.getElem?_toArray, List.getElem?_cons_zero, List.getElem?_cons_succ] at b0 b1 b2
            go_wp2_with fail
            go_ret
            exact ⟨rfl, U⟩
          · clear HCA HPP
            have t1 : decide (p > 21) = false := decide_eq_false (by omega)
            have t3 : decide (p < -5) = true := decide_eq_true (by omega)
            have t2 : decide ((ST.size : Int) > 1) = true := decide_eq_true (by omega)
            go_wp2_with fail
            refine (C5.out _ U).mono ?_
            rintro _ w5 ⟨rfl, u5⟩
            replace BX := BX.up u5
            replace U := U.trans u5
            clear u5 b0 b1 b2 C5
            have b0 := BX.get 0
            have b1 := BX.get 1
            have b2 := BX.get 2
            simp only [List.getElem?_toArray, List.getElem?_cons_zero, List.getElem?_cons_succ] at b0 b1 b2
            go_wp2_with fail
            go_ret
            exact ⟨rfl, U⟩
          · clear HCA HPP
            have t1 : decide (p > 21) = false := decide_eq_false (by omega)
            have t3 : decide (p < -5) = true := decide_eq_true (by omega)
            have t2 : decide ((ST.size : Int) > 1) = false := decide_eq_false (by omega)
            go_wp2_with fail
            refine (C5.out _ U).mono ?_
            rintro _ w5 ⟨rfl, u5⟩
            replace BX := BX.up u5
            replace U := U.trans u5
            clear u5 b0 b1 b2 C5
            have b0 := BX.get 0
            have b1 := BX.get 1
            have b2 := BX.get 2
            simp only [List.getElem?_toArray, List.getElem?_cons_zero, List.getElem?_cons_succ] at b0 b1 b2
            go_wp2_with fail
            go_ret
            exact ⟨rfl, U⟩
          · clear HCA HPP
            have t1 : decide (p > 21) = false := decide_eq_false (by omega)
            have t3 : decide (p < -5) = false := decide_eq_false (by omega)
            have t2 : decide (k < 0) = true := decide_eq_true (by omega)
            go_wp2_with fail
            refine (C5.out _ U).mono ?_
            rintro _ w5 ⟨rfl, u5⟩
            replace BX := BX.up u5
            replace U := U.trans u5
            clear u5 b0 b1 b2 C5
            have b0 := BX.get 0
            have b1 := BX.get 1
            have b2 := BX.get 2
            simp only [List.getElem?_toArray, List.getElem?_cons_zero, List.getElem?_cons_succ] at b0 b1 b2
            go_wp2_with fail
            go_ret
            exact ⟨rfl, U⟩
          · clear HCA HPP
            have t1 : decide (p > 21) = false := decide_eq_false (by omega)
            have t3 : decide (p < -5) = false := decide_eq_false (by omega)
            have t2 : decide (k < 0) = false := decide_eq_false (by omega)
            go_wp2_with fail
            refine (C5.out _ U).mono ?_
            rintro _ w5 ⟨rfl, u5⟩
            replace BX := BX.up u5
            replace U := U.trans u5
            clear u5 b0 b1 b2 C5
            have b0 := BX.get 0
            have b1 := BX.get 1
            have b2 := BX.get 2
            simp only [List.getElem?_toArray, List.getElem?_cons_zero, List.getElem?_cons_succ] at b0 b1 b2
            go_wp2_with fail
            go_ret
            exact ⟨rfl, U⟩
end Go.Proofs.YtkhnobogaiaogaaGreatDoor
