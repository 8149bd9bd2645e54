/-
  The walk of ExactOf: true, and nothing that was there has turned.
-/
import Derived.Test.YteeepfhjbemgoaaDoorEx8
import Derived.Deep.RegionWith
namespace Go.Proofs.YteeepfhjbemgoaaDoor
open Go.RowKit Go.Shelf
attribute [local go_sem ↓] Go.wp_at_zero Go.wp_at_succ

/-- A value's cells. -/
def Bv (w : World) (b : Nat) (cl : Int) (neg : Bool) (m : Nat) (e : Int) : Prop :=
  w.cell? ⟨b, 0, none⟩ = some (.int .i64 cl) ∧ w.cell? ⟨b, 1, none⟩ = some (.bool neg) ∧ w.cell? ⟨b, 2, none⟩ = some (u64 m) ∧ w.cell? ⟨b, 3, none⟩ = some (.int .i64 e)
theorem Bv.up {w w' : World} {b : Nat} {cl : Int} {neg : Bool} {m : Nat} {e : Int} (h : Bv w b cl neg m e) (hu : Up w w') : Bv w' b cl neg m e :=
  ⟨cell_up hu h.1, cell_up hu h.2.1, cell_up hu h.2.2.1, cell_up hu h.2.2.2⟩
theorem bv_at (o : Obj) (w : World) (cl : Int) (neg : Bool) (m : Nat) (e : Int) : Bv ((w.alloc o).alloc (.cells #[.int .i64 cl, .bool neg, u64 m, .int .i64 e] 46)) (w.heap.size + 1) cl neg m e := by
  refine ⟨?_, ?_, ?_, ?_⟩ <;> simp
theorem Xo.s1 {neg : Bool} {s a : Nat} {t f : Int} {is : Bool} {w w' : World} {e : Ending} (h : Xo neg s a t f is w e w') (hs : s ≤ 1) : Xo neg 1 a t f is w e w' := by
  obtain ⟨v, h1, h2, h3⟩ := h
  exact ⟨v, h1, h2.more hs, h3⟩
/-- Of, and the reference's, of any value. -/
theorem of_all (cl : Int) (neg : Bool) (m : Nat) (e : Int) (hm : m < 18446744073709551616) : ∃ (NG : Bool) (AA : Nat) (TT : Int) (IS : Bool), AA < 18446744073709551616 ∧ M.pw TT ∧
    (∀ w, Calls Tryd.prog 31 #[vv cl neg m e] w (Xo NG 1 AA TT 0 IS w)) ∧ (∀ w, Calls Tryd.prog 32 #[vv cl neg m e] w (Xo NG 1 AA TT 0 IS w)) := by
  by_cases h1 : cl = 1
  · subst h1
    exact ⟨neg, 0, 0, true, by omega, by decide, fun w => (xof_zero w neg m e).mono fun _ _ h => h.s1 (by omega), fun w => (rof_zero w neg m e).mono fun _ _ h => h.s1 (by omega)⟩
  · by_cases h2 : cl = 2 ∧ M.pw e
    · obtain ⟨rfl, he⟩ := h2
      rcases Nat.eq_zero_or_pos m with h0 | h0
      · subst h0
        exact ⟨neg, 0, e, true, by omega, he, fun w => (xof_fin w neg 0 e (by omega) he), fun w => (rof_fin0 w neg e he).mono fun _ _ h => h.s1 (by omega)⟩
      · exact ⟨neg, m, e, true, hm, he, fun w => (xof_fin w neg m e hm he), fun w => (rof_fin w neg m e hm h0 he)⟩
    · exact ⟨false, 0, 0, false, by omega, by decide, fun w => (xof_none w cl neg m e h1 h2).mono fun _ _ h => h.s1 (by omega), fun w => (rof_none w cl neg m e h1 h2).mono fun _ _ h => h.s1 (by omega)⟩
theorem cmp_num (w : World) (lo lo' s s' : Nat) (v v' : Value) (a b : Nat) (h : Nw w lo s v a) (h' : Nw w lo' s' v' b) (e : a = b) : Calls Tryd.prog 35 #[v, v'] w (Num 0 w) :=
  (cmp_same w lo lo' s s' v v' a b h h' e).mono fun _ _ ⟨he, k, hk⟩ => ⟨he, by rw [hk]; exact (Up.refl w).drewN k⟩
theorem M.bits_128 {a : Nat} : (a < 18446744073709551616 ^ 128) ↔ ((M.bits a : Nat) : Int) ≤ 8192 := by
  rw [M.pow_word]
  obtain ⟨K, hK⟩ : ∃ K, 64 * 128 = K := ⟨_, rfl⟩
  rw [hK]
  constructor
  · intro h
    have := M.bits_le_of_lt h
    omega
  · intro h
    exact Nat.lt_of_lt_of_le (M.bits_lt a) (Nat.pow_le_pow_right (by omega) (by omega))

/-- A row's first word. -/
theorem own_first {w : World} {base n : Nat} {A : Option Addr} {c : Nat} {ys : List Nat} (h : Ow w base (.slice A n c) n ys) (h0 : 0 < n) :
    ∃ g, A = some ⟨g, 0, none⟩ ∧ base ≤ g ∧ g < w.heap.size ∧ w.cell? ⟨g, 0, none⟩ = some (u64 (ys.getD 0 0)) ∧ w.frozen? ⟨g, 0, none⟩ = false := by
  rcases h.2 with ⟨e, h1⟩ | ⟨g, cap, cur, e, hb, hg, hnc, hcm, hcs, htake⟩
  · injection e with _ e2 _
    omega
  · have hl := h.num
    injection e with e1 e2 e3
    subst e1 e3
    have h1 := h.cellAt 0 (by omega)
    rw [cu_get (by omega)] at h1
    exact ⟨g, rfl, hb, World.block_lt_of_cell? _ _ h1, h1, h.frozenAt 0⟩
theorem nt_first {w : World} {lo s n c a : Nat} {A : Option Addr} (h : Nt w lo s (.slice A n c) a) (h0 : 0 < n) : ∃ b o, A = some ⟨b, o, none⟩ ∧ lo ≤ b ∧ ∃ y : Nat, w.cell? ⟨b, o, none⟩ = some (u64 y) := by
  obtain ⟨A', n', c', xs, e, h1, _⟩ := h
  injection e with e1 e2 e3
  subst e1 e2 e3
  obtain ⟨b, o, e, hb, hc⟩ := h1.at_ h0
  exact ⟨b, o, e, hb, _, (hc 0 h0).1⟩
set_option maxHeartbeats 40000000 in
set_option maxRecDepth 100000 in
theorem of_walk (w : World) (hTW : TabW w) (ng0 : Bool) (A0 : Option Addr) (ln0 cp0 : Nat) (xs0 : List Nat) (sr0 : Src w A0 ln0 cp0 xs0) (_mx0 : cp0 ≤ maxLen) (tw0 : Int) (_wt0 : (Lit.int .i64 tw0).wf = true) (fv0 : Int) (_wv0 : (Lit.int .i64 fv0).wf = true) (cl : Int) (_wc : (Lit.int .i64 cl).wf = true) (ng1 : Bool) (mm : Int) (wm : (Lit.int .u64 mm).wf = true) (ee : Int) (_we : (Lit.int .i64 ee).wf = true) (A2 : Option Addr) (n2 c2 : Nat) (x2 : List Nat) (h2 : Src w A2 n2 c2 x2) (k : Int) (_wk : (Lit.int .i64 k).wf = true) :
    Calls Tryd.prog 5 #[xv ng0 (.slice A0 ln0 cp0) tw0 fv0, .agg #[.int .i64 cl, .bool ng1, .int .u64 mm, .int .i64 ee], .slice A2 n2 c2, .int .i64 k] w (True_ w) := by
  have U := Up.refl w
  obtain ⟨m, rfl, hm⟩ := wf_u64 wm
  obtain ⟨NG, AA, TT, IS, hAA, hTT, cof, crof⟩ := of_all cl ng1 m ee hm
  have COF := Lib.hid cof
  have CROF := Lib.hid crof
  clear cof crof
  obtain ⟨kk, hkk, hk1, hk2⟩ : ∃ kk : Nat, min (n2 : Int) 130 = (kk : Int) ∧ kk ≤ n2 ∧ kk ≤ 130 := ⟨min n2 130, by omega, by omega, by omega⟩
  have hc2 := h2.len
  have hs2 := h2.take hk1
  obtain ⟨y, hy⟩ : ∃ y, xs0.getD (ln0 - 1) 0 = y := ⟨_, rfl⟩
  have hln : ln0 ≤ 9223372036854775807 := by have := sr0.len; have := _mx0; unfold maxLen at this; omega
  have hcell : ∀ w', Up w w' → 0 < ln0 → ∃ ad, A0 = some ad ∧ w'.cell? (ad.add (ln0 - 1)) = some (u64 y) := by
    intro w' hu h0
    rcases hA : A0 with _ | ad
    · have := sr0.none_ hA; have := sr0.len; omega
    · refine ⟨ad, rfl, cell_up hu ?_⟩
      rw [sr0.at_ ad hA (ln0 - 1) (by omega), hy]
  obtain ⟨r0, hr0⟩ : ∃ r, decide ((ln0 = 0 ∨ y ≠ 0) ∧ ln0 ≤ 128 ∧ M.pw tw0 ∧ M.pw fv0) = r := ⟨_, rfl⟩
  have CR0 := Lib.hid (fun w' (hu : Up w w') => right_any w' ng0 A0 ln0 cp0 y tw0 fv0 hln (hcell w' hu) r0 hr0)
  have CS0 := Lib.hid (fun w' (hu : Up w w') => rright_any w' ng0 A0 ln0 cp0 y tw0 fv0 hln (hcell w' hu) r0 hr0)
  clear hy hcell hr0 sr0
  have Hk := Lib.hid hkk
  clear h2
  go_enter Tryd.func5, Tryd.ntmps5
  go_wp2_with fail
  obtain ⟨V1, hV1⟩ : ∃ V1, (w.alloc (.cells #[.bool ng0, .slice A0 ln0 cp0, .int .i64 (tw0), .int .i64 (fv0)] 44)).alloc (.cells #[.int .i64 cl, .bool ng1, u64 m, .int .i64 ee] 46) = V1 := ⟨_, rfl⟩
  have uV1 : Up w V1 := by rw [← hV1]; first | exact (Up.refl _).alloc _ | exact ((Up.refl _).alloc _).alloc _ | exact (((Up.refl _).alloc _).alloc _).alloc _ | exact ((((Up.refl _).alloc _).alloc _).alloc _).alloc _ | ((repeat (refine Up.alloc ?_ _)); exact Up.refl _)
  have b0 : Bx V1 (w.heap.size) ng0 (.slice A0 ln0 cp0) tw0 fv0 := by rw [← hV1]; exact (Bx.mk_ w ng0 (.slice A0 ln0 cp0) tw0 fv0).up ((Up.refl _).alloc _)
  have bv : Bv V1 (w.heap.size + 1) cl ng1 m ee := by rw [← hV1]; exact bv_at _ w cl ng1 m ee
  rw [hV1]
  clear hV1
  replace U := U.trans uV1
  clear uV1
  refine (xshown_any _ (hTW.up U)).mono ?_
  rintro _ w2 ⟨rfl, h2⟩
  replace b0 := b0.up h2
  replace bv := bv.up h2
  replace U := U.trans h2
  clear h2
  have bz := World.block_lt_of_cell? _ _ bv.1
  simp only at bz
  have Ub := Up.size U
  have hs3 := (hs2.up U).up ((Up.refl w2).alloc (.cells #[] 41))
  have hown : Ow (w2.alloc (.cells #[] 41)) w2.heap.size (.slice (some ⟨w2.heap.size, 0, none⟩) 0 0) 0 [] := World.ownsRow_lit w2 #[] 0 (Nat.le_refl _) (by simp only [maxLen]; omega) rfl
  clear hs2
  go_wp2_with (at_builtin; refine wpList_append_src _ rfl (.tmp 19) (.tmp 24) _ rfl info_u64 w2.heap.size Tryd.underlying23 _ 0 [] rfl hown A2 kk c2 _ rfl hs3 (by omega) (by simp) ?_; intro v1 wd hown1 hg1 hat1; have ud : Up w2 wd := ((Up.refl w2).alloc (.cells #[] 41)).grown hg1 (fun b hb => (World.ownsRow.lt hown b hb).1); obtain ⟨z0, z1, z2, z3⟩ := bv.up ud)
  clear z0 z1 z2 z3
  rw [Nat.zero_add, List.nil_append] at hown1
  obtain ⟨ys, hys⟩ : ∃ ys, x2.take kk = ys := ⟨_, rfl⟩
  have hyw : M.Wds ys := by rw [← hys]; exact hs3.wds
  rw [hys] at hown1
  obtain ⟨Ad, cd, rfl, _⟩ := hown1.wd hyw (by omega)
  have nd : Nw wd w2.heap.size kk (.slice Ad kk cd) (M.val ys) := hown1.nw hyw (by omega)
  clear hg1 hat1 hs3 hys hown
  replace b0 := b0.up ud
  replace bv := bv.up ud
  replace U := U.trans ud
  have bW : w2.heap.size ≤ wd.heap.size := Up.size ud
  clear ud
  obtain ⟨D, hD⟩ : ∃ D, M.val ys = D := ⟨_, rfl⟩
  rw [hD] at nd
  have od := hown1
  clear hown1
  refine (COF.out _).mono ?_
  rintro _ w3 ⟨va, rfl, na, h3⟩
  replace b0 := b0.up h3
  replace bv := bv.up h3
  replace nd := nd.up h3
  replace U := U.trans h3
  replace od := Ow.up od h3
  clear h3
  obtain ⟨Ana, sna, cna, wna, rfl, na⟩ := na
  replace na : Nt w3 _ _ (.slice Ana sna cna) (AA) := ⟨Ana, sna, cna, wna, rfl, na⟩
  obtain ⟨v0, v1, v2, v3⟩ := id bv
  have v5 := World.block_lt_of_cell? _ _ v0
  simp only at v5
  obtain ⟨⟨b00, b01, b02, b03⟩, b0f0, b0f1, b0f2, b0f3⟩ := id b0
  have b05 := World.block_lt_of_cell? _ _ b00
  simp only at b05
  go_wp2_with fail
  clear b00 b01 b02 b03 b0f0 b0f1 b0f2 b0f3 b05
  clear v0 v1 v2 v3 v5
  obtain ⟨V4, hV4⟩ : ∃ V4, w3.alloc (.cells #[.bool NG, (.slice Ana sna cna), .int .i64 (TT), .int .i64 (0)] 44) = V4 := ⟨_, rfl⟩
  have uV4 : Up w3 V4 := by rw [← hV4]; first | exact (Up.refl _).alloc _ | exact ((Up.refl _).alloc _).alloc _ | exact (((Up.refl _).alloc _).alloc _).alloc _ | exact ((((Up.refl _).alloc _).alloc _).alloc _).alloc _ | ((repeat (refine Up.alloc ?_ _)); exact Up.refl _)
  have a : Bx V4 w3.heap.size NG (.slice Ana sna cna) TT 0 := by rw [← hV4]; exact Bx.mk_ _ _ _ _ _
  rw [hV4]
  clear hV4
  replace b0 := b0.up uV4
  replace bv := bv.up uV4
  replace nd := nd.up uV4
  replace na := na.up uV4
  replace U := U.trans uV4
  replace od := Ow.up od uV4
  clear uV4
  refine (CROF.out _).mono ?_
  rintro _ w5 ⟨vb, rfl, nb, h5⟩
  replace b0 := b0.up h5
  replace bv := bv.up h5
  replace nd := nd.up h5
  replace na := na.up h5
  replace a := a.up h5
  replace U := U.trans h5
  replace od := Ow.up od h5
  clear h5
  obtain ⟨Anb, snb, cnb, wnb, rfl, nb⟩ := nb
  replace nb : Nt w5 _ _ (.slice Anb snb cnb) (AA) := ⟨Anb, snb, cnb, wnb, rfl, nb⟩
  obtain ⟨⟨b00, b01, b02, b03⟩, b0f0, b0f1, b0f2, b0f3⟩ := id b0
  have b05 := World.block_lt_of_cell? _ _ b00
  simp only at b05
  obtain ⟨⟨a0, a1, a2, a3⟩, af0, af1, af2, af3⟩ := id a
  have a5 := World.block_lt_of_cell? _ _ a0
  simp only at a5
  go_wp2_with fail
  clear b00 b01 b02 b03 b0f0 b0f1 b0f2 b0f3 b05
  clear a0 a1 a2 a3 af0 af1 af2 af3 a5
  obtain ⟨V6, hV6⟩ : ∃ V6, w5.alloc (.cells #[.bool NG, (.slice Anb snb cnb), .int .i64 (TT), .int .i64 (0)] 44) = V6 := ⟨_, rfl⟩
  have uV6 : Up w5 V6 := by rw [← hV6]; first | exact (Up.refl _).alloc _ | exact ((Up.refl _).alloc _).alloc _ | exact (((Up.refl _).alloc _).alloc _).alloc _ | exact ((((Up.refl _).alloc _).alloc _).alloc _).alloc _ | ((repeat (refine Up.alloc ?_ _)); exact Up.refl _)
  have b : Bx V6 w5.heap.size NG (.slice Anb snb cnb) TT 0 := by rw [← hV6]; exact Bx.mk_ _ _ _ _ _
  rw [hV6]
  clear hV6
  replace b0 := b0.up uV6
  replace bv := bv.up uV6
  replace nd := nd.up uV6
  replace na := na.up uV6
  replace a := a.up uV6
  replace nb := nb.up uV6
  replace U := U.trans uV6
  replace od := Ow.up od uV6
  clear uV6
  clear COF CROF
  replace CR0 := Lib.hid (fun w' (hu : Up V6 w') => CR0.out w' (U.trans hu))
  replace CS0 := Lib.hid (fun w' (hu : Up V6 w') => CS0.out w' (U.trans hu))
  have CM := Lib.hid (fun w' (hu : Up V6 w') => cmp_num w' _ _ _ _ _ _ AA AA (na.nw.up hu) (nb.nw.up hu) rfl)
  have CA := Lib.hid (fun w' (hu : Up V6 w') => right_nt w' _ _ NG (.slice Ana sna cna) AA TT 0 (na.up hu) true (decide_eq_true ⟨lt_w128 hAA, hTT, by decide⟩))
  have hrr : (r0 != r0) = false := by simp
  rcases IS with _ | _
  ·
    obtain ⟨⟨b00, b01, b02, b03⟩, b0f0, b0f1, b0f2, b0f3⟩ := id b0
    have b05 := World.block_lt_of_cell? _ _ b00
    simp only at b05
    refine wp_region_held_drew (S := fun w' => w'.cell? ⟨w.heap.size, 0, none⟩ = some (.bool ng0) ∧ w'.cell? ⟨w.heap.size, 1, none⟩ = some (.slice A0 ln0 cp0) ∧ w'.cell? ⟨w.heap.size, 2, none⟩ = some (.int .i64 (tw0)) ∧ w'.cell? ⟨w.heap.size, 3, none⟩ = some (.int .i64 (fv0))) (by kernel_rfl) ?_ (fun hHeld => ?_)
    · try dsimp only
      go_keep
    refine wpAnyH_take (i := 0) (v := ?_) rfl (by kernel_rfl) (by kernel_rfl) (by kernel_rfl) (fun _ _ _ h => h) (Or.inl ⟨by rfl, ?_⟩) (by assumption) ?_
    rotate_left
    · intro w hSw
      (try dsimp only at hSw)
      go_simp
      all_goals with_reducible rfl
    try simp only [Act.put, List.setIfInBounds_toArray, List.set_cons_zero, List.set_cons_succ, List.getElem_toArray, List.getElem_cons_zero]
    refine wpAnyH_take (i := 2) (v := ?_) rfl (by kernel_rfl) (by kernel_rfl) (by kernel_rfl) (fun _ _ _ h => h) (Or.inl ⟨by rfl, ?_⟩) (by assumption) ?_
    rotate_left
    · intro w hSw
      (try dsimp only at hSw)
      go_simp
      all_goals with_reducible rfl
    try simp only [Act.put, List.setIfInBounds_toArray, List.set_cons_zero, List.set_cons_succ, List.getElem_toArray, List.getElem_cons_zero, List.getElem_cons_succ]
    refine wpAnyH_ready (rs := [1]) (by kernel_rfl) (by simp) ?_
    refine AllReadyH.cons rfl (fun K hK => ?_) AllReadyH.nil
    go_simp
    (with_reducible refine (CR0.out _ ?_).mono ?_)
    · (first | with_reducible assumption | exact (Up.refl _).drewN 1)
    rintro _ w51 ⟨rfl, h51⟩
    have uw51 : Up V6 w51 := Up.trans (by first | with_reducible assumption | exact (Up.refl V6).drewN 1) h51
    have b0c00 := cell_up uw51 b00
    have b0c01 := cell_up uw51 b01
    have b0c02 := cell_up uw51 b02
    have b0c03 := cell_up uw51 b03
    go_wp2_with fail
    refine hK.out _ _ ?_ (fun hHeld => ?_)
    · try dsimp only
      go_keep
    clear hK K
    try simp only [Act.put, List.setIfInBounds_toArray, List.set_cons_zero, List.set_cons_succ, List.getElem_toArray, List.getElem_cons_zero, List.getElem_cons_succ]
    refine wpAnyH_ready (rs := [3]) (by kernel_rfl) (by simp) ?_
    refine AllReadyH.cons rfl (fun K hK => ?_) AllReadyH.nil
    go_simp
    (with_reducible refine (CS0.out _ ?_).mono ?_)
    · (first | with_reducible assumption | exact (Up.refl _).drewN 1)
    rintro _ w52 ⟨rfl, h52⟩
    have uw52 : Up V6 w52 := Up.trans (by first | with_reducible assumption | exact (Up.refl V6).drewN 1) h52
    have b0c10 := cell_up uw52 b00
    have b0c11 := cell_up uw52 b01
    have b0c12 := cell_up uw52 b02
    have b0c13 := cell_up uw52 b03
    go_wp2_with fail
    refine hK.out _ _ ?_ (fun hHeld => ?_)
    · try dsimp only
      go_keep
    clear hK K
    try simp only [Act.put, List.setIfInBounds_toArray, List.set_cons_zero, List.set_cons_succ, List.getElem_toArray, List.getElem_cons_zero, List.getElem_cons_succ]
    refine wpAnyH_take (i := 4) (v := ?_) rfl (by kernel_rfl) (by kernel_rfl) (by kernel_rfl) (fun _ _ _ h => h) (Or.inl ⟨by rfl, ?_⟩) (by assumption) ?_
    rotate_left
    · intro w hSw
      (try dsimp only at hSw)
      go_simp
      all_goals with_reducible rfl
    try simp only [Act.put, List.setIfInBounds_toArray, List.set_cons_zero, List.set_cons_succ, List.getElem_toArray, List.getElem_cons_zero, List.getElem_cons_succ]
    refine wpAnyH_take (i := 5) (v := ?_) rfl (by kernel_rfl) (by kernel_rfl) (by kernel_rfl) (fun _ _ _ h => h) (Or.inl ⟨by rfl, ?_⟩) (by assumption) ?_
    rotate_left
    · intro w hSw
      (try dsimp only at hSw)
      go_simp
      all_goals with_reducible rfl
    try simp only [Act.put, List.setIfInBounds_toArray, List.set_cons_zero, List.set_cons_succ, List.getElem_toArray, List.getElem_cons_zero, List.getElem_cons_succ]
    refine wpAnyH_take (i := 6) (v := ?_) rfl (by kernel_rfl) (by kernel_rfl) (by kernel_rfl) (fun _ _ _ h => h) (Or.inl ⟨by rfl, ?_⟩) (by assumption) ?_
    rotate_left
    · intro w hSw
      (try dsimp only at hSw)
      go_simp
      all_goals with_reducible rfl
    try simp only [Act.put, List.setIfInBounds_toArray, List.set_cons_zero, List.set_cons_succ, List.getElem_toArray, List.getElem_cons_zero, List.getElem_cons_succ]
    refine wpAnyH_take (i := 7) (v := ?_) rfl (by kernel_rfl) (by kernel_rfl) (by kernel_rfl) (fun _ _ _ h => h) (Or.inl ⟨by rfl, ?_⟩) (by assumption) ?_
    rotate_left
    · intro w hSw
      (try dsimp only at hSw)
      go_simp
      all_goals with_reducible rfl
    try simp only [Act.put, List.setIfInBounds_toArray, List.set_cons_zero, List.set_cons_succ, List.getElem_toArray, List.getElem_cons_zero, List.getElem_cons_succ]
    refine wpAnyH_take (i := 8) (v := ?_) rfl (by kernel_rfl) (by kernel_rfl) (by kernel_rfl) (fun _ _ _ h => h) (Or.inl ⟨by rfl, ?_⟩) (by assumption) ?_
    rotate_left
    · intro w hSw
      (try dsimp only at hSw)
      go_simp
      all_goals with_reducible rfl
    try simp only [Act.put, List.setIfInBounds_toArray, List.set_cons_zero, List.set_cons_succ, List.getElem_toArray, List.getElem_cons_zero, List.getElem_cons_succ]
    refine wpAnyH_take (i := 9) (v := ?_) rfl (by kernel_rfl) (by kernel_rfl) (by kernel_rfl) (fun _ _ _ h => h) (Or.inl ⟨by rfl, ?_⟩) (by assumption) ?_
    rotate_left
    · intro w hSw
      (try dsimp only at hSw)
      go_simp
      all_goals with_reducible rfl
    try simp only [Act.put, List.setIfInBounds_toArray, List.set_cons_zero, List.set_cons_succ, List.getElem_toArray, List.getElem_cons_zero, List.getElem_cons_succ]
    refine wpAnyH_take (i := 10) (v := ?_) rfl (by kernel_rfl) (by kernel_rfl) (by kernel_rfl) (fun _ _ _ h => h) (Or.inl ⟨by rfl, ?_⟩) (by assumption) ?_
    rotate_left
    · intro w hSw
      (try dsimp only at hSw)
      go_simp
      all_goals with_reducible rfl
    try simp only [Act.put, List.setIfInBounds_toArray, List.set_cons_zero, List.set_cons_succ, List.getElem_toArray, List.getElem_cons_zero, List.getElem_cons_succ]
    refine wpAnyH_take (i := 11) (v := ?_) rfl (by kernel_rfl) (by kernel_rfl) (by kernel_rfl) (fun _ _ _ h => h) (Or.inl ⟨by rfl, ?_⟩) (by assumption) ?_
    rotate_left
    · intro w hSw
      (try dsimp only at hSw)
      go_simp
      all_goals with_reducible rfl
    try simp only [Act.put, List.setIfInBounds_toArray, List.set_cons_zero, List.set_cons_succ, List.getElem_toArray, List.getElem_cons_zero, List.getElem_cons_succ]
    refine wpAnyH_take (i := 12) (v := ?_) rfl (by kernel_rfl) (by kernel_rfl) (by kernel_rfl) (fun _ _ _ h => h) (Or.inl ⟨by rfl, ?_⟩) (by assumption) ?_
    rotate_left
    · intro w hSw
      (try dsimp only at hSw)
      go_simp
      all_goals with_reducible rfl
    try simp only [Act.put, List.setIfInBounds_toArray, List.set_cons_zero, List.set_cons_succ, List.getElem_toArray, List.getElem_cons_zero, List.getElem_cons_succ]
    refine wpAnyH_take (i := 13) (v := undef) rfl (by kernel_rfl) (by kernel_rfl) (by kernel_rfl) (fun _ _ _ h => h) (Or.inr ⟨by rfl, rfl⟩) (by assumption) ?_
    try simp only [Act.put, List.setIfInBounds_toArray, List.set_cons_zero, List.set_cons_succ, List.getElem_toArray, List.getElem_cons_zero, List.getElem_cons_succ]
    refine wpAnyH_take (i := 14) (v := undef) rfl (by kernel_rfl) (by kernel_rfl) (by kernel_rfl) (fun _ _ _ h => h) (Or.inr ⟨by rfl, rfl⟩) (by assumption) ?_
    try simp only [Act.put, List.setIfInBounds_toArray, List.set_cons_zero, List.set_cons_succ, List.getElem_toArray, List.getElem_cons_zero, List.getElem_cons_succ]
    refine wpAnyH_take (i := 15) (v := undef) rfl (by kernel_rfl) (by kernel_rfl) (by kernel_rfl) (fun _ _ _ h => h) (Or.inr ⟨by rfl, rfl⟩) (by assumption) ?_
    try simp only [Act.put, List.setIfInBounds_toArray, List.set_cons_zero, List.set_cons_succ, List.getElem_toArray, List.getElem_cons_zero, List.getElem_cons_succ]
    refine wpAnyH_take (i := 16) (v := undef) rfl (by kernel_rfl) (by kernel_rfl) (by kernel_rfl) (fun _ _ _ h => h) (Or.inr ⟨by rfl, rfl⟩) (by assumption) ?_
    try simp only [Act.put, List.setIfInBounds_toArray, List.set_cons_zero, List.set_cons_succ, List.getElem_toArray, List.getElem_cons_zero, List.getElem_cons_succ]
    refine wpAnyH_take (i := 17) (v := undef) rfl (by kernel_rfl) (by kernel_rfl) (by kernel_rfl) (fun _ _ _ h => h) (Or.inr ⟨by rfl, rfl⟩) (by assumption) ?_
    try simp only [Act.put, List.setIfInBounds_toArray, List.set_cons_zero, List.set_cons_succ, List.getElem_toArray, List.getElem_cons_zero, List.getElem_cons_succ]
    refine wpAnyH_take (i := 18) (v := undef) rfl (by kernel_rfl) (by kernel_rfl) (by kernel_rfl) (fun _ _ _ h => h) (Or.inr ⟨by rfl, rfl⟩) (by assumption) ?_
    try simp only [Act.put, List.setIfInBounds_toArray, List.set_cons_zero, List.set_cons_succ, List.getElem_toArray, List.getElem_cons_zero, List.getElem_cons_succ]
    refine wpAnyH_take (i := 19) (v := undef) rfl (by kernel_rfl) (by kernel_rfl) (by kernel_rfl) (fun _ _ _ h => h) (Or.inr ⟨by rfl, rfl⟩) (by assumption) ?_
    try simp only [Act.put, List.setIfInBounds_toArray, List.set_cons_zero, List.set_cons_succ, List.getElem_toArray, List.getElem_cons_zero, List.getElem_cons_succ]
    refine wpAnyH_take (i := 20) (v := undef) rfl (by kernel_rfl) (by kernel_rfl) (by kernel_rfl) (fun _ _ _ h => h) (Or.inr ⟨by rfl, rfl⟩) (by assumption) ?_
    try simp only [Act.put, List.setIfInBounds_toArray, List.set_cons_zero, List.set_cons_succ, List.getElem_toArray, List.getElem_cons_zero, List.getElem_cons_succ]
    refine wpAnyH_take (i := 21) (v := undef) rfl (by kernel_rfl) (by kernel_rfl) (by kernel_rfl) (fun _ _ _ h => h) (Or.inr ⟨by rfl, rfl⟩) (by assumption) ?_
    try simp only [Act.put, List.setIfInBounds_toArray, List.set_cons_zero, List.set_cons_succ, List.getElem_toArray, List.getElem_cons_zero, List.getElem_cons_succ]
    refine wpAnyH_take (i := 22) (v := undef) rfl (by kernel_rfl) (by kernel_rfl) (by kernel_rfl) (fun _ _ _ h => h) (Or.inr ⟨by rfl, rfl⟩) (by assumption) ?_
    try simp only [Act.put, List.setIfInBounds_toArray, List.set_cons_zero, List.set_cons_succ, List.getElem_toArray, List.getElem_cons_zero, List.getElem_cons_succ]
    refine wpAnyH_take (i := 23) (v := undef) rfl (by kernel_rfl) (by kernel_rfl) (by kernel_rfl) (fun _ _ _ h => h) (Or.inr ⟨by rfl, rfl⟩) (by assumption) ?_
    try simp only [Act.put, List.setIfInBounds_toArray, List.set_cons_zero, List.set_cons_succ, List.getElem_toArray, List.getElem_cons_zero, List.getElem_cons_succ]
    refine wpAnyH_take (i := 24) (v := undef) rfl (by kernel_rfl) (by kernel_rfl) (by kernel_rfl) (fun _ _ _ h => h) (Or.inr ⟨by rfl, rfl⟩) (by assumption) ?_
    try simp only [Act.put, List.setIfInBounds_toArray, List.set_cons_zero, List.set_cons_succ, List.getElem_toArray, List.getElem_cons_zero, List.getElem_cons_succ]
    refine wpAnyH_take (i := 25) (v := undef) rfl (by kernel_rfl) (by kernel_rfl) (by kernel_rfl) (fun _ _ _ h => h) (Or.inr ⟨by rfl, rfl⟩) (by assumption) ?_
    try simp only [Act.put, List.setIfInBounds_toArray, List.set_cons_zero, List.set_cons_succ, List.getElem_toArray, List.getElem_cons_zero, List.getElem_cons_succ]
    refine wpAnyH_take (i := 26) (v := undef) rfl (by kernel_rfl) (by kernel_rfl) (by kernel_rfl) (fun _ _ _ h => h) (Or.inr ⟨by rfl, rfl⟩) (by assumption) ?_
    try simp only [Act.put, List.setIfInBounds_toArray, List.set_cons_zero, List.set_cons_succ, List.getElem_toArray, List.getElem_cons_zero, List.getElem_cons_succ]
    refine wpAnyH_take (i := 27) (v := undef) rfl (by kernel_rfl) (by kernel_rfl) (by kernel_rfl) (fun _ _ _ h => h) (Or.inr ⟨by rfl, rfl⟩) (by assumption) ?_
    try simp only [Act.put, List.setIfInBounds_toArray, List.set_cons_zero, List.set_cons_succ, List.getElem_toArray, List.getElem_cons_zero, List.getElem_cons_succ]
    refine wpAnyH_take (i := 28) (v := undef) rfl (by kernel_rfl) (by kernel_rfl) (by kernel_rfl) (fun _ _ _ h => h) (Or.inr ⟨by rfl, rfl⟩) (by assumption) ?_
    try simp only [Act.put, List.setIfInBounds_toArray, List.set_cons_zero, List.set_cons_succ, List.getElem_toArray, List.getElem_cons_zero, List.getElem_cons_succ]
    refine wpAnyH_take (i := 29) (v := undef) rfl (by kernel_rfl) (by kernel_rfl) (by kernel_rfl) (fun _ _ _ h => h) (Or.inr ⟨by rfl, rfl⟩) (by assumption) ?_
    try simp only [Act.put, List.setIfInBounds_toArray, List.set_cons_zero, List.set_cons_succ, List.getElem_toArray, List.getElem_cons_zero, List.getElem_cons_succ]
    refine wpAnyH_take (i := 30) (v := undef) rfl (by kernel_rfl) (by kernel_rfl) (by kernel_rfl) (fun _ _ _ h => h) (Or.inr ⟨by rfl, rfl⟩) (by assumption) ?_
    try simp only [Act.put, List.setIfInBounds_toArray, List.set_cons_zero, List.set_cons_succ, List.getElem_toArray, List.getElem_cons_zero, List.getElem_cons_succ]
    refine wpAnyH_take (i := 31) (v := undef) rfl (by kernel_rfl) (by kernel_rfl) (by kernel_rfl) (fun _ _ _ h => h) (Or.inr ⟨by rfl, rfl⟩) (by assumption) ?_
    try simp only [Act.put, List.setIfInBounds_toArray, List.set_cons_zero, List.set_cons_succ, List.getElem_toArray, List.getElem_cons_zero, List.getElem_cons_succ]
    refine wpAnyH_take (i := 32) (v := undef) rfl (by kernel_rfl) (by kernel_rfl) (by kernel_rfl) (fun _ _ _ h => h) (Or.inr ⟨by rfl, rfl⟩) (by assumption) ?_
    try simp only [Act.put, List.setIfInBounds_toArray, List.set_cons_zero, List.set_cons_succ, List.getElem_toArray, List.getElem_cons_zero, List.getElem_cons_succ]
    refine wpAnyH_take (i := 33) (v := undef) rfl (by kernel_rfl) (by kernel_rfl) (by kernel_rfl) (fun _ _ _ h => h) (Or.inr ⟨by rfl, rfl⟩) (by assumption) ?_
    try simp only [Act.put, List.setIfInBounds_toArray, List.set_cons_zero, List.set_cons_succ, List.getElem_toArray, List.getElem_cons_zero, List.getElem_cons_succ]
    refine wpAnyH_take (i := 34) (v := undef) rfl (by kernel_rfl) (by kernel_rfl) (by kernel_rfl) (fun _ _ _ h => h) (Or.inr ⟨by rfl, rfl⟩) (by assumption) ?_
    try simp only [Act.put, List.setIfInBounds_toArray, List.set_cons_zero, List.set_cons_succ, List.getElem_toArray, List.getElem_cons_zero, List.getElem_cons_succ]
    refine wpAnyH_take (i := 35) (v := undef) rfl (by kernel_rfl) (by kernel_rfl) (by kernel_rfl) (fun _ _ _ h => h) (Or.inr ⟨by rfl, rfl⟩) (by assumption) ?_
    try simp only [Act.put, List.setIfInBounds_toArray, List.set_cons_zero, List.set_cons_succ, List.getElem_toArray, List.getElem_cons_zero, List.getElem_cons_succ]
    refine wpAnyH_take (i := 36) (v := undef) rfl (by kernel_rfl) (by kernel_rfl) (by kernel_rfl) (fun _ _ _ h => h) (Or.inr ⟨by rfl, rfl⟩) (by assumption) ?_
    try simp only [Act.put, List.setIfInBounds_toArray, List.set_cons_zero, List.set_cons_succ, List.getElem_toArray, List.getElem_cons_zero, List.getElem_cons_succ]
    refine wpAnyH_take (i := 37) (v := undef) rfl (by kernel_rfl) (by kernel_rfl) (by kernel_rfl) (fun _ _ _ h => h) (Or.inr ⟨by rfl, rfl⟩) (by assumption) ?_
    try simp only [Act.put, List.setIfInBounds_toArray, List.set_cons_zero, List.set_cons_succ, List.getElem_toArray, List.getElem_cons_zero, List.getElem_cons_succ]
    refine wpAnyH_take (i := 38) (v := undef) rfl (by kernel_rfl) (by kernel_rfl) (by kernel_rfl) (fun _ _ _ h => h) (Or.inr ⟨by rfl, rfl⟩) (by assumption) ?_
    try simp only [Act.put, List.setIfInBounds_toArray, List.set_cons_zero, List.set_cons_succ, List.getElem_toArray, List.getElem_cons_zero, List.getElem_cons_succ]
    refine wpAnyH_take (i := 39) (v := undef) rfl (by kernel_rfl) (by kernel_rfl) (by kernel_rfl) (fun _ _ _ h => h) (Or.inr ⟨by rfl, rfl⟩) (by assumption) ?_
    try simp only [Act.put, List.setIfInBounds_toArray, List.set_cons_zero, List.set_cons_succ, List.getElem_toArray, List.getElem_cons_zero, List.getElem_cons_succ]
    refine wpAnyH_take (i := 40) (v := undef) rfl (by kernel_rfl) (by kernel_rfl) (by kernel_rfl) (fun _ _ _ h => h) (Or.inr ⟨by rfl, rfl⟩) (by assumption) ?_
    try simp only [Act.put, List.setIfInBounds_toArray, List.set_cons_zero, List.set_cons_succ, List.getElem_toArray, List.getElem_cons_zero, List.getElem_cons_succ]
    refine wpAnyH_take (i := 41) (v := undef) rfl (by kernel_rfl) (by kernel_rfl) (by kernel_rfl) (fun _ _ _ h => h) (Or.inr ⟨by rfl, rfl⟩) (by assumption) ?_
    try simp only [Act.put, List.setIfInBounds_toArray, List.set_cons_zero, List.set_cons_succ, List.getElem_toArray, List.getElem_cons_zero, List.getElem_cons_succ]
    refine wpAnyH_take (i := 42) (v := undef) rfl (by kernel_rfl) (by kernel_rfl) (by kernel_rfl) (fun _ _ _ h => h) (Or.inr ⟨by rfl, rfl⟩) (by assumption) ?_
    try simp only [Act.put, List.setIfInBounds_toArray, List.set_cons_zero, List.set_cons_succ, List.getElem_toArray, List.getElem_cons_zero, List.getElem_cons_succ]
    refine wpAnyH_take (i := 43) (v := ?_) rfl (by kernel_rfl) (by kernel_rfl) (by kernel_rfl) (fun _ _ _ h => h) (Or.inl ⟨by rfl, ?_⟩) (by assumption) ?_
    rotate_left
    · intro w hSw
      (try dsimp only at hSw)
      go_simp
      all_goals with_reducible rfl
    try simp only [Act.put, List.setIfInBounds_toArray, List.set_cons_zero, List.set_cons_succ, List.getElem_toArray, List.getElem_cons_zero, List.getElem_cons_succ]
    refine wpAnyH_take (i := 44) (v := ?_) rfl (by kernel_rfl) (by kernel_rfl) (by kernel_rfl) (fun _ _ _ h => h) (Or.inl ⟨by rfl, ?_⟩) (by assumption) ?_
    rotate_left
    · intro w hSw
      (try dsimp only at hSw)
      go_simp
      all_goals with_reducible rfl
    try simp only [Act.put, List.setIfInBounds_toArray, List.set_cons_zero, List.set_cons_succ, List.getElem_toArray, List.getElem_cons_zero, List.getElem_cons_succ]
    refine wpAnyH_done (by kernel_rfl) ?_ _
    clear b0c00 b0c01 b0c02 b0c03 b0c10 b0c11 b0c12 b0c13 h51 h52 hHeld
    clear b00 b01 b02 b03 b0f0 b0f1 b0f2 b0f3 b05
    replace b0 := b0.up uw52
    replace bv := bv.up uw52
    replace nd := nd.up uw52
    replace na := na.up uw52
    replace a := a.up uw52
    replace nb := nb.up uw52
    replace b := b.up uw52
    replace U := U.trans uw52
    replace od := Ow.up od uw52
    clear uw51 uw52
    clear CR0 CS0 CM CA hrr
    clear a
    clear b
    clear na
    clear nb
    clear bv
    rcases (show k < -5000 ∨ 5000 < k ∨ (-5000 ≤ k ∧ k ≤ 5000 ∧ 8192 < ((M.bits D : Nat) : Int)) ∨ (-5000 ≤ k ∧ k ≤ 5000 ∧ ((M.bits D : Nat) : Int) ≤ 8192) by omega) with q | q | ⟨q, q', q3⟩ | ⟨q, q', q3⟩
    ·
      have e1 : decide (-5000 ≤ k) = false := decide_eq_false (by omega)
      obtain ⟨⟨b00, b01, b02, b03⟩, b0f0, b0f1, b0f2, b0f3⟩ := id b0
      have b05 := World.block_lt_of_cell? _ _ b00
      simp only at b05
      go_wp2_with fail
      clear b00 b01 b02 b03 b0f0 b0f1 b0f2 b0f3 b05
      refine (dec_no _ _ _ ng0 _ D k nd ?_).mono ?_
      · rw [M.bits_128]; omega
      rintro _ wn ⟨vc, rfl, nc, hn⟩
      replace b0 := b0.up hn
      replace nd := nd.up hn
      replace U := U.trans hn
      replace od := Ow.up od hn
      clear hn
      obtain ⟨Anc, snc, cnc, wnc, rfl, nc⟩ := nc
      replace nc : Nt wn _ _ (.slice Anc snc cnc) (0) := ⟨Anc, snc, cnc, wnc, rfl, nc⟩
      obtain ⟨⟨b00, b01, b02, b03⟩, b0f0, b0f1, b0f2, b0f3⟩ := id b0
      have b05 := World.block_lt_of_cell? _ _ b00
      simp only at b05
      go_wp2_with fail
      clear b00 b01 b02 b03 b0f0 b0f1 b0f2 b0f3 b05
      go_ret
      exact ⟨rfl, U.alloc _⟩
    ·
      have e1 : decide (-5000 ≤ k) = true := decide_eq_true (by omega)
      have e2 : decide (k ≤ 5000) = false := decide_eq_false (by omega)
      obtain ⟨⟨b00, b01, b02, b03⟩, b0f0, b0f1, b0f2, b0f3⟩ := id b0
      have b05 := World.block_lt_of_cell? _ _ b00
      simp only at b05
      go_wp2_with fail
      clear b00 b01 b02 b03 b0f0 b0f1 b0f2 b0f3 b05
      refine (dec_no _ _ _ ng0 _ D k nd ?_).mono ?_
      · rw [M.bits_128]; omega
      rintro _ wn ⟨vc, rfl, nc, hn⟩
      replace b0 := b0.up hn
      replace nd := nd.up hn
      replace U := U.trans hn
      replace od := Ow.up od hn
      clear hn
      obtain ⟨Anc, snc, cnc, wnc, rfl, nc⟩ := nc
      replace nc : Nt wn _ _ (.slice Anc snc cnc) (0) := ⟨Anc, snc, cnc, wnc, rfl, nc⟩
      obtain ⟨⟨b00, b01, b02, b03⟩, b0f0, b0f1, b0f2, b0f3⟩ := id b0
      have b05 := World.block_lt_of_cell? _ _ b00
      simp only at b05
      go_wp2_with fail
      clear b00 b01 b02 b03 b0f0 b0f1 b0f2 b0f3 b05
      go_ret
      exact ⟨rfl, U.alloc _⟩
    ·
      have e1 : decide (-5000 ≤ k) = true := decide_eq_true (by omega)
      have e2 : decide (k ≤ 5000) = true := decide_eq_true (by omega)
      obtain ⟨z, hz⟩ : ∃ z : Int, ((M.bits D : Nat) : Int) = z := ⟨_, rfl⟩
      have HZ := Lib.hid hz
      have qz := q3
      rw [hz] at qz
      have e3 : decide (z ≤ 8192) = false := decide_eq_false (by omega)
      clear hz
      obtain ⟨⟨b00, b01, b02, b03⟩, b0f0, b0f1, b0f2, b0f3⟩ := id b0
      have b05 := World.block_lt_of_cell? _ _ b00
      simp only at b05
      go_wp2_with fail
      clear b00 b01 b02 b03 b0f0 b0f1 b0f2 b0f3 b05
      refine (dec_no _ _ _ ng0 _ D k nd ?_).mono ?_
      · rw [M.bits_128]; omega
      rintro _ wn ⟨vc, rfl, nc, hn⟩
      replace b0 := b0.up hn
      replace nd := nd.up hn
      replace U := U.trans hn
      replace od := Ow.up od hn
      clear hn
      obtain ⟨Anc, snc, cnc, wnc, rfl, nc⟩ := nc
      replace nc : Nt wn _ _ (.slice Anc snc cnc) (0) := ⟨Anc, snc, cnc, wnc, rfl, nc⟩
      obtain ⟨⟨b00, b01, b02, b03⟩, b0f0, b0f1, b0f2, b0f3⟩ := id b0
      have b05 := World.block_lt_of_cell? _ _ b00
      simp only at b05
      go_wp2_with fail
      clear b00 b01 b02 b03 b0f0 b0f1 b0f2 b0f3 b05
      obtain ⟨V9, hV9⟩ : ∃ V9, wn.alloc (.cells #[.bool false, (.slice Anc snc cnc), .int .i64 (0), .int .i64 (0)] 44) = V9 := ⟨_, rfl⟩
      have u9 : Up wn V9 := by rw [← hV9]; exact (Up.refl _).alloc _
      rw [hV9]
      clear hV9
      replace b0 := b0.up u9
      replace nd := nd.up u9
      replace nc := nc.up u9
      replace U := U.trans u9
      replace od := Ow.up od u9
      clear u9
      refine (bits_at2 _ _ _ _ _ z nd HZ).mono ?_
      rintro _ _ ⟨rfl, rfl⟩
      go_wp2_with fail
      go_ret
      exact ⟨rfl, U⟩
    ·
      have e1 : decide (-5000 ≤ k) = true := decide_eq_true (by omega)
      have e2 : decide (k ≤ 5000) = true := decide_eq_true (by omega)
      obtain ⟨z, hz⟩ : ∃ z : Int, ((M.bits D : Nat) : Int) = z := ⟨_, rfl⟩
      have HZ := Lib.hid hz
      have qz := q3
      rw [hz] at qz
      have e3 : decide (z ≤ 8192) = true := decide_eq_true (by omega)
      clear hz
      obtain ⟨⟨b00, b01, b02, b03⟩, b0f0, b0f1, b0f2, b0f3⟩ := id b0
      have b05 := World.block_lt_of_cell? _ _ b00
      simp only at b05
      go_wp2_with fail
      clear b00 b01 b02 b03 b0f0 b0f1 b0f2 b0f3 b05
      have HFst := Lib.hid (fun (h0 : 0 < kk) => own_first od h0)
      refine (dec_yes _ _ _ ng0 _ D k nd (M.bits_128.2 q3) ⟨q, q'⟩).mono ?_
      have bd := Up.size U
      rintro _ wy ⟨vc, rfl, nc, hn⟩
      replace b0 := b0.up hn
      replace nd := nd.up hn
      replace U := U.trans hn
      replace od := Ow.up od hn
      clear hn
      obtain ⟨Anc, snc, cnc, wnc, rfl, nc⟩ := nc
      replace nc : Nt wy _ _ (.slice Anc snc cnc) (D) := ⟨Anc, snc, cnc, wnc, rfl, nc⟩
      obtain ⟨⟨b00, b01, b02, b03⟩, b0f0, b0f1, b0f2, b0f3⟩ := id b0
      have b05 := World.block_lt_of_cell? _ _ b00
      simp only at b05
      go_wp2_with fail
      clear b00 b01 b02 b03 b0f0 b0f1 b0f2 b0f3 b05
      obtain ⟨V8, hV8⟩ : ∃ V8, wy.alloc (.cells #[.bool ng0, (.slice Anc snc cnc), .int .i64 (k), .int .i64 (k)] 44) = V8 := ⟨_, rfl⟩
      have uV8 : Up wy V8 := by rw [← hV8]; first | exact (Up.refl _).alloc _ | exact ((Up.refl _).alloc _).alloc _ | exact (((Up.refl _).alloc _).alloc _).alloc _ | exact ((((Up.refl _).alloc _).alloc _).alloc _).alloc _ | ((repeat (refine Up.alloc ?_ _)); exact Up.refl _)
      have c : Bx V8 wy.heap.size ng0 (.slice Anc snc cnc) k k := by rw [← hV8]; exact Bx.mk_ _ _ _ _ _
      rw [hV8]
      clear hV8
      replace b0 := b0.up uV8
      replace nd := nd.up uV8
      replace nc := nc.up uV8
      replace U := U.trans uV8
      replace od := Ow.up od uV8
      clear uV8
      refine (bits_at2 _ _ _ _ _ z nd HZ).mono ?_
      rintro _ _ ⟨rfl, rfl⟩
      obtain ⟨⟨b00, b01, b02, b03⟩, b0f0, b0f1, b0f2, b0f3⟩ := id b0
      have b05 := World.block_lt_of_cell? _ _ b00
      simp only at b05
      obtain ⟨⟨c0, c1, c2, c3⟩, cf0, cf1, cf2, cf3⟩ := id c
      have c5 := World.block_lt_of_cell? _ _ c0
      simp only at c5
      go_wp2_with fail
      clear b00 b01 b02 b03 b0f0 b0f1 b0f2 b0f3 b05
      clear c0 c1 c2 c3 cf0 cf1 cf2 cf3 c5
      refine (cmp_num _ _ _ _ _ _ _ D D nc.nw nd rfl).mono ?_
      rintro _ w10 ⟨rfl, h10⟩
      replace b0 := b0.up h10
      replace nd := nd.up h10
      replace nc := nc.up h10
      replace c := c.up h10
      replace U := U.trans h10
      replace od := Ow.up od h10
      clear h10
      obtain ⟨⟨b00, b01, b02, b03⟩, b0f0, b0f1, b0f2, b0f3⟩ := id b0
      have b05 := World.block_lt_of_cell? _ _ b00
      simp only at b05
      obtain ⟨⟨c0, c1, c2, c3⟩, cf0, cf1, cf2, cf3⟩ := id c
      have c5 := World.block_lt_of_cell? _ _ c0
      simp only at c5
      go_wp2_with fail
      clear b00 b01 b02 b03 b0f0 b0f1 b0f2 b0f3 b05
      clear c0 c1 c2 c3 cf0 cf1 cf2 cf3 c5
      refine (right_nt _ _ _ ng0 _ D k k nc true (decide_eq_true ⟨M.bits_128.2 q3, ⟨q, q'⟩, ⟨q, q'⟩⟩)).mono ?_
      rintro _ w11 ⟨rfl, h11⟩
      replace b0 := b0.up h11
      replace nd := nd.up h11
      replace nc := nc.up h11
      replace c := c.up h11
      replace U := U.trans h11
      replace od := Ow.up od h11
      clear h11
      rcases Nat.eq_zero_or_pos kk with h0 | h0
      ·
        subst h0
        obtain ⟨⟨c0, c1, c2, c3⟩, cf0, cf1, cf2, cf3⟩ := id c
        have c5 := World.block_lt_of_cell? _ _ c0
        simp only at c5
        go_wp2_with fail
        clear c0 c1 c2 c3 cf0 cf1 cf2 cf3 c5
        go_ret
        exact ⟨rfl, U⟩
      ·
        rcases Nat.eq_zero_or_pos snc with h1 | h1
        ·
          subst h1
          obtain ⟨⟨c0, c1, c2, c3⟩, cf0, cf1, cf2, cf3⟩ := id c
          have c5 := World.block_lt_of_cell? _ _ c0
          simp only at c5
          go_wp2_with fail
          clear c0 c1 c2 c3 cf0 cf1 cf2 cf3 c5
          go_ret
          exact ⟨rfl, U⟩
        ·
          obtain ⟨g0, hAd, hg, hlt, hcell, hfz⟩ := own_first od h0
          obtain ⟨b1, o1, hAn, hlo, hcn⟩ := nt_first nc h1
          obtain ⟨g1, hA1, _, hlt1, _, _⟩ := HFst.out h0
          have hg01 : g1 = g0 := by
            rw [hA1] at hAd
            injection hAd with e
            injection e
          subst hg01
          obtain ⟨yd, hyd⟩ : ∃ yd : Nat, ys.getD 0 0 = yd := ⟨_, rfl⟩
          rw [hyd] at hcell
          subst hAd hAn
          have hlt2 := World.block_lt_of_cell? _ _ hcell
          obtain ⟨yn, hyn⟩ := hcn
          have dn : decide ((0 : Int) < (kk : Int)) = true := decide_eq_true (by omega)
          have dm : decide ((0 : Int) < (snc : Int)) = true := decide_eq_true (by omega)
          have hne : b1 ≠ g1 := by omega
          have hne2 : ¬ b1 = g1 := hne
          have hne3 : ¬ g1 = b1 := fun h => hne h.symm
          clear od nc nd HFst hlt hlt1 hlo
          obtain ⟨⟨c0, c1, c2, c3⟩, cf0, cf1, cf2, cf3⟩ := id c
          have c5 := World.block_lt_of_cell? _ _ c0
          simp only at c5
          go_wp2_with fail
          go_ret
          exact ⟨rfl, U.setCell (p := ⟨g1, 0, none⟩) (by show w.heap.size ≤ g1; omega) _⟩
  ·
    obtain ⟨⟨b00, b01, b02, b03⟩, b0f0, b0f1, b0f2, b0f3⟩ := id b0
    have b05 := World.block_lt_of_cell? _ _ b00
    simp only at b05
    obtain ⟨⟨a0, a1, a2, a3⟩, af0, af1, af2, af3⟩ := id a
    have a5 := World.block_lt_of_cell? _ _ a0
    simp only at a5
    obtain ⟨⟨b0, b1, b2, b3⟩, bf0, bf1, bf2, bf3⟩ := id b
    have b5 := World.block_lt_of_cell? _ _ b0
    simp only at b5
    go_region_held3 (fun w' => w'.cell? ⟨w.heap.size, 0, none⟩ = some (.bool ng0) ∧ w'.cell? ⟨w.heap.size, 1, none⟩ = some (.slice A0 ln0 cp0) ∧ w'.cell? ⟨w.heap.size, 2, none⟩ = some (.int .i64 (tw0)) ∧ w'.cell? ⟨w.heap.size, 3, none⟩ = some (.int .i64 (fv0)) ∧ w'.cell? ⟨w3.heap.size, 0, none⟩ = some (.bool NG) ∧ w'.cell? ⟨w3.heap.size, 1, none⟩ = some ((.slice Ana sna cna)) ∧ w'.cell? ⟨w3.heap.size, 2, none⟩ = some (.int .i64 (TT)) ∧ w'.cell? ⟨w3.heap.size, 3, none⟩ = some (.int .i64 (0)) ∧ w'.cell? ⟨w5.heap.size, 0, none⟩ = some (.bool NG) ∧ w'.cell? ⟨w5.heap.size, 1, none⟩ = some ((.slice Anb snb cnb)) ∧ w'.cell? ⟨w5.heap.size, 2, none⟩ = some (.int .i64 (TT)) ∧ w'.cell? ⟨w5.heap.size, 3, none⟩ = some (.int .i64 (0))) (go_keep) (first
        | (go_at_call 33; (with_reducible refine (CR0.out _ ?_).mono ?_); (first | with_reducible assumption | exact (Up.refl _).drewN 1); rintro _ w12 ⟨rfl, h12⟩; have uw12 : Up V6 w12 := Up.trans (by first | with_reducible assumption | exact (Up.refl V6).drewN 1) h12; have b0c00 := cell_up uw12 b00; have b0c01 := cell_up uw12 b01; have b0c02 := cell_up uw12 b02; have b0c03 := cell_up uw12 b03; have ac00 := cell_up uw12 a0; have ac01 := cell_up uw12 a1; have ac02 := cell_up uw12 a2; have ac03 := cell_up uw12 a3; have bc00 := cell_up uw12 b0; have bc01 := cell_up uw12 b1; have bc02 := cell_up uw12 b2; have bc03 := cell_up uw12 b3)
        | (go_at_call 34; (with_reducible refine (CS0.out _ ?_).mono ?_); (first | with_reducible assumption | exact (Up.refl _).drewN 1); rintro _ w13 ⟨rfl, h13⟩; have uw13 : Up V6 w13 := Up.trans (by first | with_reducible assumption | exact (Up.refl V6).drewN 1) h13; have b0c10 := cell_up uw13 b00; have b0c11 := cell_up uw13 b01; have b0c12 := cell_up uw13 b02; have b0c13 := cell_up uw13 b03; have ac10 := cell_up uw13 a0; have ac11 := cell_up uw13 a1; have ac12 := cell_up uw13 a2; have ac13 := cell_up uw13 a3; have bc10 := cell_up uw13 b0; have bc11 := cell_up uw13 b1; have bc12 := cell_up uw13 b2; have bc13 := cell_up uw13 b3)
        | (go_at_call 35; (with_reducible refine (CM.out _ ?_).mono ?_); (first | with_reducible assumption | exact (Up.refl _).drewN 1); rintro _ w14 ⟨rfl, h14⟩; have uw14 : Up V6 w14 := Up.trans (by first | with_reducible assumption | exact (Up.refl V6).drewN 1) h14; have b0c20 := cell_up uw14 b00; have b0c21 := cell_up uw14 b01; have b0c22 := cell_up uw14 b02; have b0c23 := cell_up uw14 b03; have ac20 := cell_up uw14 a0; have ac21 := cell_up uw14 a1; have ac22 := cell_up uw14 a2; have ac23 := cell_up uw14 a3; have bc20 := cell_up uw14 b0; have bc21 := cell_up uw14 b1; have bc22 := cell_up uw14 b2; have bc23 := cell_up uw14 b3)
        | (go_at_call 33; (with_reducible refine (CA.out _ ?_).mono ?_); (first | with_reducible assumption | exact (Up.refl _).drewN 1); rintro _ w15 ⟨rfl, h15⟩; have uw15 : Up V6 w15 := Up.trans (by first | with_reducible assumption | exact (Up.refl V6).drewN 1) h15; have b0c30 := cell_up uw15 b00; have b0c31 := cell_up uw15 b01; have b0c32 := cell_up uw15 b02; have b0c33 := cell_up uw15 b03; have ac30 := cell_up uw15 a0; have ac31 := cell_up uw15 a1; have ac32 := cell_up uw15 a2; have ac33 := cell_up uw15 a3; have bc30 := cell_up uw15 b0; have bc31 := cell_up uw15 b1; have bc32 := cell_up uw15 b2; have bc33 := cell_up uw15 b3))
    clear b0c00
    clear b0c01
    clear b0c02
    clear b0c03
    clear ac00
    clear ac01
    clear ac02
    clear ac03
    clear bc00
    clear bc01
    clear bc02
    clear bc03
    clear b0c10
    clear b0c11
    clear b0c12
    clear b0c13
    clear ac10
    clear ac11
    clear ac12
    clear ac13
    clear bc10
    clear bc11
    clear bc12
    clear bc13
    clear b0c20
    clear b0c21
    clear b0c22
    clear b0c23
    clear ac20
    clear ac21
    clear ac22
    clear ac23
    clear bc20
    clear bc21
    clear bc22
    clear bc23
    clear b0c30
    clear b0c31
    clear b0c32
    clear b0c33
    clear ac30
    clear ac31
    clear ac32
    clear ac33
    clear bc30
    clear bc31
    clear bc32
    clear bc33
    clear h12
    clear h13
    clear h14
    clear h15
    clear b00 b01 b02 b03 b0f0 b0f1 b0f2 b0f3 b05
    clear a0 a1 a2 a3 af0 af1 af2 af3 a5
    clear b0 b1 b2 b3 bf0 bf1 bf2 bf3 b5
    replace b0 := b0.up uw15
    replace bv := bv.up uw15
    replace nd := nd.up uw15
    replace na := na.up uw15
    replace a := a.up uw15
    replace nb := nb.up uw15
    replace b := b.up uw15
    replace U := U.trans uw15
    replace od := Ow.up od uw15
    clear uw12
    clear uw13
    clear uw14
    clear uw15
    clear CR0 CS0 CM CA hrr
    clear a
    clear b
    clear na
    clear nb
    clear bv
    rcases (show k < -5000 ∨ 5000 < k ∨ (-5000 ≤ k ∧ k ≤ 5000 ∧ 8192 < ((M.bits D : Nat) : Int)) ∨ (-5000 ≤ k ∧ k ≤ 5000 ∧ ((M.bits D : Nat) : Int) ≤ 8192) by omega) with q | q | ⟨q, q', q3⟩ | ⟨q, q', q3⟩
    ·
      have e1 : decide (-5000 ≤ k) = false := decide_eq_false (by omega)
      obtain ⟨⟨b00, b01, b02, b03⟩, b0f0, b0f1, b0f2, b0f3⟩ := id b0
      have b05 := World.block_lt_of_cell? _ _ b00
      simp only at b05
      go_wp2_with fail
      clear b00 b01 b02 b03 b0f0 b0f1 b0f2 b0f3 b05
      refine (dec_no _ _ _ ng0 _ D k nd ?_).mono ?_
      · rw [M.bits_128]; omega
      rintro _ wn ⟨vc, rfl, nc, hn⟩
      replace b0 := b0.up hn
      replace nd := nd.up hn
      replace U := U.trans hn
      replace od := Ow.up od hn
      clear hn
      obtain ⟨Anc, snc, cnc, wnc, rfl, nc⟩ := nc
      replace nc : Nt wn _ _ (.slice Anc snc cnc) (0) := ⟨Anc, snc, cnc, wnc, rfl, nc⟩
      obtain ⟨⟨b00, b01, b02, b03⟩, b0f0, b0f1, b0f2, b0f3⟩ := id b0
      have b05 := World.block_lt_of_cell? _ _ b00
      simp only at b05
      go_wp2_with fail
      clear b00 b01 b02 b03 b0f0 b0f1 b0f2 b0f3 b05
      go_ret
      exact ⟨rfl, U.alloc _⟩
    ·
      have e1 : decide (-5000 ≤ k) = true := decide_eq_true (by omega)
      have e2 : decide (k ≤ 5000) = false := decide_eq_false (by omega)
      obtain ⟨⟨b00, b01, b02, b03⟩, b0f0, b0f1, b0f2, b0f3⟩ := id b0
      have b05 := World.block_lt_of_cell? _ _ b00
      simp only at b05
      go_wp2_with fail
      clear b00 b01 b02 b03 b0f0 b0f1 b0f2 b0f3 b05
      refine (dec_no _ _ _ ng0 _ D k nd ?_).mono ?_
      · rw [M.bits_128]; omega
      rintro _ wn ⟨vc, rfl, nc, hn⟩
      replace b0 := b0.up hn
      replace nd := nd.up hn
      replace U := U.trans hn
      replace od := Ow.up od hn
      clear hn
      obtain ⟨Anc, snc, cnc, wnc, rfl, nc⟩ := nc
      replace nc : Nt wn _ _ (.slice Anc snc cnc) (0) := ⟨Anc, snc, cnc, wnc, rfl, nc⟩
      obtain ⟨⟨b00, b01, b02, b03⟩, b0f0, b0f1, b0f2, b0f3⟩ := id b0
      have b05 := World.block_lt_of_cell? _ _ b00
      simp only at b05
      go_wp2_with fail
      clear b00 b01 b02 b03 b0f0 b0f1 b0f2 b0f3 b05
      go_ret
      exact ⟨rfl, U.alloc _⟩
    ·
      have e1 : decide (-5000 ≤ k) = true := decide_eq_true (by omega)
      have e2 : decide (k ≤ 5000) = true := decide_eq_true (by omega)
      obtain ⟨z, hz⟩ : ∃ z : Int, ((M.bits D : Nat) : Int) = z := ⟨_, rfl⟩
      have HZ := Lib.hid hz
      have qz := q3
      rw [hz] at qz
      have e3 : decide (z ≤ 8192) = false := decide_eq_false (by omega)
      clear hz
      obtain ⟨⟨b00, b01, b02, b03⟩, b0f0, b0f1, b0f2, b0f3⟩ := id b0
      have b05 := World.block_lt_of_cell? _ _ b00
      simp only at b05
      go_wp2_with fail
      clear b00 b01 b02 b03 b0f0 b0f1 b0f2 b0f3 b05
      refine (dec_no _ _ _ ng0 _ D k nd ?_).mono ?_
      · rw [M.bits_128]; omega
      rintro _ wn ⟨vc, rfl, nc, hn⟩
      replace b0 := b0.up hn
      replace nd := nd.up hn
      replace U := U.trans hn
      replace od := Ow.up od hn
      clear hn
      obtain ⟨Anc, snc, cnc, wnc, rfl, nc⟩ := nc
      replace nc : Nt wn _ _ (.slice Anc snc cnc) (0) := ⟨Anc, snc, cnc, wnc, rfl, nc⟩
      obtain ⟨⟨b00, b01, b02, b03⟩, b0f0, b0f1, b0f2, b0f3⟩ := id b0
      have b05 := World.block_lt_of_cell? _ _ b00
      simp only at b05
      go_wp2_with fail
      clear b00 b01 b02 b03 b0f0 b0f1 b0f2 b0f3 b05
      obtain ⟨V9, hV9⟩ : ∃ V9, wn.alloc (.cells #[.bool false, (.slice Anc snc cnc), .int .i64 (0), .int .i64 (0)] 44) = V9 := ⟨_, rfl⟩
      have u9 : Up wn V9 := by rw [← hV9]; exact (Up.refl _).alloc _
      rw [hV9]
      clear hV9
      replace b0 := b0.up u9
      replace nd := nd.up u9
      replace nc := nc.up u9
      replace U := U.trans u9
      replace od := Ow.up od u9
      clear u9
      refine (bits_at2 _ _ _ _ _ z nd HZ).mono ?_
      rintro _ _ ⟨rfl, rfl⟩
      go_wp2_with fail
      go_ret
      exact ⟨rfl, U⟩
    ·
      have e1 : decide (-5000 ≤ k) = true := decide_eq_true (by omega)
      have e2 : decide (k ≤ 5000) = true := decide_eq_true (by omega)
      obtain ⟨z, hz⟩ : ∃ z : Int, ((M.bits D : Nat) : Int) = z := ⟨_, rfl⟩
      have HZ := Lib.hid hz
      have qz := q3
      rw [hz] at qz
      have e3 : decide (z ≤ 8192) = true := decide_eq_true (by omega)
      clear hz
      obtain ⟨⟨b00, b01, b02, b03⟩, b0f0, b0f1, b0f2, b0f3⟩ := id b0
      have b05 := World.block_lt_of_cell? _ _ b00
      simp only at b05
      go_wp2_with fail
      clear b00 b01 b02 b03 b0f0 b0f1 b0f2 b0f3 b05
      have HFst := Lib.hid (fun (h0 : 0 < kk) => own_first od h0)
      refine (dec_yes _ _ _ ng0 _ D k nd (M.bits_128.2 q3) ⟨q, q'⟩).mono ?_
      have bd := Up.size U
      rintro _ wy ⟨vc, rfl, nc, hn⟩
      replace b0 := b0.up hn
      replace nd := nd.up hn
      replace U := U.trans hn
      replace od := Ow.up od hn
      clear hn
      obtain ⟨Anc, snc, cnc, wnc, rfl, nc⟩ := nc
      replace nc : Nt wy _ _ (.slice Anc snc cnc) (D) := ⟨Anc, snc, cnc, wnc, rfl, nc⟩
      obtain ⟨⟨b00, b01, b02, b03⟩, b0f0, b0f1, b0f2, b0f3⟩ := id b0
      have b05 := World.block_lt_of_cell? _ _ b00
      simp only at b05
      go_wp2_with fail
      clear b00 b01 b02 b03 b0f0 b0f1 b0f2 b0f3 b05
      obtain ⟨V17, hV17⟩ : ∃ V17, wy.alloc (.cells #[.bool ng0, (.slice Anc snc cnc), .int .i64 (k), .int .i64 (k)] 44) = V17 := ⟨_, rfl⟩
      have uV17 : Up wy V17 := by rw [← hV17]; first | exact (Up.refl _).alloc _ | exact ((Up.refl _).alloc _).alloc _ | exact (((Up.refl _).alloc _).alloc _).alloc _ | exact ((((Up.refl _).alloc _).alloc _).alloc _).alloc _ | ((repeat (refine Up.alloc ?_ _)); exact Up.refl _)
      have c : Bx V17 wy.heap.size ng0 (.slice Anc snc cnc) k k := by rw [← hV17]; exact Bx.mk_ _ _ _ _ _
      rw [hV17]
      clear hV17
      replace b0 := b0.up uV17
      replace nd := nd.up uV17
      replace nc := nc.up uV17
      replace U := U.trans uV17
      replace od := Ow.up od uV17
      clear uV17
      refine (bits_at2 _ _ _ _ _ z nd HZ).mono ?_
      rintro _ _ ⟨rfl, rfl⟩
      obtain ⟨⟨b00, b01, b02, b03⟩, b0f0, b0f1, b0f2, b0f3⟩ := id b0
      have b05 := World.block_lt_of_cell? _ _ b00
      simp only at b05
      obtain ⟨⟨c0, c1, c2, c3⟩, cf0, cf1, cf2, cf3⟩ := id c
      have c5 := World.block_lt_of_cell? _ _ c0
      simp only at c5
      go_wp2_with fail
      clear b00 b01 b02 b03 b0f0 b0f1 b0f2 b0f3 b05
      clear c0 c1 c2 c3 cf0 cf1 cf2 cf3 c5
      refine (cmp_num _ _ _ _ _ _ _ D D nc.nw nd rfl).mono ?_
      rintro _ w19 ⟨rfl, h19⟩
      replace b0 := b0.up h19
      replace nd := nd.up h19
      replace nc := nc.up h19
      replace c := c.up h19
      replace U := U.trans h19
      replace od := Ow.up od h19
      clear h19
      obtain ⟨⟨b00, b01, b02, b03⟩, b0f0, b0f1, b0f2, b0f3⟩ := id b0
      have b05 := World.block_lt_of_cell? _ _ b00
      simp only at b05
      obtain ⟨⟨c0, c1, c2, c3⟩, cf0, cf1, cf2, cf3⟩ := id c
      have c5 := World.block_lt_of_cell? _ _ c0
      simp only at c5
      go_wp2_with fail
      clear b00 b01 b02 b03 b0f0 b0f1 b0f2 b0f3 b05
      clear c0 c1 c2 c3 cf0 cf1 cf2 cf3 c5
      refine (right_nt _ _ _ ng0 _ D k k nc true (decide_eq_true ⟨M.bits_128.2 q3, ⟨q, q'⟩, ⟨q, q'⟩⟩)).mono ?_
      rintro _ w20 ⟨rfl, h20⟩
      replace b0 := b0.up h20
      replace nd := nd.up h20
      replace nc := nc.up h20
      replace c := c.up h20
      replace U := U.trans h20
      replace od := Ow.up od h20
      clear h20
      rcases Nat.eq_zero_or_pos kk with h0 | h0
      ·
        subst h0
        obtain ⟨⟨c0, c1, c2, c3⟩, cf0, cf1, cf2, cf3⟩ := id c
        have c5 := World.block_lt_of_cell? _ _ c0
        simp only at c5
        go_wp2_with fail
        clear c0 c1 c2 c3 cf0 cf1 cf2 cf3 c5
        go_ret
        exact ⟨rfl, U⟩
      ·
        rcases Nat.eq_zero_or_pos snc with h1 | h1
        ·
          subst h1
          obtain ⟨⟨c0, c1, c2, c3⟩, cf0, cf1, cf2, cf3⟩ := id c
          have c5 := World.block_lt_of_cell? _ _ c0
          simp only at c5
          go_wp2_with fail
          clear c0 c1 c2 c3 cf0 cf1 cf2 cf3 c5
          go_ret
          exact ⟨rfl, U⟩
        ·
          obtain ⟨g0, hAd, hg, hlt, hcell, hfz⟩ := own_first od h0
          obtain ⟨b1, o1, hAn, hlo, hcn⟩ := nt_first nc h1
          obtain ⟨g1, hA1, _, hlt1, _, _⟩ := HFst.out h0
          have hg01 : g1 = g0 := by
            rw [hA1] at hAd
            injection hAd with e
            injection e
          subst hg01
          obtain ⟨yd, hyd⟩ : ∃ yd : Nat, ys.getD 0 0 = yd := ⟨_, rfl⟩
          rw [hyd] at hcell
          subst hAd hAn
          have hlt2 := World.block_lt_of_cell? _ _ hcell
          obtain ⟨yn, hyn⟩ := hcn
          have dn : decide ((0 : Int) < (kk : Int)) = true := decide_eq_true (by omega)
          have dm : decide ((0 : Int) < (snc : Int)) = true := decide_eq_true (by omega)
          have hne : b1 ≠ g1 := by omega
          have hne2 : ¬ b1 = g1 := hne
          have hne3 : ¬ g1 = b1 := fun h => hne h.symm
          clear od nc nd HFst hlt hlt1 hlo
          obtain ⟨⟨c0, c1, c2, c3⟩, cf0, cf1, cf2, cf3⟩ := id c
          have c5 := World.block_lt_of_cell? _ _ c0
          simp only at c5
          go_wp2_with fail
          go_ret
          exact ⟨rfl, U.setCell (p := ⟨g1, 0, none⟩) (by show w.heap.size ≤ g1; omega) _⟩
end Go.Proofs.YteeepfhjbemgoaaDoor
