/-
  The walk of ScanPlace: true, and nothing that was there has turned.
-/
import Derived.Test.YtpmpdecaadfnmaaDoorSy1
import Derived.Deep.CutBlock
import Derived.Deep.DeepCutAuto
import Derived.Deep.LoopGhost
namespace Go.Proofs.YtpmpdecaadfnmaaDoor
open Go.RowKit Go.Shelf
set_option linter.unusedVariables false

theorem Ob.grown {W X : World} {g base : Nat} {ty : TypeId} {cs : Array Value} {v : Value} {bs : List UInt8} (R : Ob W g ty cs) (G : W.grownBy X v.ownBlock) (own : Rb W base v bs) (hty : ty ≠ 5) : Ob X g ty cs := by
  have hne : v.ownBlock ≠ some g := by
    rcases own.2 with ⟨rfl, _⟩ | ⟨g', cap, cur, rfl, _, h2, _⟩
    · intro e; cases e
    · intro e
      have e2 : g' = g := by simpa [Value.ownBlock] using e
      subst e2
      have R' : W.heap[g']? = some (.cells cs ty (0, 0)) := R
      rw [R'] at h2
      injection h2 with h2
      injection h2 with h3 h4
      exact hty h4
  have := G.block g R.lt (fun e => hne e.symm)
  exact this.trans R
theorem Ends.up {w w' : World} {g : Nat} (h : Ends w g) (u : Up w w') : Ends w' g := Ob.up h u
theorem M.rs_er (l : List UInt8) : ∃ r i er, M.rs l = (r, i, er) ∧ ((er == 0) = M.isOk (M.scan l)) := by
  rcases M.rs_isOk l with ⟨h, r, hr⟩ | ⟨h, i, hr⟩
  · exact ⟨_, _, _, hr, by rw [h]; rfl⟩
  · exact ⟨_, _, _, hr, by rw [h]; rfl⟩

set_option maxHeartbeats 16000000 in
set_option maxRecDepth 100000 in
theorem splace_walk (w : World) (hTW : TabW w) (hEW : ErrW w) (A0 : Option Addr) (n0 c0 : Nat) (l0 : List UInt8) (e0 : Sb w A0 n0 c0 l0) :
    Calls Tryd.prog 3 #[.slice A0 n0 c0] w (True9 w) := by
  obtain ⟨k, hk, hk1, hk2⟩ : ∃ k : Nat, min (n0 : Int) 100 = (k : Int) ∧ k ≤ n0 ∧ k ≤ 100 := ⟨min n0 100, by omega, by omega, by omega⟩
  have hc0 := e0.len
  have hsl := slice_j A0 n0 c0 k (by omega) e0.none_
  obtain ⟨l, hl⟩ : ∃ l, l0.take k = l := ⟨_, rfl⟩
  have HS := Lib.hid (show Sb w A0 k c0 l by rw [← hl]; exact e0.take hk1)
  have hnone := Lib.hid e0.none_
  have TW := Lib.hid hTW
  have EW := Lib.hid hEW
  have CH := Lib.hid (shown9_any w TW EW)
  clear hl hTW hEW e0
  have R12 : (∃ i, M.scan l = .error i) ∨ ∃ x, M.scan l = .ok x := by
    cases M.scan l with
    | error i => exact .inl ⟨i, rfl⟩
    | ok x => exact .inr ⟨x, rfl⟩
  rcases R12 with ⟨i, hsc⟩ | ⟨y, hsc⟩
  · have r1 := Lib.hid (M.rs_error hsc)
    obtain ⟨hle, hany, hdead⟩ := M.place l i hsc
    have hki : i ≤ k := by rw [← HS.out.num]; exact hle
    obtain ⟨lp, hlp⟩ : ∃ lp, l.take i = lp := ⟨_, rfl⟩
    have HLP := Lib.hid (show lp.length ≤ 100 by rw [← hlp, List.length_take]; have := HS.out.num; omega)
    have HSn := Lib.hid (show Sb w A0 i c0 lp by rw [← hlp]; exact HS.out.take hki)
    rw [hlp] at hany
    have HANY := Lib.hid hany
    have HDEAD := Lib.hid hdead
    have hsl1 := slice_j A0 k c0 i (by omega) hnone.out
    have dn1 : decide ((i : Int) < 0) = false := decide_eq_false (by omega)
    have dn2 : decide ((i : Int) > (k : Int)) = false := decide_eq_false (by omega)
    have dn3 : decide ((k : Int) < (i : Int)) = false := decide_eq_false (by omega)
    have dn4 : decide (k < i) = false := decide_eq_false (by omega)
    clear hsc hle hany hdead
    go_enter Tryd.func3, Tryd.ntmps3
    go_upto_region 2 with (go_at_call 10; refine CH.out.mono ?_; rintro _ w1 ⟨rfl, u1⟩)
    go_upto_region 3 with fail
    clear hsl hk
    have C1 := Lib.hid (scan_val w1 (Lib.hid (EW.out.up u1)) _ k _ l (HS.out.up u1) (by omega) _ i 2 r1 0 false 0 0 0 false (i : Int) rfl rfl rfl rfl)
    go_upto_region 4 with (first | (go_at_call 11; refine C1.out.mono ?_; rintro _ V1 ⟨A1, n1, c1, xs1, rfl, a1, b1, d1, e1, u2⟩) | (refine store_ob rfl 27 (.tmp 4) (.tmp 26) rfl _ #[.int .i64 0, .bool false, .slice none 0 0, .int .i64 0, .int .i64 0, .bool false] #[.int .i64 0, .bool false, .slice A1 n1 c1, .int .i64 0, .int .i64 0, .bool false] rfl rfl 6 (by kernel_rfl) rfl rfl (by simp [Value.oneCell']) V1 ((Up.refl _).alloc _) (Nat.le_refl _) 27 (Ob.mk_ _ _ _) ?_; intro W1 I1 q1))
    have U1 : Up w W1 := (u1.trans u2).trans q1
    clear a1 b1 d1 e1 u2 q1 C1 I1 r1 u1
    go_upto_region 9 with fail
    obtain ⟨gt, hgt⟩ : ∃ gt, W1.heap.size = gt := ⟨_, rfl⟩
    obtain ⟨V0, hV0⟩ : ∃ V0, W1.alloc (.cells #[.string ⟨#[]⟩, .string ⟨#[48]⟩, .string ⟨#[110, 102]⟩, .string ⟨#[102]⟩, .string ⟨#[105, 110, 102]⟩, .string ⟨#[97, 110]⟩, .string ⟨#[110]⟩, .string ⟨#[97, 82]⟩, .string ⟨#[82]⟩] 9) = V0 := ⟨_, rfl⟩
    have T0 : Ends V0 gt := by rw [← hV0, ← hgt]; exact Ob.mk_ _ _ _
    have U0 : Up w V0 := by rw [← hV0]; exact U1.alloc _
    rw [hgt, hV0]
    clear hV0 hgt U1 dn1 dn2 dn3 dn4
    go_upto_region 11 with fail
    go_loopg [8, 9] 9 (fun g gv iv wr => ∃ j : Nat, j ≤ 9 ∧ g = 9 - j ∧ gv = .bool (M.anyOk lp j) ∧ iv = .int .i64 (j : Int) ∧ Ends wr gt ∧ Up w wr)
    case atStart => exact ⟨0, by omega, rfl, rfl, rfl, T0, U0⟩
    case round =>
      obtain ⟨j, hj, rfl, rfl, rfl, T, U⟩ := hrel
      by_cases hj9 : j < 9
      · have d1 : decide ((j : Int) < 9) = true := decide_eq_true (by omega)
        have d2 : decide (j < 9) = true := decide_eq_true hj9
        have hj9i : (j : Int) < 9 := by omega
        obtain ⟨E, hE, hEl⟩ := T.at_ j hj9
        have hlt := T.lt
        obtain ⟨r, i', er, hr, her⟩ := M.rs_er (lp ++ M.endings.getD j [])
        have HRJ := Lib.hid hr
        obtain ⟨b, hb⟩ : ∃ b, M.isOk (M.scan (lp ++ M.endings.getD j [])) = b := ⟨_, rfl⟩
        obtain ⟨gb, hgb⟩ : ∃ gb, M.anyOk lp j = gb := ⟨_, rfl⟩
        have HGO : Hid ((gb || b) = M.anyOk lp (j + 1)) := by show _ = _; rw [M.anyOk, hgb, hb]
        rw [hb] at her
        rw [hgb]
        clear hb hgb hr
        obtain ⟨K, hK⟩ : ∃ K : Int, (r.kind : Int) = K := ⟨_, rfl⟩
        obtain ⟨ng, hng⟩ : ∃ ng, r.neg = ng := ⟨_, rfl⟩
        obtain ⟨d, kk, bg, ct, hnn⟩ : ∃ d kk bg ct, r.n = ⟨d, kk, bg, ct⟩ := ⟨_, _, _, _, rfl⟩
        obtain ⟨I, hI⟩ : ∃ I : Int, (i' : Int) = I := ⟨_, rfl⟩
        have HK := Lib.hid hK
        have HNG := Lib.hid hng
        have HNN := Lib.hid hnn
        have HI := Lib.hid hI
        clear hK hng hnn hI
        go_upto_region 13 with fail
        try simp only [Act.put]
        go_cut [10, 11, 12] from 45 to 70 (fun pv mv fv wx => mv = .int .i64 I ∧ fv = .int .i64 er ∧ Up wr wx)
        case first =>
          have uD : Up wr wr.drew := (Up.refl _).drew
          refine wp_region_held_drew (S := fun w' => w'.cell? ⟨gt, j, none⟩ = some (.string E)) (by kernel_rfl) ((Below.cell (p := ⟨gt, j, none⟩) (uD) hlt).trans hE) (fun hHeld => ?_)
          refine wpAnyH_take (i := 1) (v := ?_) rfl (by kernel_rfl) (by kernel_rfl) (by kernel_rfl) (fun _ _ _ h => h) (Or.inl ⟨by rfl, ?_⟩) (by assumption) ?_
          rotate_left
          · intro wq hSq
            replace hSq : wq.cell? ⟨gt, j, none⟩ = some (.string E) := hSq
            go_simp
            all_goals with_reducible rfl
          try simp only [Act.put, List.setIfInBounds_toArray, List.set_cons_zero, List.set_cons_succ, List.getElem_toArray, List.getElem_cons_zero, List.getElem_cons_succ]
          refine wpAnyH_take (i := 2) (v := ?_) rfl (by kernel_rfl) (by kernel_rfl) (by kernel_rfl) (fun _ _ _ h => h) (Or.inl ⟨by rfl, ?_⟩) (by assumption) ?_
          rotate_left
          · intro wq hSq
            replace hSq : wq.cell? ⟨gt, j, none⟩ = some (.string E) := hSq
            go_simp
            all_goals with_reducible rfl
          try simp only [Act.put, List.setIfInBounds_toArray, List.set_cons_zero, List.set_cons_succ, List.getElem_toArray, List.getElem_cons_zero, List.getElem_cons_succ]
          refine wpAnyH_take (i := 3) (v := ?_) rfl (by kernel_rfl) (by kernel_rfl) (by kernel_rfl) (fun _ _ _ h => h) (Or.inl ⟨by rfl, ?_⟩) (by assumption) ?_
          rotate_left
          · intro wq hSq
            replace hSq : wq.cell? ⟨gt, j, none⟩ = some (.string E) := hSq
            go_simp
            all_goals with_reducible rfl
          try simp only [Act.put, List.setIfInBounds_toArray, List.set_cons_zero, List.set_cons_succ, List.getElem_toArray, List.getElem_cons_zero, List.getElem_cons_succ]
          refine wpAnyH_take (i := 5) (v := ?_) rfl (by kernel_rfl) (by kernel_rfl) (by kernel_rfl) (fun _ _ _ h => h) (Or.inl ⟨by rfl, ?_⟩) (by assumption) ?_
          rotate_left
          · intro wq hSq
            replace hSq : wq.cell? ⟨gt, j, none⟩ = some (.string E) := hSq
            go_simp
            all_goals with_reducible rfl
          try simp only [Act.put, List.setIfInBounds_toArray, List.set_cons_zero, List.set_cons_succ, List.getElem_toArray, List.getElem_cons_zero, List.getElem_cons_succ]
          refine wpAnyH_take (i := 6) (v := ?_) rfl (by kernel_rfl) (by kernel_rfl) (by kernel_rfl) (fun _ _ _ h => h) (Or.inl ⟨by rfl, ?_⟩) (by assumption) ?_
          rotate_left
          · intro wq hSq
            replace hSq : wq.cell? ⟨gt, j, none⟩ = some (.string E) := hSq
            go_simp
            all_goals with_reducible rfl
          try simp only [Act.put, List.setIfInBounds_toArray, List.set_cons_zero, List.set_cons_succ, List.getElem_toArray, List.getElem_cons_zero, List.getElem_cons_succ]
          refine wpAnyH_take (i := 7) (v := ?_) rfl (by kernel_rfl) (by kernel_rfl) (by kernel_rfl) (fun _ _ _ h => h) (Or.inl ⟨by rfl, ?_⟩) (by assumption) ?_
          rotate_left
          · intro wq hSq
            replace hSq : wq.cell? ⟨gt, j, none⟩ = some (.string E) := hSq
            go_simp
            all_goals with_reducible rfl
          try simp only [Act.put, List.setIfInBounds_toArray, List.set_cons_zero, List.set_cons_succ, List.getElem_toArray, List.getElem_cons_zero, List.getElem_cons_succ]
          refine wpAnyH_take (i := 8) (v := ?_) rfl (by kernel_rfl) (by kernel_rfl) (by kernel_rfl) (fun _ _ _ h => h) (Or.inl ⟨by rfl, ?_⟩) (by assumption) ?_
          rotate_left
          · intro wq hSq
            replace hSq : wq.cell? ⟨gt, j, none⟩ = some (.string E) := hSq
            go_simp
            all_goals with_reducible rfl
          try simp only [Act.put, List.setIfInBounds_toArray, List.set_cons_zero, List.set_cons_succ, List.getElem_toArray, List.getElem_cons_zero, List.getElem_cons_succ]
          refine wpAnyH_ready (rs := [0, 15]) (by kernel_rfl) (by simp) ?_
          refine AllReadyH.cons rfl (fun KQ hK => ?_) (AllReadyH.cons rfl (fun KQ hK => ?_) AllReadyH.nil)
          · go_simp
            refine hK.out _ (wr.drew.alloc (.cells #[] 5)) ((Below.cell (p := ⟨gt, j, none⟩) (uD.alloc _) hlt).trans hE) (fun _ => ?_)
            try simp only [Act.put, List.setIfInBounds_toArray, List.set_cons_zero, List.set_cons_succ, List.getElem_toArray, List.getElem_cons_zero, List.getElem_cons_succ]
            clear hK
            obtain ⟨E0, hE0⟩ : ∃ E0, wr.drew.alloc (.cells #[] 5) = E0 := ⟨_, rfl⟩
            have HL : Rb E0 wr.drew.heap.size (.slice (some ⟨wr.drew.heap.size, 0, none⟩) 0 0) [] := by rw [← hE0]; exact World.ownsRow_lit wr.drew #[] 0 (Nat.le_refl _) (by simp only [maxLen]; omega) rfl
            have vE0 : Up wr.drew E0 := by rw [← hE0]; exact (Up.refl _).alloc _
            have uE0 : Up wr E0 := uD.trans vE0
            have lb : wr.heap.size ≤ wr.drew.heap.size := Up.size uD
            have lq : wr.drew.heap.size ≤ E0.heap.size := Up.size vE0
            rw [hE0]
            clear hE0
            refine wpAnyH_ready (rs := [4, 15]) (by kernel_rfl) (by simp) ?_
            refine AllReadyH.cons rfl (fun KQ hK => ?_) (AllReadyH.cons rfl (fun KQ hK => ?_) AllReadyH.nil)
            · obtain ⟨v1, X1, ha, RB, G1⟩ := append_sb_ex E0 22 wr.drew.heap.size _ _ HL A0 i c0 lp (HSn.out.up (U.trans uE0)) (by have := HLP.out; simp; omega) lq
              have uX1 : Up wr X1 := Up.grown uE0 G1 (fun b hb => Nat.le_trans lb (HL.lt b hb).1)
              rw [List.nil_append] at RB
              replace lq := Nat.le_trans lq (G1.size)
              rw [if_pos (by rfl)]
              refine wp_append_run (.tmp 52) (.tmp 55) 22 22 rfl _ _ rfl rfl v1 X1 ha ?_
              refine hK.out _ _ ((Below.cell (p := ⟨gt, j, none⟩) (uX1) hlt).trans hE) (fun _ => ?_)
              try simp only [Act.put, List.setIfInBounds_toArray, List.set_cons_zero, List.set_cons_succ, List.getElem_toArray, List.getElem_cons_zero, List.getElem_cons_succ]
              clear hK HL ha G1
              refine wpAnyH_ready (rs := [9, 15]) (by kernel_rfl) (by simp) ?_
              refine AllReadyH.cons rfl (fun KQ hK => ?_) (AllReadyH.cons rfl (fun KQ hK => ?_) AllReadyH.nil)
              · obtain ⟨v2, X2, ha, RB2, G2⟩ := append_str_ex X1 22 wr.drew.heap.size _ _ RB E _ hEl (by have := HLP.out; have := M.endings_len j; omega) lq
                have uX2 : Up wr X2 := Up.grown uX1 G2 (fun b hb => Nat.le_trans lb (RB.lt b hb).1)
                rw [if_pos (by rfl)]
                refine wp_append_run (.tmp 56) (.tmp 60) 22 9 rfl _ _ rfl rfl v2 X2 ha ?_
                refine hK.out _ _ ((Below.cell (p := ⟨gt, j, none⟩) (uX2) hlt).trans hE) (fun _ => ?_)
                try simp only [Act.put, List.setIfInBounds_toArray, List.set_cons_zero, List.set_cons_succ, List.getElem_toArray, List.getElem_cons_zero, List.getElem_cons_succ]
                clear hK RB ha G2
                obtain ⟨B2, m2, k2, rfl, SB, _, _⟩ := RB2.sl
                have hm2 : m2 ≤ 1000 := by have := SB.num; have := HLP.out; have := M.endings_len j; rw [List.length_append] at *; omega
                clear RB2
                refine wpAnyH_ready (rs := [10, 15]) (by kernel_rfl) (by simp) ?_
                refine AllReadyH.cons rfl (fun KQ hK => ?_) (AllReadyH.cons rfl (fun KQ hK => ?_) AllReadyH.nil)
                · go_simp
                  refine (scan_val X2 (Lib.hid (EW.out.up (U.trans uX2))) B2 m2 k2 _ SB (by omega) _ _ _ HRJ K ng d kk bg ct I HK.out HNG.out HNN.out HI.out).mono ?_
                  rintro _ V3 ⟨A9, n9, c9, xs9, rfl, _, _, _, _, vV3⟩
                  have uV3 : Up wr V3 := uX2.trans vV3
                  refine hK.out _ _ ((Below.cell (p := ⟨gt, j, none⟩) (uV3) hlt).trans hE) (fun _ => ?_)
                  try simp only [Act.put, List.setIfInBounds_toArray, List.set_cons_zero, List.set_cons_succ, List.getElem_toArray, List.getElem_cons_zero, List.getElem_cons_succ]
                  clear hK
                  refine wpAnyH_take (i := 11) (v := ?_) rfl (by kernel_rfl) (by kernel_rfl) (by kernel_rfl) (fun _ _ _ h => h) (Or.inl ⟨by rfl, ?_⟩) (by assumption) ?_
                  rotate_left
                  · intro wq hSq
                    replace hSq : wq.cell? ⟨gt, j, none⟩ = some (.string E) := hSq
                    go_simp
                    all_goals with_reducible rfl
                  try simp only [Act.put, List.setIfInBounds_toArray, List.set_cons_zero, List.set_cons_succ, List.getElem_toArray, List.getElem_cons_zero, List.getElem_cons_succ]
                  refine wpAnyH_take (i := 12) (v := ?_) rfl (by kernel_rfl) (by kernel_rfl) (by kernel_rfl) (fun _ _ _ h => h) (Or.inl ⟨by rfl, ?_⟩) (by assumption) ?_
                  rotate_left
                  · intro wq hSq
                    replace hSq : wq.cell? ⟨gt, j, none⟩ = some (.string E) := hSq
                    go_simp
                    all_goals with_reducible rfl
                  try simp only [Act.put, List.setIfInBounds_toArray, List.set_cons_zero, List.set_cons_succ, List.getElem_toArray, List.getElem_cons_zero, List.getElem_cons_succ]
                  refine wpAnyH_take (i := 13) (v := ?_) rfl (by kernel_rfl) (by kernel_rfl) (by kernel_rfl) (fun _ _ _ h => h) (Or.inl ⟨by rfl, ?_⟩) (by assumption) ?_
                  rotate_left
                  · intro wq hSq
                    replace hSq : wq.cell? ⟨gt, j, none⟩ = some (.string E) := hSq
                    go_simp
                    all_goals with_reducible rfl
                  try simp only [Act.put, List.setIfInBounds_toArray, List.set_cons_zero, List.set_cons_succ, List.getElem_toArray, List.getElem_cons_zero, List.getElem_cons_succ]
                  refine wpAnyH_take (i := 14) (v := ?_) rfl (by kernel_rfl) (by kernel_rfl) (by kernel_rfl) (fun _ _ _ h => h) (Or.inl ⟨by rfl, ?_⟩) (by assumption) ?_
                  rotate_left
                  · intro wq hSq
                    replace hSq : wq.cell? ⟨gt, j, none⟩ = some (.string E) := hSq
                    go_simp
                    all_goals with_reducible rfl
                  try simp only [Act.put, List.setIfInBounds_toArray, List.set_cons_zero, List.set_cons_succ, List.getElem_toArray, List.getElem_cons_zero, List.getElem_cons_succ]
                  refine wpAnyH_ready (rs := [15]) (by kernel_rfl) (by simp) ?_
                  refine AllReadyH.cons rfl (fun KQ hK => ?_) AllReadyH.nil
                  go_simp
                  refine hK.out _ (V3.alloc (.cells #[.int .i64 0, .bool false, .slice none 0 0, .int .i64 0, .int .i64 0, .bool false] 27)) ((Below.cell (p := ⟨gt, j, none⟩) (uV3.alloc _) hlt).trans hE) (fun _ => ?_)
                  try simp only [Act.put, List.setIfInBounds_toArray, List.set_cons_zero, List.set_cons_succ, List.getElem_toArray, List.getElem_cons_zero, List.getElem_cons_succ]
                  clear hK
                  obtain ⟨E4, hE4⟩ : ∃ E4, V3.alloc (.cells #[.int .i64 0, .bool false, .slice none 0 0, .int .i64 0, .int .i64 0, .bool false] 27) = E4 := ⟨_, rfl⟩
                  have R : Ob E4 V3.heap.size 27 #[.int .i64 0, .bool false, .slice none 0 0, .int .i64 0, .int .i64 0, .bool false] := by rw [← hE4]; exact Ob.mk_ _ _ _
                  have lR : wr.heap.size ≤ V3.heap.size := Up.size uV3
                  have vE4 : Up V3 E4 := by rw [← hE4]; exact (Up.refl _).alloc _
                  have uE4 : Up wr E4 := uV3.trans vE4
                  rw [hE4]
                  clear hE4
                  refine wpAnyH_ready (rs := [16]) (by kernel_rfl) (by simp) ?_
                  refine AllReadyH.cons rfl (fun KQ hK => ?_) AllReadyH.nil
                  rw [if_pos (by rfl)]
                  refine wp_store_row 27 (.tmp 10) (.tmp 63) rfl V3.heap.size #[.int .i64 K, .bool ng, .slice A9 n9 c9, .int .i64 kk, .int .i64 bg, .bool ct] rfl rfl 27 #[.int .i64 0, .bool false, .slice none 0 0, .int .i64 0, .int .i64 0, .bool false] R (by kernel_rfl) rfl (by simp [Value.oneCell']) ?_
                  obtain ⟨WF, hWF⟩ : ∃ WF, E4.setRow V3.heap.size #[.int .i64 K, .bool ng, .slice A9 n9 c9, .int .i64 kk, .int .i64 bg, .bool ct] = WF := ⟨_, rfl⟩
                  have uF : Up wr WF := by rw [← hWF]; exact uE4.setRow_ lR _
                  rw [hWF]
                  clear hWF
                  refine hK.out _ _ ((Below.cell (p := ⟨gt, j, none⟩) (uF) hlt).trans hE) (fun _ => ?_)
                  simp only [Act.put]
                  clear hK
                  refine wpAnyH_ready (rs := [17]) (by kernel_rfl) (by simp) ?_
                  refine AllReadyH.cons rfl (fun KQ hK => ?_) AllReadyH.nil
                  go_simp
                  refine hK.out _ _ ((Below.cell (p := ⟨gt, j, none⟩) (uF) hlt).trans hE) (fun _ => ?_)
                  try simp only [Act.put, List.setIfInBounds_toArray, List.set_cons_zero, List.set_cons_succ, List.getElem_toArray, List.getElem_cons_zero, List.getElem_cons_succ]
                  clear hK
                  refine wpAnyH_ready (rs := [18]) (by kernel_rfl) (by simp) ?_
                  refine AllReadyH.cons rfl (fun KQ hK => ?_) AllReadyH.nil
                  go_simp
                  refine hK.out _ _ ((Below.cell (p := ⟨gt, j, none⟩) (uF) hlt).trans hE) (fun _ => ?_)
                  try simp only [Act.put, List.setIfInBounds_toArray, List.set_cons_zero, List.set_cons_succ, List.getElem_toArray, List.getElem_cons_zero, List.getElem_cons_succ]
                  clear hK
                  refine wpAnyH_done (by kernel_rfl) ?_ _
                  go_wp2_with fail
                  go_meet
                  exact ⟨rfl, rfl, uF⟩
                · go_simp
                  refine hK.out _ (X2.alloc (.cells #[.int .i64 0, .bool false, .slice none 0 0, .int .i64 0, .int .i64 0, .bool false] 27)) ((Below.cell (p := ⟨gt, j, none⟩) (uX2.alloc _) hlt).trans hE) (fun _ => ?_)
                  try simp only [Act.put, List.setIfInBounds_toArray, List.set_cons_zero, List.set_cons_succ, List.getElem_toArray, List.getElem_cons_zero, List.getElem_cons_succ]
                  clear hK
                  obtain ⟨E3, hE3⟩ : ∃ E3, X2.alloc (.cells #[.int .i64 0, .bool false, .slice none 0 0, .int .i64 0, .int .i64 0, .bool false] 27) = E3 := ⟨_, rfl⟩
                  have R : Ob E3 X2.heap.size 27 #[.int .i64 0, .bool false, .slice none 0 0, .int .i64 0, .int .i64 0, .bool false] := by rw [← hE3]; exact Ob.mk_ _ _ _
                  have lR : wr.heap.size ≤ X2.heap.size := Up.size uX2
                  have vE3 : Up X2 E3 := by rw [← hE3]; exact (Up.refl _).alloc _
                  have uE3 : Up wr E3 := uX2.trans vE3
                  rw [hE3]
                  clear hE3
                  replace SB := SB.up vE3
                  refine wpAnyH_ready (rs := [10]) (by kernel_rfl) (by simp) ?_
                  refine AllReadyH.cons rfl (fun KQ hK => ?_) AllReadyH.nil
                  go_simp
                  refine (scan_val E3 (Lib.hid (EW.out.up (U.trans uE3))) B2 m2 k2 _ SB (by omega) _ _ _ HRJ K ng d kk bg ct I HK.out HNG.out HNN.out HI.out).mono ?_
                  rintro _ V4 ⟨A9, n9, c9, xs9, rfl, _, _, _, _, vV4⟩
                  have uV4 : Up wr V4 := uE3.trans vV4
                  refine hK.out _ _ ((Below.cell (p := ⟨gt, j, none⟩) (uV4) hlt).trans hE) (fun _ => ?_)
                  try simp only [Act.put, List.setIfInBounds_toArray, List.set_cons_zero, List.set_cons_succ, List.getElem_toArray, List.getElem_cons_zero, List.getElem_cons_succ]
                  clear hK
                  replace R := R.up vV4
                  refine wpAnyH_take (i := 11) (v := ?_) rfl (by kernel_rfl) (by kernel_rfl) (by kernel_rfl) (fun _ _ _ h => h) (Or.inl ⟨by rfl, ?_⟩) (by assumption) ?_
                  rotate_left
                  · intro wq hSq
                    replace hSq : wq.cell? ⟨gt, j, none⟩ = some (.string E) := hSq
                    go_simp
                    all_goals with_reducible rfl
                  try simp only [Act.put, List.setIfInBounds_toArray, List.set_cons_zero, List.set_cons_succ, List.getElem_toArray, List.getElem_cons_zero, List.getElem_cons_succ]
                  refine wpAnyH_take (i := 12) (v := ?_) rfl (by kernel_rfl) (by kernel_rfl) (by kernel_rfl) (fun _ _ _ h => h) (Or.inl ⟨by rfl, ?_⟩) (by assumption) ?_
                  rotate_left
                  · intro wq hSq
                    replace hSq : wq.cell? ⟨gt, j, none⟩ = some (.string E) := hSq
                    go_simp
                    all_goals with_reducible rfl
                  try simp only [Act.put, List.setIfInBounds_toArray, List.set_cons_zero, List.set_cons_succ, List.getElem_toArray, List.getElem_cons_zero, List.getElem_cons_succ]
                  refine wpAnyH_take (i := 13) (v := ?_) rfl (by kernel_rfl) (by kernel_rfl) (by kernel_rfl) (fun _ _ _ h => h) (Or.inl ⟨by rfl, ?_⟩) (by assumption) ?_
                  rotate_left
                  · intro wq hSq
                    replace hSq : wq.cell? ⟨gt, j, none⟩ = some (.string E) := hSq
                    go_simp
                    all_goals with_reducible rfl
                  try simp only [Act.put, List.setIfInBounds_toArray, List.set_cons_zero, List.set_cons_succ, List.getElem_toArray, List.getElem_cons_zero, List.getElem_cons_succ]
                  refine wpAnyH_take (i := 14) (v := ?_) rfl (by kernel_rfl) (by kernel_rfl) (by kernel_rfl) (fun _ _ _ h => h) (Or.inl ⟨by rfl, ?_⟩) (by assumption) ?_
                  rotate_left
                  · intro wq hSq
                    replace hSq : wq.cell? ⟨gt, j, none⟩ = some (.string E) := hSq
                    go_simp
                    all_goals with_reducible rfl
                  try simp only [Act.put, List.setIfInBounds_toArray, List.set_cons_zero, List.set_cons_succ, List.getElem_toArray, List.getElem_cons_zero, List.getElem_cons_succ]
                  refine wpAnyH_ready (rs := [16]) (by kernel_rfl) (by simp) ?_
                  refine AllReadyH.cons rfl (fun KQ hK => ?_) AllReadyH.nil
                  rw [if_pos (by rfl)]
                  refine wp_store_row 27 (.tmp 10) (.tmp 63) rfl X2.heap.size #[.int .i64 K, .bool ng, .slice A9 n9 c9, .int .i64 kk, .int .i64 bg, .bool ct] rfl rfl 27 #[.int .i64 0, .bool false, .slice none 0 0, .int .i64 0, .int .i64 0, .bool false] R (by kernel_rfl) rfl (by simp [Value.oneCell']) ?_
                  obtain ⟨WF, hWF⟩ : ∃ WF, V4.setRow X2.heap.size #[.int .i64 K, .bool ng, .slice A9 n9 c9, .int .i64 kk, .int .i64 bg, .bool ct] = WF := ⟨_, rfl⟩
                  have uF : Up wr WF := by rw [← hWF]; exact uV4.setRow_ lR _
                  rw [hWF]
                  clear hWF
                  refine hK.out _ _ ((Below.cell (p := ⟨gt, j, none⟩) (uF) hlt).trans hE) (fun _ => ?_)
                  simp only [Act.put]
                  clear hK
                  refine wpAnyH_ready (rs := [17]) (by kernel_rfl) (by simp) ?_
                  refine AllReadyH.cons rfl (fun KQ hK => ?_) AllReadyH.nil
                  go_simp
                  refine hK.out _ _ ((Below.cell (p := ⟨gt, j, none⟩) (uF) hlt).trans hE) (fun _ => ?_)
                  try simp only [Act.put, List.setIfInBounds_toArray, List.set_cons_zero, List.set_cons_succ, List.getElem_toArray, List.getElem_cons_zero, List.getElem_cons_succ]
                  clear hK
                  refine wpAnyH_ready (rs := [18]) (by kernel_rfl) (by simp) ?_
                  refine AllReadyH.cons rfl (fun KQ hK => ?_) AllReadyH.nil
                  go_simp
                  refine hK.out _ _ ((Below.cell (p := ⟨gt, j, none⟩) (uF) hlt).trans hE) (fun _ => ?_)
                  try simp only [Act.put, List.setIfInBounds_toArray, List.set_cons_zero, List.set_cons_succ, List.getElem_toArray, List.getElem_cons_zero, List.getElem_cons_succ]
                  clear hK
                  refine wpAnyH_done (by kernel_rfl) ?_ _
                  go_wp2_with fail
                  go_meet
                  exact ⟨rfl, rfl, uF⟩
              · go_simp
                refine hK.out _ (X1.alloc (.cells #[.int .i64 0, .bool false, .slice none 0 0, .int .i64 0, .int .i64 0, .bool false] 27)) ((Below.cell (p := ⟨gt, j, none⟩) (uX1.alloc _) hlt).trans hE) (fun _ => ?_)
                try simp only [Act.put, List.setIfInBounds_toArray, List.set_cons_zero, List.set_cons_succ, List.getElem_toArray, List.getElem_cons_zero, List.getElem_cons_succ]
                clear hK
                obtain ⟨E2, hE2⟩ : ∃ E2, X1.alloc (.cells #[.int .i64 0, .bool false, .slice none 0 0, .int .i64 0, .int .i64 0, .bool false] 27) = E2 := ⟨_, rfl⟩
                have R : Ob E2 X1.heap.size 27 #[.int .i64 0, .bool false, .slice none 0 0, .int .i64 0, .int .i64 0, .bool false] := by rw [← hE2]; exact Ob.mk_ _ _ _
                have lR : wr.heap.size ≤ X1.heap.size := Up.size uX1
                have vE2 : Up X1 E2 := by rw [← hE2]; exact (Up.refl _).alloc _
                have uE2 : Up wr E2 := uX1.trans vE2
                rw [hE2]
                clear hE2
                replace RB := RB.up vE2
                replace lq := Nat.le_trans lq (Up.size vE2)
                refine wpAnyH_ready (rs := [9]) (by kernel_rfl) (by simp) ?_
                refine AllReadyH.cons rfl (fun KQ hK => ?_) AllReadyH.nil
                obtain ⟨v2, X3, ha, RB2, G2⟩ := append_str_ex E2 22 wr.drew.heap.size _ _ RB E _ hEl (by have := HLP.out; have := M.endings_len j; omega) lq
                have uX3 : Up wr X3 := Up.grown uE2 G2 (fun b hb => Nat.le_trans lb (RB.lt b hb).1)
                replace R := R.grown G2 RB (by decide)
                rw [if_pos (by rfl)]
                refine wp_append_run (.tmp 56) (.tmp 60) 22 9 rfl _ _ rfl rfl v2 X3 ha ?_
                refine hK.out _ _ ((Below.cell (p := ⟨gt, j, none⟩) (uX3) hlt).trans hE) (fun _ => ?_)
                try simp only [Act.put, List.setIfInBounds_toArray, List.set_cons_zero, List.set_cons_succ, List.getElem_toArray, List.getElem_cons_zero, List.getElem_cons_succ]
                clear hK RB ha G2
                obtain ⟨B2, m2, k2, rfl, SB, _, _⟩ := RB2.sl
                have hm2 : m2 ≤ 1000 := by have := SB.num; have := HLP.out; have := M.endings_len j; rw [List.length_append] at *; omega
                clear RB2
                refine wpAnyH_ready (rs := [10]) (by kernel_rfl) (by simp) ?_
                refine AllReadyH.cons rfl (fun KQ hK => ?_) AllReadyH.nil
                go_simp
                refine (scan_val X3 (Lib.hid (EW.out.up (U.trans uX3))) B2 m2 k2 _ SB (by omega) _ _ _ HRJ K ng d kk bg ct I HK.out HNG.out HNN.out HI.out).mono ?_
                rintro _ V4 ⟨A9, n9, c9, xs9, rfl, _, _, _, _, vV4⟩
                have uV4 : Up wr V4 := uX3.trans vV4
                refine hK.out _ _ ((Below.cell (p := ⟨gt, j, none⟩) (uV4) hlt).trans hE) (fun _ => ?_)
                try simp only [Act.put, List.setIfInBounds_toArray, List.set_cons_zero, List.set_cons_succ, List.getElem_toArray, List.getElem_cons_zero, List.getElem_cons_succ]
                clear hK
                replace R := R.up vV4
                refine wpAnyH_take (i := 11) (v := ?_) rfl (by kernel_rfl) (by kernel_rfl) (by kernel_rfl) (fun _ _ _ h => h) (Or.inl ⟨by rfl, ?_⟩) (by assumption) ?_
                rotate_left
                · intro wq hSq
                  replace hSq : wq.cell? ⟨gt, j, none⟩ = some (.string E) := hSq
                  go_simp
                  all_goals with_reducible rfl
                try simp only [Act.put, List.setIfInBounds_toArray, List.set_cons_zero, List.set_cons_succ, List.getElem_toArray, List.getElem_cons_zero, List.getElem_cons_succ]
                refine wpAnyH_take (i := 12) (v := ?_) rfl (by kernel_rfl) (by kernel_rfl) (by kernel_rfl) (fun _ _ _ h => h) (Or.inl ⟨by rfl, ?_⟩) (by assumption) ?_
                rotate_left
                · intro wq hSq
                  replace hSq : wq.cell? ⟨gt, j, none⟩ = some (.string E) := hSq
                  go_simp
                  all_goals with_reducible rfl
                try simp only [Act.put, List.setIfInBounds_toArray, List.set_cons_zero, List.set_cons_succ, List.getElem_toArray, List.getElem_cons_zero, List.getElem_cons_succ]
                refine wpAnyH_take (i := 13) (v := ?_) rfl (by kernel_rfl) (by kernel_rfl) (by kernel_rfl) (fun _ _ _ h => h) (Or.inl ⟨by rfl, ?_⟩) (by assumption) ?_
                rotate_left
                · intro wq hSq
                  replace hSq : wq.cell? ⟨gt, j, none⟩ = some (.string E) := hSq
                  go_simp
                  all_goals with_reducible rfl
                try simp only [Act.put, List.setIfInBounds_toArray, List.set_cons_zero, List.set_cons_succ, List.getElem_toArray, List.getElem_cons_zero, List.getElem_cons_succ]
                refine wpAnyH_take (i := 14) (v := ?_) rfl (by kernel_rfl) (by kernel_rfl) (by kernel_rfl) (fun _ _ _ h => h) (Or.inl ⟨by rfl, ?_⟩) (by assumption) ?_
                rotate_left
                · intro wq hSq
                  replace hSq : wq.cell? ⟨gt, j, none⟩ = some (.string E) := hSq
                  go_simp
                  all_goals with_reducible rfl
                try simp only [Act.put, List.setIfInBounds_toArray, List.set_cons_zero, List.set_cons_succ, List.getElem_toArray, List.getElem_cons_zero, List.getElem_cons_succ]
                refine wpAnyH_ready (rs := [16]) (by kernel_rfl) (by simp) ?_
                refine AllReadyH.cons rfl (fun KQ hK => ?_) AllReadyH.nil
                rw [if_pos (by rfl)]
                refine wp_store_row 27 (.tmp 10) (.tmp 63) rfl X1.heap.size #[.int .i64 K, .bool ng, .slice A9 n9 c9, .int .i64 kk, .int .i64 bg, .bool ct] rfl rfl 27 #[.int .i64 0, .bool false, .slice none 0 0, .int .i64 0, .int .i64 0, .bool false] R (by kernel_rfl) rfl (by simp [Value.oneCell']) ?_
                obtain ⟨WF, hWF⟩ : ∃ WF, V4.setRow X1.heap.size #[.int .i64 K, .bool ng, .slice A9 n9 c9, .int .i64 kk, .int .i64 bg, .bool ct] = WF := ⟨_, rfl⟩
                have uF : Up wr WF := by rw [← hWF]; exact uV4.setRow_ lR _
                rw [hWF]
                clear hWF
                refine hK.out _ _ ((Below.cell (p := ⟨gt, j, none⟩) (uF) hlt).trans hE) (fun _ => ?_)
                simp only [Act.put]
                clear hK
                refine wpAnyH_ready (rs := [17]) (by kernel_rfl) (by simp) ?_
                refine AllReadyH.cons rfl (fun KQ hK => ?_) AllReadyH.nil
                go_simp
                refine hK.out _ _ ((Below.cell (p := ⟨gt, j, none⟩) (uF) hlt).trans hE) (fun _ => ?_)
                try simp only [Act.put, List.setIfInBounds_toArray, List.set_cons_zero, List.set_cons_succ, List.getElem_toArray, List.getElem_cons_zero, List.getElem_cons_succ]
                clear hK
                refine wpAnyH_ready (rs := [18]) (by kernel_rfl) (by simp) ?_
                refine AllReadyH.cons rfl (fun KQ hK => ?_) AllReadyH.nil
                go_simp
                refine hK.out _ _ ((Below.cell (p := ⟨gt, j, none⟩) (uF) hlt).trans hE) (fun _ => ?_)
                try simp only [Act.put, List.setIfInBounds_toArray, List.set_cons_zero, List.set_cons_succ, List.getElem_toArray, List.getElem_cons_zero, List.getElem_cons_succ]
                clear hK
                refine wpAnyH_done (by kernel_rfl) ?_ _
                go_wp2_with fail
                go_meet
                exact ⟨rfl, rfl, uF⟩
            · go_simp
              refine hK.out _ (E0.alloc (.cells #[.int .i64 0, .bool false, .slice none 0 0, .int .i64 0, .int .i64 0, .bool false] 27)) ((Below.cell (p := ⟨gt, j, none⟩) (uE0.alloc _) hlt).trans hE) (fun _ => ?_)
              try simp only [Act.put, List.setIfInBounds_toArray, List.set_cons_zero, List.set_cons_succ, List.getElem_toArray, List.getElem_cons_zero, List.getElem_cons_succ]
              clear hK
              obtain ⟨E1, hE1⟩ : ∃ E1, E0.alloc (.cells #[.int .i64 0, .bool false, .slice none 0 0, .int .i64 0, .int .i64 0, .bool false] 27) = E1 := ⟨_, rfl⟩
              have R : Ob E1 E0.heap.size 27 #[.int .i64 0, .bool false, .slice none 0 0, .int .i64 0, .int .i64 0, .bool false] := by rw [← hE1]; exact Ob.mk_ _ _ _
              have lR : wr.heap.size ≤ E0.heap.size := Up.size uE0
              have vE1 : Up E0 E1 := by rw [← hE1]; exact (Up.refl _).alloc _
              have uE1 : Up wr E1 := uE0.trans vE1
              rw [hE1]
              clear hE1
              replace HL := HL.up vE1
              replace lq := Nat.le_trans lq (Up.size vE1)
              refine wpAnyH_ready (rs := [4]) (by kernel_rfl) (by simp) ?_
              refine AllReadyH.cons rfl (fun KQ hK => ?_) AllReadyH.nil
              obtain ⟨v1, X2, ha, RB, G1⟩ := append_sb_ex E1 22 wr.drew.heap.size _ _ HL A0 i c0 lp (HSn.out.up (U.trans uE1)) (by have := HLP.out; simp; omega) lq
              have uX2 : Up wr X2 := Up.grown uE1 G1 (fun b hb => Nat.le_trans lb (HL.lt b hb).1)
              rw [List.nil_append] at RB
              replace R := R.grown G1 HL (by decide)
              replace lq := Nat.le_trans lq (G1.size)
              rw [if_pos (by rfl)]
              refine wp_append_run (.tmp 52) (.tmp 55) 22 22 rfl _ _ rfl rfl v1 X2 ha ?_
              refine hK.out _ _ ((Below.cell (p := ⟨gt, j, none⟩) (uX2) hlt).trans hE) (fun _ => ?_)
              try simp only [Act.put, List.setIfInBounds_toArray, List.set_cons_zero, List.set_cons_succ, List.getElem_toArray, List.getElem_cons_zero, List.getElem_cons_succ]
              clear hK HL ha G1
              refine wpAnyH_ready (rs := [9]) (by kernel_rfl) (by simp) ?_
              refine AllReadyH.cons rfl (fun KQ hK => ?_) AllReadyH.nil
              obtain ⟨v2, X3, ha, RB2, G2⟩ := append_str_ex X2 22 wr.drew.heap.size _ _ RB E _ hEl (by have := HLP.out; have := M.endings_len j; omega) lq
              have uX3 : Up wr X3 := Up.grown uX2 G2 (fun b hb => Nat.le_trans lb (RB.lt b hb).1)
              replace R := R.grown G2 RB (by decide)
              rw [if_pos (by rfl)]
              refine wp_append_run (.tmp 56) (.tmp 60) 22 9 rfl _ _ rfl rfl v2 X3 ha ?_
              refine hK.out _ _ ((Below.cell (p := ⟨gt, j, none⟩) (uX3) hlt).trans hE) (fun _ => ?_)
              try simp only [Act.put, List.setIfInBounds_toArray, List.set_cons_zero, List.set_cons_succ, List.getElem_toArray, List.getElem_cons_zero, List.getElem_cons_succ]
              clear hK RB ha G2
              obtain ⟨B2, m2, k2, rfl, SB, _, _⟩ := RB2.sl
              have hm2 : m2 ≤ 1000 := by have := SB.num; have := HLP.out; have := M.endings_len j; rw [List.length_append] at *; omega
              clear RB2
              refine wpAnyH_ready (rs := [10]) (by kernel_rfl) (by simp) ?_
              refine AllReadyH.cons rfl (fun KQ hK => ?_) AllReadyH.nil
              go_simp
              refine (scan_val X3 (Lib.hid (EW.out.up (U.trans uX3))) B2 m2 k2 _ SB (by omega) _ _ _ HRJ K ng d kk bg ct I HK.out HNG.out HNN.out HI.out).mono ?_
              rintro _ V4 ⟨A9, n9, c9, xs9, rfl, _, _, _, _, vV4⟩
              have uV4 : Up wr V4 := uX3.trans vV4
              refine hK.out _ _ ((Below.cell (p := ⟨gt, j, none⟩) (uV4) hlt).trans hE) (fun _ => ?_)
              try simp only [Act.put, List.setIfInBounds_toArray, List.set_cons_zero, List.set_cons_succ, List.getElem_toArray, List.getElem_cons_zero, List.getElem_cons_succ]
              clear hK
              replace R := R.up vV4
              refine wpAnyH_take (i := 11) (v := ?_) rfl (by kernel_rfl) (by kernel_rfl) (by kernel_rfl) (fun _ _ _ h => h) (Or.inl ⟨by rfl, ?_⟩) (by assumption) ?_
              rotate_left
              · intro wq hSq
                replace hSq : wq.cell? ⟨gt, j, none⟩ = some (.string E) := hSq
                go_simp
                all_goals with_reducible rfl
              try simp only [Act.put, List.setIfInBounds_toArray, List.set_cons_zero, List.set_cons_succ, List.getElem_toArray, List.getElem_cons_zero, List.getElem_cons_succ]
              refine wpAnyH_take (i := 12) (v := ?_) rfl (by kernel_rfl) (by kernel_rfl) (by kernel_rfl) (fun _ _ _ h => h) (Or.inl ⟨by rfl, ?_⟩) (by assumption) ?_
              rotate_left
              · intro wq hSq
                replace hSq : wq.cell? ⟨gt, j, none⟩ = some (.string E) := hSq
                go_simp
                all_goals with_reducible rfl
              try simp only [Act.put, List.setIfInBounds_toArray, List.set_cons_zero, List.set_cons_succ, List.getElem_toArray, List.getElem_cons_zero, List.getElem_cons_succ]
              refine wpAnyH_take (i := 13) (v := ?_) rfl (by kernel_rfl) (by kernel_rfl) (by kernel_rfl) (fun _ _ _ h => h) (Or.inl ⟨by rfl, ?_⟩) (by assumption) ?_
              rotate_left
              · intro wq hSq
                replace hSq : wq.cell? ⟨gt, j, none⟩ = some (.string E) := hSq
                go_simp
                all_goals with_reducible rfl
              try simp only [Act.put, List.setIfInBounds_toArray, List.set_cons_zero, List.set_cons_succ, List.getElem_toArray, List.getElem_cons_zero, List.getElem_cons_succ]
              refine wpAnyH_take (i := 14) (v := ?_) rfl (by kernel_rfl) (by kernel_rfl) (by kernel_rfl) (fun _ _ _ h => h) (Or.inl ⟨by rfl, ?_⟩) (by assumption) ?_
              rotate_left
              · intro wq hSq
                replace hSq : wq.cell? ⟨gt, j, none⟩ = some (.string E) := hSq
                go_simp
                all_goals with_reducible rfl
              try simp only [Act.put, List.setIfInBounds_toArray, List.set_cons_zero, List.set_cons_succ, List.getElem_toArray, List.getElem_cons_zero, List.getElem_cons_succ]
              refine wpAnyH_ready (rs := [16]) (by kernel_rfl) (by simp) ?_
              refine AllReadyH.cons rfl (fun KQ hK => ?_) AllReadyH.nil
              rw [if_pos (by rfl)]
              refine wp_store_row 27 (.tmp 10) (.tmp 63) rfl E0.heap.size #[.int .i64 K, .bool ng, .slice A9 n9 c9, .int .i64 kk, .int .i64 bg, .bool ct] rfl rfl 27 #[.int .i64 0, .bool false, .slice none 0 0, .int .i64 0, .int .i64 0, .bool false] R (by kernel_rfl) rfl (by simp [Value.oneCell']) ?_
              obtain ⟨WF, hWF⟩ : ∃ WF, V4.setRow E0.heap.size #[.int .i64 K, .bool ng, .slice A9 n9 c9, .int .i64 kk, .int .i64 bg, .bool ct] = WF := ⟨_, rfl⟩
              have uF : Up wr WF := by rw [← hWF]; exact uV4.setRow_ lR _
              rw [hWF]
              clear hWF
              refine hK.out _ _ ((Below.cell (p := ⟨gt, j, none⟩) (uF) hlt).trans hE) (fun _ => ?_)
              simp only [Act.put]
              clear hK
              refine wpAnyH_ready (rs := [17]) (by kernel_rfl) (by simp) ?_
              refine AllReadyH.cons rfl (fun KQ hK => ?_) AllReadyH.nil
              go_simp
              refine hK.out _ _ ((Below.cell (p := ⟨gt, j, none⟩) (uF) hlt).trans hE) (fun _ => ?_)
              try simp only [Act.put, List.setIfInBounds_toArray, List.set_cons_zero, List.set_cons_succ, List.getElem_toArray, List.getElem_cons_zero, List.getElem_cons_succ]
              clear hK
              refine wpAnyH_ready (rs := [18]) (by kernel_rfl) (by simp) ?_
              refine AllReadyH.cons rfl (fun KQ hK => ?_) AllReadyH.nil
              go_simp
              refine hK.out _ _ ((Below.cell (p := ⟨gt, j, none⟩) (uF) hlt).trans hE) (fun _ => ?_)
              try simp only [Act.put, List.setIfInBounds_toArray, List.set_cons_zero, List.set_cons_succ, List.getElem_toArray, List.getElem_cons_zero, List.getElem_cons_succ]
              clear hK
              refine wpAnyH_done (by kernel_rfl) ?_ _
              go_wp2_with fail
              go_meet
              exact ⟨rfl, rfl, uF⟩
          · go_simp
            refine hK.out _ (wr.drew.alloc (.cells #[.int .i64 0, .bool false, .slice none 0 0, .int .i64 0, .int .i64 0, .bool false] 27)) ((Below.cell (p := ⟨gt, j, none⟩) (uD.alloc _) hlt).trans hE) (fun _ => ?_)
            try simp only [Act.put, List.setIfInBounds_toArray, List.set_cons_zero, List.set_cons_succ, List.getElem_toArray, List.getElem_cons_zero, List.getElem_cons_succ]
            clear hK
            obtain ⟨E0, hE0⟩ : ∃ E0, wr.drew.alloc (.cells #[.int .i64 0, .bool false, .slice none 0 0, .int .i64 0, .int .i64 0, .bool false] 27) = E0 := ⟨_, rfl⟩
            have R : Ob E0 wr.drew.heap.size 27 #[.int .i64 0, .bool false, .slice none 0 0, .int .i64 0, .int .i64 0, .bool false] := by rw [← hE0]; exact Ob.mk_ _ _ _
            have lR : wr.heap.size ≤ wr.drew.heap.size := Up.size uD
            have vE0 : Up wr.drew E0 := by rw [← hE0]; exact (Up.refl _).alloc _
            have uE0 : Up wr E0 := uD.trans vE0
            rw [hE0]
            clear hE0
            refine wpAnyH_ready (rs := [0]) (by kernel_rfl) (by simp) ?_
            refine AllReadyH.cons rfl (fun KQ hK => ?_) AllReadyH.nil
            go_simp
            refine hK.out _ (E0.alloc (.cells #[] 5)) ((Below.cell (p := ⟨gt, j, none⟩) (uE0.alloc _) hlt).trans hE) (fun _ => ?_)
            try simp only [Act.put, List.setIfInBounds_toArray, List.set_cons_zero, List.set_cons_succ, List.getElem_toArray, List.getElem_cons_zero, List.getElem_cons_succ]
            clear hK
            obtain ⟨E1, hE1⟩ : ∃ E1, E0.alloc (.cells #[] 5) = E1 := ⟨_, rfl⟩
            have HL : Rb E1 E0.heap.size (.slice (some ⟨E0.heap.size, 0, none⟩) 0 0) [] := by rw [← hE1]; exact World.ownsRow_lit E0 #[] 0 (Nat.le_refl _) (by simp only [maxLen]; omega) rfl
            have vE1 : Up E0 E1 := by rw [← hE1]; exact (Up.refl _).alloc _
            have uE1 : Up wr E1 := uE0.trans vE1
            have lb : wr.heap.size ≤ E0.heap.size := Up.size uE0
            have lq : E0.heap.size ≤ E1.heap.size := Up.size vE1
            rw [hE1]
            clear hE1
            replace R := R.up vE1
            refine wpAnyH_ready (rs := [4]) (by kernel_rfl) (by simp) ?_
            refine AllReadyH.cons rfl (fun KQ hK => ?_) AllReadyH.nil
            obtain ⟨v1, X2, ha, RB, G1⟩ := append_sb_ex E1 22 E0.heap.size _ _ HL A0 i c0 lp (HSn.out.up (U.trans uE1)) (by have := HLP.out; simp; omega) lq
            have uX2 : Up wr X2 := Up.grown uE1 G1 (fun b hb => Nat.le_trans lb (HL.lt b hb).1)
            rw [List.nil_append] at RB
            replace R := R.grown G1 HL (by decide)
            replace lq := Nat.le_trans lq (G1.size)
            rw [if_pos (by rfl)]
            refine wp_append_run (.tmp 52) (.tmp 55) 22 22 rfl _ _ rfl rfl v1 X2 ha ?_
            refine hK.out _ _ ((Below.cell (p := ⟨gt, j, none⟩) (uX2) hlt).trans hE) (fun _ => ?_)
            try simp only [Act.put, List.setIfInBounds_toArray, List.set_cons_zero, List.set_cons_succ, List.getElem_toArray, List.getElem_cons_zero, List.getElem_cons_succ]
            clear hK HL ha G1
            refine wpAnyH_ready (rs := [9]) (by kernel_rfl) (by simp) ?_
            refine AllReadyH.cons rfl (fun KQ hK => ?_) AllReadyH.nil
            obtain ⟨v2, X3, ha, RB2, G2⟩ := append_str_ex X2 22 E0.heap.size _ _ RB E _ hEl (by have := HLP.out; have := M.endings_len j; omega) lq
            have uX3 : Up wr X3 := Up.grown uX2 G2 (fun b hb => Nat.le_trans lb (RB.lt b hb).1)
            replace R := R.grown G2 RB (by decide)
            rw [if_pos (by rfl)]
            refine wp_append_run (.tmp 56) (.tmp 60) 22 9 rfl _ _ rfl rfl v2 X3 ha ?_
            refine hK.out _ _ ((Below.cell (p := ⟨gt, j, none⟩) (uX3) hlt).trans hE) (fun _ => ?_)
            try simp only [Act.put, List.setIfInBounds_toArray, List.set_cons_zero, List.set_cons_succ, List.getElem_toArray, List.getElem_cons_zero, List.getElem_cons_succ]
            clear hK RB ha G2
            obtain ⟨B2, m2, k2, rfl, SB, _, _⟩ := RB2.sl
            have hm2 : m2 ≤ 1000 := by have := SB.num; have := HLP.out; have := M.endings_len j; rw [List.length_append] at *; omega
            clear RB2
            refine wpAnyH_ready (rs := [10]) (by kernel_rfl) (by simp) ?_
            refine AllReadyH.cons rfl (fun KQ hK => ?_) AllReadyH.nil
            go_simp
            refine (scan_val X3 (Lib.hid (EW.out.up (U.trans uX3))) B2 m2 k2 _ SB (by omega) _ _ _ HRJ K ng d kk bg ct I HK.out HNG.out HNN.out HI.out).mono ?_
            rintro _ V4 ⟨A9, n9, c9, xs9, rfl, _, _, _, _, vV4⟩
            have uV4 : Up wr V4 := uX3.trans vV4
            refine hK.out _ _ ((Below.cell (p := ⟨gt, j, none⟩) (uV4) hlt).trans hE) (fun _ => ?_)
            try simp only [Act.put, List.setIfInBounds_toArray, List.set_cons_zero, List.set_cons_succ, List.getElem_toArray, List.getElem_cons_zero, List.getElem_cons_succ]
            clear hK
            replace R := R.up vV4
            refine wpAnyH_take (i := 11) (v := ?_) rfl (by kernel_rfl) (by kernel_rfl) (by kernel_rfl) (fun _ _ _ h => h) (Or.inl ⟨by rfl, ?_⟩) (by assumption) ?_
            rotate_left
            · intro wq hSq
              replace hSq : wq.cell? ⟨gt, j, none⟩ = some (.string E) := hSq
              go_simp
              all_goals with_reducible rfl
            try simp only [Act.put, List.setIfInBounds_toArray, List.set_cons_zero, List.set_cons_succ, List.getElem_toArray, List.getElem_cons_zero, List.getElem_cons_succ]
            refine wpAnyH_take (i := 12) (v := ?_) rfl (by kernel_rfl) (by kernel_rfl) (by kernel_rfl) (fun _ _ _ h => h) (Or.inl ⟨by rfl, ?_⟩) (by assumption) ?_
            rotate_left
            · intro wq hSq
              replace hSq : wq.cell? ⟨gt, j, none⟩ = some (.string E) := hSq
              go_simp
              all_goals with_reducible rfl
            try simp only [Act.put, List.setIfInBounds_toArray, List.set_cons_zero, List.set_cons_succ, List.getElem_toArray, List.getElem_cons_zero, List.getElem_cons_succ]
            refine wpAnyH_take (i := 13) (v := ?_) rfl (by kernel_rfl) (by kernel_rfl) (by kernel_rfl) (fun _ _ _ h => h) (Or.inl ⟨by rfl, ?_⟩) (by assumption) ?_
            rotate_left
            · intro wq hSq
              replace hSq : wq.cell? ⟨gt, j, none⟩ = some (.string E) := hSq
              go_simp
              all_goals with_reducible rfl
            try simp only [Act.put, List.setIfInBounds_toArray, List.set_cons_zero, List.set_cons_succ, List.getElem_toArray, List.getElem_cons_zero, List.getElem_cons_succ]
            refine wpAnyH_take (i := 14) (v := ?_) rfl (by kernel_rfl) (by kernel_rfl) (by kernel_rfl) (fun _ _ _ h => h) (Or.inl ⟨by rfl, ?_⟩) (by assumption) ?_
            rotate_left
            · intro wq hSq
              replace hSq : wq.cell? ⟨gt, j, none⟩ = some (.string E) := hSq
              go_simp
              all_goals with_reducible rfl
            try simp only [Act.put, List.setIfInBounds_toArray, List.set_cons_zero, List.set_cons_succ, List.getElem_toArray, List.getElem_cons_zero, List.getElem_cons_succ]
            refine wpAnyH_ready (rs := [16]) (by kernel_rfl) (by simp) ?_
            refine AllReadyH.cons rfl (fun KQ hK => ?_) AllReadyH.nil
            rw [if_pos (by rfl)]
            refine wp_store_row 27 (.tmp 10) (.tmp 63) rfl wr.drew.heap.size #[.int .i64 K, .bool ng, .slice A9 n9 c9, .int .i64 kk, .int .i64 bg, .bool ct] rfl rfl 27 #[.int .i64 0, .bool false, .slice none 0 0, .int .i64 0, .int .i64 0, .bool false] R (by kernel_rfl) rfl (by simp [Value.oneCell']) ?_
            obtain ⟨WF, hWF⟩ : ∃ WF, V4.setRow wr.drew.heap.size #[.int .i64 K, .bool ng, .slice A9 n9 c9, .int .i64 kk, .int .i64 bg, .bool ct] = WF := ⟨_, rfl⟩
            have uF : Up wr WF := by rw [← hWF]; exact uV4.setRow_ lR _
            rw [hWF]
            clear hWF
            refine hK.out _ _ ((Below.cell (p := ⟨gt, j, none⟩) (uF) hlt).trans hE) (fun _ => ?_)
            simp only [Act.put]
            clear hK
            refine wpAnyH_ready (rs := [17]) (by kernel_rfl) (by simp) ?_
            refine AllReadyH.cons rfl (fun KQ hK => ?_) AllReadyH.nil
            go_simp
            refine hK.out _ _ ((Below.cell (p := ⟨gt, j, none⟩) (uF) hlt).trans hE) (fun _ => ?_)
            try simp only [Act.put, List.setIfInBounds_toArray, List.set_cons_zero, List.set_cons_succ, List.getElem_toArray, List.getElem_cons_zero, List.getElem_cons_succ]
            clear hK
            refine wpAnyH_ready (rs := [18]) (by kernel_rfl) (by simp) ?_
            refine AllReadyH.cons rfl (fun KQ hK => ?_) AllReadyH.nil
            go_simp
            refine hK.out _ _ ((Below.cell (p := ⟨gt, j, none⟩) (uF) hlt).trans hE) (fun _ => ?_)
            try simp only [Act.put, List.setIfInBounds_toArray, List.set_cons_zero, List.set_cons_succ, List.getElem_toArray, List.getElem_cons_zero, List.getElem_cons_succ]
            clear hK
            refine wpAnyH_done (by kernel_rfl) ?_ _
            go_wp2_with fail
            go_meet
            exact ⟨rfl, rfl, uF⟩
        obtain ⟨rfl, rfl, ux⟩ := hcut
        have Ux := U.trans ux
        have Tx := T.up ux
        clear HRJ HK HNG HNN HI hE hEl U T ux
        cases gb
        · cases b
          · go_wp2_with fail
            go_roundg (9 - (j + 1))
            case measure => omega
            case rel => exact ⟨j + 1, by omega, rfl, by rw [← HGO.out]; rfl, by go_num, Tx, Ux⟩
          · go_wp2_with fail
            go_roundg (9 - (j + 1))
            case measure => omega
            case rel => exact ⟨j + 1, by omega, rfl, by rw [← HGO.out]; rfl, by go_num, Tx, Ux⟩
        · go_wp2_with fail
          go_roundg (9 - (j + 1))
          case measure => omega
          case rel => exact ⟨j + 1, by omega, rfl, by rw [← HGO.out]; rfl, by go_num, Tx, Ux⟩
      obtain rfl : j = 9 := by omega
      rw [HANY.out]
      have T1 := T
      have Uw := U
      obtain ⟨wo, rfl⟩ : ∃ x, x = wr := ⟨_, rfl⟩
      clear T U T0 U0 HANY hj hj9
      go_upto_region 18 with fail
      rcases Nat.lt_or_ge i k with hik | hik
      · have d3 : decide ((i : Int) < (k : Int)) = true := decide_eq_true (by omega)
        have d4 : decide (i < k) = true := decide_eq_true hik
        have hsl2 : ∀ W, (Instr.slice 22 (.slice A0 k c0) none (some (.int .i64 ((i : Int) + 1))) none).run Tryd.prog W = .ok (.slice A0 (i + 1) c0) W := by
          have e : (i : Int) + 1 = ((i + 1 : Nat) : Int) := by omega
          rw [e]
          exact slice_j A0 k c0 (i + 1) (by omega) hnone.out
        have kw : IntKind.i64.wrap ((i : Int) + 1) = (i : Int) + 1 := IntWalk.i64_in _ (by omega)
        have HD2 := Lib.hid (HDEAD.out (by rw [HS.out.num]; exact hik))
        obtain ⟨lp2, hlp2⟩ : ∃ lp, l.take (i + 1) = lp := ⟨_, rfl⟩
        rw [hlp2] at HD2
        have HLP2 := Lib.hid (show lp2.length ≤ 100 by rw [← hlp2, List.length_take]; have := HS.out.num; omega)
        have HSn2 := Lib.hid (show Sb w A0 (i + 1) c0 lp2 by rw [← hlp2]; exact HS.out.take hik)
        clear HLP HSn hlp hlp2 hsl1
        have HLP := HLP2
        have HSn := HSn2
        clear HLP2 HSn2 HDEAD
        go_loopg [13] 9 (fun g iv wr => ∃ j : Nat, j ≤ 9 ∧ g = 9 - j ∧ iv = .int .i64 (j : Int) ∧ Ends wr gt ∧ Up w wr)
        case atStart => exact ⟨0, by omega, rfl, rfl, T1, Uw⟩
        case round =>
          clear T1 Uw
          obtain ⟨j, hj, rfl, rfl, T, U⟩ := hrel
          by_cases hj9 : j < 9
          · have d1 : decide ((j : Int) < 9) = true := decide_eq_true (by omega)
            have d2 : decide (j < 9) = true := decide_eq_true hj9
            have hj9i : (j : Int) < 9 := by omega
            obtain ⟨E, hE, hEl⟩ := T.at_ j hj9
            have hlt := T.lt
            obtain ⟨r, i', hr0⟩ : ∃ (r : M.It) (i' : Nat), r = ⟨0, false, ⟨0, 0, 0, false⟩⟩ ∧ i' = i := ⟨_, _, rfl, rfl⟩
            have HRJ : Hid (M.rs (lp2 ++ M.endings.getD j []) = (r, i', 2)) := by show _ = _; rw [hr0.1, hr0.2]; exact HD2.out _
            have hi2 := hr0.2
            clear hr0
            obtain ⟨K, hK⟩ : ∃ K : Int, (r.kind : Int) = K := ⟨_, rfl⟩
            obtain ⟨ng, hng⟩ : ∃ ng, r.neg = ng := ⟨_, rfl⟩
            obtain ⟨d, kk, bg, ct, hnn⟩ : ∃ d kk bg ct, r.n = ⟨d, kk, bg, ct⟩ := ⟨_, _, _, _, rfl⟩
            obtain ⟨I, hI⟩ : ∃ I : Int, (i' : Int) = I := ⟨_, rfl⟩
            have HK := Lib.hid hK
            have HNG := Lib.hid hng
            have HNN := Lib.hid hnn
            have HI := Lib.hid hI
            clear hK hng hnn hI
            have hII : (I != (i : Int)) = false := by rw [← HI.out, hi2]; simp
            have hII2 : (I == (i : Int)) = true := by rw [← HI.out, hi2]; simp
            clear hi2
            go_upto_region 20 with fail
            try simp only [Act.put]
            go_cut [14, 15, 16] from 73 to 107 (fun pv mv fv wx => mv = .int .i64 I ∧ fv = .int .i64 2 ∧ Up wr wx)
            case first =>
              have uD : Up wr wr.drew := (Up.refl _).drew
              refine wp_region_held_drew (S := fun w' => w'.cell? ⟨gt, j, none⟩ = some (.string E)) (by kernel_rfl) ((Below.cell (p := ⟨gt, j, none⟩) (uD) hlt).trans hE) (fun hHeld => ?_)
              refine wpAnyH_take (i := 1) (v := ?_) rfl (by kernel_rfl) (by kernel_rfl) (by kernel_rfl) (fun _ _ _ h => h) (Or.inl ⟨by rfl, ?_⟩) (by assumption) ?_
              rotate_left
              · intro wq hSq
                replace hSq : wq.cell? ⟨gt, j, none⟩ = some (.string E) := hSq
                go_simp
                all_goals with_reducible rfl
              try simp only [Act.put, List.setIfInBounds_toArray, List.set_cons_zero, List.set_cons_succ, List.getElem_toArray, List.getElem_cons_zero, List.getElem_cons_succ]
              refine wpAnyH_take (i := 2) (v := ?_) rfl (by kernel_rfl) (by kernel_rfl) (by kernel_rfl) (fun _ _ _ h => h) (Or.inl ⟨by rfl, ?_⟩) (by assumption) ?_
              rotate_left
              · intro wq hSq
                replace hSq : wq.cell? ⟨gt, j, none⟩ = some (.string E) := hSq
                go_simp
                all_goals with_reducible rfl
              try simp only [Act.put, List.setIfInBounds_toArray, List.set_cons_zero, List.set_cons_succ, List.getElem_toArray, List.getElem_cons_zero, List.getElem_cons_succ]
              refine wpAnyH_take (i := 3) (v := ?_) rfl (by kernel_rfl) (by kernel_rfl) (by kernel_rfl) (fun _ _ _ h => h) (Or.inl ⟨by rfl, ?_⟩) (by assumption) ?_
              rotate_left
              · intro wq hSq
                replace hSq : wq.cell? ⟨gt, j, none⟩ = some (.string E) := hSq
                go_simp
                all_goals with_reducible rfl
              try simp only [Act.put, List.setIfInBounds_toArray, List.set_cons_zero, List.set_cons_succ, List.getElem_toArray, List.getElem_cons_zero, List.getElem_cons_succ]
              refine wpAnyH_take (i := 4) (v := ?_) rfl (by kernel_rfl) (by kernel_rfl) (by kernel_rfl) (fun _ _ _ h => h) (Or.inl ⟨by rfl, ?_⟩) (by assumption) ?_
              rotate_left
              · intro wq hSq
                replace hSq : wq.cell? ⟨gt, j, none⟩ = some (.string E) := hSq
                go_simp
                all_goals with_reducible rfl
              try simp only [Act.put, List.setIfInBounds_toArray, List.set_cons_zero, List.set_cons_succ, List.getElem_toArray, List.getElem_cons_zero, List.getElem_cons_succ]
              refine wpAnyH_take (i := 6) (v := ?_) rfl (by kernel_rfl) (by kernel_rfl) (by kernel_rfl) (fun _ _ _ h => h) (Or.inl ⟨by rfl, ?_⟩) (by assumption) ?_
              rotate_left
              · intro wq hSq
                replace hSq : wq.cell? ⟨gt, j, none⟩ = some (.string E) := hSq
                go_simp
                all_goals with_reducible rfl
              try simp only [Act.put, List.setIfInBounds_toArray, List.set_cons_zero, List.set_cons_succ, List.getElem_toArray, List.getElem_cons_zero, List.getElem_cons_succ]
              refine wpAnyH_take (i := 7) (v := ?_) rfl (by kernel_rfl) (by kernel_rfl) (by kernel_rfl) (fun _ _ _ h => h) (Or.inl ⟨by rfl, ?_⟩) (by assumption) ?_
              rotate_left
              · intro wq hSq
                replace hSq : wq.cell? ⟨gt, j, none⟩ = some (.string E) := hSq
                go_simp
                all_goals with_reducible rfl
              try simp only [Act.put, List.setIfInBounds_toArray, List.set_cons_zero, List.set_cons_succ, List.getElem_toArray, List.getElem_cons_zero, List.getElem_cons_succ]
              refine wpAnyH_take (i := 8) (v := ?_) rfl (by kernel_rfl) (by kernel_rfl) (by kernel_rfl) (fun _ _ _ h => h) (Or.inl ⟨by rfl, ?_⟩) (by assumption) ?_
              rotate_left
              · intro wq hSq
                replace hSq : wq.cell? ⟨gt, j, none⟩ = some (.string E) := hSq
                go_simp
                all_goals with_reducible rfl
              try simp only [Act.put, List.setIfInBounds_toArray, List.set_cons_zero, List.set_cons_succ, List.getElem_toArray, List.getElem_cons_zero, List.getElem_cons_succ]
              refine wpAnyH_take (i := 9) (v := ?_) rfl (by kernel_rfl) (by kernel_rfl) (by kernel_rfl) (fun _ _ _ h => h) (Or.inl ⟨by rfl, ?_⟩) (by assumption) ?_
              rotate_left
              · intro wq hSq
                replace hSq : wq.cell? ⟨gt, j, none⟩ = some (.string E) := hSq
                go_simp
                all_goals with_reducible rfl
              try simp only [Act.put, List.setIfInBounds_toArray, List.set_cons_zero, List.set_cons_succ, List.getElem_toArray, List.getElem_cons_zero, List.getElem_cons_succ]
              refine wpAnyH_ready (rs := [0, 16]) (by kernel_rfl) (by simp) ?_
              refine AllReadyH.cons rfl (fun KQ hK => ?_) (AllReadyH.cons rfl (fun KQ hK => ?_) AllReadyH.nil)
              · go_simp
                refine hK.out _ (wr.drew.alloc (.cells #[] 5)) ((Below.cell (p := ⟨gt, j, none⟩) (uD.alloc _) hlt).trans hE) (fun _ => ?_)
                try simp only [Act.put, List.setIfInBounds_toArray, List.set_cons_zero, List.set_cons_succ, List.getElem_toArray, List.getElem_cons_zero, List.getElem_cons_succ]
                clear hK
                obtain ⟨E0, hE0⟩ : ∃ E0, wr.drew.alloc (.cells #[] 5) = E0 := ⟨_, rfl⟩
                have HL : Rb E0 wr.drew.heap.size (.slice (some ⟨wr.drew.heap.size, 0, none⟩) 0 0) [] := by rw [← hE0]; exact World.ownsRow_lit wr.drew #[] 0 (Nat.le_refl _) (by simp only [maxLen]; omega) rfl
                have vE0 : Up wr.drew E0 := by rw [← hE0]; exact (Up.refl _).alloc _
                have uE0 : Up wr E0 := uD.trans vE0
                have lb : wr.heap.size ≤ wr.drew.heap.size := Up.size uD
                have lq : wr.drew.heap.size ≤ E0.heap.size := Up.size vE0
                rw [hE0]
                clear hE0
                refine wpAnyH_ready (rs := [5, 16]) (by kernel_rfl) (by simp) ?_
                refine AllReadyH.cons rfl (fun KQ hK => ?_) (AllReadyH.cons rfl (fun KQ hK => ?_) AllReadyH.nil)
                · obtain ⟨v1, X1, ha, RB, G1⟩ := append_sb_ex E0 22 wr.drew.heap.size _ _ HL A0 (i + 1) c0 lp2 (HSn.out.up (U.trans uE0)) (by have := HLP.out; simp; omega) lq
                  have uX1 : Up wr X1 := Up.grown uE0 G1 (fun b hb => Nat.le_trans lb (HL.lt b hb).1)
                  rw [List.nil_append] at RB
                  replace lq := Nat.le_trans lq (G1.size)
                  rw [if_pos (by rfl)]
                  refine wp_append_run (.tmp 86) (.tmp 90) 22 22 rfl _ _ rfl rfl v1 X1 ha ?_
                  refine hK.out _ _ ((Below.cell (p := ⟨gt, j, none⟩) (uX1) hlt).trans hE) (fun _ => ?_)
                  try simp only [Act.put, List.setIfInBounds_toArray, List.set_cons_zero, List.set_cons_succ, List.getElem_toArray, List.getElem_cons_zero, List.getElem_cons_succ]
                  clear hK HL ha G1
                  refine wpAnyH_ready (rs := [10, 16]) (by kernel_rfl) (by simp) ?_
                  refine AllReadyH.cons rfl (fun KQ hK => ?_) (AllReadyH.cons rfl (fun KQ hK => ?_) AllReadyH.nil)
                  · obtain ⟨v2, X2, ha, RB2, G2⟩ := append_str_ex X1 22 wr.drew.heap.size _ _ RB E _ hEl (by have := HLP.out; have := M.endings_len j; omega) lq
                    have uX2 : Up wr X2 := Up.grown uX1 G2 (fun b hb => Nat.le_trans lb (RB.lt b hb).1)
                    rw [if_pos (by rfl)]
                    refine wp_append_run (.tmp 91) (.tmp 95) 22 9 rfl _ _ rfl rfl v2 X2 ha ?_
                    refine hK.out _ _ ((Below.cell (p := ⟨gt, j, none⟩) (uX2) hlt).trans hE) (fun _ => ?_)
                    try simp only [Act.put, List.setIfInBounds_toArray, List.set_cons_zero, List.set_cons_succ, List.getElem_toArray, List.getElem_cons_zero, List.getElem_cons_succ]
                    clear hK RB ha G2
                    obtain ⟨B2, m2, k2, rfl, SB, _, _⟩ := RB2.sl
                    have hm2 : m2 ≤ 1000 := by have := SB.num; have := HLP.out; have := M.endings_len j; rw [List.length_append] at *; omega
                    clear RB2
                    refine wpAnyH_ready (rs := [11, 16]) (by kernel_rfl) (by simp) ?_
                    refine AllReadyH.cons rfl (fun KQ hK => ?_) (AllReadyH.cons rfl (fun KQ hK => ?_) AllReadyH.nil)
                    · go_simp
                      refine (scan_val X2 (Lib.hid (EW.out.up (U.trans uX2))) B2 m2 k2 _ SB (by omega) _ _ _ HRJ K ng d kk bg ct I HK.out HNG.out HNN.out HI.out).mono ?_
                      rintro _ V3 ⟨A9, n9, c9, xs9, rfl, _, _, _, _, vV3⟩
                      have uV3 : Up wr V3 := uX2.trans vV3
                      refine hK.out _ _ ((Below.cell (p := ⟨gt, j, none⟩) (uV3) hlt).trans hE) (fun _ => ?_)
                      try simp only [Act.put, List.setIfInBounds_toArray, List.set_cons_zero, List.set_cons_succ, List.getElem_toArray, List.getElem_cons_zero, List.getElem_cons_succ]
                      clear hK
                      refine wpAnyH_take (i := 12) (v := ?_) rfl (by kernel_rfl) (by kernel_rfl) (by kernel_rfl) (fun _ _ _ h => h) (Or.inl ⟨by rfl, ?_⟩) (by assumption) ?_
                      rotate_left
                      · intro wq hSq
                        replace hSq : wq.cell? ⟨gt, j, none⟩ = some (.string E) := hSq
                        go_simp
                        all_goals with_reducible rfl
                      try simp only [Act.put, List.setIfInBounds_toArray, List.set_cons_zero, List.set_cons_succ, List.getElem_toArray, List.getElem_cons_zero, List.getElem_cons_succ]
                      refine wpAnyH_take (i := 13) (v := ?_) rfl (by kernel_rfl) (by kernel_rfl) (by kernel_rfl) (fun _ _ _ h => h) (Or.inl ⟨by rfl, ?_⟩) (by assumption) ?_
                      rotate_left
                      · intro wq hSq
                        replace hSq : wq.cell? ⟨gt, j, none⟩ = some (.string E) := hSq
                        go_simp
                        all_goals with_reducible rfl
                      try simp only [Act.put, List.setIfInBounds_toArray, List.set_cons_zero, List.set_cons_succ, List.getElem_toArray, List.getElem_cons_zero, List.getElem_cons_succ]
                      refine wpAnyH_take (i := 14) (v := ?_) rfl (by kernel_rfl) (by kernel_rfl) (by kernel_rfl) (fun _ _ _ h => h) (Or.inl ⟨by rfl, ?_⟩) (by assumption) ?_
                      rotate_left
                      · intro wq hSq
                        replace hSq : wq.cell? ⟨gt, j, none⟩ = some (.string E) := hSq
                        go_simp
                        all_goals with_reducible rfl
                      try simp only [Act.put, List.setIfInBounds_toArray, List.set_cons_zero, List.set_cons_succ, List.getElem_toArray, List.getElem_cons_zero, List.getElem_cons_succ]
                      refine wpAnyH_take (i := 15) (v := ?_) rfl (by kernel_rfl) (by kernel_rfl) (by kernel_rfl) (fun _ _ _ h => h) (Or.inl ⟨by rfl, ?_⟩) (by assumption) ?_
                      rotate_left
                      · intro wq hSq
                        replace hSq : wq.cell? ⟨gt, j, none⟩ = some (.string E) := hSq
                        go_simp
                        all_goals with_reducible rfl
                      try simp only [Act.put, List.setIfInBounds_toArray, List.set_cons_zero, List.set_cons_succ, List.getElem_toArray, List.getElem_cons_zero, List.getElem_cons_succ]
                      refine wpAnyH_ready (rs := [16]) (by kernel_rfl) (by simp) ?_
                      refine AllReadyH.cons rfl (fun KQ hK => ?_) AllReadyH.nil
                      go_simp
                      refine hK.out _ (V3.alloc (.cells #[.int .i64 0, .bool false, .slice none 0 0, .int .i64 0, .int .i64 0, .bool false] 27)) ((Below.cell (p := ⟨gt, j, none⟩) (uV3.alloc _) hlt).trans hE) (fun _ => ?_)
                      try simp only [Act.put, List.setIfInBounds_toArray, List.set_cons_zero, List.set_cons_succ, List.getElem_toArray, List.getElem_cons_zero, List.getElem_cons_succ]
                      clear hK
                      obtain ⟨E4, hE4⟩ : ∃ E4, V3.alloc (.cells #[.int .i64 0, .bool false, .slice none 0 0, .int .i64 0, .int .i64 0, .bool false] 27) = E4 := ⟨_, rfl⟩
                      have R : Ob E4 V3.heap.size 27 #[.int .i64 0, .bool false, .slice none 0 0, .int .i64 0, .int .i64 0, .bool false] := by rw [← hE4]; exact Ob.mk_ _ _ _
                      have lR : wr.heap.size ≤ V3.heap.size := Up.size uV3
                      have vE4 : Up V3 E4 := by rw [← hE4]; exact (Up.refl _).alloc _
                      have uE4 : Up wr E4 := uV3.trans vE4
                      rw [hE4]
                      clear hE4
                      refine wpAnyH_ready (rs := [17]) (by kernel_rfl) (by simp) ?_
                      refine AllReadyH.cons rfl (fun KQ hK => ?_) AllReadyH.nil
                      rw [if_pos (by rfl)]
                      refine wp_store_row 27 (.tmp 14) (.tmp 98) rfl V3.heap.size #[.int .i64 K, .bool ng, .slice A9 n9 c9, .int .i64 kk, .int .i64 bg, .bool ct] rfl rfl 27 #[.int .i64 0, .bool false, .slice none 0 0, .int .i64 0, .int .i64 0, .bool false] R (by kernel_rfl) rfl (by simp [Value.oneCell']) ?_
                      obtain ⟨WF, hWF⟩ : ∃ WF, E4.setRow V3.heap.size #[.int .i64 K, .bool ng, .slice A9 n9 c9, .int .i64 kk, .int .i64 bg, .bool ct] = WF := ⟨_, rfl⟩
                      have uF : Up wr WF := by rw [← hWF]; exact uE4.setRow_ lR _
                      rw [hWF]
                      clear hWF
                      refine hK.out _ _ ((Below.cell (p := ⟨gt, j, none⟩) (uF) hlt).trans hE) (fun _ => ?_)
                      simp only [Act.put]
                      clear hK
                      refine wpAnyH_ready (rs := [18]) (by kernel_rfl) (by simp) ?_
                      refine AllReadyH.cons rfl (fun KQ hK => ?_) AllReadyH.nil
                      go_simp
                      refine hK.out _ _ ((Below.cell (p := ⟨gt, j, none⟩) (uF) hlt).trans hE) (fun _ => ?_)
                      try simp only [Act.put, List.setIfInBounds_toArray, List.set_cons_zero, List.set_cons_succ, List.getElem_toArray, List.getElem_cons_zero, List.getElem_cons_succ]
                      clear hK
                      refine wpAnyH_ready (rs := [19]) (by kernel_rfl) (by simp) ?_
                      refine AllReadyH.cons rfl (fun KQ hK => ?_) AllReadyH.nil
                      go_simp
                      refine hK.out _ _ ((Below.cell (p := ⟨gt, j, none⟩) (uF) hlt).trans hE) (fun _ => ?_)
                      try simp only [Act.put, List.setIfInBounds_toArray, List.set_cons_zero, List.set_cons_succ, List.getElem_toArray, List.getElem_cons_zero, List.getElem_cons_succ]
                      clear hK
                      refine wpAnyH_done (by kernel_rfl) ?_ _
                      go_wp2_with fail
                      go_meet
                      exact ⟨rfl, rfl, uF⟩
                    · go_simp
                      refine hK.out _ (X2.alloc (.cells #[.int .i64 0, .bool false, .slice none 0 0, .int .i64 0, .int .i64 0, .bool false] 27)) ((Below.cell (p := ⟨gt, j, none⟩) (uX2.alloc _) hlt).trans hE) (fun _ => ?_)
                      try simp only [Act.put, List.setIfInBounds_toArray, List.set_cons_zero, List.set_cons_succ, List.getElem_toArray, List.getElem_cons_zero, List.getElem_cons_succ]
                      clear hK
                      obtain ⟨E3, hE3⟩ : ∃ E3, X2.alloc (.cells #[.int .i64 0, .bool false, .slice none 0 0, .int .i64 0, .int .i64 0, .bool false] 27) = E3 := ⟨_, rfl⟩
                      have R : Ob E3 X2.heap.size 27 #[.int .i64 0, .bool false, .slice none 0 0, .int .i64 0, .int .i64 0, .bool false] := by rw [← hE3]; exact Ob.mk_ _ _ _
                      have lR : wr.heap.size ≤ X2.heap.size := Up.size uX2
                      have vE3 : Up X2 E3 := by rw [← hE3]; exact (Up.refl _).alloc _
                      have uE3 : Up wr E3 := uX2.trans vE3
                      rw [hE3]
                      clear hE3
                      replace SB := SB.up vE3
                      refine wpAnyH_ready (rs := [11]) (by kernel_rfl) (by simp) ?_
                      refine AllReadyH.cons rfl (fun KQ hK => ?_) AllReadyH.nil
                      go_simp
                      refine (scan_val E3 (Lib.hid (EW.out.up (U.trans uE3))) B2 m2 k2 _ SB (by omega) _ _ _ HRJ K ng d kk bg ct I HK.out HNG.out HNN.out HI.out).mono ?_
                      rintro _ V4 ⟨A9, n9, c9, xs9, rfl, _, _, _, _, vV4⟩
                      have uV4 : Up wr V4 := uE3.trans vV4
                      refine hK.out _ _ ((Below.cell (p := ⟨gt, j, none⟩) (uV4) hlt).trans hE) (fun _ => ?_)
                      try simp only [Act.put, List.setIfInBounds_toArray, List.set_cons_zero, List.set_cons_succ, List.getElem_toArray, List.getElem_cons_zero, List.getElem_cons_succ]
                      clear hK
                      replace R := R.up vV4
                      refine wpAnyH_take (i := 12) (v := ?_) rfl (by kernel_rfl) (by kernel_rfl) (by kernel_rfl) (fun _ _ _ h => h) (Or.inl ⟨by rfl, ?_⟩) (by assumption) ?_
                      rotate_left
                      · intro wq hSq
                        replace hSq : wq.cell? ⟨gt, j, none⟩ = some (.string E) := hSq
                        go_simp
                        all_goals with_reducible rfl
                      try simp only [Act.put, List.setIfInBounds_toArray, List.set_cons_zero, List.set_cons_succ, List.getElem_toArray, List.getElem_cons_zero, List.getElem_cons_succ]
                      refine wpAnyH_take (i := 13) (v := ?_) rfl (by kernel_rfl) (by kernel_rfl) (by kernel_rfl) (fun _ _ _ h => h) (Or.inl ⟨by rfl, ?_⟩) (by assumption) ?_
                      rotate_left
                      · intro wq hSq
                        replace hSq : wq.cell? ⟨gt, j, none⟩ = some (.string E) := hSq
                        go_simp
                        all_goals with_reducible rfl
                      try simp only [Act.put, List.setIfInBounds_toArray, List.set_cons_zero, List.set_cons_succ, List.getElem_toArray, List.getElem_cons_zero, List.getElem_cons_succ]
                      refine wpAnyH_take (i := 14) (v := ?_) rfl (by kernel_rfl) (by kernel_rfl) (by kernel_rfl) (fun _ _ _ h => h) (Or.inl ⟨by rfl, ?_⟩) (by assumption) ?_
                      rotate_left
                      · intro wq hSq
                        replace hSq : wq.cell? ⟨gt, j, none⟩ = some (.string E) := hSq
                        go_simp
                        all_goals with_reducible rfl
                      try simp only [Act.put, List.setIfInBounds_toArray, List.set_cons_zero, List.set_cons_succ, List.getElem_toArray, List.getElem_cons_zero, List.getElem_cons_succ]
                      refine wpAnyH_take (i := 15) (v := ?_) rfl (by kernel_rfl) (by kernel_rfl) (by kernel_rfl) (fun _ _ _ h => h) (Or.inl ⟨by rfl, ?_⟩) (by assumption) ?_
                      rotate_left
                      · intro wq hSq
                        replace hSq : wq.cell? ⟨gt, j, none⟩ = some (.string E) := hSq
                        go_simp
                        all_goals with_reducible rfl
                      try simp only [Act.put, List.setIfInBounds_toArray, List.set_cons_zero, List.set_cons_succ, List.getElem_toArray, List.getElem_cons_zero, List.getElem_cons_succ]
                      refine wpAnyH_ready (rs := [17]) (by kernel_rfl) (by simp) ?_
                      refine AllReadyH.cons rfl (fun KQ hK => ?_) AllReadyH.nil
                      rw [if_pos (by rfl)]
                      refine wp_store_row 27 (.tmp 14) (.tmp 98) rfl X2.heap.size #[.int .i64 K, .bool ng, .slice A9 n9 c9, .int .i64 kk, .int .i64 bg, .bool ct] rfl rfl 27 #[.int .i64 0, .bool false, .slice none 0 0, .int .i64 0, .int .i64 0, .bool false] R (by kernel_rfl) rfl (by simp [Value.oneCell']) ?_
                      obtain ⟨WF, hWF⟩ : ∃ WF, V4.setRow X2.heap.size #[.int .i64 K, .bool ng, .slice A9 n9 c9, .int .i64 kk, .int .i64 bg, .bool ct] = WF := ⟨_, rfl⟩
                      have uF : Up wr WF := by rw [← hWF]; exact uV4.setRow_ lR _
                      rw [hWF]
                      clear hWF
                      refine hK.out _ _ ((Below.cell (p := ⟨gt, j, none⟩) (uF) hlt).trans hE) (fun _ => ?_)
                      simp only [Act.put]
                      clear hK
                      refine wpAnyH_ready (rs := [18]) (by kernel_rfl) (by simp) ?_
                      refine AllReadyH.cons rfl (fun KQ hK => ?_) AllReadyH.nil
                      go_simp
                      refine hK.out _ _ ((Below.cell (p := ⟨gt, j, none⟩) (uF) hlt).trans hE) (fun _ => ?_)
                      try simp only [Act.put, List.setIfInBounds_toArray, List.set_cons_zero, List.set_cons_succ, List.getElem_toArray, List.getElem_cons_zero, List.getElem_cons_succ]
                      clear hK
                      refine wpAnyH_ready (rs := [19]) (by kernel_rfl) (by simp) ?_
                      refine AllReadyH.cons rfl (fun KQ hK => ?_) AllReadyH.nil
                      go_simp
                      refine hK.out _ _ ((Below.cell (p := ⟨gt, j, none⟩) (uF) hlt).trans hE) (fun _ => ?_)
                      try simp only [Act.put, List.setIfInBounds_toArray, List.set_cons_zero, List.set_cons_succ, List.getElem_toArray, List.getElem_cons_zero, List.getElem_cons_succ]
                      clear hK
                      refine wpAnyH_done (by kernel_rfl) ?_ _
                      go_wp2_with fail
                      go_meet
                      exact ⟨rfl, rfl, uF⟩
                  · go_simp
                    refine hK.out _ (X1.alloc (.cells #[.int .i64 0, .bool false, .slice none 0 0, .int .i64 0, .int .i64 0, .bool false] 27)) ((Below.cell (p := ⟨gt, j, none⟩) (uX1.alloc _) hlt).trans hE) (fun _ => ?_)
                    try simp only [Act.put, List.setIfInBounds_toArray, List.set_cons_zero, List.set_cons_succ, List.getElem_toArray, List.getElem_cons_zero, List.getElem_cons_succ]
                    clear hK
                    obtain ⟨E2, hE2⟩ : ∃ E2, X1.alloc (.cells #[.int .i64 0, .bool false, .slice none 0 0, .int .i64 0, .int .i64 0, .bool false] 27) = E2 := ⟨_, rfl⟩
                    have R : Ob E2 X1.heap.size 27 #[.int .i64 0, .bool false, .slice none 0 0, .int .i64 0, .int .i64 0, .bool false] := by rw [← hE2]; exact Ob.mk_ _ _ _
                    have lR : wr.heap.size ≤ X1.heap.size := Up.size uX1
                    have vE2 : Up X1 E2 := by rw [← hE2]; exact (Up.refl _).alloc _
                    have uE2 : Up wr E2 := uX1.trans vE2
                    rw [hE2]
                    clear hE2
                    replace RB := RB.up vE2
                    replace lq := Nat.le_trans lq (Up.size vE2)
                    refine wpAnyH_ready (rs := [10]) (by kernel_rfl) (by simp) ?_
                    refine AllReadyH.cons rfl (fun KQ hK => ?_) AllReadyH.nil
                    obtain ⟨v2, X3, ha, RB2, G2⟩ := append_str_ex E2 22 wr.drew.heap.size _ _ RB E _ hEl (by have := HLP.out; have := M.endings_len j; omega) lq
                    have uX3 : Up wr X3 := Up.grown uE2 G2 (fun b hb => Nat.le_trans lb (RB.lt b hb).1)
                    replace R := R.grown G2 RB (by decide)
                    rw [if_pos (by rfl)]
                    refine wp_append_run (.tmp 91) (.tmp 95) 22 9 rfl _ _ rfl rfl v2 X3 ha ?_
                    refine hK.out _ _ ((Below.cell (p := ⟨gt, j, none⟩) (uX3) hlt).trans hE) (fun _ => ?_)
                    try simp only [Act.put, List.setIfInBounds_toArray, List.set_cons_zero, List.set_cons_succ, List.getElem_toArray, List.getElem_cons_zero, List.getElem_cons_succ]
                    clear hK RB ha G2
                    obtain ⟨B2, m2, k2, rfl, SB, _, _⟩ := RB2.sl
                    have hm2 : m2 ≤ 1000 := by have := SB.num; have := HLP.out; have := M.endings_len j; rw [List.length_append] at *; omega
                    clear RB2
                    refine wpAnyH_ready (rs := [11]) (by kernel_rfl) (by simp) ?_
                    refine AllReadyH.cons rfl (fun KQ hK => ?_) AllReadyH.nil
                    go_simp
                    refine (scan_val X3 (Lib.hid (EW.out.up (U.trans uX3))) B2 m2 k2 _ SB (by omega) _ _ _ HRJ K ng d kk bg ct I HK.out HNG.out HNN.out HI.out).mono ?_
                    rintro _ V4 ⟨A9, n9, c9, xs9, rfl, _, _, _, _, vV4⟩
                    have uV4 : Up wr V4 := uX3.trans vV4
                    refine hK.out _ _ ((Below.cell (p := ⟨gt, j, none⟩) (uV4) hlt).trans hE) (fun _ => ?_)
                    try simp only [Act.put, List.setIfInBounds_toArray, List.set_cons_zero, List.set_cons_succ, List.getElem_toArray, List.getElem_cons_zero, List.getElem_cons_succ]
                    clear hK
                    replace R := R.up vV4
                    refine wpAnyH_take (i := 12) (v := ?_) rfl (by kernel_rfl) (by kernel_rfl) (by kernel_rfl) (fun _ _ _ h => h) (Or.inl ⟨by rfl, ?_⟩) (by assumption) ?_
                    rotate_left
                    · intro wq hSq
                      replace hSq : wq.cell? ⟨gt, j, none⟩ = some (.string E) := hSq
                      go_simp
                      all_goals with_reducible rfl
                    try simp only [Act.put, List.setIfInBounds_toArray, List.set_cons_zero, List.set_cons_succ, List.getElem_toArray, List.getElem_cons_zero, List.getElem_cons_succ]
                    refine wpAnyH_take (i := 13) (v := ?_) rfl (by kernel_rfl) (by kernel_rfl) (by kernel_rfl) (fun _ _ _ h => h) (Or.inl ⟨by rfl, ?_⟩) (by assumption) ?_
                    rotate_left
                    · intro wq hSq
                      replace hSq : wq.cell? ⟨gt, j, none⟩ = some (.string E) := hSq
                      go_simp
                      all_goals with_reducible rfl
                    try simp only [Act.put, List.setIfInBounds_toArray, List.set_cons_zero, List.set_cons_succ, List.getElem_toArray, List.getElem_cons_zero, List.getElem_cons_succ]
                    refine wpAnyH_take (i := 14) (v := ?_) rfl (by kernel_rfl) (by kernel_rfl) (by kernel_rfl) (fun _ _ _ h => h) (Or.inl ⟨by rfl, ?_⟩) (by assumption) ?_
                    rotate_left
                    · intro wq hSq
                      replace hSq : wq.cell? ⟨gt, j, none⟩ = some (.string E) := hSq
                      go_simp
                      all_goals with_reducible rfl
                    try simp only [Act.put, List.setIfInBounds_toArray, List.set_cons_zero, List.set_cons_succ, List.getElem_toArray, List.getElem_cons_zero, List.getElem_cons_succ]
                    refine wpAnyH_take (i := 15) (v := ?_) rfl (by kernel_rfl) (by kernel_rfl) (by kernel_rfl) (fun _ _ _ h => h) (Or.inl ⟨by rfl, ?_⟩) (by assumption) ?_
                    rotate_left
                    · intro wq hSq
                      replace hSq : wq.cell? ⟨gt, j, none⟩ = some (.string E) := hSq
                      go_simp
                      all_goals with_reducible rfl
                    try simp only [Act.put, List.setIfInBounds_toArray, List.set_cons_zero, List.set_cons_succ, List.getElem_toArray, List.getElem_cons_zero, List.getElem_cons_succ]
                    refine wpAnyH_ready (rs := [17]) (by kernel_rfl) (by simp) ?_
                    refine AllReadyH.cons rfl (fun KQ hK => ?_) AllReadyH.nil
                    rw [if_pos (by rfl)]
                    refine wp_store_row 27 (.tmp 14) (.tmp 98) rfl X1.heap.size #[.int .i64 K, .bool ng, .slice A9 n9 c9, .int .i64 kk, .int .i64 bg, .bool ct] rfl rfl 27 #[.int .i64 0, .bool false, .slice none 0 0, .int .i64 0, .int .i64 0, .bool false] R (by kernel_rfl) rfl (by simp [Value.oneCell']) ?_
                    obtain ⟨WF, hWF⟩ : ∃ WF, V4.setRow X1.heap.size #[.int .i64 K, .bool ng, .slice A9 n9 c9, .int .i64 kk, .int .i64 bg, .bool ct] = WF := ⟨_, rfl⟩
                    have uF : Up wr WF := by rw [← hWF]; exact uV4.setRow_ lR _
                    rw [hWF]
                    clear hWF
                    refine hK.out _ _ ((Below.cell (p := ⟨gt, j, none⟩) (uF) hlt).trans hE) (fun _ => ?_)
                    simp only [Act.put]
                    clear hK
                    refine wpAnyH_ready (rs := [18]) (by kernel_rfl) (by simp) ?_
                    refine AllReadyH.cons rfl (fun KQ hK => ?_) AllReadyH.nil
                    go_simp
                    refine hK.out _ _ ((Below.cell (p := ⟨gt, j, none⟩) (uF) hlt).trans hE) (fun _ => ?_)
                    try simp only [Act.put, List.setIfInBounds_toArray, List.set_cons_zero, List.set_cons_succ, List.getElem_toArray, List.getElem_cons_zero, List.getElem_cons_succ]
                    clear hK
                    refine wpAnyH_ready (rs := [19]) (by kernel_rfl) (by simp) ?_
                    refine AllReadyH.cons rfl (fun KQ hK => ?_) AllReadyH.nil
                    go_simp
                    refine hK.out _ _ ((Below.cell (p := ⟨gt, j, none⟩) (uF) hlt).trans hE) (fun _ => ?_)
                    try simp only [Act.put, List.setIfInBounds_toArray, List.set_cons_zero, List.set_cons_succ, List.getElem_toArray, List.getElem_cons_zero, List.getElem_cons_succ]
                    clear hK
                    refine wpAnyH_done (by kernel_rfl) ?_ _
                    go_wp2_with fail
                    go_meet
                    exact ⟨rfl, rfl, uF⟩
                · go_simp
                  refine hK.out _ (E0.alloc (.cells #[.int .i64 0, .bool false, .slice none 0 0, .int .i64 0, .int .i64 0, .bool false] 27)) ((Below.cell (p := ⟨gt, j, none⟩) (uE0.alloc _) hlt).trans hE) (fun _ => ?_)
                  try simp only [Act.put, List.setIfInBounds_toArray, List.set_cons_zero, List.set_cons_succ, List.getElem_toArray, List.getElem_cons_zero, List.getElem_cons_succ]
                  clear hK
                  obtain ⟨E1, hE1⟩ : ∃ E1, E0.alloc (.cells #[.int .i64 0, .bool false, .slice none 0 0, .int .i64 0, .int .i64 0, .bool false] 27) = E1 := ⟨_, rfl⟩
                  have R : Ob E1 E0.heap.size 27 #[.int .i64 0, .bool false, .slice none 0 0, .int .i64 0, .int .i64 0, .bool false] := by rw [← hE1]; exact Ob.mk_ _ _ _
                  have lR : wr.heap.size ≤ E0.heap.size := Up.size uE0
                  have vE1 : Up E0 E1 := by rw [← hE1]; exact (Up.refl _).alloc _
                  have uE1 : Up wr E1 := uE0.trans vE1
                  rw [hE1]
                  clear hE1
                  replace HL := HL.up vE1
                  replace lq := Nat.le_trans lq (Up.size vE1)
                  refine wpAnyH_ready (rs := [5]) (by kernel_rfl) (by simp) ?_
                  refine AllReadyH.cons rfl (fun KQ hK => ?_) AllReadyH.nil
                  obtain ⟨v1, X2, ha, RB, G1⟩ := append_sb_ex E1 22 wr.drew.heap.size _ _ HL A0 (i + 1) c0 lp2 (HSn.out.up (U.trans uE1)) (by have := HLP.out; simp; omega) lq
                  have uX2 : Up wr X2 := Up.grown uE1 G1 (fun b hb => Nat.le_trans lb (HL.lt b hb).1)
                  rw [List.nil_append] at RB
                  replace R := R.grown G1 HL (by decide)
                  replace lq := Nat.le_trans lq (G1.size)
                  rw [if_pos (by rfl)]
                  refine wp_append_run (.tmp 86) (.tmp 90) 22 22 rfl _ _ rfl rfl v1 X2 ha ?_
                  refine hK.out _ _ ((Below.cell (p := ⟨gt, j, none⟩) (uX2) hlt).trans hE) (fun _ => ?_)
                  try simp only [Act.put, List.setIfInBounds_toArray, List.set_cons_zero, List.set_cons_succ, List.getElem_toArray, List.getElem_cons_zero, List.getElem_cons_succ]
                  clear hK HL ha G1
                  refine wpAnyH_ready (rs := [10]) (by kernel_rfl) (by simp) ?_
                  refine AllReadyH.cons rfl (fun KQ hK => ?_) AllReadyH.nil
                  obtain ⟨v2, X3, ha, RB2, G2⟩ := append_str_ex X2 22 wr.drew.heap.size _ _ RB E _ hEl (by have := HLP.out; have := M.endings_len j; omega) lq
                  have uX3 : Up wr X3 := Up.grown uX2 G2 (fun b hb => Nat.le_trans lb (RB.lt b hb).1)
                  replace R := R.grown G2 RB (by decide)
                  rw [if_pos (by rfl)]
                  refine wp_append_run (.tmp 91) (.tmp 95) 22 9 rfl _ _ rfl rfl v2 X3 ha ?_
                  refine hK.out _ _ ((Below.cell (p := ⟨gt, j, none⟩) (uX3) hlt).trans hE) (fun _ => ?_)
                  try simp only [Act.put, List.setIfInBounds_toArray, List.set_cons_zero, List.set_cons_succ, List.getElem_toArray, List.getElem_cons_zero, List.getElem_cons_succ]
                  clear hK RB ha G2
                  obtain ⟨B2, m2, k2, rfl, SB, _, _⟩ := RB2.sl
                  have hm2 : m2 ≤ 1000 := by have := SB.num; have := HLP.out; have := M.endings_len j; rw [List.length_append] at *; omega
                  clear RB2
                  refine wpAnyH_ready (rs := [11]) (by kernel_rfl) (by simp) ?_
                  refine AllReadyH.cons rfl (fun KQ hK => ?_) AllReadyH.nil
                  go_simp
                  refine (scan_val X3 (Lib.hid (EW.out.up (U.trans uX3))) B2 m2 k2 _ SB (by omega) _ _ _ HRJ K ng d kk bg ct I HK.out HNG.out HNN.out HI.out).mono ?_
                  rintro _ V4 ⟨A9, n9, c9, xs9, rfl, _, _, _, _, vV4⟩
                  have uV4 : Up wr V4 := uX3.trans vV4
                  refine hK.out _ _ ((Below.cell (p := ⟨gt, j, none⟩) (uV4) hlt).trans hE) (fun _ => ?_)
                  try simp only [Act.put, List.setIfInBounds_toArray, List.set_cons_zero, List.set_cons_succ, List.getElem_toArray, List.getElem_cons_zero, List.getElem_cons_succ]
                  clear hK
                  replace R := R.up vV4
                  refine wpAnyH_take (i := 12) (v := ?_) rfl (by kernel_rfl) (by kernel_rfl) (by kernel_rfl) (fun _ _ _ h => h) (Or.inl ⟨by rfl, ?_⟩) (by assumption) ?_
                  rotate_left
                  · intro wq hSq
                    replace hSq : wq.cell? ⟨gt, j, none⟩ = some (.string E) := hSq
                    go_simp
                    all_goals with_reducible rfl
                  try simp only [Act.put, List.setIfInBounds_toArray, List.set_cons_zero, List.set_cons_succ, List.getElem_toArray, List.getElem_cons_zero, List.getElem_cons_succ]
                  refine wpAnyH_take (i := 13) (v := ?_) rfl (by kernel_rfl) (by kernel_rfl) (by kernel_rfl) (fun _ _ _ h => h) (Or.inl ⟨by rfl, ?_⟩) (by assumption) ?_
                  rotate_left
                  · intro wq hSq
                    replace hSq : wq.cell? ⟨gt, j, none⟩ = some (.string E) := hSq
                    go_simp
                    all_goals with_reducible rfl
                  try simp only [Act.put, List.setIfInBounds_toArray, List.set_cons_zero, List.set_cons_succ, List.getElem_toArray, List.getElem_cons_zero, List.getElem_cons_succ]
                  refine wpAnyH_take (i := 14) (v := ?_) rfl (by kernel_rfl) (by kernel_rfl) (by kernel_rfl) (fun _ _ _ h => h) (Or.inl ⟨by rfl, ?_⟩) (by assumption) ?_
                  rotate_left
                  · intro wq hSq
                    replace hSq : wq.cell? ⟨gt, j, none⟩ = some (.string E) := hSq
                    go_simp
                    all_goals with_reducible rfl
                  try simp only [Act.put, List.setIfInBounds_toArray, List.set_cons_zero, List.set_cons_succ, List.getElem_toArray, List.getElem_cons_zero, List.getElem_cons_succ]
                  refine wpAnyH_take (i := 15) (v := ?_) rfl (by kernel_rfl) (by kernel_rfl) (by kernel_rfl) (fun _ _ _ h => h) (Or.inl ⟨by rfl, ?_⟩) (by assumption) ?_
                  rotate_left
                  · intro wq hSq
                    replace hSq : wq.cell? ⟨gt, j, none⟩ = some (.string E) := hSq
                    go_simp
                    all_goals with_reducible rfl
                  try simp only [Act.put, List.setIfInBounds_toArray, List.set_cons_zero, List.set_cons_succ, List.getElem_toArray, List.getElem_cons_zero, List.getElem_cons_succ]
                  refine wpAnyH_ready (rs := [17]) (by kernel_rfl) (by simp) ?_
                  refine AllReadyH.cons rfl (fun KQ hK => ?_) AllReadyH.nil
                  rw [if_pos (by rfl)]
                  refine wp_store_row 27 (.tmp 14) (.tmp 98) rfl E0.heap.size #[.int .i64 K, .bool ng, .slice A9 n9 c9, .int .i64 kk, .int .i64 bg, .bool ct] rfl rfl 27 #[.int .i64 0, .bool false, .slice none 0 0, .int .i64 0, .int .i64 0, .bool false] R (by kernel_rfl) rfl (by simp [Value.oneCell']) ?_
                  obtain ⟨WF, hWF⟩ : ∃ WF, V4.setRow E0.heap.size #[.int .i64 K, .bool ng, .slice A9 n9 c9, .int .i64 kk, .int .i64 bg, .bool ct] = WF := ⟨_, rfl⟩
                  have uF : Up wr WF := by rw [← hWF]; exact uV4.setRow_ lR _
                  rw [hWF]
                  clear hWF
                  refine hK.out _ _ ((Below.cell (p := ⟨gt, j, none⟩) (uF) hlt).trans hE) (fun _ => ?_)
                  simp only [Act.put]
                  clear hK
                  refine wpAnyH_ready (rs := [18]) (by kernel_rfl) (by simp) ?_
                  refine AllReadyH.cons rfl (fun KQ hK => ?_) AllReadyH.nil
                  go_simp
                  refine hK.out _ _ ((Below.cell (p := ⟨gt, j, none⟩) (uF) hlt).trans hE) (fun _ => ?_)
                  try simp only [Act.put, List.setIfInBounds_toArray, List.set_cons_zero, List.set_cons_succ, List.getElem_toArray, List.getElem_cons_zero, List.getElem_cons_succ]
                  clear hK
                  refine wpAnyH_ready (rs := [19]) (by kernel_rfl) (by simp) ?_
                  refine AllReadyH.cons rfl (fun KQ hK => ?_) AllReadyH.nil
                  go_simp
                  refine hK.out _ _ ((Below.cell (p := ⟨gt, j, none⟩) (uF) hlt).trans hE) (fun _ => ?_)
                  try simp only [Act.put, List.setIfInBounds_toArray, List.set_cons_zero, List.set_cons_succ, List.getElem_toArray, List.getElem_cons_zero, List.getElem_cons_succ]
                  clear hK
                  refine wpAnyH_done (by kernel_rfl) ?_ _
                  go_wp2_with fail
                  go_meet
                  exact ⟨rfl, rfl, uF⟩
              · go_simp
                refine hK.out _ (wr.drew.alloc (.cells #[.int .i64 0, .bool false, .slice none 0 0, .int .i64 0, .int .i64 0, .bool false] 27)) ((Below.cell (p := ⟨gt, j, none⟩) (uD.alloc _) hlt).trans hE) (fun _ => ?_)
                try simp only [Act.put, List.setIfInBounds_toArray, List.set_cons_zero, List.set_cons_succ, List.getElem_toArray, List.getElem_cons_zero, List.getElem_cons_succ]
                clear hK
                obtain ⟨E0, hE0⟩ : ∃ E0, wr.drew.alloc (.cells #[.int .i64 0, .bool false, .slice none 0 0, .int .i64 0, .int .i64 0, .bool false] 27) = E0 := ⟨_, rfl⟩
                have R : Ob E0 wr.drew.heap.size 27 #[.int .i64 0, .bool false, .slice none 0 0, .int .i64 0, .int .i64 0, .bool false] := by rw [← hE0]; exact Ob.mk_ _ _ _
                have lR : wr.heap.size ≤ wr.drew.heap.size := Up.size uD
                have vE0 : Up wr.drew E0 := by rw [← hE0]; exact (Up.refl _).alloc _
                have uE0 : Up wr E0 := uD.trans vE0
                rw [hE0]
                clear hE0
                refine wpAnyH_ready (rs := [0]) (by kernel_rfl) (by simp) ?_
                refine AllReadyH.cons rfl (fun KQ hK => ?_) AllReadyH.nil
                go_simp
                refine hK.out _ (E0.alloc (.cells #[] 5)) ((Below.cell (p := ⟨gt, j, none⟩) (uE0.alloc _) hlt).trans hE) (fun _ => ?_)
                try simp only [Act.put, List.setIfInBounds_toArray, List.set_cons_zero, List.set_cons_succ, List.getElem_toArray, List.getElem_cons_zero, List.getElem_cons_succ]
                clear hK
                obtain ⟨E1, hE1⟩ : ∃ E1, E0.alloc (.cells #[] 5) = E1 := ⟨_, rfl⟩
                have HL : Rb E1 E0.heap.size (.slice (some ⟨E0.heap.size, 0, none⟩) 0 0) [] := by rw [← hE1]; exact World.ownsRow_lit E0 #[] 0 (Nat.le_refl _) (by simp only [maxLen]; omega) rfl
                have vE1 : Up E0 E1 := by rw [← hE1]; exact (Up.refl _).alloc _
                have uE1 : Up wr E1 := uE0.trans vE1
                have lb : wr.heap.size ≤ E0.heap.size := Up.size uE0
                have lq : E0.heap.size ≤ E1.heap.size := Up.size vE1
                rw [hE1]
                clear hE1
                replace R := R.up vE1
                refine wpAnyH_ready (rs := [5]) (by kernel_rfl) (by simp) ?_
                refine AllReadyH.cons rfl (fun KQ hK => ?_) AllReadyH.nil
                obtain ⟨v1, X2, ha, RB, G1⟩ := append_sb_ex E1 22 E0.heap.size _ _ HL A0 (i + 1) c0 lp2 (HSn.out.up (U.trans uE1)) (by have := HLP.out; simp; omega) lq
                have uX2 : Up wr X2 := Up.grown uE1 G1 (fun b hb => Nat.le_trans lb (HL.lt b hb).1)
                rw [List.nil_append] at RB
                replace R := R.grown G1 HL (by decide)
                replace lq := Nat.le_trans lq (G1.size)
                rw [if_pos (by rfl)]
                refine wp_append_run (.tmp 86) (.tmp 90) 22 22 rfl _ _ rfl rfl v1 X2 ha ?_
                refine hK.out _ _ ((Below.cell (p := ⟨gt, j, none⟩) (uX2) hlt).trans hE) (fun _ => ?_)
                try simp only [Act.put, List.setIfInBounds_toArray, List.set_cons_zero, List.set_cons_succ, List.getElem_toArray, List.getElem_cons_zero, List.getElem_cons_succ]
                clear hK HL ha G1
                refine wpAnyH_ready (rs := [10]) (by kernel_rfl) (by simp) ?_
                refine AllReadyH.cons rfl (fun KQ hK => ?_) AllReadyH.nil
                obtain ⟨v2, X3, ha, RB2, G2⟩ := append_str_ex X2 22 E0.heap.size _ _ RB E _ hEl (by have := HLP.out; have := M.endings_len j; omega) lq
                have uX3 : Up wr X3 := Up.grown uX2 G2 (fun b hb => Nat.le_trans lb (RB.lt b hb).1)
                replace R := R.grown G2 RB (by decide)
                rw [if_pos (by rfl)]
                refine wp_append_run (.tmp 91) (.tmp 95) 22 9 rfl _ _ rfl rfl v2 X3 ha ?_
                refine hK.out _ _ ((Below.cell (p := ⟨gt, j, none⟩) (uX3) hlt).trans hE) (fun _ => ?_)
                try simp only [Act.put, List.setIfInBounds_toArray, List.set_cons_zero, List.set_cons_succ, List.getElem_toArray, List.getElem_cons_zero, List.getElem_cons_succ]
                clear hK RB ha G2
                obtain ⟨B2, m2, k2, rfl, SB, _, _⟩ := RB2.sl
                have hm2 : m2 ≤ 1000 := by have := SB.num; have := HLP.out; have := M.endings_len j; rw [List.length_append] at *; omega
                clear RB2
                refine wpAnyH_ready (rs := [11]) (by kernel_rfl) (by simp) ?_
                refine AllReadyH.cons rfl (fun KQ hK => ?_) AllReadyH.nil
                go_simp
                refine (scan_val X3 (Lib.hid (EW.out.up (U.trans uX3))) B2 m2 k2 _ SB (by omega) _ _ _ HRJ K ng d kk bg ct I HK.out HNG.out HNN.out HI.out).mono ?_
                rintro _ V4 ⟨A9, n9, c9, xs9, rfl, _, _, _, _, vV4⟩
                have uV4 : Up wr V4 := uX3.trans vV4
                refine hK.out _ _ ((Below.cell (p := ⟨gt, j, none⟩) (uV4) hlt).trans hE) (fun _ => ?_)
                try simp only [Act.put, List.setIfInBounds_toArray, List.set_cons_zero, List.set_cons_succ, List.getElem_toArray, List.getElem_cons_zero, List.getElem_cons_succ]
                clear hK
                replace R := R.up vV4
                refine wpAnyH_take (i := 12) (v := ?_) rfl (by kernel_rfl) (by kernel_rfl) (by kernel_rfl) (fun _ _ _ h => h) (Or.inl ⟨by rfl, ?_⟩) (by assumption) ?_
                rotate_left
                · intro wq hSq
                  replace hSq : wq.cell? ⟨gt, j, none⟩ = some (.string E) := hSq
                  go_simp
                  all_goals with_reducible rfl
                try simp only [Act.put, List.setIfInBounds_toArray, List.set_cons_zero, List.set_cons_succ, List.getElem_toArray, List.getElem_cons_zero, List.getElem_cons_succ]
                refine wpAnyH_take (i := 13) (v := ?_) rfl (by kernel_rfl) (by kernel_rfl) (by kernel_rfl) (fun _ _ _ h => h) (Or.inl ⟨by rfl, ?_⟩) (by assumption) ?_
                rotate_left
                · intro wq hSq
                  replace hSq : wq.cell? ⟨gt, j, none⟩ = some (.string E) := hSq
                  go_simp
                  all_goals with_reducible rfl
                try simp only [Act.put, List.setIfInBounds_toArray, List.set_cons_zero, List.set_cons_succ, List.getElem_toArray, List.getElem_cons_zero, List.getElem_cons_succ]
                refine wpAnyH_take (i := 14) (v := ?_) rfl (by kernel_rfl) (by kernel_rfl) (by kernel_rfl) (fun _ _ _ h => h) (Or.inl ⟨by rfl, ?_⟩) (by assumption) ?_
                rotate_left
                · intro wq hSq
                  replace hSq : wq.cell? ⟨gt, j, none⟩ = some (.string E) := hSq
                  go_simp
                  all_goals with_reducible rfl
                try simp only [Act.put, List.setIfInBounds_toArray, List.set_cons_zero, List.set_cons_succ, List.getElem_toArray, List.getElem_cons_zero, List.getElem_cons_succ]
                refine wpAnyH_take (i := 15) (v := ?_) rfl (by kernel_rfl) (by kernel_rfl) (by kernel_rfl) (fun _ _ _ h => h) (Or.inl ⟨by rfl, ?_⟩) (by assumption) ?_
                rotate_left
                · intro wq hSq
                  replace hSq : wq.cell? ⟨gt, j, none⟩ = some (.string E) := hSq
                  go_simp
                  all_goals with_reducible rfl
                try simp only [Act.put, List.setIfInBounds_toArray, List.set_cons_zero, List.set_cons_succ, List.getElem_toArray, List.getElem_cons_zero, List.getElem_cons_succ]
                refine wpAnyH_ready (rs := [17]) (by kernel_rfl) (by simp) ?_
                refine AllReadyH.cons rfl (fun KQ hK => ?_) AllReadyH.nil
                rw [if_pos (by rfl)]
                refine wp_store_row 27 (.tmp 14) (.tmp 98) rfl wr.drew.heap.size #[.int .i64 K, .bool ng, .slice A9 n9 c9, .int .i64 kk, .int .i64 bg, .bool ct] rfl rfl 27 #[.int .i64 0, .bool false, .slice none 0 0, .int .i64 0, .int .i64 0, .bool false] R (by kernel_rfl) rfl (by simp [Value.oneCell']) ?_
                obtain ⟨WF, hWF⟩ : ∃ WF, V4.setRow wr.drew.heap.size #[.int .i64 K, .bool ng, .slice A9 n9 c9, .int .i64 kk, .int .i64 bg, .bool ct] = WF := ⟨_, rfl⟩
                have uF : Up wr WF := by rw [← hWF]; exact uV4.setRow_ lR _
                rw [hWF]
                clear hWF
                refine hK.out _ _ ((Below.cell (p := ⟨gt, j, none⟩) (uF) hlt).trans hE) (fun _ => ?_)
                simp only [Act.put]
                clear hK
                refine wpAnyH_ready (rs := [18]) (by kernel_rfl) (by simp) ?_
                refine AllReadyH.cons rfl (fun KQ hK => ?_) AllReadyH.nil
                go_simp
                refine hK.out _ _ ((Below.cell (p := ⟨gt, j, none⟩) (uF) hlt).trans hE) (fun _ => ?_)
                try simp only [Act.put, List.setIfInBounds_toArray, List.set_cons_zero, List.set_cons_succ, List.getElem_toArray, List.getElem_cons_zero, List.getElem_cons_succ]
                clear hK
                refine wpAnyH_ready (rs := [19]) (by kernel_rfl) (by simp) ?_
                refine AllReadyH.cons rfl (fun KQ hK => ?_) AllReadyH.nil
                go_simp
                refine hK.out _ _ ((Below.cell (p := ⟨gt, j, none⟩) (uF) hlt).trans hE) (fun _ => ?_)
                try simp only [Act.put, List.setIfInBounds_toArray, List.set_cons_zero, List.set_cons_succ, List.getElem_toArray, List.getElem_cons_zero, List.getElem_cons_succ]
                clear hK
                refine wpAnyH_done (by kernel_rfl) ?_ _
                go_wp2_with fail
                go_meet
                exact ⟨rfl, rfl, uF⟩
            obtain ⟨rfl, rfl, ux⟩ := hcut
            have Ux := U.trans ux
            have Tx := T.up ux
            clear HRJ HK HNG HNN HI hE hEl U T ux
            go_wp2_with fail
            go_roundg (9 - (j + 1))
            case measure => omega
            case rel => exact ⟨j + 1, by omega, rfl, by go_num, Tx, Ux⟩
          · obtain rfl : j = 9 := by omega
            go_wp2_with fail
            go_ret
            exact ⟨rfl, U⟩
      · have d3 : decide ((i : Int) < (k : Int)) = false := decide_eq_false (by omega)
        have d4 : decide (i < k) = false := decide_eq_false (by omega)
        go_loopg [13] 9 (fun g iv wr => g = 9 ∧ iv = .int .i64 0 ∧ wr = wo)
        case atStart => exact ⟨rfl, rfl, rfl⟩
        case round =>
          obtain ⟨rfl, rfl, rfl⟩ := hrel
          go_wp2_with fail
          go_ret
          exact ⟨rfl, Uw⟩
  · have r1 := Lib.hid (M.rs_ok hsc)
    obtain ⟨K, hK⟩ : ∃ K : Int, ((M.itm y).kind : Int) = K := ⟨_, rfl⟩
    obtain ⟨ng, hng⟩ : ∃ ng, (M.itm y).neg = ng := ⟨_, rfl⟩
    obtain ⟨d, kk, bg, ct, hnn⟩ : ∃ d kk bg ct, (M.itm y).n = ⟨d, kk, bg, ct⟩ := ⟨_, _, _, _, rfl⟩
    have HK := Lib.hid hK
    have HNG := Lib.hid hng
    have HNN := Lib.hid hnn
    clear hsc hK hng hnn
    go_enter Tryd.func3, Tryd.ntmps3
    go_upto_region 2 with (go_at_call 10; refine CH.out.mono ?_; rintro _ w1 ⟨rfl, u1⟩)
    go_upto_region 3 with fail
    have C1 := Lib.hid (scan_val w1 (Lib.hid (EW.out.up u1)) _ k _ l (HS.out.up u1) (by omega) _ 0 0 r1 K ng d kk bg ct 0 HK.out HNG.out HNN.out rfl)
    go_upto_region 4 with (first | (go_at_call 11; refine C1.out.mono ?_; rintro _ V1 ⟨A1, n1, c1, xs1, rfl, a1, b1, d1, e1, u2⟩) | (refine store_ob rfl 27 (.tmp 4) (.tmp 26) rfl _ #[.int .i64 0, .bool false, .slice none 0 0, .int .i64 0, .int .i64 0, .bool false] #[.int .i64 K, .bool ng, .slice A1 n1 c1, .int .i64 kk, .int .i64 bg, .bool ct] rfl rfl 6 (by kernel_rfl) rfl rfl (by simp [Value.oneCell']) V1 ((Up.refl _).alloc _) (Nat.le_refl _) 27 (Ob.mk_ _ _ _) ?_; intro W1 I1 q1))
    have U1 : Up w W1 := (u1.trans u2).trans q1
    clear a1 b1 d1 e1 u2 q1 C1 I1
    go_wp2_with fail
    go_ret
    exact ⟨rfl, U1⟩
end Go.Proofs.YtpmpdecaadfnmaaDoor
