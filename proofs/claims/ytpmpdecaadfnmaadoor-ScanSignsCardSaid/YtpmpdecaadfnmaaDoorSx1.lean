/-
  The walk of ScanSigns: true, and nothing that was there has turned.
-/
import Derived.Test.YtpmpdecaadfnmaaDoorSw
namespace Go.Proofs.YtpmpdecaadfnmaaDoor
open Go.RowKit Go.Shelf
set_option linter.unusedVariables false

set_option maxHeartbeats 16000000 in
set_option maxRecDepth 100000 in
theorem ssigns_walk (w : World) (hTW : TabW w) (hEW : ErrW w) (A0 : Option Addr) (n0 c0 : Nat) (l0 : List UInt8) (e0 : Sb w A0 n0 c0 l0) :
    Calls Tryd.prog 7 #[.slice A0 n0 c0] w (True9 w) := by
  obtain ⟨k, hk, hk1, hk2⟩ : ∃ k : Nat, min (n0 : Int) 300 = (k : Int) ∧ k ≤ n0 ∧ k ≤ 300 := ⟨min n0 300, by omega, by omega, by omega⟩
  have hc0 := e0.len
  have hsl := slice_j A0 n0 c0 k (by omega) e0.none_
  obtain ⟨l, hl⟩ : ∃ l, l0.take k = l := ⟨_, rfl⟩
  have S : Sb w A0 k c0 l := by rw [← hl]; exact e0.take hk1
  have HN : Hid (l.length = k) := S.num
  have TW := Lib.hid hTW
  have EW := Lib.hid hEW
  have CH := Lib.hid (shown9_any w TW EW)
  clear hl e0 hTW hEW hc0
  have U := Up.refl w
  by_cases hneg : l ≠ [] ∧ l.headD 0 = 45
  · have hk0 : 0 < k := by
      rw [← HN.out]
      exact List.length_pos_iff.2 hneg.1
    obtain ⟨ad, rfl⟩ := S.ad hk0
    have cx := S.at_ ad rfl 0 hk0
    have ex : l.getD 0 0 = 45 := by
      have := hneg.2
      cases l with
      | nil => exact absurd rfl hneg.1
      | cons a b => exact this
    rw [ex, show ad.add 0 = ad from by simp [Addr.add]] at cx
    have hb := World.block_lt_of_cell? w _ cx
    have d : decide ((k : Int) > 0) = true := decide_eq_true (by omega)
    clear S HN hneg ex
    go_enter Tryd.func7, Tryd.ntmps7
    go_upto_region 2 with (go_at_call 10; refine CH.out.mono ?_; rintro _ w1 ⟨rfl, u1⟩)
    have cx1 : w1.cell? ad = some (.int .u8 45) := by rw [Below.cell u1 hb]; exact cx
    clear cx
    go_wp2_with fail
    go_ret
    exact ⟨rfl, u1⟩
  · have hnn : Hid (l.headD 0 ≠ 45 ∨ l = []) := by
      show _ ∨ _
      by_cases h : l = []
      · exact .inr h
      · exact .inl (fun e => hneg ⟨h, e⟩)
    have hg : k = 0 ∨ (0 < k ∧ ∃ ad x, A0 = some ad ∧ ad.block < w.heap.size ∧ w.cell? ad = some (.int .u8 x) ∧ (x == 45) = false) := by
      rcases Nat.eq_zero_or_pos k with h | h
      · exact .inl h
      · right
        obtain ⟨ad, rfl⟩ := S.ad h
        have cx := S.at_ ad rfl 0 h
        rw [show ad.add 0 = ad from by simp [Addr.add]] at cx
        refine ⟨h, ad, _, rfl, World.block_lt_of_cell? w _ cx, cx, ?_⟩
        rw [beq_eq_false_iff_ne]
        intro e
        cases l with
        | nil =>
          have := HN.out
          simp at this
          omega
        | cons a b =>
          rcases hnn.out with h2 | h2
          · apply h2
            apply UInt8.toNat_inj.1
            show a.toNat = 45
            have e2 : ((a.toNat : Nat) : Int) = 45 := e
            omega
          · cases h2
    have HS := Lib.hid S
    clear S hneg
    have R12 : (∃ i, M.scan l = .error i) ∨ ∃ x, M.scan l = .ok x := by
      cases M.scan l with
      | error i => exact .inl ⟨i, rfl⟩
      | ok x => exact .inr ⟨x, rfl⟩
    rcases R12 with ⟨i, hsc⟩ | ⟨x, hsc⟩
    · have hi : i ≤ 300 := by
        have := M.scan_le _ _ hsc
        have := HN.out
        omega
      have r1 := Lib.hid (M.rs_error hsc)
      have r2 : Hid (M.rs ([45] ++ l) = (⟨0, false, ⟨0, 0, 0, false⟩⟩, i + 1, 2)) := M.rs_error (by
        show M.scan (45 :: l) = _
        rw [M.scan_sign l hnn.out, hsc]
        rfl)
      clear hsc hnn
      rcases hg with h0 | ⟨h0, ad, x, rfl, hb, cx, hx⟩
      · subst h0
        go_enter Tryd.func7, Tryd.ntmps7
        go_upto_region 2 with (go_at_call 10; refine CH.out.mono ?_; rintro _ w1 ⟨rfl, u1⟩)
        go_upto_region 5 with fail
        have C1 := Lib.hid (scan_val w1 (Lib.hid (EW.out.up u1)) _ 0 _ l (HS.out.up u1) (by omega) _ i 2 r1 0 false 0 0 0 false (i : Int) rfl rfl rfl rfl)
        go_upto_region 6 with (first | (go_at_call 11; refine C1.out.mono ?_; rintro _ V1 ⟨A1, n1, c1, xs1, rfl, a1, b1, d1, e1, u2⟩) | (refine store_ob rfl 27 (.tmp 4) (.tmp 29) rfl _ #[.int .i64 0, .bool false, .slice none 0 0, .int .i64 0, .int .i64 0, .bool false] #[.int .i64 0, .bool false, .slice A1 n1 c1, .int .i64 0, .int .i64 0, .bool false] rfl rfl 6 (by kernel_rfl) rfl rfl (by simp [Value.oneCell']) V1 ((Up.refl _).alloc _) (Nat.le_refl _) 27 (Ob.mk_ _ _ _) ?_; intro W1 I1 q1))
        have N1 := wd_nt a1 b1 d1 e1
        have gw : w.heap.size ≤ V1.heap.size := Up.size (u1.trans u2)
        have g1 : V1.heap.size < W1.heap.size := I1.lt
        have U1 : Up w W1 := (u1.trans u2).trans q1
        have hl45 : ([45] ++ l : List UInt8).length = 0 + 1 := by rw [List.length_append, HN.out]; simp <;> omega
        have HL45 := Lib.hid hl45
        have HL := Lib.hid (show Rb (W1.alloc (.cells #[.int .u8 45] 5)) W1.heap.size (.slice (some ⟨W1.heap.size, 0, none⟩) 1 1) [45] from World.ownsRow_lit W1 #[.int .u8 45] 1 (Nat.le_refl _) (by simp only [maxLen]; omega) rfl)
        have HS2 := Lib.hid (HS.out.up (U1.alloc (.cells #[.int .u8 45] 5)))
        have HQ1 := Lib.hid q1
        clear C1 a1 b1 d1 e1 u2 q1 hl45
        go_upto_region 7 with (first
          | (at_builtin; go_loud (refine wpList_append_sb _ rfl _ _ 22 rfl info_u8 W1.heap.size Tryd.underlying22 _ [45] rfl HL.out _ 0 _ l rfl HS2.out (by simp <;> omega) (by simp) ?_; intro v2 X2 R2 G2; have uX : Up W1 X2 := Up.grown ((Up.refl W1).alloc _) G2 (fun b hb => (HL.out.lt b hb).1); obtain ⟨B2, m2, k2, rfl, S2, _, _⟩ := R2.sl; have hm2 : m2 ≤ 1000 := (by have := S2.num; have := HL45.out; omega); have H2 := Lib.hid S2; clear R2 G2 S2))
          | (go_at_call 11; go_loud (refine (scan_val X2 (Lib.hid (EW.out.up (U1.trans uX))) B2 m2 k2 ([45] ++ l) H2.out (by omega) _ (i + 1) 2 r2 0 false 0 0 0 false ((i : Int) + 1) rfl rfl rfl (by omega)).mono ?_; rintro _ V2 ⟨A2, n2, c2, xs2, rfl, a2, b2, d2, e2, u3⟩))
          | (refine store_ob rfl 27 (.tmp 7) (.tmp 37) rfl _ #[.int .i64 0, .bool false, .slice none 0 0, .int .i64 0, .int .i64 0, .bool false] #[.int .i64 0, .bool false, .slice A2 n2 c2, .int .i64 0, .int .i64 0, .bool false] rfl rfl 6 (by kernel_rfl) rfl rfl (by simp [Value.oneCell']) V2 ((Up.refl _).alloc _) (Nat.le_refl _) 27 (Ob.mk_ _ _ _) ?_; intro W2 I2 q2))
        have u4 : Up W1 W2 := (uX.trans u3).trans q2
        have U2 := U1.trans u4
        have I1' := I1.up u4
        have QU := Lib.hid (HQ1.out.trans u4)
        have gx : W1.heap.size ≤ V2.heap.size := Up.size (uX.trans u3)
        have gx2 : W1.heap.size ≤ X2.heap.size := Up.size uX
        have N2 := (wd_nt a2 b2 d2 e2).up q2
        clear a2 b2 d2 e2 u3 q2 uX u4 I1 HL HS2 H2 HL45
        go_wp2_with fail
        go_ret
        exact ⟨rfl, U2⟩
      · have d : decide ((k : Int) > 0) = true := decide_eq_true (by omega)
        go_enter Tryd.func7, Tryd.ntmps7
        go_upto_region 2 with (go_at_call 10; refine CH.out.mono ?_; rintro _ w1 ⟨rfl, u1⟩)
        have cx1 : w1.cell? ad = some (.int .u8 x) := by rw [Below.cell u1 hb]; exact cx
        clear cx
        go_upto_region 5 with fail
        have C1 := Lib.hid (scan_val w1 (Lib.hid (EW.out.up u1)) _ k _ l (HS.out.up u1) (by omega) _ i 2 r1 0 false 0 0 0 false (i : Int) rfl rfl rfl rfl)
        go_upto_region 6 with (first | (go_at_call 11; refine C1.out.mono ?_; rintro _ V1 ⟨A1, n1, c1, xs1, rfl, a1, b1, d1, e1, u2⟩) | (refine store_ob rfl 27 (.tmp 4) (.tmp 29) rfl _ #[.int .i64 0, .bool false, .slice none 0 0, .int .i64 0, .int .i64 0, .bool false] #[.int .i64 0, .bool false, .slice A1 n1 c1, .int .i64 0, .int .i64 0, .bool false] rfl rfl 6 (by kernel_rfl) rfl rfl (by simp [Value.oneCell']) V1 ((Up.refl _).alloc _) (Nat.le_refl _) 27 (Ob.mk_ _ _ _) ?_; intro W1 I1 q1))
        have N1 := wd_nt a1 b1 d1 e1
        have gw : w.heap.size ≤ V1.heap.size := Up.size (u1.trans u2)
        have g1 : V1.heap.size < W1.heap.size := I1.lt
        have U1 : Up w W1 := (u1.trans u2).trans q1
        have hl45 : ([45] ++ l : List UInt8).length = k + 1 := by rw [List.length_append, HN.out]; simp <;> omega
        have HL45 := Lib.hid hl45
        have HL := Lib.hid (show Rb (W1.alloc (.cells #[.int .u8 45] 5)) W1.heap.size (.slice (some ⟨W1.heap.size, 0, none⟩) 1 1) [45] from World.ownsRow_lit W1 #[.int .u8 45] 1 (Nat.le_refl _) (by simp only [maxLen]; omega) rfl)
        have HS2 := Lib.hid (HS.out.up (U1.alloc (.cells #[.int .u8 45] 5)))
        have HQ1 := Lib.hid q1
        clear C1 a1 b1 d1 e1 u2 q1 hl45
        go_upto_region 7 with (first
          | (at_builtin; go_loud (refine wpList_append_sb _ rfl _ _ 22 rfl info_u8 W1.heap.size Tryd.underlying22 _ [45] rfl HL.out _ k _ l rfl HS2.out (by simp <;> omega) (by simp) ?_; intro v2 X2 R2 G2; have uX : Up W1 X2 := Up.grown ((Up.refl W1).alloc _) G2 (fun b hb => (HL.out.lt b hb).1); obtain ⟨B2, m2, k2, rfl, S2, _, _⟩ := R2.sl; have hm2 : m2 ≤ 1000 := (by have := S2.num; have := HL45.out; omega); have H2 := Lib.hid S2; clear R2 G2 S2))
          | (go_at_call 11; go_loud (refine (scan_val X2 (Lib.hid (EW.out.up (U1.trans uX))) B2 m2 k2 ([45] ++ l) H2.out (by omega) _ (i + 1) 2 r2 0 false 0 0 0 false ((i : Int) + 1) rfl rfl rfl (by omega)).mono ?_; rintro _ V2 ⟨A2, n2, c2, xs2, rfl, a2, b2, d2, e2, u3⟩))
          | (refine store_ob rfl 27 (.tmp 7) (.tmp 37) rfl _ #[.int .i64 0, .bool false, .slice none 0 0, .int .i64 0, .int .i64 0, .bool false] #[.int .i64 0, .bool false, .slice A2 n2 c2, .int .i64 0, .int .i64 0, .bool false] rfl rfl 6 (by kernel_rfl) rfl rfl (by simp [Value.oneCell']) V2 ((Up.refl _).alloc _) (Nat.le_refl _) 27 (Ob.mk_ _ _ _) ?_; intro W2 I2 q2))
        have u4 : Up W1 W2 := (uX.trans u3).trans q2
        have U2 := U1.trans u4
        have I1' := I1.up u4
        have QU := Lib.hid (HQ1.out.trans u4)
        have gx : W1.heap.size ≤ V2.heap.size := Up.size (uX.trans u3)
        have gx2 : W1.heap.size ≤ X2.heap.size := Up.size uX
        have N2 := (wd_nt a2 b2 d2 e2).up q2
        clear a2 b2 d2 e2 u3 q2 uX u4 I1 HL HS2 H2 HL45
        go_wp2_with fail
        go_ret
        exact ⟨rfl, U2⟩
    · have r1 := Lib.hid (M.rs_ok hsc)
      have r2 : Hid (M.rs ([45] ++ l) = (⟨(M.itm x).kind, true, (M.itm x).n⟩, 0, 0)) := by
        have e : M.scan (45 :: l) = .ok ⟨x.st, true, x.ds, x.bh, x.dn, x.pw⟩ := by rw [M.scan_sign l hnn.out, hsc]; rfl
        show M.rs (45 :: l) = _
        rw [M.rs_ok e]
        unfold M.itm M.pwr
        split <;> rfl
      obtain ⟨K, hK⟩ : ∃ K : Int, ((M.itm x).kind : Int) = K := ⟨_, rfl⟩
      obtain ⟨ng, hng⟩ : ∃ ng, (M.itm x).neg = ng := ⟨_, rfl⟩
      obtain ⟨d, kk, bg, ct, hnn2⟩ : ∃ d kk bg ct, (M.itm x).n = ⟨d, kk, bg, ct⟩ := ⟨_, _, _, _, rfl⟩
      have HK := Lib.hid hK
      have HNG := Lib.hid hng
      have HNN := Lib.hid hnn2
      have HK2 : Hid (((⟨(M.itm x).kind, true, (M.itm x).n⟩ : M.It).kind : Int) = K ∧ (⟨(M.itm x).kind, true, (M.itm x).n⟩ : M.It).neg = true ∧ (⟨(M.itm x).kind, true, (M.itm x).n⟩ : M.It).n = ⟨d, kk, bg, ct⟩) := ⟨hK, rfl, hnn2⟩
      clear hsc hnn hK hng hnn2
      rcases hg with h0 | ⟨h0, ad, y, rfl, hb, cx, hx⟩
      · subst h0
        go_enter Tryd.func7, Tryd.ntmps7
        go_upto_region 2 with (go_at_call 10; refine CH.out.mono ?_; rintro _ w1 ⟨rfl, u1⟩)
        go_upto_region 5 with fail
        have C1 := Lib.hid (scan_val w1 (Lib.hid (EW.out.up u1)) _ 0 _ l (HS.out.up u1) (by omega) _ 0 0 r1 K ng d kk bg ct 0 HK.out HNG.out HNN.out rfl)
        go_upto_region 6 with (first | (go_at_call 11; refine C1.out.mono ?_; rintro _ V1 ⟨A1, n1, c1, xs1, rfl, a1, b1, d1, e1, u2⟩) | (refine store_ob rfl 27 (.tmp 4) (.tmp 29) rfl _ #[.int .i64 0, .bool false, .slice none 0 0, .int .i64 0, .int .i64 0, .bool false] #[.int .i64 K, .bool ng, .slice A1 n1 c1, .int .i64 kk, .int .i64 bg, .bool ct] rfl rfl 6 (by kernel_rfl) rfl rfl (by simp [Value.oneCell']) V1 ((Up.refl _).alloc _) (Nat.le_refl _) 27 (Ob.mk_ _ _ _) ?_; intro W1 I1 q1))
        have N1 := wd_nt a1 b1 d1 e1
        have gw : w.heap.size ≤ V1.heap.size := Up.size (u1.trans u2)
        have g1 : V1.heap.size < W1.heap.size := I1.lt
        have U1 : Up w W1 := (u1.trans u2).trans q1
        have hl45 : ([45] ++ l : List UInt8).length = 0 + 1 := by rw [List.length_append, HN.out]; simp <;> omega
        have HL45 := Lib.hid hl45
        have HL := Lib.hid (show Rb (W1.alloc (.cells #[.int .u8 45] 5)) W1.heap.size (.slice (some ⟨W1.heap.size, 0, none⟩) 1 1) [45] from World.ownsRow_lit W1 #[.int .u8 45] 1 (Nat.le_refl _) (by simp only [maxLen]; omega) rfl)
        have HS2 := Lib.hid (HS.out.up (U1.alloc (.cells #[.int .u8 45] 5)))
        have HQ1 := Lib.hid q1
        clear C1 a1 b1 d1 e1 u2 q1 hl45
        go_upto_region 7 with (first
          | (at_builtin; go_loud (refine wpList_append_sb _ rfl _ _ 22 rfl info_u8 W1.heap.size Tryd.underlying22 _ [45] rfl HL.out _ 0 _ l rfl HS2.out (by simp <;> omega) (by simp) ?_; intro v2 X2 R2 G2; have uX : Up W1 X2 := Up.grown ((Up.refl W1).alloc _) G2 (fun b hb => (HL.out.lt b hb).1); obtain ⟨B2, m2, k2, rfl, S2, _, _⟩ := R2.sl; have hm2 : m2 ≤ 1000 := (by have := S2.num; have := HL45.out; omega); have H2 := Lib.hid S2; clear R2 G2 S2))
          | (go_at_call 11; go_loud (refine (scan_val X2 (Lib.hid (EW.out.up (U1.trans uX))) B2 m2 k2 ([45] ++ l) H2.out (by omega) _ 0 0 r2 K true d kk bg ct 0 HK2.out.1 rfl HK2.out.2.2 rfl).mono ?_; rintro _ V2 ⟨A2, n2, c2, xs2, rfl, a2, b2, d2, e2, u3⟩))
          | (refine store_ob rfl 27 (.tmp 7) (.tmp 37) rfl _ #[.int .i64 0, .bool false, .slice none 0 0, .int .i64 0, .int .i64 0, .bool false] #[.int .i64 K, .bool true, .slice A2 n2 c2, .int .i64 kk, .int .i64 bg, .bool ct] rfl rfl 6 (by kernel_rfl) rfl rfl (by simp [Value.oneCell']) V2 ((Up.refl _).alloc _) (Nat.le_refl _) 27 (Ob.mk_ _ _ _) ?_; intro W2 I2 q2))
        have u4 : Up W1 W2 := (uX.trans u3).trans q2
        have U2 := U1.trans u4
        have I1' := I1.up u4
        have QU := Lib.hid (HQ1.out.trans u4)
        have gx : W1.heap.size ≤ V2.heap.size := Up.size (uX.trans u3)
        have gx2 : W1.heap.size ≤ X2.heap.size := Up.size uX
        have N2 := (wd_nt a2 b2 d2 e2).up q2
        clear a2 b2 d2 e2 u3 q2 uX u4 I1 HL HS2 H2 HL45
        obtain ⟨i0, i1, i2, i3, i4, i5⟩ := I1'.six
        obtain ⟨f0, f1, f2, f3, f4, f5⟩ := I1'.fsix
        go_upto_region 10 with fail
        obtain ⟨W3, hW3⟩ : ∃ W3, W2.setCell ⟨V1.heap.size, 1, none⟩ (.bool true) = W3 := ⟨_, rfl⟩
        have o3 : ∀ b', b' ≠ V1.heap.size → W3.heap[b']? = W2.heap[b']? := by rw [← hW3]; exact fun b' hne => Below.heap_setCell _ _ _ b' hne
        have U3 : Up w W3 := by rw [← hW3]; exact U2.setCell (p := ⟨V1.heap.size, 1, none⟩) gw _
        have J1 : Ob W3 V1.heap.size 27 #[.int .i64 K, .bool true, .slice A1 n1 c1, .int .i64 kk, .int .i64 bg, .bool ct] := by rw [← hW3]; exact I1'.put 1 (.bool true)
        have J2 := I2.oth o3 (by omega)
        have M2 := N2.other o3 (by omega)
        have M1 := (N1.up (by rw [← hW3]; exact QU.out.setCell (p := ⟨V1.heap.size, 1, none⟩) (Nat.le_refl _) _ : Up V1 W3)).nw
        rw [hW3]
        clear hW3 o3 i0 i1 i2 i3 i4 i5 f0 f1 f2 f3 f4 f5 I1' I2 N1 N2 QU
        obtain ⟨i0, i1, i2, i3, i4, i5⟩ := J1.six
        obtain ⟨j0, j1, j2, j3, j4, j5⟩ := J2.six
        have CS := Lib.hid (same_true W3 K true (.slice A1 n1 c1) (.slice A2 n2 c2) kk bg ct _ _ _ _ d M1 M2.nw)
        clear J1 J2 M1 M2
        go_wp2_with (go_at_call 14; refine CS.out.mono ?_; rintro _ W4 ⟨rfl, u5⟩)
        go_ret
        exact ⟨rfl, U3.trans u5⟩
      · have d0 : decide ((k : Int) > 0) = true := decide_eq_true (by omega)
        go_enter Tryd.func7, Tryd.ntmps7
        go_upto_region 2 with (go_at_call 10; refine CH.out.mono ?_; rintro _ w1 ⟨rfl, u1⟩)
        have cx1 : w1.cell? ad = some (.int .u8 y) := by rw [Below.cell u1 hb]; exact cx
        clear cx
        go_upto_region 5 with fail
        have C1 := Lib.hid (scan_val w1 (Lib.hid (EW.out.up u1)) _ k _ l (HS.out.up u1) (by omega) _ 0 0 r1 K ng d kk bg ct 0 HK.out HNG.out HNN.out rfl)
        go_upto_region 6 with (first | (go_at_call 11; refine C1.out.mono ?_; rintro _ V1 ⟨A1, n1, c1, xs1, rfl, a1, b1, d1, e1, u2⟩) | (refine store_ob rfl 27 (.tmp 4) (.tmp 29) rfl _ #[.int .i64 0, .bool false, .slice none 0 0, .int .i64 0, .int .i64 0, .bool false] #[.int .i64 K, .bool ng, .slice A1 n1 c1, .int .i64 kk, .int .i64 bg, .bool ct] rfl rfl 6 (by kernel_rfl) rfl rfl (by simp [Value.oneCell']) V1 ((Up.refl _).alloc _) (Nat.le_refl _) 27 (Ob.mk_ _ _ _) ?_; intro W1 I1 q1))
        have N1 := wd_nt a1 b1 d1 e1
        have gw : w.heap.size ≤ V1.heap.size := Up.size (u1.trans u2)
        have g1 : V1.heap.size < W1.heap.size := I1.lt
        have U1 : Up w W1 := (u1.trans u2).trans q1
        have hl45 : ([45] ++ l : List UInt8).length = k + 1 := by rw [List.length_append, HN.out]; simp <;> omega
        have HL45 := Lib.hid hl45
        have HL := Lib.hid (show Rb (W1.alloc (.cells #[.int .u8 45] 5)) W1.heap.size (.slice (some ⟨W1.heap.size, 0, none⟩) 1 1) [45] from World.ownsRow_lit W1 #[.int .u8 45] 1 (Nat.le_refl _) (by simp only [maxLen]; omega) rfl)
        have HS2 := Lib.hid (HS.out.up (U1.alloc (.cells #[.int .u8 45] 5)))
        have HQ1 := Lib.hid q1
        clear C1 a1 b1 d1 e1 u2 q1 hl45
        go_upto_region 7 with (first
          | (at_builtin; go_loud (refine wpList_append_sb _ rfl _ _ 22 rfl info_u8 W1.heap.size Tryd.underlying22 _ [45] rfl HL.out _ k _ l rfl HS2.out (by simp <;> omega) (by simp) ?_; intro v2 X2 R2 G2; have uX : Up W1 X2 := Up.grown ((Up.refl W1).alloc _) G2 (fun b hb => (HL.out.lt b hb).1); obtain ⟨B2, m2, k2, rfl, S2, _, _⟩ := R2.sl; have hm2 : m2 ≤ 1000 := (by have := S2.num; have := HL45.out; omega); have H2 := Lib.hid S2; clear R2 G2 S2))
          | (go_at_call 11; go_loud (refine (scan_val X2 (Lib.hid (EW.out.up (U1.trans uX))) B2 m2 k2 ([45] ++ l) H2.out (by omega) _ 0 0 r2 K true d kk bg ct 0 HK2.out.1 rfl HK2.out.2.2 rfl).mono ?_; rintro _ V2 ⟨A2, n2, c2, xs2, rfl, a2, b2, d2, e2, u3⟩))
          | (refine store_ob rfl 27 (.tmp 7) (.tmp 37) rfl _ #[.int .i64 0, .bool false, .slice none 0 0, .int .i64 0, .int .i64 0, .bool false] #[.int .i64 K, .bool true, .slice A2 n2 c2, .int .i64 kk, .int .i64 bg, .bool ct] rfl rfl 6 (by kernel_rfl) rfl rfl (by simp [Value.oneCell']) V2 ((Up.refl _).alloc _) (Nat.le_refl _) 27 (Ob.mk_ _ _ _) ?_; intro W2 I2 q2))
        have u4 : Up W1 W2 := (uX.trans u3).trans q2
        have U2 := U1.trans u4
        have I1' := I1.up u4
        have QU := Lib.hid (HQ1.out.trans u4)
        have gx : W1.heap.size ≤ V2.heap.size := Up.size (uX.trans u3)
        have gx2 : W1.heap.size ≤ X2.heap.size := Up.size uX
        have N2 := (wd_nt a2 b2 d2 e2).up q2
        clear a2 b2 d2 e2 u3 q2 uX u4 I1 HL HS2 H2 HL45
        obtain ⟨i0, i1, i2, i3, i4, i5⟩ := I1'.six
        obtain ⟨f0, f1, f2, f3, f4, f5⟩ := I1'.fsix
        go_upto_region 10 with fail
        obtain ⟨W3, hW3⟩ : ∃ W3, W2.setCell ⟨V1.heap.size, 1, none⟩ (.bool true) = W3 := ⟨_, rfl⟩
        have o3 : ∀ b', b' ≠ V1.heap.size → W3.heap[b']? = W2.heap[b']? := by rw [← hW3]; exact fun b' hne => Below.heap_setCell _ _ _ b' hne
        have U3 : Up w W3 := by rw [← hW3]; exact U2.setCell (p := ⟨V1.heap.size, 1, none⟩) gw _
        have J1 : Ob W3 V1.heap.size 27 #[.int .i64 K, .bool true, .slice A1 n1 c1, .int .i64 kk, .int .i64 bg, .bool ct] := by rw [← hW3]; exact I1'.put 1 (.bool true)
        have J2 := I2.oth o3 (by omega)
        have M2 := N2.other o3 (by omega)
        have M1 := (N1.up (by rw [← hW3]; exact QU.out.setCell (p := ⟨V1.heap.size, 1, none⟩) (Nat.le_refl _) _ : Up V1 W3)).nw
        rw [hW3]
        clear hW3 o3 i0 i1 i2 i3 i4 i5 f0 f1 f2 f3 f4 f5 I1' I2 N1 N2 QU
        obtain ⟨i0, i1, i2, i3, i4, i5⟩ := J1.six
        obtain ⟨j0, j1, j2, j3, j4, j5⟩ := J2.six
        have CS := Lib.hid (same_true W3 K true (.slice A1 n1 c1) (.slice A2 n2 c2) kk bg ct _ _ _ _ d M1 M2.nw)
        clear J1 J2 M1 M2
        go_wp2_with (go_at_call 14; refine CS.out.mono ?_; rintro _ W4 ⟨rfl, u5⟩)
        go_ret
        exact ⟨rfl, U3.trans u5⟩
end Go.Proofs.YtpmpdecaadfnmaaDoor
