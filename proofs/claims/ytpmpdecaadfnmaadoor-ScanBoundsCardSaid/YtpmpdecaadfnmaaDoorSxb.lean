/-
  The walk of ScanBounds: true, and nothing that was there has turned.
-/
import Derived.Test.YtpmpdecaadfnmaaDoorSx5
import Derived.BigQuiet
namespace Go.Proofs.YtpmpdecaadfnmaaDoor
open Go.RowKit Go.Shelf
set_option linter.unusedVariables false

/-- The last byte of a text. -/
theorem last_ix (S : ByteArray) (s : List UInt8) (hs : S.data.toList = s) (h0 : s ≠ []) (hl : s.getLast? ≠ some 48) (hb : s.length ≤ 1991) :
    ∃ x : Int, ((x == 48) = false) ∧ ∀ W, (Instr.index 9 (.string S) (.int .i64 ((S.size : Int) - 1))).run Tryd.prog W = .ok (.int .u8 x) W := by
  have hz : S.size = s.length := by rw [← hs]; exact (Array.length_toList).symm
  have hp : 0 < s.length := List.length_pos_iff.2 h0
  have hb : 0 ≤ (S.size : Int) - 1 ∧ (S.size : Int) - 1 < S.size := by omega
  refine ⟨((S[((S.size : Int) - 1).toNat]'(by omega)).toNat : Int), ?_, fun W => ?_⟩
  · rw [beq_eq_false_iff_ne]
    intro e
    apply hl
    have e1 : s.getLast? = s[s.length - 1]? := List.getLast?_eq_getElem?
    have e2 : ((S.size : Int) - 1).toNat = s.length - 1 := by omega
    have e3 : (S[((S.size : Int) - 1).toNat]'(by omega)) = s[s.length - 1]'(by omega) := by
      have h1 : ∀ (k : Nat) (hk : k < S.size), S[k] = S.data.toList[k]'(show k < S.data.toList.length by rw [Array.length_toList]; exact hk) := fun _ _ => rfl
      rw [h1]
      simp only [hs, e2]
    rw [e3] at e
    rw [e1, List.getElem?_eq_getElem (by omega)]
    congr 1
    apply UInt8.toNat_inj.1
    show _ = 48
    omega
  · rw [run_index_string W 9 S .i64 _ Tryd.underlying9, dif_pos hb]

set_option maxHeartbeats 16000000 in
set_option maxRecDepth 100000 in
theorem sbounds_walk (w : World) (hTW : TabW w) (hEW : ErrW w) (A0 : Option Addr) (n0 c0 : Nat) (l0 : List UInt8) (e0 : Sb w A0 n0 c0 l0) :
    Calls Tryd.prog 6 #[.slice A0 n0 c0] w (True9 w) := by
  obtain ⟨k, hk, hk1, hk2⟩ : ∃ k : Nat, min (n0 : Int) 3000 = (k : Int) ∧ k ≤ n0 ∧ k ≤ 3000 := ⟨min n0 3000, by omega, by omega, by omega⟩
  have hc0 := e0.len
  have hsl := slice_j A0 n0 c0 k (by omega) e0.none_
  obtain ⟨l, hl⟩ : ∃ l, l0.take k = l := ⟨_, rfl⟩
  have HS := Lib.hid (show Sb w A0 k c0 l by rw [← hl]; exact e0.take hk1)
  have TW := Lib.hid hTW
  have EW := Lib.hid hEW
  have CH := Lib.hid (shown9_any w TW EW)
  have U := Up.refl w
  have FB : (¬ 0 < n0 ∧ decide (l ≠ [] ∧ l.headD 0 = 45) = false) ∨ (∃ ad, A0 = some ad ∧ 0 < n0 ∧ ad.block < w.heap.size ∧ w.cell? ad = some (.int .u8 45) ∧ decide (l ≠ [] ∧ l.headD 0 = 45) = true) ∨
      (∃ ad x, A0 = some ad ∧ 0 < n0 ∧ ad.block < w.heap.size ∧ w.cell? ad = some (.int .u8 x) ∧ (x == 45) = false ∧ decide (l ≠ [] ∧ l.headD 0 = 45) = false) := by
    rcases Nat.eq_zero_or_pos n0 with h | h
    · left
      have : l = [] := List.eq_nil_of_length_eq_zero (by rw [HS.out.num]; omega)
      exact ⟨by omega, by rw [this]; rfl⟩
    · right
      obtain ⟨ad, rfl⟩ := e0.ad h
      have cx := e0.at_ ad rfl 0 h
      rw [show ad.add 0 = ad from by simp [Addr.add]] at cx
      have hb := World.block_lt_of_cell? w _ cx
      have d : decide ((n0 : Int) > 0) = true := decide_eq_true (by omega)
      have hl2 : l ≠ [] ∧ l.headD 0 = l0.getD 0 0 := by
        have hn := e0.num
        cases l0 with
        | nil => simp at hn; omega
        | cons a b =>
          rw [← hl]
          obtain ⟨k', rfl⟩ : ∃ k', k = k' + 1 := ⟨k - 1, by omega⟩
          simp
      by_cases hx : l0.getD 0 0 = 45
      · rw [hx] at cx
        exact .inl ⟨ad, rfl, h, hb, cx, decide_eq_true ⟨hl2.1, hl2.2.trans hx⟩⟩
      · refine .inr ⟨ad, _, rfl, h, hb, cx, ?_, decide_eq_false (fun e => hx (hl2.2.symm.trans e.2))⟩
        rw [beq_eq_false_iff_ne]
        intro e
        apply hx
        apply UInt8.toNat_inj.1
        show (l0.getD 0 0).toNat = 45
        have e2 : (((l0.getD 0 0).toNat : Nat) : Int) = 45 := e
        omega
  clear hl hTW hEW
  have R12 : (∃ i, M.scan l = .error i) ∨ ∃ x, M.scan l = .ok x := by
    cases M.scan l with
    | error i => exact .inl ⟨i, rfl⟩
    | ok x => exact .inr ⟨x, rfl⟩
  rcases R12 with ⟨i, hsc⟩ | ⟨y, hsc⟩
  · have r1 := Lib.hid (M.rs_error hsc)
    clear hsc FB e0
    go_enter Tryd.func6, Tryd.ntmps6
    go_upto_region 2 with (go_at_call 10; refine CH.out.mono ?_; rintro _ w1 ⟨rfl, u1⟩)
    have C1 := Lib.hid (scan_val w1 (Lib.hid (EW.out.up u1)) _ k _ l (HS.out.up u1) (by omega) _ i 2 r1 0 false 0 0 0 false (i : Int) rfl rfl rfl rfl)
    go_upto_region 3 with (first | (go_at_call 11; refine C1.out.mono ?_; rintro _ V1 ⟨A1, n1, c1, xs1, rfl, a1, b1, d1, e1, u2⟩) | (refine store_ob rfl 27 (.tmp 4) (.tmp 17) rfl _ #[.int .i64 0, .bool false, .slice none 0 0, .int .i64 0, .int .i64 0, .bool false] #[.int .i64 0, .bool false, .slice A1 n1 c1, .int .i64 0, .int .i64 0, .bool false] rfl rfl 6 (by kernel_rfl) rfl rfl (by simp [Value.oneCell']) V1 ((Up.refl _).alloc _) (Nat.le_refl _) 27 (Ob.mk_ _ _ _) ?_; intro W1 I1 q1))
    have gw : w.heap.size ≤ V1.heap.size := Up.size (u1.trans u2)
    have g1 : V1.heap.size < W1.heap.size := I1.lt
    have U1 : Up w W1 := (u1.trans u2).trans q1
    have N1 := (wd_nt a1 b1 d1 e1).up q1
    obtain ⟨i0, i1, i2, i3, i4, i5⟩ := I1.six
    have CS := Lib.hid (same_true W1 0 false (.slice A1 n1 c1) (.slice none 0 0) 0 0 false _ _ _ _ 0 N1.nw (Nt.nil W1 0 0).nw)
    clear C1 a1 b1 d1 e1 u2 q1 I1 N1
    go_wp2_with (go_at_call 14; refine CS.out.mono ?_; rintro _ W4 ⟨rfl, u5⟩)
    go_ret
    exact ⟨rfl, U1.trans u5⟩
  · have r1 := Lib.hid (M.rs_ok hsc)
    obtain ⟨hng, hbd⟩ := M.itm_bounds l y hsc
    obtain ⟨d, kk, bg, ct, hnn⟩ : ∃ d kk bg ct, (M.itm y).n = ⟨d, kk, bg, ct⟩ := ⟨_, _, _, _, rfl⟩
    rw [hnn] at hbd
    have HNN := Lib.hid hnn
    clear hsc hnn e0
    rcases hbd with ⟨b1, b2, b3, b4, b5, b6⟩ | ⟨b1, b2, b3, s, b4, b5, b6, b7, b8, b9, b10⟩
    · obtain ⟨K, hK⟩ : ∃ K : Int, ((M.itm y).kind : Int) = K := ⟨_, rfl⟩
      have HK := Lib.hid hK
      have dk1 : decide (K < 1) = false := decide_eq_false (by omega)
      have dk2 : decide (K > 4) = false := decide_eq_false (by omega)
      have hkb : K = 1 ∨ ((K == 1) = false ∧ bg = 0) := by
        by_cases h : K = 1
        · exact .inl h
        · right
          refine ⟨by rw [beq_eq_false_iff_ne]; exact h, ?_⟩
          rcases b6 with h6 | h6
          · exact absurd (show K = 1 by rw [← hK, h6]; rfl) h
          · exact h6
      obtain rfl : d = 0 := b3
      obtain rfl : kk = 0 := b4
      obtain rfl : ct = false := b5
      clear b1 b2 b6 hK
      try clear b3 b4 b5
      rcases FB with ⟨dn, hq⟩ | ⟨ad, rfl, dn, hb, cx, hq⟩ | ⟨ad, x, rfl, dn, hb, cx, hx, hq⟩
      · have dn1 : decide ((n0 : Int) > 0) = false := decide_eq_false (by omega)
        have dn2 : decide (0 < n0) = false := decide_eq_false dn
        rw [hq] at hng
        have HNG := Lib.hid hng
        clear hng hq
        go_enter Tryd.func6, Tryd.ntmps6
        go_upto_region 2 with (go_at_call 10; refine CH.out.mono ?_; rintro _ w1 ⟨rfl, u1⟩)
        have C1 := Lib.hid (scan_val w1 (Lib.hid (EW.out.up u1)) _ k _ l (HS.out.up u1) (by omega) _ 0 0 r1 K false 0 0 bg false 0 HK.out HNG.out HNN.out rfl)
        go_upto_region 3 with (first | (go_at_call 11; refine C1.out.mono ?_; rintro _ V1 ⟨A1, n1, c1, xs1, rfl, a1, b1, d1, e1, u2⟩) | (refine store_ob rfl 27 (.tmp 4) (.tmp 17) rfl _ #[.int .i64 0, .bool false, .slice none 0 0, .int .i64 0, .int .i64 0, .bool false] #[.int .i64 K, .bool false, .slice A1 n1 c1, .int .i64 0, .int .i64 bg, .bool false] rfl rfl 6 (by kernel_rfl) rfl rfl (by simp [Value.oneCell']) V1 ((Up.refl _).alloc _) (Nat.le_refl _) 27 (Ob.mk_ _ _ _) ?_; intro W1 I1 q1))
        have gw : w.heap.size ≤ V1.heap.size := Up.size (u1.trans u2)
        have g1 : V1.heap.size < W1.heap.size := I1.lt
        have U1 : Up w W1 := (u1.trans u2).trans q1
        have N1 := (wd_nt a1 b1 d1 e1).up q1
        obtain ⟨i0, i1, i2, i3, i4, i5⟩ := I1.six
        have o1 := nrm_none a1.num e1 b1
        subst o1
        clear C1 a1 b1 d1 e1 u2 q1 I1 N1
        go_upto_region 5 with fail
        go_quiet (fail)
        rcases hkb with rfl | ⟨hK1, rfl⟩
        · go_wp2_with fail
          go_ret
          first | exact ⟨rfl, U1.drewN _⟩ | exact ⟨rfl, U1⟩
        · go_wp2_with fail
          go_ret
          first | exact ⟨rfl, U1.drewN _⟩ | exact ⟨rfl, U1⟩
      · have dn1 : decide ((n0 : Int) > 0) = true := decide_eq_true (by omega)
        have dn2 : decide (0 < n0) = true := decide_eq_true dn
        rw [hq] at hng
        have HNG := Lib.hid hng
        clear hng hq
        go_enter Tryd.func6, Tryd.ntmps6
        go_upto_region 2 with (go_at_call 10; refine CH.out.mono ?_; rintro _ w1 ⟨rfl, u1⟩)
        have C1 := Lib.hid (scan_val w1 (Lib.hid (EW.out.up u1)) _ k _ l (HS.out.up u1) (by omega) _ 0 0 r1 K true 0 0 bg false 0 HK.out HNG.out HNN.out rfl)
        go_upto_region 3 with (first | (go_at_call 11; refine C1.out.mono ?_; rintro _ V1 ⟨A1, n1, c1, xs1, rfl, a1, b1, d1, e1, u2⟩) | (refine store_ob rfl 27 (.tmp 4) (.tmp 17) rfl _ #[.int .i64 0, .bool false, .slice none 0 0, .int .i64 0, .int .i64 0, .bool false] #[.int .i64 K, .bool true, .slice A1 n1 c1, .int .i64 0, .int .i64 bg, .bool false] rfl rfl 6 (by kernel_rfl) rfl rfl (by simp [Value.oneCell']) V1 ((Up.refl _).alloc _) (Nat.le_refl _) 27 (Ob.mk_ _ _ _) ?_; intro W1 I1 q1))
        have gw : w.heap.size ≤ V1.heap.size := Up.size (u1.trans u2)
        have g1 : V1.heap.size < W1.heap.size := I1.lt
        have U1 : Up w W1 := (u1.trans u2).trans q1
        have N1 := (wd_nt a1 b1 d1 e1).up q1
        have cx1 : W1.cell? ad = some (.int .u8 45) := by rw [Below.cell U1 hb]; exact cx
        clear cx
        obtain ⟨i0, i1, i2, i3, i4, i5⟩ := I1.six
        have o1 := nrm_none a1.num e1 b1
        subst o1
        clear C1 a1 b1 d1 e1 u2 q1 I1 N1
        go_upto_region 5 with fail
        go_quiet (fail)
        rcases hkb with rfl | ⟨hK1, rfl⟩
        · go_wp2_with fail
          go_ret
          first | exact ⟨rfl, U1.drewN _⟩ | exact ⟨rfl, U1⟩
        · go_wp2_with fail
          go_ret
          first | exact ⟨rfl, U1.drewN _⟩ | exact ⟨rfl, U1⟩
      · have dn1 : decide ((n0 : Int) > 0) = true := decide_eq_true (by omega)
        have dn2 : decide (0 < n0) = true := decide_eq_true dn
        rw [hq] at hng
        have HNG := Lib.hid hng
        clear hng hq
        go_enter Tryd.func6, Tryd.ntmps6
        go_upto_region 2 with (go_at_call 10; refine CH.out.mono ?_; rintro _ w1 ⟨rfl, u1⟩)
        have C1 := Lib.hid (scan_val w1 (Lib.hid (EW.out.up u1)) _ k _ l (HS.out.up u1) (by omega) _ 0 0 r1 K false 0 0 bg false 0 HK.out HNG.out HNN.out rfl)
        go_upto_region 3 with (first | (go_at_call 11; refine C1.out.mono ?_; rintro _ V1 ⟨A1, n1, c1, xs1, rfl, a1, b1, d1, e1, u2⟩) | (refine store_ob rfl 27 (.tmp 4) (.tmp 17) rfl _ #[.int .i64 0, .bool false, .slice none 0 0, .int .i64 0, .int .i64 0, .bool false] #[.int .i64 K, .bool false, .slice A1 n1 c1, .int .i64 0, .int .i64 bg, .bool false] rfl rfl 6 (by kernel_rfl) rfl rfl (by simp [Value.oneCell']) V1 ((Up.refl _).alloc _) (Nat.le_refl _) 27 (Ob.mk_ _ _ _) ?_; intro W1 I1 q1))
        have gw : w.heap.size ≤ V1.heap.size := Up.size (u1.trans u2)
        have g1 : V1.heap.size < W1.heap.size := I1.lt
        have U1 : Up w W1 := (u1.trans u2).trans q1
        have N1 := (wd_nt a1 b1 d1 e1).up q1
        have cx1 : W1.cell? ad = some (.int .u8 x) := by rw [Below.cell U1 hb]; exact cx
        clear cx
        obtain ⟨i0, i1, i2, i3, i4, i5⟩ := I1.six
        have o1 := nrm_none a1.num e1 b1
        subst o1
        clear C1 a1 b1 d1 e1 u2 q1 I1 N1
        go_upto_region 5 with fail
        go_quiet (fail)
        rcases hkb with rfl | ⟨hK1, rfl⟩
        · go_wp2_with fail
          go_ret
          first | exact ⟨rfl, U1.drewN _⟩ | exact ⟨rfl, U1⟩
        · go_wp2_with fail
          go_ret
          first | exact ⟨rfl, U1.drewN _⟩ | exact ⟨rfl, U1⟩
    · have HK : Hid (((M.itm y).kind : Int) = 1) := by show _ = _; rw [b1]; rfl
      obtain ⟨S, hS⟩ : ∃ S : ByteArray, (⟨(Lib.decDigits d).toArray⟩ : ByteArray) = S := ⟨_, rfl⟩
      have hSl : S.data.toList = s := by rw [← hS]; exact b5
      have hSz : S.size = s.length := by rw [← hSl]; exact (Array.length_toList).symm
      obtain ⟨x9, hx9, hix⟩ := last_ix S s hSl b4 b8 b6
      have hx9' : (x9 != 48) = true := by simp [bne, hx9]
      have hp : 0 < s.length := List.length_pos_iff.2 b4
      have g0 : ((S.size : Int) == 0) = false := by rw [beq_eq_false_iff_ne]; omega
      have g1' : decide ((S.size : Int) ≤ 1991) = true := decide_eq_true (by omega)
      have g2 : ((S.size : Int) == 1991) = ct := by
        rw [Bool.eq_iff_iff, beq_iff_eq]
        constructor
        · intro h; exact b7.1 (by omega)
        · intro h; have := b7.2 h; omega
      have g3 : (ct == ct) = true := by simp
      have g4 : decide ((S.size : Int) + kk ≤ 1000) = true := decide_eq_true (by rw [hSz]; exact b9)
      have g5 : decide ((S.size : Int) + kk > -1000) = true := decide_eq_true (by rw [hSz]; exact b10)
      have g5' : decide (-1000 < (S.size : Int) + kk) = true := decide_eq_true (by rw [hSz]; exact b10)
      have z1 : S.size ≤ 1991 := by omega
      have z2 : -3000 ≤ kk ∧ kk ≤ 1000 := by
        rw [← hSz] at b9 b10
        have h9 : (S.size : Int) + kk ≤ 1000 := b9
        have h10 : -1000 < (S.size : Int) + kk := b10
        omega
      have z3 : 0 < S.size := by omega
      have e1 : IntKind.i64.wrap ((S.size : Int) + kk) = (S.size : Int) + kk := IntWalk.i64_in _ (by omega)
      have HSS := Lib.hid hS
      obtain rfl : bg = 0 := b2
      clear b1 b4 b5 b6 b7 b8 b9 b10 hS hSl hSz hp
      try clear b2
      rcases FB with ⟨dn, hq⟩ | ⟨ad, rfl, dn, hb, cx, hq⟩ | ⟨ad, x, rfl, dn, hb, cx, hx, hq⟩
      · have dn1 : decide ((n0 : Int) > 0) = false := decide_eq_false (by omega)
        have dn2 : decide (0 < n0) = false := decide_eq_false dn
        rw [hq] at hng
        have HNG := Lib.hid hng
        clear hng hq
        go_enter Tryd.func6, Tryd.ntmps6
        go_upto_region 2 with (go_at_call 10; refine CH.out.mono ?_; rintro _ w1 ⟨rfl, u1⟩)
        have C1 := Lib.hid (scan_val w1 (Lib.hid (EW.out.up u1)) _ k _ l (HS.out.up u1) (by omega) _ 0 0 r1 1 false d kk 0 ct 0 HK.out HNG.out HNN.out rfl)
        go_upto_region 3 with (first | (go_at_call 11; refine C1.out.mono ?_; rintro _ V1 ⟨A1, n1, c1, xs1, rfl, a1, b1, d1, e1, u2⟩) | (refine store_ob rfl 27 (.tmp 4) (.tmp 17) rfl _ #[.int .i64 0, .bool false, .slice none 0 0, .int .i64 0, .int .i64 0, .bool false] #[.int .i64 1, .bool false, .slice A1 n1 c1, .int .i64 kk, .int .i64 0, .bool ct] rfl rfl 6 (by kernel_rfl) rfl rfl (by simp [Value.oneCell']) V1 ((Up.refl _).alloc _) (Nat.le_refl _) 27 (Ob.mk_ _ _ _) ?_; intro W1 I1 q1))
        have gw : w.heap.size ≤ V1.heap.size := Up.size (u1.trans u2)
        have g1 : V1.heap.size < W1.heap.size := I1.lt
        have U1 : Up w W1 := (u1.trans u2).trans q1
        have N1 := (wd_nt a1 b1 d1 e1).up q1
        obtain ⟨i0, i1, i2, i3, i4, i5⟩ := I1.six
        have o1 : ((n1 : Int) == 0) = false := by
          rw [beq_eq_false_iff_ne]
          intro e
          have h0 := a1.num
          have : xs1 = [] := List.eq_nil_of_length_eq_zero (by omega)
          rw [this] at b1
          have : d = 0 := b1.symm
          omega
        clear C1 a1 b1 d1 e1 u2 q1
        go_upto_region 5 with fail
        go_quiet (fail)
        have CT := Lib.hid (fun V (u : Up W1 V) => text_of V _ _ _ _ (N1.nw.up u) (by omega) (TW.out.up (U1.trans u)) S HSS.out)
        have HI1 := Lib.hid I1
        clear N1 I1
        go_upto_region 10 with (go_at_call 15; refine (CT.out _ (by first | exact (Up.refl _).drewN _ | exact Up.refl _)).mono ?_; rintro _ w5 ⟨rfl, u5⟩; have v5 : Up W1 w5 := Up.trans (by first | exact (Up.refl _).drewN _ | exact Up.refl _) u5)
        have I1 := HI1.out.up v5
        clear i0 i1 i2 i3 i4 i5 CT HI1
        obtain ⟨i0, i1, i2, i3, i4, i5⟩ := I1.six
        go_wp2_with fail
        go_ret
        exact ⟨rfl, U1.trans v5⟩
      · have dn1 : decide ((n0 : Int) > 0) = true := decide_eq_true (by omega)
        have dn2 : decide (0 < n0) = true := decide_eq_true dn
        rw [hq] at hng
        have HNG := Lib.hid hng
        clear hng hq
        go_enter Tryd.func6, Tryd.ntmps6
        go_upto_region 2 with (go_at_call 10; refine CH.out.mono ?_; rintro _ w1 ⟨rfl, u1⟩)
        have C1 := Lib.hid (scan_val w1 (Lib.hid (EW.out.up u1)) _ k _ l (HS.out.up u1) (by omega) _ 0 0 r1 1 true d kk 0 ct 0 HK.out HNG.out HNN.out rfl)
        go_upto_region 3 with (first | (go_at_call 11; refine C1.out.mono ?_; rintro _ V1 ⟨A1, n1, c1, xs1, rfl, a1, b1, d1, e1, u2⟩) | (refine store_ob rfl 27 (.tmp 4) (.tmp 17) rfl _ #[.int .i64 0, .bool false, .slice none 0 0, .int .i64 0, .int .i64 0, .bool false] #[.int .i64 1, .bool true, .slice A1 n1 c1, .int .i64 kk, .int .i64 0, .bool ct] rfl rfl 6 (by kernel_rfl) rfl rfl (by simp [Value.oneCell']) V1 ((Up.refl _).alloc _) (Nat.le_refl _) 27 (Ob.mk_ _ _ _) ?_; intro W1 I1 q1))
        have gw : w.heap.size ≤ V1.heap.size := Up.size (u1.trans u2)
        have g1 : V1.heap.size < W1.heap.size := I1.lt
        have U1 : Up w W1 := (u1.trans u2).trans q1
        have N1 := (wd_nt a1 b1 d1 e1).up q1
        have cx1 : W1.cell? ad = some (.int .u8 45) := by rw [Below.cell U1 hb]; exact cx
        clear cx
        obtain ⟨i0, i1, i2, i3, i4, i5⟩ := I1.six
        have o1 : ((n1 : Int) == 0) = false := by
          rw [beq_eq_false_iff_ne]
          intro e
          have h0 := a1.num
          have : xs1 = [] := List.eq_nil_of_length_eq_zero (by omega)
          rw [this] at b1
          have : d = 0 := b1.symm
          omega
        clear C1 a1 b1 d1 e1 u2 q1
        go_upto_region 5 with fail
        go_quiet (fail)
        have CT := Lib.hid (fun V (u : Up W1 V) => text_of V _ _ _ _ (N1.nw.up u) (by omega) (TW.out.up (U1.trans u)) S HSS.out)
        have HI1 := Lib.hid I1
        clear N1 I1
        go_upto_region 10 with (go_at_call 15; refine (CT.out _ (by first | exact (Up.refl _).drewN _ | exact Up.refl _)).mono ?_; rintro _ w5 ⟨rfl, u5⟩; have v5 : Up W1 w5 := Up.trans (by first | exact (Up.refl _).drewN _ | exact Up.refl _) u5)
        have I1 := HI1.out.up v5
        clear i0 i1 i2 i3 i4 i5 CT HI1
        obtain ⟨i0, i1, i2, i3, i4, i5⟩ := I1.six
        go_wp2_with fail
        go_ret
        exact ⟨rfl, U1.trans v5⟩
      · have dn1 : decide ((n0 : Int) > 0) = true := decide_eq_true (by omega)
        have dn2 : decide (0 < n0) = true := decide_eq_true dn
        rw [hq] at hng
        have HNG := Lib.hid hng
        clear hng hq
        go_enter Tryd.func6, Tryd.ntmps6
        go_upto_region 2 with (go_at_call 10; refine CH.out.mono ?_; rintro _ w1 ⟨rfl, u1⟩)
        have C1 := Lib.hid (scan_val w1 (Lib.hid (EW.out.up u1)) _ k _ l (HS.out.up u1) (by omega) _ 0 0 r1 1 false d kk 0 ct 0 HK.out HNG.out HNN.out rfl)
        go_upto_region 3 with (first | (go_at_call 11; refine C1.out.mono ?_; rintro _ V1 ⟨A1, n1, c1, xs1, rfl, a1, b1, d1, e1, u2⟩) | (refine store_ob rfl 27 (.tmp 4) (.tmp 17) rfl _ #[.int .i64 0, .bool false, .slice none 0 0, .int .i64 0, .int .i64 0, .bool false] #[.int .i64 1, .bool false, .slice A1 n1 c1, .int .i64 kk, .int .i64 0, .bool ct] rfl rfl 6 (by kernel_rfl) rfl rfl (by simp [Value.oneCell']) V1 ((Up.refl _).alloc _) (Nat.le_refl _) 27 (Ob.mk_ _ _ _) ?_; intro W1 I1 q1))
        have gw : w.heap.size ≤ V1.heap.size := Up.size (u1.trans u2)
        have g1 : V1.heap.size < W1.heap.size := I1.lt
        have U1 : Up w W1 := (u1.trans u2).trans q1
        have N1 := (wd_nt a1 b1 d1 e1).up q1
        have cx1 : W1.cell? ad = some (.int .u8 x) := by rw [Below.cell U1 hb]; exact cx
        clear cx
        obtain ⟨i0, i1, i2, i3, i4, i5⟩ := I1.six
        have o1 : ((n1 : Int) == 0) = false := by
          rw [beq_eq_false_iff_ne]
          intro e
          have h0 := a1.num
          have : xs1 = [] := List.eq_nil_of_length_eq_zero (by omega)
          rw [this] at b1
          have : d = 0 := b1.symm
          omega
        clear C1 a1 b1 d1 e1 u2 q1
        go_upto_region 5 with fail
        go_quiet (fail)
        have CT := Lib.hid (fun V (u : Up W1 V) => text_of V _ _ _ _ (N1.nw.up u) (by omega) (TW.out.up (U1.trans u)) S HSS.out)
        have HI1 := Lib.hid I1
        clear N1 I1
        go_upto_region 10 with (go_at_call 15; refine (CT.out _ (by first | exact (Up.refl _).drewN _ | exact Up.refl _)).mono ?_; rintro _ w5 ⟨rfl, u5⟩; have v5 : Up W1 w5 := Up.trans (by first | exact (Up.refl _).drewN _ | exact Up.refl _) u5)
        have I1 := HI1.out.up v5
        clear i0 i1 i2 i3 i4 i5 CT HI1
        obtain ⟨i0, i1, i2, i3, i4, i5⟩ := I1.six
        go_wp2_with fail
        go_ret
        exact ⟨rfl, U1.trans v5⟩
end Go.Proofs.YtpmpdecaadfnmaaDoor
