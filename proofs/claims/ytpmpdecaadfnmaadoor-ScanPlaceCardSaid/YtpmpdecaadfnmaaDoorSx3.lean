/-
  The walk of ScanWords: true, and nothing that was there has turned.
-/
import Derived.Test.YtpmpdecaadfnmaaDoorSx2
namespace Go.Proofs.YtpmpdecaadfnmaaDoor
open Go.RowKit Go.Shelf
set_option linter.unusedVariables false

theorem and_16 (x : Int) : ∃ m : Nat, Go.bits BinOp.and IntKind.i64 x 65535 = (m : Int) ∧ m ≤ 65535 := by
  refine ⟨((BitVec.ofInt 64 x).toNat &&& 65535), ?_, ?_⟩
  · show IntKind.i64.wrap ((BitVec.ofInt 64 x &&& BitVec.ofInt 64 65535).toNat : Int) = _
    rw [BitVec.toNat_and, show (BitVec.ofInt 64 65535).toNat = 65535 from rfl]
    have : (BitVec.ofInt 64 x).toNat &&& 65535 ≤ 65535 := Nat.and_le_right
    exact IntWalk.i64_in _ (by omega)
  · exact Nat.and_le_right
/-- What 'x & 0xFFFF % n' comes to. -/
theorem few_16 (x : Int) (n : Nat) (hn : 0 < n) : ∃ m a : Nat, Go.bits BinOp.and IntKind.i64 x 65535 = (m : Int) ∧ m ≤ 65535 ∧ (m : Int).tmod n = (a : Int) ∧ (m : Int) % n = (a : Int) ∧ a < n := by
  obtain ⟨m, h1, h2⟩ := and_16 x
  refine ⟨m, m % n, h1, h2, ?_, by simp, Nat.mod_lt _ hn⟩
  rw [Int.tmod_eq_emod_of_nonneg (by omega)]
  simp
theorem and_3 (x : Int) : ∃ m : Nat, Go.bits BinOp.and IntKind.i64 x 3 = (m : Int) ∧ m ≤ 3 := by
  refine ⟨((BitVec.ofInt 64 x).toNat &&& 3), ?_, ?_⟩
  · show IntKind.i64.wrap ((BitVec.ofInt 64 x &&& BitVec.ofInt 64 3).toNat : Int) = _
    rw [BitVec.toNat_and, show (BitVec.ofInt 64 3).toNat = 3 from rfl]
    have : (BitVec.ofInt 64 x).toNat &&& 3 ≤ 3 := Nat.and_le_right
    exact IntWalk.i64_in _ (by omega)
  · exact Nat.and_le_right
theorem word_cut (q t : Nat) (s : ByteArray) (hd : s.data.toList = M.wd q) (hz : s.size = 3) (ht : t ≤ 3) :
    ∃ s2 : ByteArray, s2.data.toList = (M.wd q).take t ∧ s2.size = t ∧ ∀ W, (Instr.slice 9 (.string s) none (some (.int .i64 (t : Int))) none).run Tryd.prog W = .ok (.string s2) W := by
  have e : (s.extract 0 t).data.toList = (M.wd q).take t := by rw [← hd]; simp
  refine ⟨s.extract 0 t, e, by simp; omega, fun W => ?_⟩
  rw [run_slice_string_h W 9 s Tryd.underlying9 .i64 (t : Int) (by omega) (by omega)]
  rfl
theorem wd_len (q : Nat) (hq : q < 3) : (M.wd q).length = 3 := by
  have hq2 : q = 0 ∨ q = 1 ∨ q = 2 := by omega
  rcases hq2 with rfl | rfl | rfl <;> rfl

set_option maxHeartbeats 16000000 in
set_option maxRecDepth 100000 in
theorem swords_walk (w : World) (hTW : TabW w) (hEW : ErrW w) (x0 : Int) (_wx0 : (Lit.int .i64 x0).wf = true) (x1 : Int) (_wx1 : (Lit.int .i64 x1).wf = true) (A0 : Option Addr) (n0 c0 : Nat) (l0 : List UInt8) (e0 : Sb w A0 n0 c0 l0) :
    Calls Tryd.prog 8 #[.int .i64 x0, .int .i64 x1, .slice A0 n0 c0] w (True9 w) := by
  obtain ⟨k, hk, hk1, hk2⟩ : ∃ k : Nat, min (n0 : Int) 20 = (k : Int) ∧ k ≤ n0 ∧ k ≤ 20 := ⟨min n0 20, by omega, by omega, by omega⟩
  have hc0 := e0.len
  have hsl := slice_j A0 n0 c0 k (by omega) e0.none_
  obtain ⟨l, hl⟩ : ∃ l, l0.take k = l := ⟨_, rfl⟩
  have HS := Lib.hid (show Sb w A0 k c0 l by rw [← hl]; exact e0.take hk1)
  have TW := Lib.hid hTW
  have EW := Lib.hid hEW
  have CH := Lib.hid (shown9_any w TW EW)
  obtain ⟨m, q, f1, f2, f3, f4, f5⟩ := few_16 x0 3 (by omega)
  obtain ⟨t, g1, g2⟩ := and_3 x1
  clear hl e0 hTW hEW hc0 _wx0 _wx1
  have U := Up.refl w
  have hq2 : q = 0 ∨ q = 1 ∨ q = 2 := by omega
  rcases hq2 with rfl | rfl | rfl
  · obtain ⟨s, hs⟩ : ∃ s : ByteArray, (⟨#[105, 110, 102]⟩ : ByteArray) = s := ⟨_, rfl⟩
    have hd : s.data.toList = M.wd 0 := by rw [← hs]; rfl
    have hz : s.size = 3 := by rw [← hs]; rfl
    obtain ⟨s2, hd2, hz2, hcut⟩ := word_cut 0 t s hd hz g2
    have p3 : (m : Int).tmod 3 = 0 := f3
    have p4 : (m : Int) % 3 = 0 := f4
    clear f3 f4 f5
    go_enter Tryd.func8, Tryd.ntmps8
    go_upto_region 2 with (go_at_call 10; refine CH.out.mono ?_; rintro _ w1 ⟨rfl, u1⟩)
    go_upto_region 4 with fail
    obtain ⟨V1, hV1⟩ : ∃ V1, w1.alloc (.cells #[.string s, .string ⟨#[110, 97, 110]⟩, .string ⟨#[78, 97, 82]⟩] 9) = V1 := ⟨_, rfl⟩
    have U1 : Up w V1 := by rw [← hV1]; exact u1.alloc _
    rw [hV1]
    clear hV1 hs
    go_upto_region 6 with fail
    obtain ⟨c1', V2, hcv, S2, u2⟩ := conv_str V1 s2 _ hd2 (by omega)
    rw [hz2] at hcv S2
    have U2 := U1.trans u2
    clear u2
    rcases Nat.lt_or_ge t 3 with h3 | h3
    · have d1 : (((t : Int) == 3) = false) := by rw [beq_eq_false_iff_ne]; omega
      have d3 : decide ((t : Int) < 3) = true := decide_eq_true (by omega)
      have r1 := Lib.hid (M.rs_part 0 t (by omega) (by omega))
      have C1 := Lib.hid (scan_val V2 (Lib.hid (EW.out.up U2)) _ t _ _ S2 (by omega) _ t 2 r1 0 false 0 0 0 false (t : Int) rfl rfl rfl rfl)
      clear S2 r1
      go_upto_region 7 with (first
        | (go_at_call 11; refine C1.out.mono ?_; rintro _ V3 ⟨A1, n1, c1, xs1, rfl, a1, b1, d1', e1, u3⟩)
        | (refine store_ob rfl 27 (.tmp 9) (.tmp 36) rfl _ #[.int .i64 0, .bool false, .slice none 0 0, .int .i64 0, .int .i64 0, .bool false] #[.int .i64 0, .bool false, .slice A1 n1 c1, .int .i64 0, .int .i64 0, .bool false] rfl rfl 6 (by kernel_rfl) rfl rfl (by simp [Value.oneCell']) V3 ((Up.refl _).alloc _) (Nat.le_refl _) 27 (Ob.mk_ _ _ _) ?_; intro W1 I1 q1))
      have U3 : Up w W1 := (U2.trans u3).trans q1
      have gw : w.heap.size ≤ V3.heap.size := Up.size (U2.trans u3)
      have g1 : V3.heap.size < W1.heap.size := I1.lt
      clear a1 b1 d1' e1 u3 q1 C1 U2
      go_upto_region 9 with fail
      obtain ⟨c3, V5, hcv3, S5, u5, sp⟩ := conv_str2 W1 s _ hd
      rw [hz] at hcv3 S5
      have U5 := U3.trans u5
      obtain ⟨ad, c4, W3, happ, S3, U3'⟩ := append_mark w V5 22 U5 _ (Up.size U3) 3 c3 _ S5 sp A0 k c0 l (HS.out.up U5) (by omega)
      replace U3 := U3'
      clear S5 sp u5 U3' I1
      replace S3 := Lib.hid S3
      rcases Nat.eq_zero_or_pos k with h0 | h0
      · subst h0
        have r2 := Lib.hid (show M.rs (M.wd 0 ++ l) = (⟨2, false, ⟨0, 0, 0, false⟩⟩, 0, 0) by rw [show l = [] from List.eq_nil_of_length_eq_zero HS.out.num, List.append_nil]; exact M.rs_word 0 (by omega))
        clear HS
        have C2 := Lib.hid (scan_val W3 (Lib.hid (EW.out.up U3)) _ (3 + 0) _ _ S3.out (by omega) _ 0 0 r2 2 false 0 0 0 false 0 rfl rfl rfl rfl)
        clear S3 r2
        go_upto_region 10 with (first
          | (at_builtin; refine Lib.wpList_append_run _ rfl _ _ _ _ rfl _ _ rfl rfl _ _ happ ?_)
          | (go_at_call 11; refine C2.out.mono ?_; rintro _ V4 ⟨A2, n2, c2, xs2, rfl, a2, b2, d2', e2, u5⟩)
          | (refine store_ob rfl 27 (.tmp 12) (.tmp 71) rfl _ #[.int .i64 0, .bool false, .slice none 0 0, .int .i64 0, .int .i64 0, .bool false] #[.int .i64 2, .bool false, .slice A2 n2 c2, .int .i64 0, .int .i64 0, .bool false] rfl rfl 6 (by kernel_rfl) rfl rfl (by simp [Value.oneCell']) V4 ((Up.refl _).alloc _) (Nat.le_refl _) 27 (Ob.mk_ _ _ _) ?_; intro W4 I4 q4))
        have U4 : Up w W4 := (U3.trans u5).trans q4
        clear a2 b2 d2' e2 u5 q4 C2 happ I4
        go_wp2_with fail
        go_ret
        exact ⟨rfl, U4⟩
      · have d2 : (((k : Int) == 0) = false) := by rw [beq_eq_false_iff_ne]; omega
        have r2 := Lib.hid (M.rs_over 0 (by omega) l (fun e => by have := HS.out.num; rw [e] at this; simp at this; omega))
        clear HS
        have C2 := Lib.hid (scan_val W3 (Lib.hid (EW.out.up U3)) _ (3 + k) _ _ S3.out (by omega) _ 3 2 r2 0 false 0 0 0 false 3 rfl rfl rfl rfl)
        clear S3 r2
        go_upto_region 10 with (first
          | (at_builtin; refine Lib.wpList_append_run _ rfl _ _ _ _ rfl _ _ rfl rfl _ _ happ ?_)
          | (go_at_call 11; refine C2.out.mono ?_; rintro _ V4 ⟨A2, n2, c2, xs2, rfl, a2, b2, d2', e2, u5⟩)
          | (refine store_ob rfl 27 (.tmp 12) (.tmp 71) rfl _ #[.int .i64 0, .bool false, .slice none 0 0, .int .i64 0, .int .i64 0, .bool false] #[.int .i64 0, .bool false, .slice A2 n2 c2, .int .i64 0, .int .i64 0, .bool false] rfl rfl 6 (by kernel_rfl) rfl rfl (by simp [Value.oneCell']) V4 ((Up.refl _).alloc _) (Nat.le_refl _) 27 (Ob.mk_ _ _ _) ?_; intro W4 I4 q4))
        have U4 : Up w W4 := (U3.trans u5).trans q4
        clear a2 b2 d2' e2 u5 q4 C2 happ I4
        go_wp2_with fail
        go_ret
        exact ⟨rfl, U4⟩
    · replace h3 : t = 3 := by omega
      subst h3
      have hcut3 : ∀ W, (Instr.slice 9 (.string s) none (some (.int .i64 3)) none).run Tryd.prog W = .ok (.string s2) W := hcut
      have g3 : Go.bits BinOp.and IntKind.i64 x1 3 = 3 := g1
      clear hcut g1
      have r1 := Lib.hid (show M.rs ((M.wd 0).take 3) = (⟨2, false, ⟨0, 0, 0, false⟩⟩, 0, 0) by rw [List.take_of_length_le (by rw [wd_len 0 (by omega)]; omega)]; exact M.rs_word 0 (by omega))
      have C1 := Lib.hid (scan_val V2 (Lib.hid (EW.out.up U2)) _ 3 _ _ S2 (by omega) _ 0 0 r1 2 false 0 0 0 false 0 rfl rfl rfl rfl)
      clear S2 r1
      go_upto_region 7 with (first
        | (go_at_call 11; refine C1.out.mono ?_; rintro _ V3 ⟨A1, n1, c1, xs1, rfl, a1, b1, d1', e1, u3⟩)
        | (refine store_ob rfl 27 (.tmp 9) (.tmp 36) rfl _ #[.int .i64 0, .bool false, .slice none 0 0, .int .i64 0, .int .i64 0, .bool false] #[.int .i64 2, .bool false, .slice A1 n1 c1, .int .i64 0, .int .i64 0, .bool false] rfl rfl 6 (by kernel_rfl) rfl rfl (by simp [Value.oneCell']) V3 ((Up.refl _).alloc _) (Nat.le_refl _) 27 (Ob.mk_ _ _ _) ?_; intro W1 I1 q1))
      have U3 : Up w W1 := (U2.trans u3).trans q1
      have gw : w.heap.size ≤ V3.heap.size := Up.size (U2.trans u3)
      have g1 : V3.heap.size < W1.heap.size := I1.lt
      obtain ⟨i0, i1, i2, i3, i4, i5⟩ := I1.six
      clear a1 b1 d1' e1 u3 q1 C1 U2
      go_upto_region 9 with fail
      clear i0 i1 i2 i3 i4 i5
      obtain ⟨c3, V5, hcv3, S5, u5, sp⟩ := conv_str2 W1 s _ hd
      rw [hz] at hcv3 S5
      have U5 := U3.trans u5
      obtain ⟨ad, c4, W3, happ, S3, U3'⟩ := append_mark w V5 22 U5 _ (Up.size U3) 3 c3 _ S5 sp A0 k c0 l (HS.out.up U5) (by omega)
      replace U3 := U3'
      clear S5 sp u5 U3' I1
      replace S3 := Lib.hid S3
      rcases Nat.eq_zero_or_pos k with h0 | h0
      · subst h0
        have r2 := Lib.hid (show M.rs (M.wd 0 ++ l) = (⟨2, false, ⟨0, 0, 0, false⟩⟩, 0, 0) by rw [show l = [] from List.eq_nil_of_length_eq_zero HS.out.num, List.append_nil]; exact M.rs_word 0 (by omega))
        clear HS
        have C2 := Lib.hid (scan_val W3 (Lib.hid (EW.out.up U3)) _ (3 + 0) _ _ S3.out (by omega) _ 0 0 r2 2 false 0 0 0 false 0 rfl rfl rfl rfl)
        clear S3 r2
        go_upto_region 10 with (first
          | (at_builtin; refine Lib.wpList_append_run _ rfl _ _ _ _ rfl _ _ rfl rfl _ _ happ ?_)
          | (go_at_call 11; refine C2.out.mono ?_; rintro _ V4 ⟨A2, n2, c2, xs2, rfl, a2, b2, d2', e2, u5⟩)
          | (refine store_ob rfl 27 (.tmp 12) (.tmp 71) rfl _ #[.int .i64 0, .bool false, .slice none 0 0, .int .i64 0, .int .i64 0, .bool false] #[.int .i64 2, .bool false, .slice A2 n2 c2, .int .i64 0, .int .i64 0, .bool false] rfl rfl 6 (by kernel_rfl) rfl rfl (by simp [Value.oneCell']) V4 ((Up.refl _).alloc _) (Nat.le_refl _) 27 (Ob.mk_ _ _ _) ?_; intro W4 I4 q4))
        have U4 : Up w W4 := (U3.trans u5).trans q4
        clear a2 b2 d2' e2 u5 q4 C2 happ I4
        go_wp2_with fail
        go_ret
        exact ⟨rfl, U4⟩
      · have d2 : (((k : Int) == 0) = false) := by rw [beq_eq_false_iff_ne]; omega
        have r2 := Lib.hid (M.rs_over 0 (by omega) l (fun e => by have := HS.out.num; rw [e] at this; simp at this; omega))
        clear HS
        have C2 := Lib.hid (scan_val W3 (Lib.hid (EW.out.up U3)) _ (3 + k) _ _ S3.out (by omega) _ 3 2 r2 0 false 0 0 0 false 3 rfl rfl rfl rfl)
        clear S3 r2
        go_upto_region 10 with (first
          | (at_builtin; refine Lib.wpList_append_run _ rfl _ _ _ _ rfl _ _ rfl rfl _ _ happ ?_)
          | (go_at_call 11; refine C2.out.mono ?_; rintro _ V4 ⟨A2, n2, c2, xs2, rfl, a2, b2, d2', e2, u5⟩)
          | (refine store_ob rfl 27 (.tmp 12) (.tmp 71) rfl _ #[.int .i64 0, .bool false, .slice none 0 0, .int .i64 0, .int .i64 0, .bool false] #[.int .i64 0, .bool false, .slice A2 n2 c2, .int .i64 0, .int .i64 0, .bool false] rfl rfl 6 (by kernel_rfl) rfl rfl (by simp [Value.oneCell']) V4 ((Up.refl _).alloc _) (Nat.le_refl _) 27 (Ob.mk_ _ _ _) ?_; intro W4 I4 q4))
        have U4 : Up w W4 := (U3.trans u5).trans q4
        clear a2 b2 d2' e2 u5 q4 C2 happ I4
        go_wp2_with fail
        go_ret
        exact ⟨rfl, U4⟩
  · obtain ⟨s, hs⟩ : ∃ s : ByteArray, (⟨#[110, 97, 110]⟩ : ByteArray) = s := ⟨_, rfl⟩
    have hd : s.data.toList = M.wd 1 := by rw [← hs]; rfl
    have hz : s.size = 3 := by rw [← hs]; rfl
    obtain ⟨s2, hd2, hz2, hcut⟩ := word_cut 1 t s hd hz g2
    have p3 : (m : Int).tmod 3 = 1 := f3
    have p4 : (m : Int) % 3 = 1 := f4
    clear f3 f4 f5
    go_enter Tryd.func8, Tryd.ntmps8
    go_upto_region 2 with (go_at_call 10; refine CH.out.mono ?_; rintro _ w1 ⟨rfl, u1⟩)
    go_upto_region 4 with fail
    obtain ⟨V1, hV1⟩ : ∃ V1, w1.alloc (.cells #[.string ⟨#[105, 110, 102]⟩, .string s, .string ⟨#[78, 97, 82]⟩] 9) = V1 := ⟨_, rfl⟩
    have U1 : Up w V1 := by rw [← hV1]; exact u1.alloc _
    rw [hV1]
    clear hV1 hs
    go_upto_region 6 with fail
    obtain ⟨c1', V2, hcv, S2, u2⟩ := conv_str V1 s2 _ hd2 (by omega)
    rw [hz2] at hcv S2
    have U2 := U1.trans u2
    clear u2
    rcases Nat.lt_or_ge t 3 with h3 | h3
    · have d1 : (((t : Int) == 3) = false) := by rw [beq_eq_false_iff_ne]; omega
      have d3 : decide ((t : Int) < 3) = true := decide_eq_true (by omega)
      have r1 := Lib.hid (M.rs_part 1 t (by omega) (by omega))
      have C1 := Lib.hid (scan_val V2 (Lib.hid (EW.out.up U2)) _ t _ _ S2 (by omega) _ t 2 r1 0 false 0 0 0 false (t : Int) rfl rfl rfl rfl)
      clear S2 r1
      go_upto_region 7 with (first
        | (go_at_call 11; refine C1.out.mono ?_; rintro _ V3 ⟨A1, n1, c1, xs1, rfl, a1, b1, d1', e1, u3⟩)
        | (refine store_ob rfl 27 (.tmp 9) (.tmp 36) rfl _ #[.int .i64 0, .bool false, .slice none 0 0, .int .i64 0, .int .i64 0, .bool false] #[.int .i64 0, .bool false, .slice A1 n1 c1, .int .i64 0, .int .i64 0, .bool false] rfl rfl 6 (by kernel_rfl) rfl rfl (by simp [Value.oneCell']) V3 ((Up.refl _).alloc _) (Nat.le_refl _) 27 (Ob.mk_ _ _ _) ?_; intro W1 I1 q1))
      have U3 : Up w W1 := (U2.trans u3).trans q1
      have gw : w.heap.size ≤ V3.heap.size := Up.size (U2.trans u3)
      have g1 : V3.heap.size < W1.heap.size := I1.lt
      clear a1 b1 d1' e1 u3 q1 C1 U2
      go_upto_region 9 with fail
      obtain ⟨c3, V5, hcv3, S5, u5, sp⟩ := conv_str2 W1 s _ hd
      rw [hz] at hcv3 S5
      have U5 := U3.trans u5
      obtain ⟨ad, c4, W3, happ, S3, U3'⟩ := append_mark w V5 22 U5 _ (Up.size U3) 3 c3 _ S5 sp A0 k c0 l (HS.out.up U5) (by omega)
      replace U3 := U3'
      clear S5 sp u5 U3' I1
      replace S3 := Lib.hid S3
      rcases Nat.eq_zero_or_pos k with h0 | h0
      · subst h0
        have r2 := Lib.hid (show M.rs (M.wd 1 ++ l) = (⟨3, false, ⟨0, 0, 0, false⟩⟩, 0, 0) by rw [show l = [] from List.eq_nil_of_length_eq_zero HS.out.num, List.append_nil]; exact M.rs_word 1 (by omega))
        clear HS
        have C2 := Lib.hid (scan_val W3 (Lib.hid (EW.out.up U3)) _ (3 + 0) _ _ S3.out (by omega) _ 0 0 r2 3 false 0 0 0 false 0 rfl rfl rfl rfl)
        clear S3 r2
        go_upto_region 10 with (first
          | (at_builtin; refine Lib.wpList_append_run _ rfl _ _ _ _ rfl _ _ rfl rfl _ _ happ ?_)
          | (go_at_call 11; refine C2.out.mono ?_; rintro _ V4 ⟨A2, n2, c2, xs2, rfl, a2, b2, d2', e2, u5⟩)
          | (refine store_ob rfl 27 (.tmp 12) (.tmp 71) rfl _ #[.int .i64 0, .bool false, .slice none 0 0, .int .i64 0, .int .i64 0, .bool false] #[.int .i64 3, .bool false, .slice A2 n2 c2, .int .i64 0, .int .i64 0, .bool false] rfl rfl 6 (by kernel_rfl) rfl rfl (by simp [Value.oneCell']) V4 ((Up.refl _).alloc _) (Nat.le_refl _) 27 (Ob.mk_ _ _ _) ?_; intro W4 I4 q4))
        have U4 : Up w W4 := (U3.trans u5).trans q4
        clear a2 b2 d2' e2 u5 q4 C2 happ I4
        go_wp2_with fail
        go_ret
        exact ⟨rfl, U4⟩
      · have d2 : (((k : Int) == 0) = false) := by rw [beq_eq_false_iff_ne]; omega
        have r2 := Lib.hid (M.rs_over 1 (by omega) l (fun e => by have := HS.out.num; rw [e] at this; simp at this; omega))
        clear HS
        have C2 := Lib.hid (scan_val W3 (Lib.hid (EW.out.up U3)) _ (3 + k) _ _ S3.out (by omega) _ 3 2 r2 0 false 0 0 0 false 3 rfl rfl rfl rfl)
        clear S3 r2
        go_upto_region 10 with (first
          | (at_builtin; refine Lib.wpList_append_run _ rfl _ _ _ _ rfl _ _ rfl rfl _ _ happ ?_)
          | (go_at_call 11; refine C2.out.mono ?_; rintro _ V4 ⟨A2, n2, c2, xs2, rfl, a2, b2, d2', e2, u5⟩)
          | (refine store_ob rfl 27 (.tmp 12) (.tmp 71) rfl _ #[.int .i64 0, .bool false, .slice none 0 0, .int .i64 0, .int .i64 0, .bool false] #[.int .i64 0, .bool false, .slice A2 n2 c2, .int .i64 0, .int .i64 0, .bool false] rfl rfl 6 (by kernel_rfl) rfl rfl (by simp [Value.oneCell']) V4 ((Up.refl _).alloc _) (Nat.le_refl _) 27 (Ob.mk_ _ _ _) ?_; intro W4 I4 q4))
        have U4 : Up w W4 := (U3.trans u5).trans q4
        clear a2 b2 d2' e2 u5 q4 C2 happ I4
        go_wp2_with fail
        go_ret
        exact ⟨rfl, U4⟩
    · replace h3 : t = 3 := by omega
      subst h3
      have hcut3 : ∀ W, (Instr.slice 9 (.string s) none (some (.int .i64 3)) none).run Tryd.prog W = .ok (.string s2) W := hcut
      have g3 : Go.bits BinOp.and IntKind.i64 x1 3 = 3 := g1
      clear hcut g1
      have r1 := Lib.hid (show M.rs ((M.wd 1).take 3) = (⟨3, false, ⟨0, 0, 0, false⟩⟩, 0, 0) by rw [List.take_of_length_le (by rw [wd_len 1 (by omega)]; omega)]; exact M.rs_word 1 (by omega))
      have C1 := Lib.hid (scan_val V2 (Lib.hid (EW.out.up U2)) _ 3 _ _ S2 (by omega) _ 0 0 r1 3 false 0 0 0 false 0 rfl rfl rfl rfl)
      clear S2 r1
      go_upto_region 7 with (first
        | (go_at_call 11; refine C1.out.mono ?_; rintro _ V3 ⟨A1, n1, c1, xs1, rfl, a1, b1, d1', e1, u3⟩)
        | (refine store_ob rfl 27 (.tmp 9) (.tmp 36) rfl _ #[.int .i64 0, .bool false, .slice none 0 0, .int .i64 0, .int .i64 0, .bool false] #[.int .i64 3, .bool false, .slice A1 n1 c1, .int .i64 0, .int .i64 0, .bool false] rfl rfl 6 (by kernel_rfl) rfl rfl (by simp [Value.oneCell']) V3 ((Up.refl _).alloc _) (Nat.le_refl _) 27 (Ob.mk_ _ _ _) ?_; intro W1 I1 q1))
      have U3 : Up w W1 := (U2.trans u3).trans q1
      have gw : w.heap.size ≤ V3.heap.size := Up.size (U2.trans u3)
      have g1 : V3.heap.size < W1.heap.size := I1.lt
      obtain ⟨i0, i1, i2, i3, i4, i5⟩ := I1.six
      clear a1 b1 d1' e1 u3 q1 C1 U2
      go_upto_region 9 with fail
      clear i0 i1 i2 i3 i4 i5
      obtain ⟨c3, V5, hcv3, S5, u5, sp⟩ := conv_str2 W1 s _ hd
      rw [hz] at hcv3 S5
      have U5 := U3.trans u5
      obtain ⟨ad, c4, W3, happ, S3, U3'⟩ := append_mark w V5 22 U5 _ (Up.size U3) 3 c3 _ S5 sp A0 k c0 l (HS.out.up U5) (by omega)
      replace U3 := U3'
      clear S5 sp u5 U3' I1
      replace S3 := Lib.hid S3
      rcases Nat.eq_zero_or_pos k with h0 | h0
      · subst h0
        have r2 := Lib.hid (show M.rs (M.wd 1 ++ l) = (⟨3, false, ⟨0, 0, 0, false⟩⟩, 0, 0) by rw [show l = [] from List.eq_nil_of_length_eq_zero HS.out.num, List.append_nil]; exact M.rs_word 1 (by omega))
        clear HS
        have C2 := Lib.hid (scan_val W3 (Lib.hid (EW.out.up U3)) _ (3 + 0) _ _ S3.out (by omega) _ 0 0 r2 3 false 0 0 0 false 0 rfl rfl rfl rfl)
        clear S3 r2
        go_upto_region 10 with (first
          | (at_builtin; refine Lib.wpList_append_run _ rfl _ _ _ _ rfl _ _ rfl rfl _ _ happ ?_)
          | (go_at_call 11; refine C2.out.mono ?_; rintro _ V4 ⟨A2, n2, c2, xs2, rfl, a2, b2, d2', e2, u5⟩)
          | (refine store_ob rfl 27 (.tmp 12) (.tmp 71) rfl _ #[.int .i64 0, .bool false, .slice none 0 0, .int .i64 0, .int .i64 0, .bool false] #[.int .i64 3, .bool false, .slice A2 n2 c2, .int .i64 0, .int .i64 0, .bool false] rfl rfl 6 (by kernel_rfl) rfl rfl (by simp [Value.oneCell']) V4 ((Up.refl _).alloc _) (Nat.le_refl _) 27 (Ob.mk_ _ _ _) ?_; intro W4 I4 q4))
        have U4 : Up w W4 := (U3.trans u5).trans q4
        clear a2 b2 d2' e2 u5 q4 C2 happ I4
        go_wp2_with fail
        go_ret
        exact ⟨rfl, U4⟩
      · have d2 : (((k : Int) == 0) = false) := by rw [beq_eq_false_iff_ne]; omega
        have r2 := Lib.hid (M.rs_over 1 (by omega) l (fun e => by have := HS.out.num; rw [e] at this; simp at this; omega))
        clear HS
        have C2 := Lib.hid (scan_val W3 (Lib.hid (EW.out.up U3)) _ (3 + k) _ _ S3.out (by omega) _ 3 2 r2 0 false 0 0 0 false 3 rfl rfl rfl rfl)
        clear S3 r2
        go_upto_region 10 with (first
          | (at_builtin; refine Lib.wpList_append_run _ rfl _ _ _ _ rfl _ _ rfl rfl _ _ happ ?_)
          | (go_at_call 11; refine C2.out.mono ?_; rintro _ V4 ⟨A2, n2, c2, xs2, rfl, a2, b2, d2', e2, u5⟩)
          | (refine store_ob rfl 27 (.tmp 12) (.tmp 71) rfl _ #[.int .i64 0, .bool false, .slice none 0 0, .int .i64 0, .int .i64 0, .bool false] #[.int .i64 0, .bool false, .slice A2 n2 c2, .int .i64 0, .int .i64 0, .bool false] rfl rfl 6 (by kernel_rfl) rfl rfl (by simp [Value.oneCell']) V4 ((Up.refl _).alloc _) (Nat.le_refl _) 27 (Ob.mk_ _ _ _) ?_; intro W4 I4 q4))
        have U4 : Up w W4 := (U3.trans u5).trans q4
        clear a2 b2 d2' e2 u5 q4 C2 happ I4
        go_wp2_with fail
        go_ret
        exact ⟨rfl, U4⟩
  · obtain ⟨s, hs⟩ : ∃ s : ByteArray, (⟨#[78, 97, 82]⟩ : ByteArray) = s := ⟨_, rfl⟩
    have hd : s.data.toList = M.wd 2 := by rw [← hs]; rfl
    have hz : s.size = 3 := by rw [← hs]; rfl
    obtain ⟨s2, hd2, hz2, hcut⟩ := word_cut 2 t s hd hz g2
    have p3 : (m : Int).tmod 3 = 2 := f3
    have p4 : (m : Int) % 3 = 2 := f4
    clear f3 f4 f5
    go_enter Tryd.func8, Tryd.ntmps8
    go_upto_region 2 with (go_at_call 10; refine CH.out.mono ?_; rintro _ w1 ⟨rfl, u1⟩)
    go_upto_region 4 with fail
    obtain ⟨V1, hV1⟩ : ∃ V1, w1.alloc (.cells #[.string ⟨#[105, 110, 102]⟩, .string ⟨#[110, 97, 110]⟩, .string s] 9) = V1 := ⟨_, rfl⟩
    have U1 : Up w V1 := by rw [← hV1]; exact u1.alloc _
    rw [hV1]
    clear hV1 hs
    go_upto_region 6 with fail
    obtain ⟨c1', V2, hcv, S2, u2⟩ := conv_str V1 s2 _ hd2 (by omega)
    rw [hz2] at hcv S2
    have U2 := U1.trans u2
    clear u2
    rcases Nat.lt_or_ge t 3 with h3 | h3
    · have d1 : (((t : Int) == 3) = false) := by rw [beq_eq_false_iff_ne]; omega
      have d3 : decide ((t : Int) < 3) = true := decide_eq_true (by omega)
      have r1 := Lib.hid (M.rs_part 2 t (by omega) (by omega))
      have C1 := Lib.hid (scan_val V2 (Lib.hid (EW.out.up U2)) _ t _ _ S2 (by omega) _ t 2 r1 0 false 0 0 0 false (t : Int) rfl rfl rfl rfl)
      clear S2 r1
      go_upto_region 7 with (first
        | (go_at_call 11; refine C1.out.mono ?_; rintro _ V3 ⟨A1, n1, c1, xs1, rfl, a1, b1, d1', e1, u3⟩)
        | (refine store_ob rfl 27 (.tmp 9) (.tmp 36) rfl _ #[.int .i64 0, .bool false, .slice none 0 0, .int .i64 0, .int .i64 0, .bool false] #[.int .i64 0, .bool false, .slice A1 n1 c1, .int .i64 0, .int .i64 0, .bool false] rfl rfl 6 (by kernel_rfl) rfl rfl (by simp [Value.oneCell']) V3 ((Up.refl _).alloc _) (Nat.le_refl _) 27 (Ob.mk_ _ _ _) ?_; intro W1 I1 q1))
      have U3 : Up w W1 := (U2.trans u3).trans q1
      have gw : w.heap.size ≤ V3.heap.size := Up.size (U2.trans u3)
      have g1 : V3.heap.size < W1.heap.size := I1.lt
      clear a1 b1 d1' e1 u3 q1 C1 U2
      go_upto_region 9 with fail
      obtain ⟨c3, V5, hcv3, S5, u5, sp⟩ := conv_str2 W1 s _ hd
      rw [hz] at hcv3 S5
      have U5 := U3.trans u5
      obtain ⟨ad, c4, W3, happ, S3, U3'⟩ := append_mark w V5 22 U5 _ (Up.size U3) 3 c3 _ S5 sp A0 k c0 l (HS.out.up U5) (by omega)
      replace U3 := U3'
      clear S5 sp u5 U3' I1
      replace S3 := Lib.hid S3
      rcases Nat.eq_zero_or_pos k with h0 | h0
      · subst h0
        have r2 := Lib.hid (show M.rs (M.wd 2 ++ l) = (⟨4, false, ⟨0, 0, 0, false⟩⟩, 0, 0) by rw [show l = [] from List.eq_nil_of_length_eq_zero HS.out.num, List.append_nil]; exact M.rs_word 2 (by omega))
        clear HS
        have C2 := Lib.hid (scan_val W3 (Lib.hid (EW.out.up U3)) _ (3 + 0) _ _ S3.out (by omega) _ 0 0 r2 4 false 0 0 0 false 0 rfl rfl rfl rfl)
        clear S3 r2
        go_upto_region 10 with (first
          | (at_builtin; refine Lib.wpList_append_run _ rfl _ _ _ _ rfl _ _ rfl rfl _ _ happ ?_)
          | (go_at_call 11; refine C2.out.mono ?_; rintro _ V4 ⟨A2, n2, c2, xs2, rfl, a2, b2, d2', e2, u5⟩)
          | (refine store_ob rfl 27 (.tmp 12) (.tmp 71) rfl _ #[.int .i64 0, .bool false, .slice none 0 0, .int .i64 0, .int .i64 0, .bool false] #[.int .i64 4, .bool false, .slice A2 n2 c2, .int .i64 0, .int .i64 0, .bool false] rfl rfl 6 (by kernel_rfl) rfl rfl (by simp [Value.oneCell']) V4 ((Up.refl _).alloc _) (Nat.le_refl _) 27 (Ob.mk_ _ _ _) ?_; intro W4 I4 q4))
        have U4 : Up w W4 := (U3.trans u5).trans q4
        clear a2 b2 d2' e2 u5 q4 C2 happ I4
        go_wp2_with fail
        go_ret
        exact ⟨rfl, U4⟩
      · have d2 : (((k : Int) == 0) = false) := by rw [beq_eq_false_iff_ne]; omega
        have r2 := Lib.hid (M.rs_over 2 (by omega) l (fun e => by have := HS.out.num; rw [e] at this; simp at this; omega))
        clear HS
        have C2 := Lib.hid (scan_val W3 (Lib.hid (EW.out.up U3)) _ (3 + k) _ _ S3.out (by omega) _ 3 2 r2 0 false 0 0 0 false 3 rfl rfl rfl rfl)
        clear S3 r2
        go_upto_region 10 with (first
          | (at_builtin; refine Lib.wpList_append_run _ rfl _ _ _ _ rfl _ _ rfl rfl _ _ happ ?_)
          | (go_at_call 11; refine C2.out.mono ?_; rintro _ V4 ⟨A2, n2, c2, xs2, rfl, a2, b2, d2', e2, u5⟩)
          | (refine store_ob rfl 27 (.tmp 12) (.tmp 71) rfl _ #[.int .i64 0, .bool false, .slice none 0 0, .int .i64 0, .int .i64 0, .bool false] #[.int .i64 0, .bool false, .slice A2 n2 c2, .int .i64 0, .int .i64 0, .bool false] rfl rfl 6 (by kernel_rfl) rfl rfl (by simp [Value.oneCell']) V4 ((Up.refl _).alloc _) (Nat.le_refl _) 27 (Ob.mk_ _ _ _) ?_; intro W4 I4 q4))
        have U4 : Up w W4 := (U3.trans u5).trans q4
        clear a2 b2 d2' e2 u5 q4 C2 happ I4
        go_wp2_with fail
        go_ret
        exact ⟨rfl, U4⟩
    · replace h3 : t = 3 := by omega
      subst h3
      have hcut3 : ∀ W, (Instr.slice 9 (.string s) none (some (.int .i64 3)) none).run Tryd.prog W = .ok (.string s2) W := hcut
      have g3 : Go.bits BinOp.and IntKind.i64 x1 3 = 3 := g1
      clear hcut g1
      have r1 := Lib.hid (show M.rs ((M.wd 2).take 3) = (⟨4, false, ⟨0, 0, 0, false⟩⟩, 0, 0) by rw [List.take_of_length_le (by rw [wd_len 2 (by omega)]; omega)]; exact M.rs_word 2 (by omega))
      have C1 := Lib.hid (scan_val V2 (Lib.hid (EW.out.up U2)) _ 3 _ _ S2 (by omega) _ 0 0 r1 4 false 0 0 0 false 0 rfl rfl rfl rfl)
      clear S2 r1
      go_upto_region 7 with (first
        | (go_at_call 11; refine C1.out.mono ?_; rintro _ V3 ⟨A1, n1, c1, xs1, rfl, a1, b1, d1', e1, u3⟩)
        | (refine store_ob rfl 27 (.tmp 9) (.tmp 36) rfl _ #[.int .i64 0, .bool false, .slice none 0 0, .int .i64 0, .int .i64 0, .bool false] #[.int .i64 4, .bool false, .slice A1 n1 c1, .int .i64 0, .int .i64 0, .bool false] rfl rfl 6 (by kernel_rfl) rfl rfl (by simp [Value.oneCell']) V3 ((Up.refl _).alloc _) (Nat.le_refl _) 27 (Ob.mk_ _ _ _) ?_; intro W1 I1 q1))
      have U3 : Up w W1 := (U2.trans u3).trans q1
      have gw : w.heap.size ≤ V3.heap.size := Up.size (U2.trans u3)
      have g1 : V3.heap.size < W1.heap.size := I1.lt
      obtain ⟨i0, i1, i2, i3, i4, i5⟩ := I1.six
      clear a1 b1 d1' e1 u3 q1 C1 U2
      go_upto_region 9 with fail
      clear i0 i1 i2 i3 i4 i5
      obtain ⟨c3, V5, hcv3, S5, u5, sp⟩ := conv_str2 W1 s _ hd
      rw [hz] at hcv3 S5
      have U5 := U3.trans u5
      obtain ⟨ad, c4, W3, happ, S3, U3'⟩ := append_mark w V5 22 U5 _ (Up.size U3) 3 c3 _ S5 sp A0 k c0 l (HS.out.up U5) (by omega)
      replace U3 := U3'
      clear S5 sp u5 U3' I1
      replace S3 := Lib.hid S3
      rcases Nat.eq_zero_or_pos k with h0 | h0
      · subst h0
        have r2 := Lib.hid (show M.rs (M.wd 2 ++ l) = (⟨4, false, ⟨0, 0, 0, false⟩⟩, 0, 0) by rw [show l = [] from List.eq_nil_of_length_eq_zero HS.out.num, List.append_nil]; exact M.rs_word 2 (by omega))
        clear HS
        have C2 := Lib.hid (scan_val W3 (Lib.hid (EW.out.up U3)) _ (3 + 0) _ _ S3.out (by omega) _ 0 0 r2 4 false 0 0 0 false 0 rfl rfl rfl rfl)
        clear S3 r2
        go_upto_region 10 with (first
          | (at_builtin; refine Lib.wpList_append_run _ rfl _ _ _ _ rfl _ _ rfl rfl _ _ happ ?_)
          | (go_at_call 11; refine C2.out.mono ?_; rintro _ V4 ⟨A2, n2, c2, xs2, rfl, a2, b2, d2', e2, u5⟩)
          | (refine store_ob rfl 27 (.tmp 12) (.tmp 71) rfl _ #[.int .i64 0, .bool false, .slice none 0 0, .int .i64 0, .int .i64 0, .bool false] #[.int .i64 4, .bool false, .slice A2 n2 c2, .int .i64 0, .int .i64 0, .bool false] rfl rfl 6 (by kernel_rfl) rfl rfl (by simp [Value.oneCell']) V4 ((Up.refl _).alloc _) (Nat.le_refl _) 27 (Ob.mk_ _ _ _) ?_; intro W4 I4 q4))
        have U4 : Up w W4 := (U3.trans u5).trans q4
        clear a2 b2 d2' e2 u5 q4 C2 happ I4
        go_wp2_with fail
        go_ret
        exact ⟨rfl, U4⟩
      · have d2 : (((k : Int) == 0) = false) := by rw [beq_eq_false_iff_ne]; omega
        have r2 := Lib.hid (M.rs_over 2 (by omega) l (fun e => by have := HS.out.num; rw [e] at this; simp at this; omega))
        clear HS
        have C2 := Lib.hid (scan_val W3 (Lib.hid (EW.out.up U3)) _ (3 + k) _ _ S3.out (by omega) _ 3 2 r2 0 false 0 0 0 false 3 rfl rfl rfl rfl)
        clear S3 r2
        go_upto_region 10 with (first
          | (at_builtin; refine Lib.wpList_append_run _ rfl _ _ _ _ rfl _ _ rfl rfl _ _ happ ?_)
          | (go_at_call 11; refine C2.out.mono ?_; rintro _ V4 ⟨A2, n2, c2, xs2, rfl, a2, b2, d2', e2, u5⟩)
          | (refine store_ob rfl 27 (.tmp 12) (.tmp 71) rfl _ #[.int .i64 0, .bool false, .slice none 0 0, .int .i64 0, .int .i64 0, .bool false] #[.int .i64 0, .bool false, .slice A2 n2 c2, .int .i64 0, .int .i64 0, .bool false] rfl rfl 6 (by kernel_rfl) rfl rfl (by simp [Value.oneCell']) V4 ((Up.refl _).alloc _) (Nat.le_refl _) 27 (Ob.mk_ _ _ _) ?_; intro W4 I4 q4))
        have U4 : Up w W4 := (U3.trans u5).trans q4
        clear a2 b2 d2' e2 u5 q4 C2 happ I4
        go_wp2_with fail
        go_ret
        exact ⟨rfl, U4⟩
end Go.Proofs.YtpmpdecaadfnmaaDoor
