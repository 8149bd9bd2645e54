/-
  Layer 9's laws: what each of them shows first.
-/
import Derived.Test.YtpmpdecaadfnmaaDoorSv
namespace Go.Proofs.YtpmpdecaadfnmaaDoor
open Go.RowKit Go.Shelf
set_option linter.unusedVariables false

/-- True, and nothing that was there has turned. -/
def True9 (w : World) (e : Ending) (w' : World) : Prop := e = .returned (.bool true) ∧ Up w w'
set_option maxHeartbeats 16000000 in
set_option maxRecDepth 100000 in
theorem shown9_any (w : World) (TW : Hid (TabW w)) (EW : Hid (ErrW w)) : Calls Tryd.prog 10 #[] w (True9 w) := by
  have U := Up.refl w
  go_enter Tryd.func10, Tryd.ntmps10
  go_upto_region 1 with fail
  have C1 := Lib.hid (of_val w (Lib.hid (EW.out.up U)) ⟨#[45, 49, 50, 46, 53, 48, 101, 51]⟩ [45, 49, 50, 46, 53, 48, 101, 51] (by show _ = _; rfl) (by decide) ⟨1, true, ⟨125, 2, 0, false⟩⟩ 0 0 (by show _ = _; kernel_rfl) 1 true 125 (2) (0) false rfl rfl rfl)
  go_upto_region 2 with (first | (go_at_call 12; refine C1.out.mono ?_; rintro _ V1 ⟨A1, n1, c1, xs1, rfl, a1, b1, d1, e1, u1⟩) | (refine store_ob rfl 27 (.tmp 1) (.tmp 17) rfl _ #[.int .i64 0, .bool false, .slice none 0 0, .int .i64 0, .int .i64 0, .bool false] #[.int .i64 1, .bool true, .slice A1 n1 c1, .int .i64 (2), .int .i64 (0), .bool false] rfl rfl 6 (by kernel_rfl) rfl rfl (by simp [Value.oneCell']) V1 ((Up.refl _).alloc _) (Nat.le_refl _) 27 (Ob.mk_ _ _ _) ?_; intro W1 I1 q1))
  have N1 := (wd_nt a1 b1 d1 e1).up q1
  replace u1 := u1.trans q1
  replace U := U.trans u1
  clear a1 b1 d1 e1 u1 q1 C1
  have S2 := sb_lit W1 #[.int .u8 49, .int .u8 101] (2, 3) [49, 101] 2 rfl rfl
  have C2 := Lib.hid (scan_val _ (Lib.hid (EW.out.up (U.alloc _))) _ 2 2 [49, 101] S2 (by omega) ⟨0, false, ⟨0, 0, 0, false⟩⟩ 2 2 (by show _ = _; kernel_rfl) 0 false 0 0 0 false 2 rfl rfl rfl rfl)
  clear S2
  have kc := kc_any W1
  go_upto_region 3 with (first | (go_at_call 11; refine C2.out.mono ?_; rintro _ V2 ⟨A2, n2, c2, xs2, rfl, a2, b2, d2, e2, u2⟩) | (refine store_ob rfl 27 (.tmp 2) (.tmp 22) rfl _ #[.int .i64 0, .bool false, .slice none 0 0, .int .i64 0, .int .i64 0, .bool false] #[.int .i64 0, .bool false, .slice A2 n2 c2, .int .i64 0, .int .i64 0, .bool false] rfl rfl 6 (by kernel_rfl) rfl rfl (by simp [Value.oneCell']) V2 ((Up.refl _).alloc _) (Nat.le_refl _) 27 (Ob.mk_ _ _ _) ?_; intro W2 I2 q2))
  replace u2 := (((Up.refl W1).alloc _).trans u2).trans q2
  replace U := U.trans u2
  replace I1 := I1.up u2
  replace N1 := N1.up u2
  clear a2 b2 d2 e2 u2 q2 C2 I2 kc
  have S3 := sb_lit W2 #[.int .u8 110, .int .u8 97, .int .u8 53] (3, 4) [110, 97, 53] 3 rfl rfl
  have C3 := Lib.hid (scan_val _ (Lib.hid (EW.out.up (U.alloc _))) _ 3 3 [110, 97, 53] S3 (by omega) ⟨0, false, ⟨0, 0, 0, false⟩⟩ 2 2 (by show _ = _; kernel_rfl) 0 false 0 0 0 false 2 rfl rfl rfl rfl)
  clear S3
  have kc := kc_any W2
  go_upto_region 4 with (first | (go_at_call 11; refine C3.out.mono ?_; rintro _ V3 ⟨A3, n3, c3, xs3, rfl, a3, b3, d3, e3, u3⟩) | (refine store_ob rfl 27 (.tmp 5) (.tmp 29) rfl _ #[.int .i64 0, .bool false, .slice none 0 0, .int .i64 0, .int .i64 0, .bool false] #[.int .i64 0, .bool false, .slice A3 n3 c3, .int .i64 0, .int .i64 0, .bool false] rfl rfl 6 (by kernel_rfl) rfl rfl (by simp [Value.oneCell']) V3 ((Up.refl _).alloc _) (Nat.le_refl _) 27 (Ob.mk_ _ _ _) ?_; intro W3 I3 q3))
  replace u3 := (((Up.refl W2).alloc _).trans u3).trans q3
  replace U := U.trans u3
  replace I1 := I1.up u3
  replace N1 := N1.up u3
  clear a3 b3 d3 e3 u3 q3 C3 I3 kc
  have S4 := sb_lit W3 #[.int .u8 46] (1, 2) [46] 1 rfl rfl
  have C4 := Lib.hid (scan_val _ (Lib.hid (EW.out.up (U.alloc _))) _ 1 1 [46] S4 (by omega) ⟨0, false, ⟨0, 0, 0, false⟩⟩ 1 2 (by show _ = _; kernel_rfl) 0 false 0 0 0 false 1 rfl rfl rfl rfl)
  clear S4
  have kc := kc_any W3
  go_upto_region 5 with (first | (go_at_call 11; refine C4.out.mono ?_; rintro _ V4 ⟨A4, n4, c4, xs4, rfl, a4, b4, d4, e4, u4⟩) | (refine store_ob rfl 27 (.tmp 8) (.tmp 36) rfl _ #[.int .i64 0, .bool false, .slice none 0 0, .int .i64 0, .int .i64 0, .bool false] #[.int .i64 0, .bool false, .slice A4 n4 c4, .int .i64 0, .int .i64 0, .bool false] rfl rfl 6 (by kernel_rfl) rfl rfl (by simp [Value.oneCell']) V4 ((Up.refl _).alloc _) (Nat.le_refl _) 27 (Ob.mk_ _ _ _) ?_; intro W4 I4 q4))
  replace u4 := (((Up.refl W3).alloc _).trans u4).trans q4
  replace U := U.trans u4
  replace I1 := I1.up u4
  replace N1 := N1.up u4
  clear a4 b4 d4 e4 u4 q4 C4 I4 kc
  have C5 := Lib.hid (of_val W4 (Lib.hid (EW.out.up U)) ⟨#[49, 101, 57, 57, 57, 57, 57, 57, 57, 57, 57, 57, 57, 57, 57, 57, 57, 57, 57, 57, 57, 57]⟩ [49, 101, 57, 57, 57, 57, 57, 57, 57, 57, 57, 57, 57, 57, 57, 57, 57, 57, 57, 57, 57, 57] (by show _ = _; rfl) (by decide) ⟨1, false, ⟨0, 0, 1, false⟩⟩ 0 0 (by show _ = _; kernel_rfl) 1 false 0 (0) (1) false rfl rfl rfl)
  go_upto_region 6 with (first | (go_at_call 12; refine C5.out.mono ?_; rintro _ V5 ⟨A5, n5, c5, xs5, rfl, a5, b5, d5, e5, u5⟩) | (refine store_ob rfl 27 (.tmp 11) (.tmp 39) rfl _ #[.int .i64 0, .bool false, .slice none 0 0, .int .i64 0, .int .i64 0, .bool false] #[.int .i64 1, .bool false, .slice A5 n5 c5, .int .i64 (0), .int .i64 (1), .bool false] rfl rfl 6 (by kernel_rfl) rfl rfl (by simp [Value.oneCell']) V5 ((Up.refl _).alloc _) (Nat.le_refl _) 27 (Ob.mk_ _ _ _) ?_; intro W5 I5 q5))
  have N5 := (wd_nt a5 b5 d5 e5).up q5
  replace u5 := u5.trans q5
  replace U := U.trans u5
  replace I1 := I1.up u5
  replace N1 := N1.up u5
  clear a5 b5 d5 e5 u5 q5 C5
  have C6 := Lib.hid (of_val W5 (Lib.hid (EW.out.up U)) ⟨#[49, 101, 45, 57, 57, 57, 57, 57, 57, 57, 57, 57, 57, 57, 57, 57, 57, 57, 57, 57, 57, 57, 57]⟩ [49, 101, 45, 57, 57, 57, 57, 57, 57, 57, 57, 57, 57, 57, 57, 57, 57, 57, 57, 57, 57, 57, 57] (by show _ = _; rfl) (by decide) ⟨1, false, ⟨0, 0, -1, false⟩⟩ 0 0 (by show _ = _; kernel_rfl) 1 false 0 (0) (-1) false rfl rfl rfl)
  go_upto_region 7 with (first | (go_at_call 12; refine C6.out.mono ?_; rintro _ V6 ⟨A6, n6, c6, xs6, rfl, a6, b6, d6, e6, u6⟩) | (refine store_ob rfl 27 (.tmp 12) (.tmp 40) rfl _ #[.int .i64 0, .bool false, .slice none 0 0, .int .i64 0, .int .i64 0, .bool false] #[.int .i64 1, .bool false, .slice A6 n6 c6, .int .i64 (0), .int .i64 (-1), .bool false] rfl rfl 6 (by kernel_rfl) rfl rfl (by simp [Value.oneCell']) V6 ((Up.refl _).alloc _) (Nat.le_refl _) 27 (Ob.mk_ _ _ _) ?_; intro W6 I6 q6))
  have N6 := (wd_nt a6 b6 d6 e6).up q6
  replace u6 := u6.trans q6
  replace U := U.trans u6
  replace I1 := I1.up u6
  replace N1 := N1.up u6
  replace I5 := I5.up u6
  replace N5 := N5.up u6
  clear a6 b6 d6 e6 u6 q6 C6
  have C7 := Lib.hid (of_val W6 (Lib.hid (EW.out.up U)) ⟨#[45, 78, 97, 82]⟩ [45, 78, 97, 82] (by show _ = _; rfl) (by decide) ⟨4, true, ⟨0, 0, 0, false⟩⟩ 0 0 (by show _ = _; kernel_rfl) 4 true 0 (0) (0) false rfl rfl rfl)
  go_upto_region 8 with (first | (go_at_call 12; refine C7.out.mono ?_; rintro _ V7 ⟨A7, n7, c7, xs7, rfl, a7, b7, d7, e7, u7⟩) | (refine store_ob rfl 27 (.tmp 13) (.tmp 41) rfl _ #[.int .i64 0, .bool false, .slice none 0 0, .int .i64 0, .int .i64 0, .bool false] #[.int .i64 4, .bool true, .slice A7 n7 c7, .int .i64 (0), .int .i64 (0), .bool false] rfl rfl 6 (by kernel_rfl) rfl rfl (by simp [Value.oneCell']) V7 ((Up.refl _).alloc _) (Nat.le_refl _) 27 (Ob.mk_ _ _ _) ?_; intro W7 I7 q7))
  have N7 := (wd_nt a7 b7 d7 e7).up q7
  replace u7 := u7.trans q7
  replace U := U.trans u7
  replace I1 := I1.up u7
  replace N1 := N1.up u7
  replace I5 := I5.up u7
  replace N5 := N5.up u7
  replace I6 := I6.up u7
  replace N6 := N6.up u7
  clear a7 b7 d7 e7 u7 q7 C7
  have SN := Sb.nil0 W7
  have C8 := Lib.hid (scan_val _ (Lib.hid (EW.out.up U)) _ 0 0 [] SN (by omega) ⟨0, false, ⟨0, 0, 0, false⟩⟩ 0 2 (by show _ = _; kernel_rfl) 0 false 0 0 0 false 0 rfl rfl rfl rfl)
  have HD : Hid ((⟨(Lib.decDigits 125).toArray⟩ : ByteArray) = ⟨#[49, 50, 53]⟩) := by show _ = _; simp [Lib.decDigits]
  clear SN
  go_wp2_with (first | (go_at_call 11; refine C8.out.mono ?_; rintro _ V8 ⟨A8, n8, c8, xs8, rfl, a8, b8, d8, e8, u8⟩; clear a8 b8 d8 e8) | (refine store_ob rfl 27 (.tmp 14) (.tmp 44) rfl _ #[.int .i64 0, .bool false, .slice none 0 0, .int .i64 0, .int .i64 0, .bool false] #[.int .i64 0, .bool false, .slice A8 n8 c8, .int .i64 0, .int .i64 0, .bool false] rfl rfl 6 (by kernel_rfl) rfl rfl (by simp [Value.oneCell']) V8 ((Up.refl _).alloc _) (Nat.le_refl _) 27 (Ob.mk_ _ _ _) ?_; intro W8 I8 q8; have uq := u8.trans q8; clear u8 q8 I8 C8; have J1 := I1.up uq; obtain ⟨ja0, ja1, ja2, ja3, ja4, ja5⟩ := J1.six; have M1 := N1.up uq; have UQ := U.trans uq) | (go_at_call 15; refine (text_of W8 _ _ _ _ M1.nw (by omega) (TW.out.up UQ) ⟨#[49, 50, 53]⟩ HD.out).mono ?_; rintro _ WT ⟨rfl, uT⟩; have ut := uq.trans uT; have UT := UQ.trans uT; have K1 := J1.up uT; obtain ⟨ka0, ka1, ka2, ka3, ka4, ka5⟩ := K1.six; have J5 := I5.up ut; obtain ⟨jh0, jh1, jh2, jh3, jh4, jh5⟩ := J5.six; have J6 := I6.up ut; obtain ⟨ji0, ji1, ji2, ji3, ji4, ji5⟩ := J6.six; have J7 := I7.up ut; obtain ⟨jj0, jj1, jj2, jj3, jj4, jj5⟩ := J7.six; clear J1 K1 M1 J5 J6 J7 uT ut))
  refine (of_val WT (Lib.hid (EW.out.up (UT))) ⟨#[105, 110, 102]⟩ [105, 110, 102] (by show _ = _; rfl) (by decide) ⟨2, false, ⟨0, 0, 0, false⟩⟩ 0 0 (by show _ = _; kernel_rfl) 2 false 0 0 0 false rfl rfl rfl).mono ?_
  rintro _ V9 ⟨A9, n9, c9, xs9, rfl, a9, b9, d9, e9, u9⟩
  have U9 := UT.trans u9
  clear a9 b9 d9 e9 u9 I1 N1 I5 N5 I6 N6 I7 N7 ja0 ja1 ja2 ja3 ja4 ja5 ka0 ka1 ka2 ka3 ka4 ka5 jh0 jh1 jh2 jh3 jh4 jh5 ji0 ji1 ji2 ji3 ji4 ji5 jj0 jj1 jj2 jj3 jj4 jj5 UQ U uq HD
  have hf1 := field_kind V9 2 false A9 n9 c9 0 0 false
  go_wp2_with fail
  refine (of_val V9 (Lib.hid (EW.out.up (U9))) ⟨#[110, 97, 110]⟩ [110, 97, 110] (by show _ = _; rfl) (by decide) ⟨3, false, ⟨0, 0, 0, false⟩⟩ 0 0 (by show _ = _; kernel_rfl) 3 false 0 0 0 false rfl rfl rfl).mono ?_
  rintro _ V10 ⟨A10, n10, c10, xs10, rfl, a10, b10, d10, e10, u10⟩
  have U10 := U9.trans u10
  clear a10 b10 d10 e10 u10 hf1
  have hf2 := field_kind V10 3 false A10 n10 c10 0 0 false
  go_wp2_with fail
  go_ret
  exact ⟨rfl, U10⟩
end Go.Proofs.YtpmpdecaadfnmaaDoor
