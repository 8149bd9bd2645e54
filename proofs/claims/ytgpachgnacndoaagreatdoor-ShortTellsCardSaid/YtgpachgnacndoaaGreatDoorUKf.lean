/-
  What each law of layer 11 shows first.
-/
import Derived.Test.YtgpachgnacndoaaGreatDoorUKe
import Derived.OwnWalk
namespace Go.Proofs.YtgpachgnacndoaaGreatDoor
open Go.RowKit
set_option linter.unusedSimpArgs false
set_option linter.unusedVariables false

theorem Nt.one {w : World} {lo s : Nat} {A : Option Addr} {n c a : Nat} (h : Nt w lo s (.slice A n c) a) (h0 : 0 < a) (ha : a < 18446744073709551616) : n = 1 ∧ ∃ b o, A = some ⟨b, o, none⟩ ∧ w.cell? ⟨b, o, none⟩ = some (u64 a) := by
  obtain ⟨A', n', c', xs, e, h1, h2, h3, h4⟩ := h
  cases e
  have hl : xs.length ≤ 1 := M.len_of_lt (k := 1) h4 (by rw [h2]; simpa using ha)
  have hn := h1.num
  have n1 : n = 1 := by
    rcases Nat.eq_zero_or_pos n with e | e
    · have : xs = [] := List.eq_nil_of_length_eq_zero (by omega)
      rw [this] at h2
      simp [M.val] at h2
      omega
    · omega
  obtain ⟨b, o, rfl, _, hc⟩ := h1.at_ (by omega)
  refine ⟨n1, b, o, rfl, ?_⟩
  have := (hc 0 (by omega)).1
  obtain ⟨x, rfl⟩ : ∃ x, xs = [x] := by
    cases xs with
    | nil => simp at hn; omega
    | cons x r => exact ⟨x, by rw [List.eq_nil_of_length_eq_zero (l := r) (by simp at hn; omega)]⟩
  simp [M.val] at h2
  subst h2
  simpa using this
namespace M
theorem nx {a b : Int} (h : a ≠ b) {P : Prop} : a = b → P := fun e => absurd e h
theorem sh1 : Shc 14 4591870180066957722 false 1 (-1) 0 :=
  .inr ⟨rfl, 14, rfl, by decide, by decide, 3602879701896397, -55, 14411518807585587, -57, 14411518807585589, -57, true, -1, 1, -1, 1, 1, 1,
    ⟨⟨by decide, .inr (.inr (.inr ⟨by decide, rfl, by decide, 4591870180066957722, by decide, .inr (.inl ⟨rfl, 52, rfl, by unfold mok; decide +kernel, .inr ⟨by decide, 1, by decide +kernel, by decide +kernel⟩⟩)⟩)),
        4591870180066957722, by decide, ⟨.inr ⟨by decide, .inr (.inl ⟨rfl, 52, by decide, rfl, by unfold mok; decide +kernel, .inr ⟨by decide, 0, by decide +kernel, by decide +kernel⟩⟩)⟩, .inr ⟨fun e => absurd e.1 (by decide), .inr (.inl ⟨rfl, 52, by decide, rfl, by unfold mok; decide +kernel, .inr ⟨by decide, 0, by decide +kernel, by decide +kernel⟩⟩)⟩⟩, by decide⟩,
      ⟨by decide +kernel, by decide +kernel, by decide, by decide⟩,
      ⟨by decide, by decide, by decide, ⟨by decide +kernel, by decide +kernel, .inr (.inl rfl), nx (by decide), fun _ => by decide +kernel, nx (by decide), nx (by decide), fun _ => by decide +kernel⟩,
        .inr ⟨fun e => by omega, .inl ⟨⟨.inl (by decide +kernel), .inr (.inl (by decide +kernel))⟩, rfl⟩⟩, fun j i e j1 jn => by omega⟩,
      ⟨by decide, rfl, by decide, by decide, by decide⟩, by decide⟩⟩
theorem k65 : IsK 7 65 9 (-3) := ⟨by decide, 0, 5, 1, 0, by unfold Ps; decide, by decide, by decide⟩
theorem k129 : IsK 8 129 17 (-4) := ⟨by decide, 0, 6, 1, 0, by unfold Ps; decide, by decide, by decide⟩
theorem k131 : IsK 8 131 19 (-4) := ⟨by decide, 0, 6, 3, 0, by unfold Ps; decide, by decide, by decide⟩
theorem sh2 : Shc 1 191 true 11 (-1) 0 :=
  .inr ⟨rfl, 1, rfl, by decide, by decide, 9, -3, 17, -4, 19, -4, false, 0, 2, -1, 11, 1, 11,
    ⟨⟨by decide, .inr (.inr (.inr ⟨by decide, rfl, by decide, 65, by decide, .inl ⟨rfl, 7, by decide, rfl, k65⟩⟩)),
        65, by decide, ⟨.inr ⟨by decide, .inl ⟨rfl, 7, by decide, by decide, rfl, k129⟩⟩, .inr ⟨fun e => absurd e.1 (by decide), .inl ⟨rfl, 7, by decide, by decide, rfl, k131⟩⟩⟩, by decide⟩,
      ⟨by decide +kernel, by decide +kernel, by decide, by decide⟩,
      ⟨by decide, by decide, by decide, ⟨by decide +kernel, by decide +kernel, .inr (.inl rfl), nx (by decide), fun _ => by decide +kernel, nx (by decide), nx (by decide), fun _ => by decide +kernel⟩,
        .inr ⟨fun e => by omega, .inl ⟨⟨.inl (by decide +kernel), .inr (.inl (by decide +kernel))⟩, rfl⟩⟩, fun j i e j1 jn hj e1 e2 => by
          obtain rfl : j = 1 := by omega
          obtain rfl : i = 0 := by omega
          have q1 : sz 1 0 0 ≤ sz 9 (-3) 0 := by decide +kernel
          have q2 : sz 9 (-3) 0 < sz 2 0 0 := by decide +kernel
          obtain rfl := fl_uniq q1 q2 e1 e2
          exact ⟨by unfold In; decide +kernel, by unfold In; decide +kernel⟩⟩,
      ⟨by decide, rfl, by decide, by decide, by decide⟩, by decide⟩⟩
theorem uc3 : Uc 1 65 false 1125 (-3) 0 :=
  .inr ⟨rfl, 1, rfl, by decide, by decide, by decide, 9, -3, .inr (.inr (.inr ⟨by decide, rfl, by decide, 65, by decide, .inl ⟨rfl, 7, by decide, rfl, k65⟩⟩)), ⟨by decide, by decide +kernel, by decide, by decide, by decide⟩⟩
theorem sh4 : Shc 13 0 false 0 0 5 := .inl ⟨by decide, ⟨1, false, 0, 0, 0, .inr ⟨13, rfl, by decide, by decide, .inr ⟨by decide, .inr (.inr (.inl ⟨by decide, rfl, by decide, rfl, rfl⟩)), rfl⟩⟩, .inr ⟨rfl, by decide, rfl⟩⟩, rfl, rfl, rfl⟩
theorem uc5 : Uc 99 0 false 0 0 3 := .inl ⟨by decide, ⟨0, false, 0, 0, 3, .inl ⟨by decide, rfl, rfl, rfl, rfl, rfl⟩, .inl ⟨by decide, rfl⟩⟩, rfl, rfl, rfl⟩
end M
set_option maxHeartbeats 4000000 in
set_option maxRecDepth 100000 in
theorem is11_any (w : World) (lo s : Nat) (ng : Bool) (A : Option Addr) (n c : Nat) (D : Nat) (K : Int) (h : Nt w lo s (.slice A n c) D) (h0 : 0 < D) (hD : D < 18446744073709551616) : Calls Tryz.prog 11 #[.agg #[.bool ng, .slice A n c, .int .i64 K], .bool ng, u64 D, .int .i64 K] w (Bz true w) := by
  obtain ⟨rfl, b, o, rfl, hc⟩ := h.one h0 hD
  clear h h0 hD
  have hc2 := cell_up ((Up.refl w).alloc (.cells #[.bool ng, .slice (some ⟨b, o, none⟩) 1 c, .int .i64 K] 27)) hc
  clear hc
  have nb : (ng == ng) = true := by simp
  have kb : (K == K) = true := by simp
  have db : ((D : Int) == (D : Int)) = true := by simp
  have U := Up.refl w
  go_enter Tryz.func11, Tryz.ntmps11
  go_wp2_with fail
  go_ret
  exact ⟨by first | rfl | simp, (Up.refl w).alloc _⟩
/-- What the walks want of the variables. -/
structure Lk (W : World) : Prop where
  ten : TabW W
  low : Tz W
  form : TabF W
theorem Lk.up {w w' : World} (h : Lk w) (u : Up w w') : Lk w' := ⟨h.ten.up u, h.low.up u, h.form.up u⟩
/-- True, and nothing that was there has turned. -/
def True11 (w : World) (e : Ending) (w' : World) : Prop := e = .returned (.bool true) ∧ Up w w'
set_option maxHeartbeats 4000000 in
set_option maxRecDepth 100000 in
theorem shown11_any (w : World) (TT : Hid (Tz w)) (TF : Hid (TabF w)) (TW : Hid (TabW w)) : Calls Tryz.prog 4 #[] w (True11 w) := by
  have C1 : Hid (∀ (W : World) (T : Tz W) (F : TabF W) (V : TabW W), Calls Tryz.prog 5 #[.int .i64 14, .int .u64 4591870180066957722] W (Dxx false 1 (-1) 0 W)) := Lib.hid (fun W T F V => short_any W (Lib.hid T) (Lib.hid F) (Lib.hid V) 14 4591870180066957722 (by decide) false 1 (-1) 0 M.sh1)
  have C2 : Hid (∀ (W : World) (T : Tz W) (F : TabF W) (V : TabW W), Calls Tryz.prog 5 #[.int .i64 1, .int .u64 191] W (Dxx true 11 (-1) 0 W)) := Lib.hid (fun W T F V => short_any W (Lib.hid T) (Lib.hid F) (Lib.hid V) 1 191 (by decide) true 11 (-1) 0 M.sh2)
  have C3 : Hid (∀ (W : World) (T : Tz W) (F : TabF W) (V : TabW W), Calls Tryz.prog 6 #[.int .i64 1, .int .u64 65] W (Dxx false 1125 (-3) 0 W)) := Lib.hid (fun W T F V => full_any W (Lib.hid T) (Lib.hid F) 1 65 (by decide) false 1125 (-3) 0 M.uc3)
  have C4 : Hid (∀ (W : World) (T : Tz W) (F : TabF W) (V : TabW W), Calls Tryz.prog 5 #[.int .i64 13, .int .u64 0] W (Dxx false 0 0 5 W)) := Lib.hid (fun W T F V => short_any W (Lib.hid T) (Lib.hid F) (Lib.hid V) 13 0 (by decide) false 0 0 5 M.sh4)
  have C5 : Hid (∀ (W : World) (T : Tz W) (F : TabF W) (V : TabW W), Calls Tryz.prog 6 #[.int .i64 99, .int .u64 0] W (Dxx false 0 0 3 W)) := Lib.hid (fun W T F V => full_any W (Lib.hid T) (Lib.hid F) 99 0 (by decide) false 0 0 3 M.uc5)
  have I1 : Hid (∀ (W : World) (lo : Nat) (A : Option Addr) (n c : Nat) (N : Nt W lo 128 (.slice A n c) 1), Calls Tryz.prog 11 #[.agg #[.bool false, .slice A n c, .int .i64 (-1)], .bool false, .int .u64 1, .int .i64 (-1)] W (Bz true W)) := Lib.hid (fun W lo A n c N => is11_any W lo 128 false A n c 1 (-1) N (by decide) (by decide))
  have I2 : Hid (∀ (W : World) (lo : Nat) (A : Option Addr) (n c : Nat) (N : Nt W lo 128 (.slice A n c) 11), Calls Tryz.prog 11 #[.agg #[.bool true, .slice A n c, .int .i64 (-1)], .bool true, .int .u64 11, .int .i64 (-1)] W (Bz true W)) := Lib.hid (fun W lo A n c N => is11_any W lo 128 true A n c 11 (-1) N (by decide) (by decide))
  have I3 : Hid (∀ (W : World) (lo : Nat) (A : Option Addr) (n c : Nat) (N : Nt W lo 128 (.slice A n c) 1125), Calls Tryz.prog 11 #[.agg #[.bool false, .slice A n c, .int .i64 (-3)], .bool false, .int .u64 1125, .int .i64 (-3)] W (Bz true W)) := Lib.hid (fun W lo A n c N => is11_any W lo 128 false A n c 1125 (-3) N (by decide) (by decide))
  have U := Up.refl w
  go_enter Tryz.func4, Tryz.ntmps4
  go_wp2_with fail
  refine (C1.out _ (TT.out.up U) (TF.out.up U) (TW.out.up U)).mono ?_
  rintro _ w1 ⟨v1, rfl, N1, h1⟩
  replace U := U.trans h1
  clear h1
  obtain ⟨A1, n1, c1, rfl, N1⟩ := N1.sl
  clear C1
  go_upto_region 2 with fail
  obtain ⟨V2, hV2⟩ : ∃ V2, w1.alloc (.cells #[.bool false, .slice A1 n1 c1, .int .i64 (-1)] 27) = V2 := ⟨_, rfl⟩
  have B1 : Ob V2 (w1.heap.size) 27 #[.bool false, .slice A1 n1 c1, .int .i64 (-1)] := by rw [← hV2]; exact Ob.mk_ _ _ _
  have sV2 : V2.heap.size = w1.heap.size + 1 := by rw [← hV2]; exact (Array.size_push _)
  have uV2 : Up w1 V2 := by rw [← hV2]; exact (Up.refl _).alloc _
  have ltB1 : w.heap.size ≤ w1.heap.size := by have := U.size; omega
  rw [hV2]
  clear hV2
  replace U := U.trans uV2
  replace N1 := N1.up uV2
  clear uV2
  clear sV2
  have glB1 := B1.lt
  go_wp2_with fail
  refine (C2.out _ (TT.out.up U) (TF.out.up U) (TW.out.up U)).mono ?_
  rintro _ w3 ⟨v2, rfl, N2, h3⟩
  replace U := U.trans h3
  replace B1 := B1.up h3
  replace N1 := N1.up h3
  clear h3
  obtain ⟨A2, n2, c2, rfl, N2⟩ := N2.sl
  clear C2
  go_upto_region 3 with fail
  have gB2B1 := B1.lt
  obtain ⟨V4, hV4⟩ : ∃ V4, w3.alloc (.cells #[.bool true, .slice A2 n2 c2, .int .i64 (-1)] 27) = V4 := ⟨_, rfl⟩
  have B2 : Ob V4 (w3.heap.size) 27 #[.bool true, .slice A2 n2 c2, .int .i64 (-1)] := by rw [← hV4]; exact Ob.mk_ _ _ _
  have sV4 : V4.heap.size = w3.heap.size + 1 := by rw [← hV4]; exact (Array.size_push _)
  have uV4 : Up w3 V4 := by rw [← hV4]; exact (Up.refl _).alloc _
  have ltB2 : w.heap.size ≤ w3.heap.size := by have := U.size; omega
  rw [hV4]
  clear hV4
  replace U := U.trans uV4
  replace B1 := B1.up uV4
  replace N1 := N1.up uV4
  replace N2 := N2.up uV4
  clear uV4
  clear sV4
  have glB2 := B2.lt
  go_wp2_with fail
  refine (C3.out _ (TT.out.up U) (TF.out.up U) (TW.out.up U)).mono ?_
  rintro _ w5 ⟨v3, rfl, N3, h5⟩
  replace U := U.trans h5
  replace B1 := B1.up h5
  replace B2 := B2.up h5
  replace N1 := N1.up h5
  replace N2 := N2.up h5
  clear h5
  obtain ⟨A3, n3, c3, rfl, N3⟩ := N3.sl
  clear C3
  go_upto_region 4 with fail
  have gB3B1 := B1.lt
  have gB3B2 := B2.lt
  obtain ⟨V6, hV6⟩ : ∃ V6, w5.alloc (.cells #[.bool false, .slice A3 n3 c3, .int .i64 (-3)] 27) = V6 := ⟨_, rfl⟩
  have B3 : Ob V6 (w5.heap.size) 27 #[.bool false, .slice A3 n3 c3, .int .i64 (-3)] := by rw [← hV6]; exact Ob.mk_ _ _ _
  have sV6 : V6.heap.size = w5.heap.size + 1 := by rw [← hV6]; exact (Array.size_push _)
  have uV6 : Up w5 V6 := by rw [← hV6]; exact (Up.refl _).alloc _
  have ltB3 : w.heap.size ≤ w5.heap.size := by have := U.size; omega
  rw [hV6]
  clear hV6
  replace U := U.trans uV6
  replace B1 := B1.up uV6
  replace B2 := B2.up uV6
  replace N1 := N1.up uV6
  replace N2 := N2.up uV6
  replace N3 := N3.up uV6
  clear uV6
  clear sV6
  have glB3 := B3.lt
  go_wp2_with fail
  refine (C4.out _ (TT.out.up U) (TF.out.up U) (TW.out.up U)).mono ?_
  rintro _ w7 ⟨v4, rfl, N4, h7⟩
  replace U := U.trans h7
  replace B1 := B1.up h7
  replace B2 := B2.up h7
  replace B3 := B3.up h7
  replace N1 := N1.up h7
  replace N2 := N2.up h7
  replace N3 := N3.up h7
  clear h7
  obtain ⟨A4, n4, c4, rfl, N4⟩ := N4.sl
  clear C4
  go_upto_region 5 with fail
  have gB4B1 := B1.lt
  have gB4B2 := B2.lt
  have gB4B3 := B3.lt
  obtain ⟨V8, hV8⟩ : ∃ V8, w7.alloc (.cells #[.bool false, .slice A4 n4 c4, .int .i64 0] 27) = V8 := ⟨_, rfl⟩
  have B4 : Ob V8 (w7.heap.size) 27 #[.bool false, .slice A4 n4 c4, .int .i64 0] := by rw [← hV8]; exact Ob.mk_ _ _ _
  have sV8 : V8.heap.size = w7.heap.size + 1 := by rw [← hV8]; exact (Array.size_push _)
  have uV8 : Up w7 V8 := by rw [← hV8]; exact (Up.refl _).alloc _
  have ltB4 : w.heap.size ≤ w7.heap.size := by have := U.size; omega
  rw [hV8]
  clear hV8
  replace U := U.trans uV8
  replace B1 := B1.up uV8
  replace B2 := B2.up uV8
  replace B3 := B3.up uV8
  replace N1 := N1.up uV8
  replace N2 := N2.up uV8
  replace N3 := N3.up uV8
  clear uV8
  clear sV8
  have glB4 := B4.lt
  go_wp2_with fail
  refine (C5.out _ (TT.out.up U) (TF.out.up U) (TW.out.up U)).mono ?_
  rintro _ w9 ⟨v5, rfl, N5, h9⟩
  replace U := U.trans h9
  replace B1 := B1.up h9
  replace B2 := B2.up h9
  replace B3 := B3.up h9
  replace B4 := B4.up h9
  replace N1 := N1.up h9
  replace N2 := N2.up h9
  replace N3 := N3.up h9
  clear h9
  obtain ⟨A5, n5, c5, rfl, N5⟩ := N5.sl
  clear C5
  go_upto_region 6 with fail
  have gB5B1 := B1.lt
  have gB5B2 := B2.lt
  have gB5B3 := B3.lt
  have gB5B4 := B4.lt
  obtain ⟨V10, hV10⟩ : ∃ V10, w9.alloc (.cells #[.bool false, .slice A5 n5 c5, .int .i64 0] 27) = V10 := ⟨_, rfl⟩
  have B5 : Ob V10 (w9.heap.size) 27 #[.bool false, .slice A5 n5 c5, .int .i64 0] := by rw [← hV10]; exact Ob.mk_ _ _ _
  have sV10 : V10.heap.size = w9.heap.size + 1 := by rw [← hV10]; exact (Array.size_push _)
  have uV10 : Up w9 V10 := by rw [← hV10]; exact (Up.refl _).alloc _
  have ltB5 : w.heap.size ≤ w9.heap.size := by have := U.size; omega
  rw [hV10]
  clear hV10
  replace U := U.trans uV10
  replace B1 := B1.up uV10
  replace B2 := B2.up uV10
  replace B3 := B3.up uV10
  replace B4 := B4.up uV10
  replace N1 := N1.up uV10
  replace N2 := N2.up uV10
  replace N3 := N3.up uV10
  clear uV10
  clear sV10
  have glB5 := B5.lt
  obtain ⟨B10, B11, B12, B1f0, B1f1, B1f2, B1l⟩ := B1.c3
  go_wp2_with fail
  clear B10 B1f0 B11 B1f1 B12 B1f2 B1l
  refine (I1.out _ _ _ _ _ N1).mono ?_
  rintro _ w11 ⟨rfl, h11⟩
  replace U := U.trans h11
  replace B1 := B1.up h11
  replace B2 := B2.up h11
  replace B3 := B3.up h11
  replace B4 := B4.up h11
  replace B5 := B5.up h11
  replace N1 := N1.up h11
  replace N2 := N2.up h11
  replace N3 := N3.up h11
  clear h11
  obtain ⟨B20, B21, B22, B2f0, B2f1, B2f2, B2l⟩ := B2.c3
  go_wp2_with fail
  clear B20 B2f0 B21 B2f1 B22 B2f2 B2l
  refine (I2.out _ _ _ _ _ N2).mono ?_
  rintro _ w12 ⟨rfl, h12⟩
  replace U := U.trans h12
  replace B1 := B1.up h12
  replace B2 := B2.up h12
  replace B3 := B3.up h12
  replace B4 := B4.up h12
  replace B5 := B5.up h12
  replace N1 := N1.up h12
  replace N2 := N2.up h12
  replace N3 := N3.up h12
  clear h12
  obtain ⟨B30, B31, B32, B3f0, B3f1, B3f2, B3l⟩ := B3.c3
  go_wp2_with fail
  clear B30 B3f0 B31 B3f1 B32 B3f2 B3l
  refine (I3.out _ _ _ _ _ N3).mono ?_
  rintro _ w13 ⟨rfl, h13⟩
  replace U := U.trans h13
  replace B1 := B1.up h13
  replace B2 := B2.up h13
  replace B3 := B3.up h13
  replace B4 := B4.up h13
  replace B5 := B5.up h13
  replace N1 := N1.up h13
  replace N2 := N2.up h13
  replace N3 := N3.up h13
  clear h13
  go_wp2_with fail
  go_ret
  exact ⟨rfl, U⟩
end Go.Proofs.YtgpachgnacndoaaGreatDoor
