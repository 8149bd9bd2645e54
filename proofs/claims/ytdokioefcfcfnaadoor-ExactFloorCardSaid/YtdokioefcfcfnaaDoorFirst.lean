/-
  What each law shows first.
-/
import Derived.Test.YtdokioefcfcfnaaDoorFew
namespace Go.Proofs.YtdokioefcfcfnaaDoor
open Go.RowKit Go.Shelf

theorem dd_big : (⟨(Lib.decDigits 18446744073709551616).toArray⟩ : ByteArray) = ⟨#[49, 56, 52, 52, 54, 55, 52, 52, 48, 55, 51, 55, 48, 57, 53, 53, 49, 54, 49, 54]⟩ := by simp [Lib.decDigits]
theorem dd_5 : (⟨(Lib.decDigits 5).toArray⟩ : ByteArray) = ⟨#[53]⟩ := by simp [Lib.decDigits]
theorem dd_0 : (⟨(Lib.decDigits 0).toArray⟩ : ByteArray) = ⟨#[48]⟩ := by simp [Lib.decDigits]
theorem dd_q : (⟨(Lib.decDigits (55340232221128654855 / 10)).toArray⟩ : ByteArray) = ⟨#[53, 53, 51, 52, 48, 50, 51, 50, 50, 50, 49, 49, 50, 56, 54, 53, 52, 56, 53]⟩ := by simp [Lib.decDigits]
theorem dd_r : (⟨(Lib.decDigits (55340232221128654855 % 10)).toArray⟩ : ByteArray) = ⟨#[53]⟩ := by simp [Lib.decDigits]
theorem dd_p : (⟨(Lib.decDigits 100000000000000000000).toArray⟩ : ByteArray) = ⟨#[49, 48, 48, 48, 48, 48, 48, 48, 48, 48, 48, 48, 48, 48, 48, 48, 48, 48, 48, 48, 48]⟩ := by simp [Lib.decDigits]

section
variable (w : World) (lo lo' s s' : Nat) (v v' : Value)
theorem subl (h : Nw w lo s v 1) (h' : Nw w lo' s' v' 18446744073709551616) : Calls Tryd.prog 38 #[v, v'] w (Opt s 0 false w) := sub_any w lo lo' s s' v v' 1 18446744073709551616 h h'
theorem cmp_eq1 (h : Nw w lo s v 18446744073709551616) (h' : Nw w lo' s' v' 18446744073709551616) : Calls Tryd.prog 35 #[v, v'] w (Val (.int .i64 0) w) := cmp_any w lo lo' s s' v v' 18446744073709551616 18446744073709551616 h h'
theorem bits1 (h : Nw w lo s v 18446744073709551616) : Calls Tryd.prog 23 #[v] w (Same (.int .i64 65) w) := by
  have := bits_any w lo s v 18446744073709551616 h
  rw [show M.bits 18446744073709551616 = 65 from M.bits_of (b := 64) (by omega) (by omega)] at this
  exact this
theorem bit64 (h : Nw w lo s v 18446744073709551616) : Calls Tryd.prog 25 #[v, .int .i64 64] w (Same (.bool true) w) := bit_nat w lo s v 18446744073709551616 h 64 (by omega)
theorem even1 (h : Nw w lo s v 18446744073709551616) : Calls Tryd.prog 27 #[v] w (Same (.bool true) w) := even_any w lo s v 18446744073709551616 h
theorem word1 (h : Nw w lo s v 18446744073709551616) : Calls Tryd.prog 17 #[v] w (Same (.tuple #[.int .u64 0, .bool false]) w) := word_any w lo s v 18446744073709551616 h
theorem pow20 : Calls Tryd.prog 51 #[.int .u64 10, .int .i64 20] w (Res 21 100000000000000000000 w) := pow_any w 10 20 20 (by omega) (by omega)
end
/-- An empty answer. -/
def Zero (w : World) (e : Ending) (w' : World) : Prop := ∃ A c, e = .returned (.slice A 0 c) ∧ Up w w'
theorem of_zero (w : World) : Calls Tryd.prog 29 #[.int .u64 0] w (Zero w) := by
  refine (of_lit w 0 0 rfl (by omega)).mono ?_
  rintro e w' ⟨v, rfl, ⟨A, n, c, xs, rfl, h1, h2, h3, h4⟩, hu⟩
  have : xs = [] := M.val_zero h4 h2
  have hn := h1.num
  rw [this] at hn
  simp at hn
  subst hn
  exact ⟨A, c, rfl, hu⟩
theorem parse1 (w : World) (hEW : ErrW w) : Calls Tryd.prog 31 #[.string ⟨#[49, 56, 52, 52, 54, 55, 52, 52, 48, 55, 51, 55, 48, 57, 53, 53, 49, 54, 49, 54]⟩] w (Opt 2001 18446744073709551616 true w) := by
  refine (parse_any w _ [49, 56, 52, 52, 54, 55, 52, 52, 48, 55, 51, 55, 48, 57, 53, 53, 49, 54, 49, 54] rfl (by simp) (by simp) (.inl (by decide)) hEW).mono ?_
  intro e w' h
  exact h
theorem parse2 (w : World) : Calls Tryd.prog 31 #[.string ⟨#[48, 49]⟩] w (Opt 2001 0 false w) :=
  parse_bad w _ [48, 49] rfl (.inr (.inr ⟨rfl, by simp⟩))

/-- What shown comes to. -/
def True_ (w : World) (e : Ending) (w' : World) : Prop := e = .returned (.bool true) ∧ Up w w'

set_option maxHeartbeats 8000000 in
set_option maxRecDepth 100000 in
theorem shown_any (w : World) (hTW : TabW w) (hEW : ErrW w) : Calls Tryd.prog 14 #[] w (True_ w) := by
  have U := Up.refl w
  go_enter Tryd.func14, Tryd.ntmps14
  go_wp2_with fail
  refine (norm_any _ _ 2 _ 18446744073709551616 (lit2 _ 0 1 _ _ _ rfl rfl (by omega) (by omega) rfl)).mono ?_
  rintro _ w1 ⟨big, rfl, hbig, hu1⟩
  replace U := (U.alloc (.cells #[.int .u64 0, .int .u64 1] 24)).trans hu1
  clear hu1
  go_wp2_with fail
  replace hbig := hbig.up ((Up.refl w1).alloc (.cells #[.int .u64 7, .int .u64 3] 24))
  replace U := U.trans ((Up.refl w1).alloc (.cells #[.int .u64 7, .int .u64 3] 24))
  refine (norm_any _ _ 2 _ 55340232221128654855 (lit2 _ 7 3 _ _ _ rfl rfl (by omega) (by omega) rfl)).mono ?_
  rintro _ w2 ⟨va, rfl, ha, hu2⟩
  replace hbig := hbig.up hu2
  replace U := U.trans hu2
  clear hu2
  go_wp2_with fail
  refine (of_lit _ 10 _ rfl (by omega)).mono ?_
  rintro _ w3 ⟨vt, rfl, ht, hu3⟩
  replace hbig := hbig.up hu3
  replace ha := ha.up hu3
  replace U := U.trans hu3
  clear hu3
  go_wp2_with fail
  refine (div_of _ _ _ 2 _ _ _ _ _ ha.nw ht.nw (by omega) (by omega) (.inl (by omega))).mono ?_
  rintro _ w4 ⟨vq, vr, rfl, hq, hr, hu4⟩
  replace hbig := hbig.up hu4
  replace ha := ha.up hu4
  replace ht := ht.up hu4
  replace U := U.trans hu4
  clear hu4
  go_wp2_with fail
  replace hbig := hbig.up ((Up.refl w4).alloc (.cells #[.int .u64 0, .int .u64 0] 24))
  replace hq := hq.up ((Up.refl w4).alloc (.cells #[.int .u64 0, .int .u64 0] 24))
  replace hr := hr.up ((Up.refl w4).alloc (.cells #[.int .u64 0, .int .u64 0] 24))
  replace U := U.trans ((Up.refl w4).alloc (.cells #[.int .u64 0, .int .u64 0] 24))
  refine (norm_any _ _ 2 _ 0 (lit2 _ 0 0 _ _ _ rfl rfl (by omega) (by omega) rfl)).mono ?_
  rintro _ w5 ⟨vz, rfl, hz, hu5⟩
  replace hbig := hbig.up hu5
  replace hq := hq.up hu5
  replace hr := hr.up hu5
  replace U := U.trans hu5
  clear hu5
  go_wp2_with fail
  refine (div_zero _ _ _ _ _ _ _ _ hbig.nw hz.nw).mono ?_
  rintro _ w6 ⟨x1, x2, rfl, _, _, hu6⟩
  replace hbig := hbig.up hu6
  replace hq := hq.up hu6
  replace hr := hr.up hu6
  replace hz := hz.up hu6
  replace U := U.trans hu6
  clear hu6
  go_wp2_with fail
  refine (of_lit _ 1 _ rfl (by omega)).mono ?_
  rintro _ w7 ⟨vo, rfl, ho, hu7⟩
  replace hbig := hbig.up hu7
  replace hq := hq.up hu7
  replace hr := hr.up hu7
  replace U := U.trans hu7
  clear hu7
  go_wp2_with fail
  refine (subl _ _ _ _ _ _ _ ho.nw hbig.nw).mono ?_
  rintro _ w8 ⟨x3, rfl, _, hu8⟩
  replace hbig := hbig.up hu8
  replace hq := hq.up hu8
  replace hr := hr.up hu8
  replace ho := ho.up hu8
  replace U := U.trans hu8
  clear hu8
  go_wp2_with fail
  refine (parse1 _ (hEW.up U)).mono ?_
  rintro _ w9 ⟨vx, rfl, hx, hu9⟩
  replace hbig := hbig.up hu9
  replace hq := hq.up hu9
  replace hr := hr.up hu9
  replace U := U.trans hu9
  clear hu9
  go_wp2_with fail
  refine (parse2 _).mono ?_
  rintro _ w10 ⟨x4, rfl, _, hu10⟩
  replace hbig := hbig.up hu10
  replace hq := hq.up hu10
  replace hr := hr.up hu10
  replace hx := hx.up hu10
  replace U := U.trans hu10
  clear hu10
  go_wp2_with fail
  refine (word1 _ _ _ _ hbig.nw).mono ?_
  rintro _ _ ⟨rfl, rfl⟩
  go_wp2_with fail
  refine (text_of _ _ _ _ _ hbig.nw (by omega) (hTW.up U) _ dd_big).mono ?_
  rintro _ w12 ⟨rfl, hu12⟩
  replace hbig := hbig.up hu12
  replace hq := hq.up hu12
  replace hr := hr.up hu12
  replace hx := hx.up hu12
  replace U := U.trans hu12
  clear hu12
  go_wp2_with fail
  replace hbig := hbig.up ((Up.refl w12).alloc (.cells #[.int .u64 5, .int .u64 0] 24))
  replace hq := hq.up ((Up.refl w12).alloc (.cells #[.int .u64 5, .int .u64 0] 24))
  replace hr := hr.up ((Up.refl w12).alloc (.cells #[.int .u64 5, .int .u64 0] 24))
  replace hx := hx.up ((Up.refl w12).alloc (.cells #[.int .u64 5, .int .u64 0] 24))
  replace U := U.trans ((Up.refl w12).alloc (.cells #[.int .u64 5, .int .u64 0] 24))
  refine (norm_any _ _ 2 _ 5 (lit2 _ 5 0 _ _ _ rfl rfl (by omega) (by omega) rfl)).mono ?_
  rintro _ w13 ⟨vf, rfl, hf, hu13⟩
  replace hbig := hbig.up hu13
  replace hq := hq.up hu13
  replace hr := hr.up hu13
  replace hx := hx.up hu13
  replace U := U.trans hu13
  clear hu13
  go_wp2_with fail
  refine (text_of _ _ _ _ _ hf.nw (by omega) (hTW.up U) _ dd_5).mono ?_
  rintro _ w14 ⟨rfl, hu14⟩
  replace hbig := hbig.up hu14
  replace hq := hq.up hu14
  replace hr := hr.up hu14
  replace hx := hx.up hu14
  replace hf := hf.up hu14
  replace U := U.trans hu14
  clear hu14
  go_wp2_with fail
  refine (text_of _ 0 0 _ 0 (Nt.nil _ _ _).nw (by omega) (hTW.up U) _ dd_0).mono ?_
  rintro _ w15 ⟨rfl, hu15⟩
  replace hbig := hbig.up hu15
  replace hq := hq.up hu15
  replace hr := hr.up hu15
  replace hx := hx.up hu15
  replace U := U.trans hu15
  clear hu15
  go_wp2_with fail
  refine (of_zero _).mono ?_
  rintro _ w16 ⟨A0, c0, rfl, hu16⟩
  replace hbig := hbig.up hu16
  replace hq := hq.up hu16
  replace hr := hr.up hu16
  replace hx := hx.up hu16
  replace U := U.trans hu16
  clear hu16
  go_wp2_with fail
  refine (text_of _ _ _ _ _ hq.nw (by omega) (hTW.up U) _ dd_q).mono ?_
  rintro _ w17 ⟨rfl, hu17⟩
  replace hbig := hbig.up hu17
  replace hq := hq.up hu17
  replace hr := hr.up hu17
  replace hx := hx.up hu17
  replace U := U.trans hu17
  clear hu17
  go_wp2_with fail
  refine (text_of _ _ _ _ _ hr.nw (by omega) (hTW.up U) _ dd_r).mono ?_
  rintro _ w18 ⟨rfl, hu18⟩
  replace hbig := hbig.up hu18
  replace hq := hq.up hu18
  replace hr := hr.up hu18
  replace hx := hx.up hu18
  replace U := U.trans hu18
  clear hu18
  go_wp2_with fail
  refine (cmp_eq1 _ _ _ _ _ _ _ hx.nw hbig.nw).mono ?_
  rintro _ w19 ⟨rfl, kk19, hk19⟩
  have hu19 : Up w18 w19 := by rw [hk19]; exact (Up.refl _).drewN _
  clear hk19
  replace hbig := hbig.up hu19
  replace hq := hq.up hu19
  replace hr := hr.up hu19
  replace hx := hx.up hu19
  replace U := U.trans hu19
  clear hu19
  go_wp2_with fail
  refine (bits1 _ _ _ _ hbig.nw).mono ?_
  rintro _ _ ⟨rfl, rfl⟩
  go_wp2_with fail
  refine (bit64 _ _ _ _ hbig.nw).mono ?_
  rintro _ _ ⟨rfl, rfl⟩
  go_wp2_with fail
  refine (bit_neg _ _ _ (by omega)).mono ?_
  rintro _ _ ⟨rfl, rfl⟩
  go_wp2_with fail
  refine (even1 _ _ _ _ hbig.nw).mono ?_
  rintro _ _ ⟨rfl, rfl⟩
  go_wp2_with fail
  refine (pow20 _).mono ?_
  rintro _ w24 ⟨vp, rfl, hp, hu24⟩
  replace hbig := hbig.up hu24
  replace hq := hq.up hu24
  replace hr := hr.up hu24
  replace hx := hx.up hu24
  replace U := U.trans hu24
  clear hu24
  go_wp2_with fail
  refine (text_of _ _ _ _ _ hp.nw (by omega) (hTW.up U) _ dd_p).mono ?_
  rintro _ w25 ⟨rfl, hu25⟩
  replace hbig := hbig.up hu25
  replace hq := hq.up hu25
  replace hr := hr.up hu25
  replace hx := hx.up hu25
  replace hp := hp.up hu25
  replace U := U.trans hu25
  clear hu25
  go_wp2_with fail
  go_ret
  exact ⟨rfl, U⟩
end Go.Proofs.YtdokioefcfcfnaaDoor
