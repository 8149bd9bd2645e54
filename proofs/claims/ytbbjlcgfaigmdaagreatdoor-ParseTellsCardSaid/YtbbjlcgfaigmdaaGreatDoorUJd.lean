/-
  The laws of layer 10: of; what each law shows first.
-/
import Derived.Test.YtbbjlcgfaigmdaaGreatDoorUJp
namespace Go.Proofs.YtbbjlcgfaigmdaaGreatDoor
open Go.RowKit Go.Shelf
set_option linter.unusedSimpArgs false
set_option linter.unusedVariables false

namespace M
/-! The small cases, in numbers. -/
/-- Between two boundaries. -/
theorem nr_at {f : Fm} (ok : Ok f) (ok2 : Ok2 f) (ok3 : Ok3 f) {q k X m m' : Nat} {z z' : Int} (hq : (q : Int) ≤ tp f) (hk : k + 1 ≤ q) (h : Bd f k m z) (h' : Bd f (k + 1) m' z') (a : sz m z 0 < X) (b : X < sz m' z' 0) : Nr f q X (k + 1) false := by
  refine .inr ⟨rfl, hk, ?_, fun _ _ => by omega, fun j hj => .inl ?_⟩
  · rw [byd_iff ⟨m', z', h', rfl⟩]
    omega
  · exact byd_down ok ok2 ok3 (k' := k) (by omega) (by omega) ⟨_, ⟨m, z, h, rfl⟩, .inl a⟩
theorem nr_least {X : Nat} (x0 : X ≠ 0) (h1 : X < sz 1 (-24) 0) : Nr (tb 1) 127 X 1 false := by
  refine .inr ⟨rfl, by decide, ?_, fun _ _ => by decide, fun j hj => .inr ⟨rfl, x0, by omega⟩⟩
  rintro ⟨Y, ⟨m, z, h, rfl⟩, h2⟩
  have zb := bd_z (ok 1 (by decide) (by decide)) (ok2 1 (by decide) (by decide)) (ok3 1 (by decide) (by decide)) (k := 1) (by decide) h
  rcases gt_mid mg1 h with e | ⟨_, e⟩
  · omega
  · have := gt_sz (by omega) (by decide) e
    omega
theorem sz_le {m A B : Nat} {z : Int} (hm : m < 18446744073709551616) (hA : ((0 : Int) - bse).toNat ≤ A) (hB : (z - bse).toNat ≤ B) : sz m z 0 ≤ 18446744073709551616 * 5 ^ A * 2 ^ B := by
  unfold sz ov
  exact Nat.mul_le_mul (Nat.mul_le_mul (Nat.le_of_lt hm) (Nat.pow_le_pow_right (by decide) hA)) (Nat.pow_le_pow_right (by decide) hB)
theorem c_far : (18446744073709551616 : Nat) * 5 ^ 5000 * 2 ^ 8000 < sz 1 1000 1000 := by decide +kernel
theorem sz_far {m : Nat} {z : Int} (hm : m < 18446744073709551616) (hz : z ≤ 3000) : sz m z 0 < sz 1 1000 1000 :=
  Nat.lt_of_le_of_lt (sz_le (A := 5000) (B := 8000) hm (by decide) (by rw [bse_eq]; omega)) c_far
theorem szn_0 (d : Nat) (k : Int) (ct : Bool) : szn ⟨d, k, 0, ct⟩ = sz d k k := by
  unfold szn
  rw [if_pos rfl]
theorem szn_1 (d : Nat) (k : Int) (ct : Bool) : szn ⟨d, k, 1, ct⟩ = sz 1 (1000 * 1) (1000 * 1) := by
  unfold szn
  rw [if_neg (show ¬ ((1 : Int) = 0) by decide)]
theorem far_1 : sz 1 (1000 * 1) (1000 * 1) = sz 1 1000 1000 := by rw [show (1000 : Int) * 1 = 1000 from by decide]
theorem nr_far {f : Fm} (ok : Ok f) (ok2 : Ok2 f) (ok3 : Ok3 f) {q : Nat} (hq : (q : Int) ≤ tp f) : Nr f q (sz 1 1000 1000) q true := by
  obtain ⟨m, z, h⟩ := bd_ex ok ok2 hq
  have zb := bd_z ok ok2 ok3 hq h
  exact .inl ⟨rfl, rfl, _, ⟨m, z, h, rfl⟩, .inl (sz_far zb.2.1 zb.2.2.2)⟩
theorem bd14 {k m : Nat} {z : Int} (h : mok 53 1023 (2 * k + 1)) (h2 : m % 2 = 1) (h3 : mX 53 (2 * k + 1) = m) (h4 : mS 53 1023 (2 * k + 1) = z) : Bd (tb 14) k m z :=
  .inr (.inl ⟨rfl, 52, by decide, rfl, h, .inr ⟨h2, 0, by rw [h3, Nat.pow_zero, Nat.mul_one], by rw [← h4]; exact (Int.add_zero _).symm⟩⟩)
theorem jc_num {i : Nat} (a : 1 ≤ i) (b : i ≤ 14) {mode : Int} (hm : mode = 1 ∨ mode = 2) {l : List UInt8} {neg : Bool} {d : Nat} {k bg : Int} {ct : Bool} (h : rs l = (⟨1, neg, ⟨d, k, bg, ct⟩⟩, 0, 0)) {X : Nat} (hX : szn ⟨d, k, bg, ct⟩ = X) {p : Int} (hp : Rv (tb i) mode neg X p) : Jc i mode l p 0 0 :=
  jc_of a b hm h (.inr ⟨rfl, by rw [← hX] at hp; exact hp, rfl, rfl⟩)
theorem jc_word {i : Nat} (a : 1 ≤ i) (b : i ≤ 14) {mode : Int} (hm : mode = 1 ∨ mode = 2) {l : List UInt8} {K : Nat} {neg : Bool} (h : rs l = (⟨K, neg, ⟨0, 0, 0, false⟩⟩, 0, 0)) (hK : K ≠ 1) {p : Int} {n : Nat} {e : Int} (hq : Wq (tb i) K neg p n e) : Jc i mode l p n e :=
  jc_of a b hm h (.inl ⟨hK, hq⟩)
theorem j1 : Jc 7 1 [45, 105, 110, 102] 0 1 5 := jc_word (i := 7) (K := 2) (neg := true) (by decide) (by decide) (.inl rfl) (by kernel_rfl) (by decide) (.inr (.inr (.inr ⟨by decide, by decide, by decide, rfl, rfl, rfl⟩)))
theorem j2 : Jc 1 2 [49, 46, 53, 120] 0 3 2 := .inr ⟨1, rfl, by decide, by decide, .inr ⟨.inr rfl, ⟨0, false, ⟨0, 0, 0, false⟩⟩, 3, 2, by kernel_rfl, .inl ⟨by decide, rfl, rfl, rfl⟩⟩⟩
theorem j3 : Jc 99 2 [120] 0 0 3 := .inl ⟨by decide, rfl, rfl, rfl⟩
theorem j4 : Jc 1 3 [120] 0 0 1 := .inr ⟨1, rfl, by decide, by decide, .inl ⟨by decide, rfl, rfl, rfl⟩⟩
theorem j5 : Jc 1 2 [45, 78, 97, 82] 0 1 5 := jc_word (i := 1) (K := 4) (neg := true) (by decide) (by decide) (.inr rfl) (by kernel_rfl) (by decide) (.inr (.inr (.inr ⟨by decide, by decide, by decide, rfl, rfl, rfl⟩)))
theorem sz464 : sz 464 0 0 = sz 29 4 0 := sz_two 29 4
theorem o1' : Jc 5 2 [52, 54, 52] 126 0 0 := jc_num (i := 5) (by decide) (by decide) (.inr rfl) (neg := false) (d := 464) (k := 0) (bg := 0) (ct := false) (by kernel_rfl) ((szn_0 464 0 false).trans sz464)
  (.inr ⟨by decide, 126, 126, false, by decide, nr_on (ok 5 (by decide) (by decide)) (ok2 5 (by decide) (by decide)) (ok3 5 (by decide) (by decide)) (by decide) (by decide) (by decide) (by decide) bd5, .inr ⟨fun e => (by cases e.1), by decide⟩⟩)
theorem o2' : Jc 5 2 [52, 54, 52, 46, 49] 127 0 0 := jc_num (i := 5) (by decide) (by decide) (.inr rfl) (neg := false) (d := 4641) (k := -1) (bg := 0) (ct := false) (by kernel_rfl) (szn_0 4641 (-1) false)
  (.inr ⟨by decide, 126, 126, true, by decide, .inl ⟨rfl, rfl, _, ⟨29, 4, bd5, rfl⟩, .inl (by decide +kernel)⟩, .inl ⟨rfl, by unfold st; decide, by decide⟩⟩)
theorem o3' : Jc 1 2 [49, 101, 45, 57, 57] 1 0 0 := jc_num (i := 1) (by decide) (by decide) (.inr rfl) (neg := false) (d := 1) (k := -99) (bg := 0) (ct := false) (by kernel_rfl) (szn_0 1 (-99) false)
  (.inr ⟨by decide, 127, 1, false, by decide, nr_least (by decide +kernel) (by decide +kernel), .inr ⟨fun e => (by cases e.1), by decide⟩⟩)
theorem o4' : Jc 1 2 [45, 49, 101, 57, 57, 57, 57] 129 0 0 := jc_num (i := 1) (by decide) (by decide) (.inr rfl) (neg := true) (d := 0) (k := 0) (bg := 1) (ct := false) (by kernel_rfl) ((szn_1 0 0 false).trans far_1)
  (.inr ⟨by decide, 127, 127, true, by decide, nr_far (ok 1 (by decide) (by decide)) (ok2 1 (by decide) (by decide)) (ok3 1 (by decide) (by decide)) (by decide), .inr ⟨fun e => e.2 (.inr (.inl rfl)), by decide⟩⟩)
theorem o5' : Jc 1 2 [78, 97, 82] 128 0 0 := jc_word (i := 1) (K := 4) (neg := false) (by decide) (by decide) (.inr rfl) (by kernel_rfl) (by decide) (.inr (.inr (.inl ⟨rfl, rfl, rfl, rfl, rfl, rfl⟩)))
theorem o6' : Jc 6 2 [45, 105, 110, 102] 252 0 0 := jc_word (i := 6) (K := 2) (neg := true) (by decide) (by decide) (.inr rfl) (by kernel_rfl) (by decide) (.inl ⟨rfl, by decide, by decide, rfl, rfl⟩)
theorem o7' : Jc 6 2 [45, 110, 97, 110] 126 0 0 := jc_word (i := 6) (K := 3) (neg := true) (by decide) (by decide) (.inr rfl) (by kernel_rfl) (by decide) (.inr (.inl ⟨rfl, by decide, by decide, rfl, rfl, rfl⟩))
theorem o8' : Jc 14 2 [48, 46, 49] 4591870180066957722 0 0 := jc_num (i := 14) (by decide) (by decide) (.inr rfl) (neg := false) (d := 1) (k := -1) (bg := 0) (ct := false) (by kernel_rfl) (szn_0 1 (-1) false)
  (.inr ⟨by decide, 9218868437227405311, 4591870180066957722, false, by decide, nr_at (k := 4591870180066957721) (ok 14 (by decide) (by decide)) (ok2 14 (by decide) (by decide)) (ok3 14 (by decide) (by decide)) (by decide) (by decide)
    (bd14 (m := 14411518807585587) (z := -57) (by unfold mok; decide +kernel) (by decide) (by decide +kernel) (by decide +kernel)) (bd14 (m := 14411518807585589) (z := -57) (by unfold mok; decide +kernel) (by decide) (by decide +kernel) (by decide +kernel)) (by decide +kernel) (by decide +kernel), .inr ⟨fun e => (by cases e.1), by decide⟩⟩)
theorem o9' : Jc 13 2 [45, 48] 2147483648 0 0 := jc_num (i := 13) (by decide) (by decide) (.inr rfl) (neg := true) (d := 0) (k := 0) (bg := 0) (ct := false) (by kernel_rfl) ((szn_0 0 0 false).trans (sz_zero.2 rfl))
  (.inr ⟨by decide, 2139095039, 0, false, by decide, nr_zero, .inr ⟨fun e => (by cases e.1), by decide⟩⟩)
theorem mg10 : Mg0 (tb 10) 128 1 1 := .inr ⟨.inl (by decide), .inr (.inr (.inl ⟨rfl, by decide, by decide, by decide, 7, by decide, by decide⟩))⟩
theorem o10' : Jc 10 2 [45, 50] 128 0 0 := jc_num (i := 10) (by decide) (by decide) (.inr rfl) (neg := true) (d := 2) (k := 0) (bg := 0) (ct := false) (by kernel_rfl) ((szn_0 2 0 false).trans (sz_two 1 1))
  (.inr ⟨by decide, 128, 128, false, by decide, nr_has (ok 10 (by decide) (by decide)) (ok2 10 (by decide) (by decide)) (ok3 10 (by decide) (by decide)) (by decide) (by decide) mg10, .inr ⟨fun e => (by cases e.1), by decide⟩⟩)
end M
/-- What a law comes to that is true. -/
def True10 (w : World) (e : Ending) (w' : World) : Prop := e = .returned (.bool true) ∧ Up w w'
set_option maxHeartbeats 1500000 in
set_option maxRecDepth 100000 in
theorem of10_any (w : World) (L : Hid (Lp w)) (ii : Int) (s : ByteArray) (l : List UInt8) (hl : Hid (s.data.toList = l)) (hs : s.size ≤ 1000000) (p : Int) (h : M.Jc ii 2 l p 0 0) : Calls Tryz.prog 29 #[.int .i64 ii, .string s] w (fun e w' => e = .returned (.int .u64 p) ∧ Up w w') := by
  have CP := Lib.hid (jparse_any w L ii 2 s l hl hs p 0 0 h)
  clear hl hs h
  have U := Up.refl w
  go_enter Tryz.func29, Tryz.ntmps29
  go_wp2_with fail
  refine CP.out.mono ?_
  rintro _ W1 ⟨rfl, u1⟩
  replace U := U.trans u1
  clear u1 CP
  go_wp2_with fail
  go_ret
  exact ⟨rfl, U⟩
set_option maxHeartbeats 3000000 in
set_option maxRecDepth 100000 in
theorem shown10_any (w : World) (L : Hid (Lp w)) : Calls Tryz.prog 10 #[] w (True10 w) := by
  have C0 := Lib.hid (fun W (L : Lp W) => show Calls Tryz.prog 11 #[.int .i64 7, .int .i64 1, .string ⟨#[45, 105, 110, 102]⟩] W (Pn 0 1 5 W) from jparse_any W (Lib.hid L) 7 1 ⟨#[45, 105, 110, 102]⟩ [45, 105, 110, 102] (Lib.hid rfl) (show (4 : Nat) ≤ 1000000 by decide) 0 1 5 M.j1)
  have C1 := Lib.hid (fun W (L : Lp W) => show Calls Tryz.prog 11 #[.int .i64 1, .int .i64 2, .string ⟨#[49, 46, 53, 120]⟩] W (Pn 0 3 2 W) from jparse_any W (Lib.hid L) 1 2 ⟨#[49, 46, 53, 120]⟩ [49, 46, 53, 120] (Lib.hid rfl) (show (4 : Nat) ≤ 1000000 by decide) 0 3 2 M.j2)
  have C2 := Lib.hid (fun W (L : Lp W) => show Calls Tryz.prog 11 #[.int .i64 99, .int .i64 2, .string ⟨#[120]⟩] W (Pn 0 0 3 W) from jparse_any W (Lib.hid L) 99 2 ⟨#[120]⟩ [120] (Lib.hid rfl) (show (1 : Nat) ≤ 1000000 by decide) 0 0 3 M.j3)
  have C3 := Lib.hid (fun W (L : Lp W) => show Calls Tryz.prog 11 #[.int .i64 1, .int .i64 3, .string ⟨#[120]⟩] W (Pn 0 0 1 W) from jparse_any W (Lib.hid L) 1 3 ⟨#[120]⟩ [120] (Lib.hid rfl) (show (1 : Nat) ≤ 1000000 by decide) 0 0 1 M.j4)
  have C4 := Lib.hid (fun W (L : Lp W) => show Calls Tryz.prog 11 #[.int .i64 1, .int .i64 2, .string ⟨#[45, 78, 97, 82]⟩] W (Pn 0 1 5 W) from jparse_any W (Lib.hid L) 1 2 ⟨#[45, 78, 97, 82]⟩ [45, 78, 97, 82] (Lib.hid rfl) (show (4 : Nat) ≤ 1000000 by decide) 0 1 5 M.j5)
  have C5 := Lib.hid (fun W (L : Lp W) => show Calls Tryz.prog 29 #[.int .i64 5, .string ⟨#[52, 54, 52]⟩] W (fun e w' => e = .returned (.int .u64 126) ∧ Up W w') from of10_any W (Lib.hid L) 5 ⟨#[52, 54, 52]⟩ [52, 54, 52] (Lib.hid rfl) (show (3 : Nat) ≤ 1000000 by decide) 126 M.o1')
  have C6 := Lib.hid (fun W (L : Lp W) => show Calls Tryz.prog 29 #[.int .i64 5, .string ⟨#[52, 54, 52, 46, 49]⟩] W (fun e w' => e = .returned (.int .u64 127) ∧ Up W w') from of10_any W (Lib.hid L) 5 ⟨#[52, 54, 52, 46, 49]⟩ [52, 54, 52, 46, 49] (Lib.hid rfl) (show (5 : Nat) ≤ 1000000 by decide) 127 M.o2')
  have C7 := Lib.hid (fun W (L : Lp W) => show Calls Tryz.prog 29 #[.int .i64 1, .string ⟨#[49, 101, 45, 57, 57]⟩] W (fun e w' => e = .returned (.int .u64 1) ∧ Up W w') from of10_any W (Lib.hid L) 1 ⟨#[49, 101, 45, 57, 57]⟩ [49, 101, 45, 57, 57] (Lib.hid rfl) (show (5 : Nat) ≤ 1000000 by decide) 1 M.o3')
  have C8 := Lib.hid (fun W (L : Lp W) => show Calls Tryz.prog 29 #[.int .i64 1, .string ⟨#[45, 49, 101, 57, 57, 57, 57]⟩] W (fun e w' => e = .returned (.int .u64 129) ∧ Up W w') from of10_any W (Lib.hid L) 1 ⟨#[45, 49, 101, 57, 57, 57, 57]⟩ [45, 49, 101, 57, 57, 57, 57] (Lib.hid rfl) (show (7 : Nat) ≤ 1000000 by decide) 129 M.o4')
  have C9 := Lib.hid (fun W (L : Lp W) => show Calls Tryz.prog 29 #[.int .i64 1, .string ⟨#[78, 97, 82]⟩] W (fun e w' => e = .returned (.int .u64 128) ∧ Up W w') from of10_any W (Lib.hid L) 1 ⟨#[78, 97, 82]⟩ [78, 97, 82] (Lib.hid rfl) (show (3 : Nat) ≤ 1000000 by decide) 128 M.o5')
  have C10 := Lib.hid (fun W (L : Lp W) => show Calls Tryz.prog 29 #[.int .i64 6, .string ⟨#[45, 105, 110, 102]⟩] W (fun e w' => e = .returned (.int .u64 252) ∧ Up W w') from of10_any W (Lib.hid L) 6 ⟨#[45, 105, 110, 102]⟩ [45, 105, 110, 102] (Lib.hid rfl) (show (4 : Nat) ≤ 1000000 by decide) 252 M.o6')
  have C11 := Lib.hid (fun W (L : Lp W) => show Calls Tryz.prog 29 #[.int .i64 6, .string ⟨#[45, 110, 97, 110]⟩] W (fun e w' => e = .returned (.int .u64 126) ∧ Up W w') from of10_any W (Lib.hid L) 6 ⟨#[45, 110, 97, 110]⟩ [45, 110, 97, 110] (Lib.hid rfl) (show (4 : Nat) ≤ 1000000 by decide) 126 M.o7')
  have C12 := Lib.hid (fun W (L : Lp W) => show Calls Tryz.prog 29 #[.int .i64 14, .string ⟨#[48, 46, 49]⟩] W (fun e w' => e = .returned (.int .u64 4591870180066957722) ∧ Up W w') from of10_any W (Lib.hid L) 14 ⟨#[48, 46, 49]⟩ [48, 46, 49] (Lib.hid rfl) (show (3 : Nat) ≤ 1000000 by decide) 4591870180066957722 M.o8')
  have C13 := Lib.hid (fun W (L : Lp W) => show Calls Tryz.prog 29 #[.int .i64 13, .string ⟨#[45, 48]⟩] W (fun e w' => e = .returned (.int .u64 2147483648) ∧ Up W w') from of10_any W (Lib.hid L) 13 ⟨#[45, 48]⟩ [45, 48] (Lib.hid rfl) (show (2 : Nat) ≤ 1000000 by decide) 2147483648 M.o9')
  have C14 := Lib.hid (fun W (L : Lp W) => show Calls Tryz.prog 29 #[.int .i64 10, .string ⟨#[45, 50]⟩] W (fun e w' => e = .returned (.int .u64 128) ∧ Up W w') from of10_any W (Lib.hid L) 10 ⟨#[45, 50]⟩ [45, 50] (Lib.hid rfl) (show (2 : Nat) ≤ 1000000 by decide) 128 M.o10')
  have U := Up.refl w
  go_enter Tryz.func10, Tryz.ntmps10
  go_wp2_with fail
  refine (C0.out _ (L.out.up U)).mono ?_
  rintro _ w1 ⟨rfl, u1⟩
  replace U := U.trans u1
  clear u1 C0
  go_wp2_with fail
  refine (C1.out _ (L.out.up U)).mono ?_
  rintro _ w2 ⟨rfl, u2⟩
  replace U := U.trans u2
  clear u2 C1
  go_wp2_with fail
  refine (C2.out _ (L.out.up U)).mono ?_
  rintro _ w3 ⟨rfl, u3⟩
  replace U := U.trans u3
  clear u3 C2
  go_wp2_with fail
  refine (C3.out _ (L.out.up U)).mono ?_
  rintro _ w4 ⟨rfl, u4⟩
  replace U := U.trans u4
  clear u4 C3
  go_wp2_with fail
  refine (C4.out _ (L.out.up U)).mono ?_
  rintro _ w5 ⟨rfl, u5⟩
  replace U := U.trans u5
  clear u5 C4
  go_wp2_with fail
  refine (C5.out _ (L.out.up U)).mono ?_
  rintro _ w6 ⟨rfl, u6⟩
  replace U := U.trans u6
  clear u6 C5
  go_wp2_with fail
  refine (C6.out _ (L.out.up U)).mono ?_
  rintro _ w7 ⟨rfl, u7⟩
  replace U := U.trans u7
  clear u7 C6
  go_wp2_with fail
  refine (C7.out _ (L.out.up U)).mono ?_
  rintro _ w8 ⟨rfl, u8⟩
  replace U := U.trans u8
  clear u8 C7
  go_wp2_with fail
  refine (C8.out _ (L.out.up U)).mono ?_
  rintro _ w9 ⟨rfl, u9⟩
  replace U := U.trans u9
  clear u9 C8
  go_wp2_with fail
  refine (C9.out _ (L.out.up U)).mono ?_
  rintro _ w10 ⟨rfl, u10⟩
  replace U := U.trans u10
  clear u10 C9
  go_wp2_with fail
  refine (C10.out _ (L.out.up U)).mono ?_
  rintro _ w11 ⟨rfl, u11⟩
  replace U := U.trans u11
  clear u11 C10
  go_wp2_with fail
  refine (C11.out _ (L.out.up U)).mono ?_
  rintro _ w12 ⟨rfl, u12⟩
  replace U := U.trans u12
  clear u12 C11
  go_wp2_with fail
  refine (C12.out _ (L.out.up U)).mono ?_
  rintro _ w13 ⟨rfl, u13⟩
  replace U := U.trans u13
  clear u13 C12
  go_wp2_with fail
  refine (C13.out _ (L.out.up U)).mono ?_
  rintro _ w14 ⟨rfl, u14⟩
  replace U := U.trans u14
  clear u14 C13
  go_wp2_with fail
  refine (C14.out _ (L.out.up U)).mono ?_
  rintro _ w15 ⟨rfl, u15⟩
  replace U := U.trans u15
  clear u15 C14
  go_wp2_with fail
  go_ret
  exact ⟨rfl, U⟩
end Go.Proofs.YtbbjlcgfaigmdaaGreatDoor
