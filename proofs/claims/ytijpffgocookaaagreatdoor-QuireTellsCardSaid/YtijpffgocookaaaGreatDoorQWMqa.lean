import Derived.Test.YtijpffgocookaaaGreatDoorQWObm
import Derived.Test.YtijpffgocookaaaGreatDoorQWPm
import Derived.Shelf.Spec.TrailingZeros
import Derived.WalkLawsBesides
import Derived.Lib.Hide
import Derived.Test.YtijpffgocookaaaGreatDoorQWMra
import Derived.BigQuiet
set_option maxHeartbeats 32000000
set_option linter.unusedVariables false
set_option linter.unusedSimpArgs false
namespace Go.Proofs.YtijpffgocookaaaGreatDoor
open Go.RowKit Go.Shelf
def Tz (w : World) : Prop := TabAt 3 Lib.deBruijn64tab w
theorem Tz.up {w w' : World} (h : Tz w) (hu : Up w w') : Tz w' := fun j hj => by
 have h1 := h j hj
 rw [Below.cell (p := ⟨3, j, none⟩) hu (World.block_lt_of_cell? _ _ h1)]
 exact h1
theorem ctz_is {x m t : Nat} (hx : x < 18446744073709551616) (hm : x = m * 2 ^ t) (ho : m % 2 = 1) : Lib.ctz 64 x = t := by
 have p := M.p2 t
 have h0 : x ≠ 0 := by
  have : 0 < m * 2 ^ t := Nat.mul_pos (by omega) p
  omega
 obtain ⟨h1, _⟩ := Lib.lowest_bit 64 x h0 hx
 have e : x = 2 ^ t * (2 * (m / 2) + 1) := by rw [show 2 * (m / 2) + 1 = m by omega, hm, Nat.mul_comm]
 have h2 := Lib.and_neg 64 t (m / 2) (by rw [← e]; exact hx)
 rw [← e] at h2
 exact Nat.pow_right_inj (by decide) |>.1 (h1.symm.trans h2)
theorem tz_core (x k idx : Nat) (w : World) (hx0 : ((x : Int) == 0) = false)
  (key : IntKind.u64.wrap (bits BinOp.and IntKind.u64 (x : Int) (IntKind.u64.wrap (-(x : Int))) * 285870213051353865) / 288230376151711744 = (idx : Int))
  (hi : idx < 64) (hk : k < 64) (hcell : w.cell? ⟨3, idx, none⟩ = some (.int .u8 k)) :
  Calls Tryz.prog 168 #[u64 x] w (Same (.int .i64 (k : Int)) w) := by
 go_enter Tryz.func168, Tryz.ntmps168
 go_wp2_with (simp only [key])
 go_ret
 exact ⟨rfl, rfl⟩
theorem tz_any (w : World) (T : Tz w) (x m t : Nat) (hx : x < 18446744073709551616) (hm : x = m * 2 ^ t) (ho : m % 2 = 1) :
  Calls Tryz.prog 168 #[u64 x] w (Same (.int .i64 (t : Int)) w) := by
 have hc := ctz_is hx hm ho
 have h0 : x ≠ 0 := by
  have : 0 < m * 2 ^ t := Nat.mul_pos (by omega) (M.p2 t)
  omega
 obtain ⟨hlow, hk⟩ := Lib.lowest_bit 64 x h0 hx
 rw [hc] at hlow hk
 obtain ⟨hi, htab⟩ := Lib.deBruijn64_at _ hk
 have hcell := T _ hi
 rw [htab] at hcell
 exact tz_core x t _ w (by simp; omega) (tz64_key x _ hx h0 hlow) hi hk hcell
theorem and_pn (a b : Nat) (h : a < 18446744073709551616) (hb : b ≤ 63) : bits BinOp.and IntKind.u64 (a : Int) (((2 ^ b : Nat) : Int) - 1) = ((a % 2 ^ b : Nat) : Int) := by
 have p := M.p2 b
 have l : 2 ^ b ≤ 2 ^ 63 := M.p2le hb
 have e : (2 : Nat) ^ 63 = 9223372036854775808 := by decide
 have := bits_and_u64_nat a (2 ^ b - 1) h (by omega)
 rw [show ((2 ^ b : Nat) : Int) - 1 = ((2 ^ b - 1 : Nat) : Int) by omega, this, Nat.and_two_pow_sub_one_eq_mod]
end Go.Proofs.YtijpffgocookaaaGreatDoor
namespace Go.Proofs.YtijpffgocookaaaGreatDoor
open Go.RowKit
def S3 (f m : Nat) (x : Int) (w : World) (e : Ending) (w' : World) : Prop := e = .returned (.tuple #[u64 f, u64 m, .int .i64 x]) ∧ Up w w'
def Vn6 (m : Nat) (z x : Int) (w : World) (e : Ending) (w' : World) : Prop := e = .returned (.tuple #[u64 m, .int .i64 z, .int .i64 x]) ∧ Up w w'
namespace M
end M
theorem isMan_any (w : World) (x : Int) (b : Bool) (h : decide (0 ≤ x ∧ x ≤ 60) = b) : Calls Tryz.prog 193 #[.int .i64 x] w (Same (.bool b) w) := by
 by_cases h1 : 0 ≤ x
 ·have d1 : decide (0 ≤ x) = true := decide_eq_true h1
  have d2 : decide (x ≤ 60) = b := by rw [← h]; simp [h1]
  clear h
  go_enter Tryz.func193, Tryz.ntmps193
  go_wp2_with fail
  go_ret
  exact ⟨by first | rfl | exact ret_bool d2, rfl⟩
 ·have d1 : decide (0 ≤ x) = false := decide_eq_false h1
  obtain rfl : false = b := by rw [← h]; simp [h1]
  clear h
  go_enter Tryz.func193, Tryz.ntmps193
  go_wp2_with fail
  go_ret
  exact ⟨rfl, rfl⟩
theorem isBias_any (w : World) (x : Int) (b : Bool) (h : decide (-2000 ≤ x ∧ x ≤ 2000) = b) : Calls Tryz.prog 185 #[.int .i64 x] w (Same (.bool b) w) := by
 by_cases h1 : -2000 ≤ x
 ·have d1 : decide (-2000 ≤ x) = true := decide_eq_true h1
  have d2 : decide (x ≤ 2000) = b := by rw [← h]; simp [h1]
  clear h
  go_enter Tryz.func185, Tryz.ntmps185
  go_wp2_with fail
  go_ret
  exact ⟨by first | rfl | exact ret_bool d2, rfl⟩
 ·have d1 : decide (-2000 ≤ x) = false := decide_eq_false h1
  obtain rfl : false = b := by rw [← h]; simp [h1]
  clear h
  go_enter Tryz.func185, Tryz.ntmps185
  go_wp2_with fail
  go_ret
  exact ⟨rfl, rfl⟩
theorem unit_any (w : World) (p f : Nat) (b : Int) (hp : p ≤ 60) (b1 : -2000 ≤ b) (b2 : b ≤ 2000) (hf : f ≤ 100000) :
  Calls Tryz.prog 186 #[.int .i64 (p : Int), .int .i64 b, .int .i64 (f : Int)] w (Same (.int .i64 ((f : Int) - b - p)) w) := by
 go_enter Tryz.func186, Tryz.ntmps186
 go_wp2_with fail
 go_ret
 exact ⟨by first | rfl | exact ret_int (by omega), rfl⟩
theorem pow_small6 {p P : Nat} (h : 2 ^ p = P) (hp : p ≤ 63) : 0 < P ∧ P ≤ 9223372036854775808 := by
 rw [← h]
 have h1 := M.p2le (a := p) (b := 63) hp
 have h2 : (2 : Nat) ^ 63 = 9223372036854775808 := by decide
 exact ⟨M.p2 p, by omega⟩
namespace M
end M
open Go.Shelf
theorem msplit_any (w : World) (p k f m : Nat) (hp : p ≤ 60) (hk : k < 18446744073709551616) (h4 : k / 2 ^ p ≤ 4095) (hf : k / 2 ^ p = f) (hm : k % 2 ^ p = m) :
  Calls Tryz.prog 184 #[.int .i64 (p : Int), u64 k] w (S3 f m 0 w) := by
 have CM := Lib.hid (fun W => isMan_any W (p : Int) true (decide_eq_true (by omega)))
 have an := and_pn k p hk (by omega)
 rw [hm] at an
 have sh := shr_cast hf
 rw [hf] at h4
 obtain ⟨P, hP⟩ : ∃ P : Nat, 2 ^ p = P := ⟨_, rfl⟩
 have pz : (2 : Int) ^ p = (P : Int) := by rw [← hP]; push_cast; rfl
 have hPs := pow_small6 hP (by omega)
 rw [hP] at an
 have sh2 : (k : Int) / (P : Int) = (f : Int) := by rw [← pz]; exact sh
 have d4 : decide (4095 < (f : Int)) = false := decide_eq_false (by omega)
 have U := Up.refl w
 clear hf hm hP
 go_enter Tryz.func184, Tryz.ntmps184
 go_wp2_with fail
 refine (CM.out _).mono ?_
 rintro _ _ ⟨rfl, rfl⟩
 go_wp2_with fail
 go_quiet (fail)
 go_wp2_with fail
 go_ret3
 exact ⟨rfl, by first | exact U | exact U.drewN _⟩
theorem mvalue_any (w : World) (TW : Hid (Tz w)) (p k m : Nat) (b z : Int) (hk : k < 18446744073709551616) (ho : M.mok p b k) (h : M.IsM p b k m z) :
  Calls Tryz.prog 167 #[.int .i64 (p : Int), .int .i64 b, u64 k] w (Vn6 m z 0 w) := by
 have U := Up.refl w
 have CM := Lib.hid (fun W => msplit_any W p k _ _ ho.1 hk ho.2.2.2 rfl rfl)
 have CB := Lib.hid (fun W => isBias_any W b true (decide_eq_true ⟨ho.2.1, ho.2.2.1⟩))
 have hl := (M.key_parts p k).2
 have h0 := h.zero.1
 have hX : M.mX p k = if k / 2 ^ p = 0 then k % 2 ^ p else k % 2 ^ p + 2 ^ p := rfl
 have hS : M.mS p b k = if k / 2 ^ p = 0 then 1 - b - p else (k / 2 ^ p : Nat) - b - p := rfl
 obtain ⟨p60, b1, b2, h4⟩ := ho
 have hf0 : k / 2 ^ p ≠ 0 → k ≠ 0 := by rintro h rfl; simp at h
 obtain ⟨f, hf⟩ : ∃ f, k / 2 ^ p = f := ⟨_, rfl⟩
 obtain ⟨a, ha⟩ : ∃ a, k % 2 ^ p = a := ⟨_, rfl⟩
 rw [ha] at hl hX CM
 rw [hf] at hX hS h4 CM hf0
 clear hf ha
 rcases h with ⟨g1, rfl, rfl⟩ | ⟨g1, t, g2, g3⟩
 ·obtain rfl : k = 0 := h0.1 rfl
  clear hX hS g1 h0 hf0 hl
  go_enter Tryz.func167, Tryz.ntmps167
  go_wp2_with fail
  refine (CM.out _).mono ?_
  rintro _ w1 ⟨rfl, h1⟩
  replace U := U.trans h1
  clear h1
  go_wp2_with fail
  refine (CB.out _).mono ?_
  rintro _ _ ⟨rfl, rfl⟩
  go_wp2_with fail
  go_ret3
  exact ⟨rfl, U⟩
 ·have k0 : ((k : Int) == 0) = false := by
   rw [beq_eq_false_iff_ne]
   have : m ≠ 0 := by omega
   have : k ≠ 0 := fun e => this (h0.2 e)
   omega
  clear h0 hf0
  have h60 : 2 ^ p ≤ 2 ^ 60 := M.p2le p60
  have c60 : (2 : Nat) ^ 60 = 1152921504606846976 := by decide
  have t64 : t < 64 := by
   refine M.p2inj (a := t) (b := 64) ?_
   have c64 : (2 : Nat) ^ 64 = 18446744073709551616 := by decide
   have p3 : 2 ^ t ≤ m * 2 ^ t := Nat.le_mul_of_pos_left _ (by omega)
   have := M.mX_lt p k
   omega
  rw [g2] at hX
  by_cases c : f = 0
  ·subst c
   rw [if_pos rfl] at hX hS
   rw [hS] at g3
   have a64 : a < 18446744073709551616 := by omega
   have CT := Lib.hid (fun W (T : Tz W) => tz_any W T a m t a64 hX.symm g1)
   have CU := Lib.hid (fun W => unit_any W p 1 b p60 b1 b2 (by decide))
   have dv : (a : Int) / 2 ^ t = (m : Int) := shr_cast (by rw [← hX]; exact Nat.mul_div_cancel _ (M.p2 t))
   have z1 : (1 : Int) - b - p + t = z := by omega
   clear hX hS g2 g3 g1 hl h60 c60
   go_enter Tryz.func167, Tryz.ntmps167
   go_wp2_with fail
   refine (CM.out _).mono ?_
   rintro _ w1 ⟨rfl, h1⟩
   replace U := U.trans h1
   clear h1
   go_wp2_with fail
   refine (CB.out _).mono ?_
   rintro _ _ ⟨rfl, rfl⟩
   go_wp2_with fail
   refine (CT.out _ (TW.out.up U)).mono ?_
   rintro _ _ ⟨rfl, rfl⟩
   go_wp2_with fail
   go_quiet ((go_at_call 186; exact Same.quiet (CU.out _)))
   go_wp2_with fail
   go_ret3
   exact ⟨by first | rfl | exact ret_3 rfl (by omega), by first | exact U | exact U.drewN _⟩
  ·rw [if_neg c] at hX hS
   rw [hS] at g3
   obtain ⟨P, hP⟩ : ∃ P : Nat, 2 ^ p = P := ⟨_, rfl⟩
   have pz : (2 : Int) ^ p = (P : Int) := by rw [← hP]; push_cast; rfl
   have P60 : P ≤ 1152921504606846976 := by
    rw [← hP]
    have h1 := M.p2le (b := 60) p60
    have h2 : (2 : Nat) ^ 60 = 1152921504606846976 := by decide
    omega
   rw [hP] at hl hX
   obtain ⟨X, hX'⟩ : ∃ X, a + P = X := ⟨_, rfl⟩
   rw [hX'] at hX
   have CT := Lib.hid (fun W (T : Tz W) => tz_any W T X m t (by omega) hX.symm g1)
   have CU := Lib.hid (fun W => unit_any W p f b p60 b1 b2 (by omega))
   have dv : (X : Int) / 2 ^ t = (m : Int) := shr_cast (by rw [← hX]; exact Nat.mul_div_cancel _ (M.p2 t))
   have z1 : (f : Int) - b - p + t = z := by omega
   have xz : (a : Int) + (P : Int) = (X : Int) := by omega
   have xb : X < 9223372036854775808 := by omega
   have xw : IntKind.u64.wrap (X : Int) = (X : Int) := by rw [IntKind.wrap_u64]; omega
   have f0 : ((f : Int) != 0) = true := by simpa using c
   have f1 : ¬ (f : Int) < 1 := by omega
   clear hX hS g2 g3 g1 hl hP h60 c60
   go_enter Tryz.func167, Tryz.ntmps167
   go_wp2_with fail
   refine (CM.out _).mono ?_
   rintro _ w1 ⟨rfl, h1⟩
   replace U := U.trans h1
   clear h1
   go_wp2_with fail
   refine (CB.out _).mono ?_
   rintro _ _ ⟨rfl, rfl⟩
   go_wp2_with fail
   refine (CT.out _ (TW.out.up U)).mono ?_
   rintro _ _ ⟨rfl, rfl⟩
   go_wp2_with fail
   go_quiet ((go_at_call 186; exact Same.quiet (CU.out _)))
   go_wp2_with fail
   go_ret3
   exact ⟨by first | rfl | exact ret_3 rfl (by omega), by first | exact U | exact U.drewN _⟩
end Go.Proofs.YtijpffgocookaaaGreatDoor
