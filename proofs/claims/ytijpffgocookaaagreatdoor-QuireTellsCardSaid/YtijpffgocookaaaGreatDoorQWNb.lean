import Derived.Test.YtijpffgocookaaaGreatDoorQWNa
import Derived.Test.YtijpffgocookaaaGreatDoorQWMath2
import Derived.Lib.ParseIntB
import Derived.Deep.DeepCutAuto
import Derived.Deep.CutBlock
import Derived.Deep.LoopGhost
import Derived.Shelf.Strconv.AppendUint10
import Derived.Lib.Repeat
import Derived.Shelf.Strconv.AppendInt10
import Derived.Test.YtijpffgocookaaaGreatDoorQWVsa
set_option maxHeartbeats 32000000
set_option linter.unusedVariables false
set_option linter.unusedSimpArgs false
namespace Go.Proofs.YtijpffgocookaaaGreatDoor
open Go.RowKit Go.Shelf
set_option maxRecDepth 100000 in
theorem div64_small (w : World) (lo y : Nat) (hlo : lo < 18446744073709551616) (hy : y < 18446744073709551616) (hy0 : 0 < y) :
  Calls Tryz.prog 158 #[.int .u64 0, u64 lo, u64 y] w (Val (.tuple #[u64 (lo / y), u64 (lo % y)]) w) := by
 have h1 : ((y : Int) == 0) = false := by rw [beq_eq_false_iff_ne]; omega
 have h2 : decide ((y : Int) ≤ 0) = false := by simp; omega
 go_enter Tryz.func158, Tryz.ntmps158
 go_wp2_with fail
 go_quiet (fail)
 go_wp2_with fail
 go_ret2
 exact ⟨ret_u64s (wrap_u64 (by simp) (Nat.lt_of_le_of_lt (Nat.div_le_self _ _) hlo)) (by simp), _, rfl⟩
theorem wrap_nat (k : Nat) (h : k < 18446744073709551616) : IntKind.u64.wrap (k : Int) = (k : Int) := wrap_u64 rfl h
theorem and_low (a : Nat) (ha : a < 18446744073709551616) : bits .and .u64 (a : Int) 4294967295 = ((a % 4294967296 : Nat) : Int) := by
 have h := bits_and_u64_nat a 4294967295 ha (by omega)
 have e : a &&& 4294967295 = a % 4294967296 := Nat.and_two_pow_sub_one_eq_mod a 32
 rw [e] at h
 exact h
theorem or_join (x y s : Nat) (hx : x * 2 ^ s < 18446744073709551616) (hy : y < 2 ^ s) (hs : s ≤ 64) :
  bits .or .u64 (IntKind.u64.wrap ((x : Int) * 2 ^ s)) (y : Int) = ((x * 2 ^ s + y : Nat) : Int) := by
 have e1 : (x : Int) * 2 ^ s = ((x * 2 ^ s : Nat) : Int) := by simp
 have h2 : (2 : Nat) ^ s ≤ 2 ^ 64 := Nat.pow_le_pow_right (by omega) hs
 rw [e1, wrap_nat _ hx, bits_or_u64_nat _ _ hx (by omega), nat_join s _ _ (Nat.mul_mod_left _ _) hy]
theorem wrap_step {V : Nat} (U u Q Y : Nat) (h : U * 4294967296 + u = Q * Y + V) (hV : V < 18446744073709551616) :
  IntKind.u64.wrap (IntKind.u64.wrap (IntKind.u64.wrap ((U : Int) * 4294967296) + (u : Int)) - IntKind.u64.wrap ((Q : Int) * (Y : Int))) = (V : Int) := by
 rw [IntKind.wrap_u64, IntKind.wrap_u64, IntKind.wrap_u64, IntKind.wrap_u64, ← Int.natCast_mul]
 generalize Q * Y = p at *
 omega
theorem wrap_rest {V q a r : Nat} (h : q * a ≤ V) (hV : V < 18446744073709551616) (hr : r = V - q * a) : IntKind.u64.wrap ((V : Int) - IntKind.u64.wrap ((q : Int) * (a : Int))) = (r : Int) := by
 rw [IntKind.wrap_u64, IntKind.wrap_u64, ← Int.natCast_mul]
 generalize q * a = p at *
 omega
def DivCut (Q : Nat) (w : World) (c : Value) (wx : World) : Prop := c = u64 Q ∧ w = wx
structure DivIn (hi lo y s Y a b U L u1 u0 q r : Nat) : Prop where
 e1 : IntKind.u64.wrap ((y : Int) * 2 ^ s) = (Y : Int)
 e2 : bits .and .u64 (Y : Int) 4294967295 = (b : Int)
 e3 : (Y : Int) / 4294967296 = (a : Int)
 e4 : bits .or .u64 (IntKind.u64.wrap ((hi : Int) * 2 ^ s)) ((lo : Int) / 2 ^ (64 - s)) = (U : Int)
 e5 : IntKind.u64.wrap ((lo : Int) * 2 ^ s) = (L : Int)
 e6 : (L : Int) / 4294967296 = (u1 : Int)
 e7 : bits .and .u64 (L : Int) 4294967295 = (u0 : Int)
 e8 : IntKind.u64.wrap ((U : Int) / (a : Int)) = (q : Int)
 e9 : IntKind.u64.wrap ((U : Int) - IntKind.u64.wrap ((q : Int) * (a : Int))) = (r : Int)
set_option maxRecDepth 100000 in
theorem div64_walk (w : World) (hi lo y s Y a b U L u1 u0 q r : Nat) (hy : y < 18446744073709551616) (hh0 : 0 < hi) (hh : hi < y) (hlead : (64 - (Lib.bitLen y : Int)) = (s : Int)) (hs63 : s ≤ 63)
  (HI : DivIn hi lo y s Y a b U L u1 u0 q r) (hD : M.Divr Y a b) (hU : U < Y) (hu1 : u1 < 4294967296) (hu0 : u0 < 4294967296) (hG : M.Guess U Y a b u1 q r) (hr : r < 4294967296)
  (hUL : (hi * 18446744073709551616 + lo) * 2 ^ s = U * 18446744073709551616 + L) (hL : L = u1 * 4294967296 + u0) (hYe : Y = y * 2 ^ s) :
  Calls Tryz.prog 158 #[u64 hi, u64 lo, u64 y] w (Val (.tuple #[u64 ((hi * 18446744073709551616 + lo) / y), u64 ((hi * 18446744073709551616 + lo) % y)]) w) := by
 have HUL := Lib.hid hUL
 have HL := Lib.hid hL
 have HYE := Lib.hid hYe
 clear hUL hL hYe
 have h1 : ((y : Int) == 0) = false := by rw [beq_eq_false_iff_ne]; omega
 have h2 : decide ((y : Int) ≤ (hi : Int)) = false := by simp; omega
 have h3 : ((hi : Int) == 0) = false := by rw [beq_eq_false_iff_ne]; omega
 have cw := lead64_any y hy
 rw [hlead] at cw
 have CW := Lib.hid cw
 obtain ⟨e1, e2, e3, e4, e5, e6, e7, e8, e9⟩ := HI
 have ha := hD.hi
 have ha0 : ((a : Int) == 0) = false := by rw [beq_eq_false_iff_ne]; omega
 clear hlead cw
 go_enter Tryz.func158, Tryz.ntmps158
 go_wp2_with fail
 refine (CW.out _).mono ?_
 rintro _ _ ⟨rfl, rfl⟩
 go_upto_block 0 with (fail)
 clear e1 e2 e3 e4 e5 e6 e7 e8 e9 h1 h2 h3 hh0 hh CW
 obtain ⟨Q, hQ⟩ : ∃ Q, Q = (U * 4294967296 + u1) / Y := ⟨_, rfl⟩
 have HQD := Lib.hid hQ
 clear hQ
 go_cut [15] (fun c wx => DivCut Q w c wx)
 case first =>
  have hbl := hD.lo
  have ha' := hD.hi'
  go_wp2_with fail
  go_loop [15, 16] (fun c1 c2 => ∃ q r : Nat, c1 = u64 q ∧ c2 = u64 r ∧ M.Guess U Y a b u1 q r ∧ r < 4294967296) (fun c _ => (intOf c).toNat)
  case atStart => exact ⟨_, _, rfl, rfl, hG, hr⟩
  case round =>
   obtain ⟨q, r, rfl, rfl, HG, hr1⟩ := hrel
   have hqle := HG.le
   by_cases hmore : (U * 4294967296 + u1) / Y < q
   ·obtain ⟨k, hk⟩ : ∃ k, q = k + 1 := ⟨q - 1, by have := Nat.lt_of_le_of_lt (Nat.zero_le _) hmore; omega⟩
    have HN := HG.next hmore
    rw [hk, Nat.add_sub_cancel] at HN
    have hq1 : ((q : Int) - 1) = (k : Int) := by omega
    have hq0 : 1 ≤ q := by omega
    have hkq : k ≤ 4294967296 := by omega
    have hkl : k < q := by omega
    have HSTOP : Hid (4294967296 ≤ r + a → k = (U * 4294967296 + u1) / Y) := fun h => HN.stop hD hkq h
    by_cases hbig : 4294967296 ≤ q
    ·have hb' : decide ((4294967296 : Int) ≤ (q : Int)) = true := by simp; omega
     clear HG hmore hk
     by_cases hr2 : 4294967296 ≤ r + a
     ·have hr3 : decide ((4294967296 : Int) ≤ (r : Int) + (a : Int)) = true := by simp; omega
      have HR2 := Lib.hid hr2
      clear hr2
      go_wp2_with fail
      go_meet
      exact ⟨by rw [HSTOP.out HR2.out, HQD.out], rfl⟩
     ·have hr3 : decide ((4294967296 : Int) ≤ (r : Int) + (a : Int)) = false := by simp; omega
      go_wp2_with fail
      go_round
      case rel => exact ⟨k, r + a, rfl, by go_num, HN, by omega⟩
      case measure => simp [intOf]; omega
    ·have hcmp : 4294967296 * r + u1 < q * b := by
      rcases Nat.lt_or_ge (4294967296 * r + u1) (q * b) with h | h
      ·exact h
      ·have := HG.done hD h; omega
     have hPb : q * b ≤ 4294967295 * 4294967295 := Nat.mul_le_mul (by omega) (by omega)
     obtain ⟨P, hP⟩ : ∃ P, q * b = P := ⟨_, rfl⟩
     rw [hP] at hcmp hPb
     have hPw : IntKind.u64.wrap ((q : Int) * (b : Int)) = (P : Int) := wrap_u64 (by rw [← hP]; simp) (by omega)
     have hcmp' : 4294967296 * (r : Int) + (u1 : Int) < (P : Int) := by omega
     have hb' : decide ((4294967296 : Int) ≤ (q : Int)) = false := by simp; omega
     have hc' : decide (4294967296 * (r : Int) + (u1 : Int) < (P : Int)) = true := by simp; omega
     clear HG hmore hk hP hcmp hPb
     by_cases hr2 : 4294967296 ≤ r + a
     ·have hr3 : decide ((4294967296 : Int) ≤ (r : Int) + (a : Int)) = true := by simp; omega
      have HR2 := Lib.hid hr2
      clear hr2
      go_wp2_with fail
      go_meet
      exact ⟨by rw [HSTOP.out HR2.out, HQD.out], rfl⟩
     ·have hr3 : decide ((4294967296 : Int) ≤ (r : Int) + (a : Int)) = false := by simp; omega
      go_wp2_with fail
      go_round
      case rel => exact ⟨k, r + a, rfl, by go_num, HN, by omega⟩
      case measure => simp [intOf]; omega
   ·have hqQ : q = (U * 4294967296 + u1) / Y := Nat.le_antisymm (Nat.le_of_not_lt hmore) HG.ge
    have hbig : q < 4294967296 := by rw [hqQ]; exact M.digit_lt hU hu1
    have hcmp : q * b ≤ 4294967296 * r + u1 := by
     rcases Nat.lt_or_ge (4294967296 * r + u1) (q * b) with h | h
     ·exact absurd (HG.more hD h) hmore
     ·exact h
    obtain ⟨P, hP⟩ : ∃ P, q * b = P := ⟨_, rfl⟩
    rw [hP] at hcmp
    have hPw : IntKind.u64.wrap ((q : Int) * (b : Int)) = (P : Int) := wrap_u64 (by rw [← hP]; simp) (by omega)
    have hcmp' : (P : Int) ≤ 4294967296 * (r : Int) + (u1 : Int) := by omega
    have HQ := Lib.hid hqQ
    have hb' : decide ((4294967296 : Int) ≤ (q : Int)) = false := by simp; omega
    have hc' : decide (4294967296 * (r : Int) + (u1 : Int) < (P : Int)) = false := by simp; omega
    clear HG hmore hP hcmp hqQ
    go_wp2_with fail
    go_meet
    exact ⟨by rw [HQ.out, HQD.out], rfl⟩
 case rest =>
  obtain ⟨rfl, rfl⟩ := hcut
  obtain ⟨V, hV0⟩ : ∃ V, V = (U * 4294967296 + u1) % Y := ⟨_, rfl⟩
  have hV : V < Y := by rw [hV0]; exact Nat.mod_lt _ hD.pos
  have hVe : U * 4294967296 + u1 = Q * Y + V := by
   rw [hV0, HQD.out, Nat.mul_comm _ Y]; exact (Nat.div_add_mod _ _).symm
  have hY64 : Y < 18446744073709551616 := by have := hD.eq; have := hD.lo; have := hD.hi'; omega
  have g1 := wrap_step (V := V) U u1 Q Y hVe (by omega)
  obtain ⟨q2, hq2⟩ : ∃ q2, q2 = V / a := ⟨_, rfl⟩
  have hG2 := M.Guess.start hD hV hu0
  have hr2' := Nat.lt_trans (M.Guess.rest_lt (U := V) hD) hD.hi'
  have hpa : V / a * a ≤ V := Nat.div_mul_le_self _ _
  rw [← hq2] at hG2 hr2' hpa
  obtain ⟨r2, hr2e⟩ : ∃ r2, r2 = V - q2 * a := ⟨_, rfl⟩
  rw [← hr2e] at hG2 hr2'
  have g2 : IntKind.u64.wrap ((V : Int) / (a : Int)) = (q2 : Int) := wrap_u64 (by rw [hq2]; simp) (by have := hG2.le; omega)
  have g3 : IntKind.u64.wrap ((V : Int) - IntKind.u64.wrap ((q2 : Int) * (a : Int))) = (r2 : Int) := wrap_rest hpa (by omega) hr2e
  have hQ32 : Q < 4294967296 := by rw [HQD.out]; exact M.digit_lt hU hu1
  have HV0 := Lib.hid hV0
  clear hV0 hVe hq2 hpa hr2e hG hr
  go_upto_block 2 with (fail)
  clear g1 g2 g3
  obtain ⟨Q0, hQ0⟩ : ∃ Q0, Q0 = (V * 4294967296 + u0) / Y := ⟨_, rfl⟩
  have HQD2 := Lib.hid hQ0
  clear hQ0
  go_cut [18] (fun c wx => DivCut Q0 w c wx)
  case first =>
   have hbl := hD.lo
   have ha' := hD.hi'
   go_wp2_with fail
   go_loop [18, 16] (fun c1 c2 => ∃ q r : Nat, c1 = u64 q ∧ c2 = u64 r ∧ M.Guess V Y a b u0 q r ∧ r < 4294967296) (fun c _ => (intOf c).toNat)
   case atStart => exact ⟨_, _, rfl, rfl, hG2, hr2'⟩
   case round =>
    obtain ⟨q, r, rfl, rfl, HG, hr1⟩ := hrel
    have hqle := HG.le
    by_cases hmore : (V * 4294967296 + u0) / Y < q
    ·obtain ⟨k, hk⟩ : ∃ k, q = k + 1 := ⟨q - 1, by have := Nat.lt_of_le_of_lt (Nat.zero_le _) hmore; omega⟩
     have HN := HG.next hmore
     rw [hk, Nat.add_sub_cancel] at HN
     have hq1 : ((q : Int) - 1) = (k : Int) := by omega
     have hq0 : 1 ≤ q := by omega
     have hkq : k ≤ 4294967296 := by omega
     have hkl : k < q := by omega
     have HSTOP : Hid (4294967296 ≤ r + a → k = (V * 4294967296 + u0) / Y) := fun h => HN.stop hD hkq h
     by_cases hbig : 4294967296 ≤ q
     ·have hb' : decide ((4294967296 : Int) ≤ (q : Int)) = true := by simp; omega
      clear HG hmore hk
      by_cases hr2 : 4294967296 ≤ r + a
      ·have hr3 : decide ((4294967296 : Int) ≤ (r : Int) + (a : Int)) = true := by simp; omega
       have HR2 := Lib.hid hr2
       clear hr2
       go_wp2_with fail
       go_meet
       exact ⟨by rw [HSTOP.out HR2.out, HQD2.out], rfl⟩
      ·have hr3 : decide ((4294967296 : Int) ≤ (r : Int) + (a : Int)) = false := by simp; omega
       go_wp2_with fail
       go_round
       case rel => exact ⟨k, r + a, rfl, by go_num, HN, by omega⟩
       case measure => simp [intOf]; omega
     ·have hcmp : 4294967296 * r + u0 < q * b := by
       rcases Nat.lt_or_ge (4294967296 * r + u0) (q * b) with h | h
       ·exact h
       ·have := HG.done hD h; omega
      have hPb : q * b ≤ 4294967295 * 4294967295 := Nat.mul_le_mul (by omega) (by omega)
      obtain ⟨P, hP⟩ : ∃ P, q * b = P := ⟨_, rfl⟩
      rw [hP] at hcmp hPb
      have hPw : IntKind.u64.wrap ((q : Int) * (b : Int)) = (P : Int) := wrap_u64 (by rw [← hP]; simp) (by omega)
      have hcmp' : 4294967296 * (r : Int) + (u0 : Int) < (P : Int) := by omega
      have hb' : decide ((4294967296 : Int) ≤ (q : Int)) = false := by simp; omega
      have hc' : decide (4294967296 * (r : Int) + (u0 : Int) < (P : Int)) = true := by simp; omega
      clear HG hmore hk hP hcmp hPb
      by_cases hr2 : 4294967296 ≤ r + a
      ·have hr3 : decide ((4294967296 : Int) ≤ (r : Int) + (a : Int)) = true := by simp; omega
       have HR2 := Lib.hid hr2
       clear hr2
       go_wp2_with fail
       go_meet
       exact ⟨by rw [HSTOP.out HR2.out, HQD2.out], rfl⟩
      ·have hr3 : decide ((4294967296 : Int) ≤ (r : Int) + (a : Int)) = false := by simp; omega
       go_wp2_with fail
       go_round
       case rel => exact ⟨k, r + a, rfl, by go_num, HN, by omega⟩
       case measure => simp [intOf]; omega
    ·have hqQ : q = (V * 4294967296 + u0) / Y := Nat.le_antisymm (Nat.le_of_not_lt hmore) HG.ge
     have hbig : q < 4294967296 := by rw [hqQ]; exact M.digit_lt hV hu0
     have hcmp : q * b ≤ 4294967296 * r + u0 := by
      rcases Nat.lt_or_ge (4294967296 * r + u0) (q * b) with h | h
      ·exact absurd (HG.more hD h) hmore
      ·exact h
     obtain ⟨P, hP⟩ : ∃ P, q * b = P := ⟨_, rfl⟩
     rw [hP] at hcmp
     have hPw : IntKind.u64.wrap ((q : Int) * (b : Int)) = (P : Int) := wrap_u64 (by rw [← hP]; simp) (by omega)
     have hcmp' : (P : Int) ≤ 4294967296 * (r : Int) + (u0 : Int) := by omega
     have HQ := Lib.hid hqQ
     have hb' : decide ((4294967296 : Int) ≤ (q : Int)) = false := by simp; omega
     have hc' : decide (4294967296 * (r : Int) + (u0 : Int) < (P : Int)) = false := by simp; omega
     clear HG hmore hP hcmp hqQ
     go_wp2_with fail
     go_meet
     exact ⟨by rw [HQ.out, HQD2.out], rfl⟩
  case rest =>
   obtain ⟨rfl, rfl⟩ := hcut
   obtain ⟨R, hR⟩ : ∃ R, R = (V * 4294967296 + u0) % Y := ⟨_, rfl⟩
   have hRY : R < Y := by rw [hR]; exact Nat.mod_lt _ hD.pos
   have hRe : V * 4294967296 + u0 = Q0 * Y + R := by
    rw [hR, HQD2.out, Nat.mul_comm _ Y]; exact (Nat.div_add_mod _ _).symm
   have g4 := wrap_step (V := R) V u0 Q0 Y hRe (by omega)
   have hQ32' : Q0 < 4294967296 := by rw [HQD2.out]; exact M.digit_lt hV hu0
   obtain ⟨t1, t2⟩ := M.div_two U u1 u0 Y hD.pos
   obtain ⟨k1, k2⟩ := M.div_shift (hi * 18446744073709551616 + lo) y (2 ^ s) (Nat.pow_pos (by omega))
   rw [HUL.out, HL.out, ← HYE.out] at k1 k2
   rw [k1, ← HQD.out, ← HV0.out, ← HQD2.out] at t1
   rw [k2, ← HV0.out, ← hR] at t2
   have hfin : (R : Int) / 2 ^ s = (((hi * 18446744073709551616 + lo) % y : Nat) : Int) := by
    rw [← t2, Int.natCast_mul]
    have hp : (0 : Int) < 2 ^ s := Int.pow_pos (by omega)
    simp [Int.mul_ediv_cancel _ (Int.ne_of_gt hp)]
   have T1 := Lib.hid t1
   have TF := Lib.hid hfin
   clear hR hRe t1 t2 k1 k2 hfin HUL HL HYE HQD HQD2 HV0
   go_wp2_with fail
   go_ret2
   exact ⟨ret_u64s (by rw [T1.out]; simp) TF.out, 0, rfl⟩
theorem M.bitLen_bounds {y : Nat} (hy : y < 18446744073709551616) (h0 : 0 < y) : Lib.bitLen y = M.bits y ∧ 1 ≤ M.bits y ∧ M.bits y ≤ 64 ∧ 9223372036854775808 ≤ y * 2 ^ (64 - M.bits y) ∧ y * 2 ^ (64 - M.bits y) < 18446744073709551616 := by
 have h1 := M.bits_le (show y ≠ 0 by omega)
 have h2 := M.bits_lt y
 have h3 := M.bits_pos (show y ≠ 0 by omega)
 have h4 : M.bits y ≤ 64 := by
  rcases Nat.lt_or_ge 64 (M.bits y) with h | h
  ·have h5 : 2 ^ 64 ≤ 2 ^ (M.bits y - 1) := Nat.pow_le_pow_right (by omega) (by omega)
   omega
  ·exact h
 refine ⟨M.bitLen_eq y y (Nat.le_refl _) hy, h3, h4, ?_, ?_⟩
 ·have e : 2 ^ (M.bits y - 1) * 2 ^ (64 - M.bits y) = 2 ^ 63 := by rw [← Nat.pow_add, show M.bits y - 1 + (64 - M.bits y) = 63 from by omega]
  have := Nat.mul_le_mul_right (2 ^ (64 - M.bits y)) h1
  omega
 ·have e : 2 ^ M.bits y * 2 ^ (64 - M.bits y) = 2 ^ 64 := by rw [← Nat.pow_add, show M.bits y + (64 - M.bits y) = 64 from by omega]
  have hp : 0 < 2 ^ (64 - M.bits y) := Nat.pow_pos (by omega)
  have := Nat.mul_lt_mul_of_pos_right h2 hp
  omega
theorem div64_any (w : World) (hi lo y : Nat) (hlo : lo < 18446744073709551616) (hy : y < 18446744073709551616) (hh : hi < y) :
  Calls Tryz.prog 158 #[u64 hi, u64 lo, u64 y] w (Val (.tuple #[u64 ((hi * 18446744073709551616 + lo) / y), u64 ((hi * 18446744073709551616 + lo) % y)]) w) := by
 rcases Nat.eq_zero_or_pos hi with h0 | h0
 ·subst h0
  have := div64_small w lo y hlo hy hh
  rw [Nat.zero_mul, Nat.zero_add]
  exact this
 ·obtain ⟨b1, b2, b3, b4, b5⟩ := M.bitLen_bounds hy (by omega)
  obtain ⟨s, hs⟩ : ∃ s, s = 64 - M.bits y := ⟨_, rfl⟩
  rw [← hs] at b4 b5
  obtain ⟨c1, c2, c3, c4⟩ := M.shift_hi (s := s) (by omega) hh hlo b5
  obtain ⟨Y, hYe⟩ : ∃ Y, Y = y * 2 ^ s := ⟨_, rfl⟩
  obtain ⟨U, hUe⟩ : ∃ U, U = hi * 2 ^ s + lo / 2 ^ (64 - s) := ⟨_, rfl⟩
  obtain ⟨L, hLe⟩ : ∃ L, L = lo * 2 ^ s % 18446744073709551616 := ⟨_, rfl⟩
  rw [← hYe] at b4 b5 c2
  rw [← hUe] at c1 c2
  rw [← hLe] at c1
  have hL64 : L < 18446744073709551616 := by rw [hLe]; exact Nat.mod_lt _ (by omega)
  have hD := M.Divr.of b4 b5
  have hG := M.Guess.start hD c2 (show L / 4294967296 < 4294967296 by omega)
  have hr := Nat.lt_trans (M.Guess.rest_lt (U := U) hD) hD.hi'
  have hpa : U / (Y / 4294967296) * (Y / 4294967296) ≤ U := Nat.div_mul_le_self _ _
  refine div64_walk w hi lo y s Y (Y / 4294967296) (Y % 4294967296) U L (L / 4294967296) (L % 4294967296) (U / (Y / 4294967296)) (U - U / (Y / 4294967296) * (Y / 4294967296)) hy h0 hh (by rw [b1]; omega) (by omega)
   ⟨?_, and_low Y b5, by simp, ?_, ?_, by simp, and_low L hL64, ?_, wrap_rest hpa (by omega) rfl⟩ hD c2 (by omega) (by omega) hG hr c1 (by omega) hYe
  ·exact wrap_u64 (by rw [hYe]; simp) b5
  ·have := or_join hi (lo / 2 ^ (64 - s)) s c3 c4 (by omega)
   rw [← hUe] at this
   rw [← this]
   simp
  ·rw [IntKind.wrap_u64, hLe]; simp
  ·exact wrap_u64 (by simp) (by have := hG.le; omega)
def M.DivInv (xs : List Nat) (by_ k left : Nat) (zs : List Nat) : Prop :=
 zs.length = xs.length ∧ left < by_ ∧ (∀ j, j < k → zs.getD j 0 = xs.getD j 0) ∧ M.val (xs.drop k) = M.val (zs.drop k) * by_ + left
theorem M.val_drop {xs : List Nat} {k : Nat} (h : k < xs.length) : M.val (xs.drop k) = xs.getD k 0 + 18446744073709551616 * M.val (xs.drop (k + 1)) := by
 rw [List.drop_eq_getElem_cons h, M.val_cons]
 simp [List.getD_eq_getElem?_getD, List.getElem?_eq_getElem h]
theorem M.DivInv.start (xs : List Nat) (by_ : Nat) (h : 0 < by_) : M.DivInv xs by_ xs.length 0 xs := by
 refine ⟨rfl, h, fun _ _ => rfl, ?_⟩
 rw [List.drop_of_length_le (Nat.le_refl _)]
 simp [M.val]
theorem M.DivInv.step {xs zs : List Nat} {by_ k left x : Nat} (h : M.DivInv xs by_ (k + 1) left zs) (hk : k < xs.length) (hx : xs.getD k 0 = x) :
  M.DivInv xs by_ k ((left * 18446744073709551616 + x) % by_) (zs.set k ((left * 18446744073709551616 + x) / by_)) := by
 obtain ⟨h1, h2, h3, h4⟩ := h
 have hb : 0 < by_ := by omega
 refine ⟨by simp [h1], Nat.mod_lt _ hb, fun j hj => ?_, ?_⟩
 ·rw [M.getD_set_ne (by omega)]; exact h3 j (by omega)
 ·rw [M.val_drop hk, M.val_drop (xs := zs.set k _) (by simpa [h1] using hk), M.getD_set (by omega), M.drop_set_lt (by omega), hx, h4, Nat.add_mul, Nat.mul_assoc]
  have := Nat.div_add_mod (left * 18446744073709551616 + x) by_
  rw [Nat.mul_comm by_] at this
  rw [Nat.mul_add]
  omega
section
variable {w : World} {lo n c b o : Nat} {xs : List Nat}
theorem Wd.stored (h : Wd w lo (some ⟨b, o, none⟩) n c xs) {i x : Nat} (hi : i < n) (hx : x < 18446744073709551616) :
  Wd (w.setCell ⟨b, o + i, none⟩ (u64 x)) lo (some ⟨b, o, none⟩) n c (xs.set i x) := by
 refine ⟨by simp [h.num], h.len, h.small, h.wds.set i hx, fun hn => ?_⟩
 obtain ⟨b', o', e, hb, hc⟩ := h.at_ hn
 simp only [Option.some.injEq, Addr.mk.injEq, and_true] at e
 obtain ⟨rfl, rfl⟩ := e
 refine ⟨b, o, rfl, hb, fun j hj => ?_⟩
 obtain ⟨k1, k2⟩ := hc j hj
 refine ⟨?_, by rw [World.frozen?_setCell]; exact k2⟩
 by_cases hij : i = j
 ·subst hij
  rw [M.getD_set (by rw [h.num]; exact hi)]
  exact World.cell?_setCell_same w _ _ k1
 ·rw [M.getD_set_ne hij, World.cell?_setCell_other]
  ·exact k1
  ·intro e
   injection e with _ e2 _
   omega
end
theorem below_up {B : Nat} {a w w' : World} (h : Below B a w) (k : Up w w') (hB : B ≤ w.heap.size) : Below B a w' := h.trans (Below.mono k hB)
theorem only_up {a w w' : World} {row : Option Nat} (h : a.grownBy w row) (k : Up w w') : a.grownBy w' row :=
 ⟨k.os.trans h.os, k.tape.trans h.tape, k.output.trans h.output, Nat.le_trans h.size (Up.size k), fun i hi hne => (k.block i (Nat.lt_of_lt_of_le hi h.size)).trans (h.block i hi hne)⟩
theorem only_setCell {a w : World} {g : Nat} (h : a.grownBy w (some g)) (i : Nat) (u : Value) : a.grownBy (w.setCell ⟨g, i, none⟩ u) (some g) :=
 ⟨h.os, h.tape, h.output, by simpa [World.setCell] using h.size, fun k hk hne => (Below.heap_setCell w ⟨g, i, none⟩ u k (by
  rintro rfl
  exact hne rfl)).trans (h.block k hk hne)⟩
theorem Wd.kept {w w' : World} {lo n c : Nat} {A : Option Addr} {xs : List Nat} {row : Option Nat} (h : Wd w lo A n c xs) (hg : w.grownBy w' row) (hne : 0 < n → ∀ b, A.map (·.block) = some b → row ≠ some b) : Wd w' lo A n c xs := by
 refine ⟨h.num, h.len, h.small, h.wds, fun hn => ?_⟩
 obtain ⟨b, o, rfl, hb, hc⟩ := h.at_ hn
 refine ⟨b, o, rfl, hb, fun j hj => ?_⟩
 obtain ⟨k1, k2⟩ := hc j hj
 have hbl := hg.block b (World.block_lt_of_cell? w _ k1) (fun e => hne hn b rfl e.symm)
 exact ⟨(World.cell?_of_block (w := w) hbl).trans k1, (World.frozen?_of_block (w := w) hbl).trans k2⟩
def DivByWord (lo : Nat) (A : Option Addr) (n c : Nat) (xs : List Nat) (b : Nat) (w : World) (e : Ending) (w' : World) : Prop :=
 ∃ zs, e = .returned (u64 (M.val xs % b)) ∧ Wd w' lo A n c zs ∧ M.val zs = M.val xs / b ∧ Below lo w w' ∧ w.grownBy w' (A.map (·.block))
set_option maxRecDepth 100000 in
theorem divideByWord_any (w : World) (lo : Nat) (A : Option Addr) (n c : Nat) (xs : List Nat) (h : Wd w lo A n c xs) (b : Nat) (hb0 : 0 < b) (hb : b < 18446744073709551616) (hlo : lo ≤ w.heap.size) :
  Calls Tryz.prog 121 #[.slice A n c, u64 b] w (DivByWord lo A n c xs b w) := by
 have hn := h.num
 have hsm := h.small
 have HST : Hid (M.DivInv xs b n 0 xs) := by rw [← hn]; exact M.DivInv.start xs b hb0
 have hwx := h.wds
 clear hb0
 go_enter Tryz.func121, Tryz.ntmps121
 go_wp2_with fail
 go_loopw [5, 6] (fun l i wr => ∃ (k : Int) (q : Nat) (zs : List Nat), -1 ≤ k ∧ k < n ∧ l = u64 q ∧ i = .int .i64 k ∧ Below lo w wr ∧ w.grownBy wr (A.map (·.block)) ∧ Wd wr lo A n c zs ∧ Hid (M.DivInv xs b (k + 1).toNat q zs)) (fun _ i _ => (intOf i + 1).toNat)
 case atStart => exact ⟨(n : Int) - 1, 0, xs, by omega, by omega, rfl, rfl, Below.refl _ _, World.grownBy.refl _ _, h, by rw [show ((n : Int) - 1 + 1).toNat = n from by omega]; exact HST.out⟩
 case round =>
  obtain ⟨k, q, zs, hk1, hk2, rfl, rfl, hbl, hon, hz, HI⟩ := hrel
  clear h HST
  by_cases hk0 : k = -1
  ·subst hk0
   go_wp2_with fail
   go_ret
   obtain ⟨i1, i2, _, i4⟩ := HI.out
   simp only [show ((-1 : Int) + 1).toNat = 0 from rfl, List.drop_zero] at i4
   have hbp : 0 < b := by omega
   refine ⟨zs, ?_, hz, ?_, hbl, hon⟩
   ·refine ret_int ?_
    rw [i4, Nat.mul_comm, Nat.mul_add_mod, Nat.mod_eq_of_lt i2]
   ·rw [i4, Nat.mul_comm, Nat.mul_add_div hbp, Nat.div_eq_of_lt i2, Nat.add_zero]
  ·obtain ⟨i, rfl⟩ := Int.eq_ofNat_of_zero_le (show 0 ≤ k by omega)
   have hin : i < n := by omega
   have hI := HI.out
   rw [show ((i : Int) + 1).toNat = i + 1 from by omega] at hI
   have hq := hI.2.1
   have hx2 := hI.2.2.1 i (by omega)
   obtain ⟨x, hx⟩ : ∃ x, xs.getD i 0 = x := ⟨_, rfl⟩
   rw [hx] at hx2
   have hxb : x < 18446744073709551616 := by rw [← hx]; exact hwx.getD i
   obtain ⟨bb, oo, rfl, hlb, hc⟩ := hz.at_ (by omega)
   obtain ⟨hc1, hf1⟩ := hc i hin
   rw [hx2] at hc1
   have CW := Lib.hid (div64_any wr q x b hxb hb hq)
   have HN := Lib.hid (hI.step (by omega) hx)
   have hqb : (q * 18446744073709551616 + x) / b < 18446744073709551616 := by
    refine Nat.div_lt_of_lt_mul ?_
    have : (q + 1) * 18446744073709551616 ≤ b * 18446744073709551616 := by omega
    omega
   generalize (q * 18446744073709551616 + x) / b = q1 at *
   generalize (q * 18446744073709551616 + x) % b = r1 at *
   have HQB := Lib.hid hqb
   clear hI hq hx2 hx hxb hc hk0 hk1 HI hqb hwx
   go_wp2_with fail
   refine CW.out.mono ?_
   rintro _ W ⟨rfl, kk, hW⟩
   have hu : Up wr W := by rw [hW]; exact (Up.refl wr).drewN kk
   have hzW := hz.up hu
   have hblW := below_up hbl hu (Nat.le_trans hlo hbl.size)
   have honW := only_up hon hu
   obtain ⟨hc2, hf2⟩ : W.cell? ⟨bb, oo + i, none⟩ = some (u64 x) ∧ W.frozen? ⟨bb, oo + i, none⟩ = false := by
    rw [hW]; exact ⟨hc1, hf1⟩
   clear hW CW hbl hz hc1 hf1 hu hon
   go_wp2_with fail
   go_roundw
   case rel =>
    exact ⟨(i : Int) - 1, r1, zs.set i q1, by omega, by omega, rfl, rfl, hblW.setCell hlb _, only_setCell honW _ _, hzW.stored hin HQB.out, by rw [show ((i : Int) - 1 + 1).toNat = i from by omega]; exact HN.out⟩
   case measure => simp [intOf]
end Go.Proofs.YtijpffgocookaaaGreatDoor
namespace Go.Proofs.YtijpffgocookaaaGreatDoor
open Go.RowKit Go.Shelf
def Div3 (s q r : Nat) (is : Bool) (w : World) (e : Ending) (w' : World) : Prop := ∃ v1 v2, e = .returned (.tuple #[v1, v2, .bool is]) ∧ Nt w' w.heap.size s v1 q ∧ Nt w' w.heap.size s v2 r ∧ Up w w'
def Div2 (s q r : Nat) (w : World) (e : Ending) (w' : World) : Prop := ∃ v1 v2, e = .returned (.tuple #[v1, v2]) ∧ Nt w' w.heap.size s v1 q ∧ Nt w' w.heap.size s v2 r ∧ Up w w'
def DivLong : Prop := ∀ (w : World) (lo lo' : Nat) (A A' : Option Addr) (n c n' c' : Nat) (xs ys : List Nat), Wd w lo A n c xs → Wd w lo' A' n' c' ys → M.Nrm xs → M.Nrm ys → n ≤ 1000000000 → 2 ≤ n' → n' ≤ n →
 Calls Tryz.prog 122 #[.slice A n c, .slice A' n' c'] w (Div2 n (M.val xs / M.val ys) (M.val xs % M.val ys) w)
set_option maxRecDepth 100000 in
theorem div_of (w : World) (lo lo' s s' : Nat) (v v' : Value) (a b : Nat) (h : Nw w lo s v a) (h' : Nw w lo' s' v' b) (hb0 : 0 < b) (hs : s ≤ 1000000000) (hlong : b < 18446744073709551616 ∨ DivLong) :
  Calls Tryz.prog 96 #[v, v'] w (Div3 (s + 1) (a / b) (a % b) true w) := by
 obtain ⟨A, n, c, xs, rfl, hx, ha, hns⟩ := h
 obtain ⟨A', n', c', xs', rfl, hx', hb, hns'⟩ := h'
 have HA := Lib.hid ha
 have HB := Lib.hid hb
 have HL := Lib.hid hlong
 clear ha hb hlong
 go_enter Tryz.func96, Tryz.ntmps96
 go_wp2_with fail
 refine (trim_any w lo A n c xs hx).mono ?_
 rintro _ _ ⟨m, ys, rfl, rfl, hA, hny, hv, hmn⟩
 have HV : Hid (M.val ys = a) := hv.trans HA.out
 clear hx hv HA
 go_wp2_with fail
 refine (trim_any w lo' A' n' c' xs' hx').mono ?_
 rintro _ _ ⟨m', ys', rfl, rfl, hB, hny', hv', hmn'⟩
 have HV' : Hid (M.val ys' = b) := hv'.trans HB.out
 clear hx' hv' HB
 have hm0 : 1 ≤ m' := by
  rcases Nat.eq_zero_or_pos m' with h0 | h0
  ·subst h0
   have := List.eq_nil_of_length_eq_zero hB.num
   have h1 := HV'.out
   rw [this] at h1
   simp [M.val] at h1
   omega
  ·exact h0
 have t0 : ((m' : Int) == 0) = false := by rw [beq_eq_false_iff_ne]; omega
 have hsm := hA.small
 by_cases hlt : m < m'
 ·have hab : a < b := by rw [← HV.out, ← HV'.out]; exact M.val_lt_of_length hA.wds hny' (by rw [hA.num, hB.num]; exact hlt)
  have E1 : Hid (a / b = 0) := Nat.div_eq_of_lt hab
  have E2 : Hid (a % b = a) := Nat.mod_eq_of_lt hab
  clear hab
  go_wp2_with fail
  refine (norm_any w lo s _ a ⟨A, m, c, ys, rfl, hA, HV.out, by omega⟩).mono ?_
  rintro _ w1 ⟨v1, rfl, h1, h2⟩
  go_wp2_with fail
  go_ret3
  rw [E1.out, E2.out]
  exact ⟨_, _, rfl, Nt.nil _ _ _, h1.more (by omega), h2⟩
 ·by_cases hone : m' = 1
  ·subst hone
   obtain ⟨y, hy⟩ : ∃ y, ys' = [y] := by
    match ys', hB.num with
    | [y], _ => exact ⟨y, rfl⟩
   have hyb : y = b := by have h1 := HV'.out; rw [hy] at h1; simpa [M.val] using h1
   have hb64 : b < 18446744073709551616 := by rw [← hyb]; exact hB.wds y (by rw [hy]; simp)
   obtain ⟨bb, oo, rfl, _, hc⟩ := hB.at_ (by omega)
   have hc1 := (hc 0 (by omega)).1
   rw [hy, List.getD_cons_zero, hyb, Nat.add_zero] at hc1
   have HB64 := Lib.hid hb64
   clear hc hy hyb hB hny' HV' HL hb64
   have hge : 1 ≤ m := by omega
   go_wp2_with fail
   refine (norm_any w lo s _ a ⟨A, m, c, ys, rfl, hA, HV.out, by omega⟩).mono ?_
   rintro _ w1 ⟨v1, rfl, h1, h2⟩
   obtain ⟨A1, n1, cc1, zs1, rfl, hz1, hzv1, hzs1, hzn1⟩ := h1
   have hc2 : w1.cell? ⟨bb, oo, none⟩ = some (u64 b) := by
    rw [Below.cell h2 (World.block_lt_of_cell? w _ hc1)]; exact hc1
   have HZV := Lib.hid hzv1
   clear hzv1 hA hc1
   go_wp2_with fail
   refine (divideByWord_any w1 _ A1 n1 cc1 zs1 hz1 b hb0 HB64.out h2.size).mono ?_
   rintro _ w2 ⟨zs2, rfl, hz2, hzv2, hbl2, _⟩
   have hu2 : Up w w2 := (show Below w.heap.size w w1 from h2).trans hbl2
   have HZV2 : Hid (M.val zs2 = a / b) := by rw [HZV.out] at hzv2; exact hzv2
   have E2 : Hid (M.val zs1 % b = a % b) := by show _ = _; rw [HZV.out]
   have hmodlt : a % b < 18446744073709551616 := Nat.lt_of_lt_of_le (Nat.mod_lt _ hb0) (Nat.le_of_lt HB64.out)
   rw [E2.out]
   generalize a % b = r at *
   have HM := Lib.hid hmodlt
   clear hz1 hzv2 hbl2 h2 hc2 hmodlt
   go_wp2_with fail
   refine (trim_any w2 _ A1 n1 cc1 zs2 hz2).mono ?_
   rintro _ _ ⟨m3, zz, rfl, rfl, hd3, hn3, hv3, hm3⟩
   have HV3 : Hid (M.val zz = a / b) := hv3.trans HZV2.out
   clear hv3 hz2 HZV2
   go_wp2_with fail
   refine (of_any w2 r HM.out).mono ?_
   rintro _ w4 ⟨v4, rfl, h4, hu4⟩
   go_wp2_with fail
   go_ret3
   exact ⟨_, _, rfl, ⟨_, _, _, zz, rfl, hd3.up hu4, HV3.out, by omega, hn3⟩, (h4.lower hu2.size).more (by omega), hu2.trans hu4⟩
  ·have hDL : DivLong := by
    rcases HL.out with h | h
    ·exfalso
     have h1 := M.val_ge hny' (by intro e; have := hB.num; rw [e] at this; simp at this; omega)
     have h2 : 18446744073709551616 ^ 1 ≤ 18446744073709551616 ^ (ys'.length - 1) := Nat.pow_le_pow_right (by omega) (by rw [hB.num]; omega)
     have h3 := HV'.out
     omega
    ·exact h
   have t1 : ((m' : Int) == 1) = false := by rw [beq_eq_false_iff_ne]; omega
   have CW := Lib.hid (hDL w lo lo' A A' m c m' c' ys ys' hA hB hny hny' (by omega) (by omega) (by omega))
   rw [HV.out, HV'.out] at CW
   clear hDL HL hA hB
   go_wp2_with fail
   refine CW.out.mono ?_
   rintro _ w1 ⟨v1, v2, rfl, h1, h2, h3⟩
   go_wp2_with fail
   go_ret3
   exact ⟨_, _, rfl, h1.more (by omega), h2.more (by omega), h3⟩
namespace M
def pv : List Nat → Nat
 | [] => 0
 | p :: r => p + 10000000000000000000 * pv r
theorem pv_append (a b : List Nat) : pv (a ++ b) = pv a + 10000000000000000000 ^ a.length * pv b := by
 induction a with
 | nil => simp [pv]
 | cons x r ih =>
  simp only [List.cons_append, pv, ih, List.length_cons, Nat.pow_succ]
  rw [Nat.mul_add, Nat.add_assoc, ← Nat.mul_assoc, Nat.mul_comm (10000000000000000000 ^ r.length)]
structure PInv (a : Nat) (ps : List Nat) (r : Nat) : Prop where
 eq : a = pv ps + 10000000000000000000 ^ ps.length * r
 lt : ∀ p ∈ ps, p < 10000000000000000000
 last : r = 0 → ps.getLast? ≠ some 0
theorem PInv.start (a : Nat) : PInv a [] a := ⟨by simp [pv], fun _ h => (by cases h), fun _ => by simp⟩
end M
open Go.Sort
abbrev TabW (w : World) : Prop := Lib.TabIs Tryz.prog w "internal/strconv.uint64pow10" .u64 Lib.pow10Tab
end Go.Proofs.YtijpffgocookaaaGreatDoor
namespace Go.Proofs.YtijpffgocookaaaGreatDoor
open Go.RowKit Go.Shelf
namespace M
end M
theorem TabW.up {w w' : World} (h : TabW w) (hu : Up w w') : TabW w' := Lib.tabBelow_of_tabIs h w' hu
abbrev By (w : World) (base : Nat) (v : Value) (bs : List UInt8) : Prop := w.ownsRow base 5 1 v bs.length (Lib.byteCells bs)
theorem By.up {w w' : World} {base : Nat} {v : Value} {bs : List UInt8} (h : By w base v bs) (hu : Up w w') : By w' base v bs :=
 World.ownsRow.kept (row := none) h ⟨Below.os hu, Below.tape hu, Below.output hu, Below.size hu, fun j hj _ => Below.block hu j hj⟩ (by cases h : v.ownBlock <;> simp)
set_option maxRecDepth 100000 in
theorem add_any (w : World) (lo lo' s : Nat) (v v' : Value) (a b : Nat) (h : Nw w lo s v a) (h' : Nw w lo' s v' b) (hs : s ≤ 1000000000) :
  Calls Tryz.prog 40 #[v, v'] w (Res (s + 1) (a + b) w) := by
 obtain ⟨A, n, c, xs, rfl, hx, ha, hns⟩ := h
 obtain ⟨A', n', c', xs', rfl, hx', hb, hns'⟩ := h'
 have HA := Lib.hid ha
 have HB := Lib.hid hb
 clear ha hb
 go_enter Tryz.func40, Tryz.ntmps40
 go_wp2_with fail
 refine (trim_any w lo A n c xs hx).mono ?_
 rintro _ _ ⟨m, ys, rfl, rfl, hy, hny, hv, hmn⟩
 have HV : Hid (M.val ys = a) := hv.trans HA.out
 clear hx hv HA
 go_wp2_with fail
 refine (trim_any w lo' A' n' c' xs' hx').mono ?_
 rintro _ _ ⟨m', ys', rfl, rfl, hy', hny', hv', hmn'⟩
 have HV' : Hid (M.val ys' = b) := hv'.trans HB.out
 clear hx' hv' HB
 by_cases hm : m < m'
 ·have hA := hy'
  have hB := hy
  have FIN : Hid (M.val ys' + M.val ys = a + b) := by
   show _ = _
   rw [HV.out, HV'.out, Nat.add_comm]
  clear HV HV' hy hy'
  have b1 := hA.len
  have b2 := hA.small
  have b3 := hB.len
  have b4 := hB.small
  go_wp2_with (at_make; refine wpList_make_wd _ rfl (.tmp 22) (.tmp 22) 32 rfl info_u64 Tryz.underlying32 ((m' : Int) + 1) ((m' : Int) + 1) (m' + 1) rfl rfl (by omega) (by omega) (by omega) ?_; intro w1 hown1 hg1)
  have hu1 : Up w w1 := (Up.refl w).grown hg1 (by simp)
  have hz1 : w.heap.size < w1.heap.size := (hown1.lt _ rfl).2
  go_loopw [6, 26] (fun c i wr => ∃ (k q : Nat) (zs : List Nat), k ≤ m' ∧ q ≤ 1 ∧ c = u64 q ∧ i = .int .i64 k ∧ Up w wr ∧ Ow wr w.heap.size (.slice (some ⟨w.heap.size, 0, none⟩) (m' + 1) (m' + 1)) (m' + 1) zs ∧ M.Wds zs ∧ Hid (M.val (zs.take k) + 18446744073709551616 ^ k * q = M.val (ys'.take k) + M.val (ys.take k))) (fun _ i _ => m' - (intOf i).toNat)
  case atStart => exact ⟨0, 0, _, by omega, by omega, rfl, rfl, hu1, hown1, M.Wds.replicate _, by simp [Hid, M.val]⟩
  case round =>
   obtain ⟨k, q, zs, hk, hq, rfl, rfl, hu, hown, hwd, HI⟩ := hrel
   have hcA := (hA.up hu).at_
   have hWB := hB.up hu
   have hzl := hown.num
   clear hown1 hg1 hu1 hz1
   by_cases hlt : k < m'
   ·obtain ⟨bb, oo, rfl, _, hc⟩ := hcA (by omega)
    have hc1 := (hc k hlt).1
    obtain ⟨x, hx⟩ : ∃ x, ys'.getD k 0 = x := ⟨_, rfl⟩
    obtain ⟨y, hy⟩ : ∃ y, ys.getD k 0 = y := ⟨_, rfl⟩
    have hxb : x < 18446744073709551616 := by rw [← hx]; exact hA.wds.getD k
    have hyb : y < 18446744073709551616 := by rw [← hy]; exact hB.wds.getD k
    rw [hx] at hc1
    obtain ⟨s1, d1, hs1, hd1, he1, hrun⟩ := add64_ex x y q hxb hyb hq
    have hcz := hown.cellAt k (by omega)
    rw [cu_get (by omega)] at hcz
    have hfz := hown.frozenAt k
    have HE := Lib.hid (M.add_step (i := k) (s := s1) (d := d1) (zs := zs) (by omega) HI.out (by rw [hx, hy]; exact he1))
    have HX := Lib.hid hx
    have cw := Lib.hid (wordAt_nat wr _ _ _ _ _ hWB k (by omega) y hy)
    clear hx hy he1 hxb hyb hc hcA
    go_wp2_with (go_at_call 69; refine cw.out.mono ?_; rintro _ _ ⟨rfl, rfl⟩)
    go_roundw
    case rel =>
     obtain ⟨h1, h2⟩ := hown.stored k (u64 s1)
     rw [cu_set] at h1
     exact ⟨k + 1, d1, zs.set k s1, by omega, hd1, rfl, by go_num, hu.setCell (Nat.le_refl _) _, h1, hwd.set k hs1, HE.out⟩
    case measure => simp [intOf]; omega
   ·have hkm : k = m' := by omega
    subst hkm
    have hcz := hown.cellAt k (by omega)
    rw [cu_get (by omega)] at hcz
    have hfz := hown.frozenAt k
    obtain ⟨h1, h2⟩ := hown.stored k (u64 q)
    rw [cu_set] at h1
    have hwd2 := Ow.wd_ h1 (hwd.set k (by omega)) (by omega)
    have hvs : M.val (zs.set k q) = a + b := by
     rw [M.val_set_last (by omega), HI.out, M.val_take_all (by have := hA.num; omega), M.val_take_all (by have := hB.num; omega)]
     exact FIN.out
    have HVS := Lib.hid hvs
    have hu2 := hu.setCell (p := ⟨w.heap.size, k, none⟩) (Nat.le_refl _) (u64 q)
    clear hvs h1 h2 hwd hown hWB hcA
    go_wp2_with fail
    refine (trim_any _ _ _ _ _ _ hwd2).mono ?_
    rintro _ _ ⟨m2, zz, rfl, rfl, hd2, hn2, hv2, hm2⟩
    have HV2 : Hid (M.val zz = a + b) := hv2.trans HVS.out
    clear hv2 hwd2
    go_wp2_with fail
    go_ret
    exact ⟨_, rfl, ⟨_, _, _, zz, rfl, hd2, HV2.out, by omega, hn2⟩, hu2⟩
 ·have hA := hy
  have hB := hy'
  have FIN : Hid (M.val ys + M.val ys' = a + b) := by
   show _ = _
   rw [HV.out, HV'.out]
  clear HV HV' hy hy'
  have b1 := hA.len
  have b2 := hA.small
  have b3 := hB.len
  have b4 := hB.small
  go_wp2_with (at_make; refine wpList_make_wd _ rfl (.tmp 22) (.tmp 22) 32 rfl info_u64 Tryz.underlying32 ((m : Int) + 1) ((m : Int) + 1) (m + 1) rfl rfl (by omega) (by omega) (by omega) ?_; intro w1 hown1 hg1)
  have hu1 : Up w w1 := (Up.refl w).grown hg1 (by simp)
  have hz1 : w.heap.size < w1.heap.size := (hown1.lt _ rfl).2
  go_loopw [6, 26] (fun c i wr => ∃ (k q : Nat) (zs : List Nat), k ≤ m ∧ q ≤ 1 ∧ c = u64 q ∧ i = .int .i64 k ∧ Up w wr ∧ Ow wr w.heap.size (.slice (some ⟨w.heap.size, 0, none⟩) (m + 1) (m + 1)) (m + 1) zs ∧ M.Wds zs ∧ Hid (M.val (zs.take k) + 18446744073709551616 ^ k * q = M.val (ys.take k) + M.val (ys'.take k))) (fun _ i _ => m - (intOf i).toNat)
  case atStart => exact ⟨0, 0, _, by omega, by omega, rfl, rfl, hu1, hown1, M.Wds.replicate _, by simp [Hid, M.val]⟩
  case round =>
   obtain ⟨k, q, zs, hk, hq, rfl, rfl, hu, hown, hwd, HI⟩ := hrel
   have hcA := (hA.up hu).at_
   have hWB := hB.up hu
   have hzl := hown.num
   clear hown1 hg1 hu1 hz1
   by_cases hlt : k < m
   ·obtain ⟨bb, oo, rfl, _, hc⟩ := hcA (by omega)
    have hc1 := (hc k hlt).1
    obtain ⟨x, hx⟩ : ∃ x, ys.getD k 0 = x := ⟨_, rfl⟩
    obtain ⟨y, hy⟩ : ∃ y, ys'.getD k 0 = y := ⟨_, rfl⟩
    have hxb : x < 18446744073709551616 := by rw [← hx]; exact hA.wds.getD k
    have hyb : y < 18446744073709551616 := by rw [← hy]; exact hB.wds.getD k
    rw [hx] at hc1
    obtain ⟨s1, d1, hs1, hd1, he1, hrun⟩ := add64_ex x y q hxb hyb hq
    have hcz := hown.cellAt k (by omega)
    rw [cu_get (by omega)] at hcz
    have hfz := hown.frozenAt k
    have HE := Lib.hid (M.add_step (i := k) (s := s1) (d := d1) (zs := zs) (by omega) HI.out (by rw [hx, hy]; exact he1))
    have HX := Lib.hid hx
    have cw := Lib.hid (wordAt_nat wr _ _ _ _ _ hWB k (by omega) y hy)
    clear hx hy he1 hxb hyb hc hcA
    go_wp2_with (go_at_call 69; refine cw.out.mono ?_; rintro _ _ ⟨rfl, rfl⟩)
    go_roundw
    case rel =>
     obtain ⟨h1, h2⟩ := hown.stored k (u64 s1)
     rw [cu_set] at h1
     exact ⟨k + 1, d1, zs.set k s1, by omega, hd1, rfl, by go_num, hu.setCell (Nat.le_refl _) _, h1, hwd.set k hs1, HE.out⟩
    case measure => simp [intOf]; omega
   ·have hkm : k = m := by omega
    subst hkm
    have hcz := hown.cellAt k (by omega)
    rw [cu_get (by omega)] at hcz
    have hfz := hown.frozenAt k
    obtain ⟨h1, h2⟩ := hown.stored k (u64 q)
    rw [cu_set] at h1
    have hwd2 := Ow.wd_ h1 (hwd.set k (by omega)) (by omega)
    have hvs : M.val (zs.set k q) = a + b := by
     rw [M.val_set_last (by omega), HI.out, M.val_take_all (by have := hA.num; omega), M.val_take_all (by have := hB.num; omega)]
     exact FIN.out
    have HVS := Lib.hid hvs
    have hu2 := hu.setCell (p := ⟨w.heap.size, k, none⟩) (Nat.le_refl _) (u64 q)
    clear hvs h1 h2 hwd hown hWB hcA
    go_wp2_with fail
    refine (trim_any _ _ _ _ _ _ hwd2).mono ?_
    rintro _ _ ⟨m2, zz, rfl, rfl, hd2, hn2, hv2, hm2⟩
    have HV2 : Hid (M.val zz = a + b) := hv2.trans HVS.out
    clear hv2 hwd2
    go_wp2_with fail
    go_ret
    exact ⟨_, rfl, ⟨_, _, _, zz, rfl, hd2, HV2.out, by omega, hn2⟩, hu2⟩
set_option maxRecDepth 100000 in
theorem sub_any (w : World) (lo lo' s s' : Nat) (v v' : Value) (a b : Nat) (h : Nw w lo s v a) (h' : Nw w lo' s' v' b) :
  Calls Tryz.prog 87 #[v, v'] w (Opt s (a - b) (decide (b ≤ a)) w) := by
 obtain ⟨A, n, c, xs, rfl, hx, ha, hns⟩ := h
 obtain ⟨A', n', c', xs', rfl, hx', hb, hns'⟩ := h'
 have HA := Lib.hid ha
 have HB := Lib.hid hb
 clear ha hb
 go_enter Tryz.func87, Tryz.ntmps87
 go_wp2_with fail
 refine (trim_any w lo A n c xs hx).mono ?_
 rintro _ _ ⟨m, ys, rfl, rfl, hy, hny, hv, hmn⟩
 have HV : Hid (M.val ys = a) := hv.trans HA.out
 clear hx hv HA
 go_wp2_with fail
 refine (trim_any w lo' A' n' c' xs' hx').mono ?_
 rintro _ _ ⟨m', ys', rfl, rfl, hy', hny', hv', hmn'⟩
 have HV' : Hid (M.val ys' = b) := hv'.trans HB.out
 clear hx' hv' HB
 have cw := cmp_any w lo lo' m m' (.slice A m c) (.slice A' m' c') a b ⟨A, m, c, ys, rfl, hy, HV.out, Nat.le_refl _⟩ ⟨A', m', c', ys', rfl, hy', HV'.out, Nat.le_refl _⟩
 rcases Nat.lt_or_ge a b with hab | hab
 ·rw [M.cmp_lt hab] at cw
  have CW := Lib.hid cw
  have e1 : Hid (decide (b ≤ a) = false) := by simp [Hid]; omega
  have e2 : Hid (a - b = 0) := by simp [Hid]; omega
  clear cw
  go_wp2_with fail
  refine CW.out.mono ?_
  rintro _ _ ⟨rfl, k, rfl⟩
  go_wp2_with fail
  go_ret2
  rw [e1.out, e2.out]
  exact ⟨_, rfl, Nt.nil _ _ _, (Up.refl w).drewN k⟩
 ·obtain ⟨z, hz, hz0, hz1⟩ := M.cmp_ge hab
  rw [hz] at cw
  have CW := Lib.hid cw
  have e1 : Hid (decide (b ≤ a) = true) := by simp [Hid]; omega
  have hmm : m' ≤ m := by
   have := M.val_ge_length hy.wds hny' (by rw [HV.out, HV'.out]; exact hab)
   rw [hy.num, hy'.num] at this; exact this
  have HAB := Lib.hid hab
  clear cw hz hab
  go_wp2_with fail
  refine CW.out.mono ?_
  rintro _ W ⟨rfl, k, hW⟩
  have hu0 : Up w W := by rw [hW]; exact (Up.refl w).drewN k
  clear hW CW
  have hA := hy.up hu0
  have hB := hy'.up hu0
  have b1 := hA.len
  have b2 := hA.small
  have b3 := hB.len
  have b4 := hB.small
  clear hy hy'
  go_wp2_with (at_make; refine wpList_make_wd _ rfl (.tmp 19) (.tmp 19) 32 rfl info_u64 Tryz.underlying32 (m : Int) (m : Int) m rfl rfl (by omega) (by omega) (by omega) ?_; intro w1 hown1 hg1)
  have hu1 : Up W w1 := (Up.refl W).grown hg1 (by simp)
  go_loopw [7, 23] (fun c i wr => ∃ (k q : Nat) (zs : List Nat), k ≤ m ∧ q ≤ 1 ∧ c = u64 q ∧ i = .int .i64 k ∧ Up W wr ∧ Ow wr W.heap.size (.slice (some ⟨W.heap.size, 0, none⟩) m m) m zs ∧ M.Wds zs ∧ Hid (M.val (ys.take k) + 18446744073709551616 ^ k * q = M.val (zs.take k) + M.val (ys'.take k))) (fun _ i _ => m - (intOf i).toNat)
  case atStart => exact ⟨0, 0, _, by omega, by omega, rfl, rfl, hu1, hown1, M.Wds.replicate _, by simp [Hid, M.val]⟩
  case round =>
   obtain ⟨k, q, zs, hk, hq, rfl, rfl, hu, hown, hwd, HI⟩ := hrel
   have hcA := (hA.up hu).at_
   have hWB := hB.up hu
   have hzl := hown.num
   clear hown1 hg1 hu1
   by_cases hlt : k < m
   ·obtain ⟨bb, oo, rfl, _, hc⟩ := hcA (by omega)
    have hc1 := (hc k hlt).1
    obtain ⟨x, hx⟩ : ∃ x, ys.getD k 0 = x := ⟨_, rfl⟩
    obtain ⟨y, hy⟩ : ∃ y, ys'.getD k 0 = y := ⟨_, rfl⟩
    have hxb : x < 18446744073709551616 := by rw [← hx]; exact hA.wds.getD k
    have hyb : y < 18446744073709551616 := by rw [← hy]; exact hB.wds.getD k
    rw [hx] at hc1
    obtain ⟨s1, d1, hs1, hd1, he1, hrun⟩ := sub64_ex x y q hxb hyb hq
    have hcz := hown.cellAt k (by omega)
    rw [cu_get (by omega)] at hcz
    have hfz := hown.frozenAt k
    have HE := Lib.hid (M.sub_step (i := k) (s := s1) (d := d1) (zs := zs) (by omega) HI.out (by rw [hx, hy]; exact he1))
    have cw := Lib.hid (wordAt_nat wr _ _ _ _ _ hWB k (by omega) y hy)
    clear hx hy he1 hxb hyb hc hcA
    go_wp2_with (go_at_call 69; refine cw.out.mono ?_; rintro _ _ ⟨rfl, rfl⟩)
    go_roundw
    case rel =>
     obtain ⟨h1, h2⟩ := hown.stored k (u64 s1)
     rw [cu_set] at h1
     exact ⟨k + 1, d1, zs.set k s1, by omega, hd1, rfl, by go_num, hu.setCell (Nat.le_refl _) _, h1, hwd.set k hs1, HE.out⟩
    case measure => simp [intOf]; omega
   ·have hkm : k = m := by omega
    subst hkm
    have hwd2 := Ow.wd_ hown hwd (by omega)
    have hvs : M.val zs = a - b := by
     have h0 := HI.out
     rw [M.val_take_all (a := ys) (by have := hA.num; omega), M.val_take_all (a := ys') (by have := hB.num; omega), M.val_take_all (a := zs) (by omega), HV.out, HV'.out] at h0
     have h1 : M.val zs < 18446744073709551616 ^ k := by have := M.val_lt hwd; rwa [hzl] at this
     have h2 := HAB.out
     exact M.sub_last hq h0 h1 h2
    have HVS := Lib.hid hvs
    clear hvs hwd hown hWB hcA
    go_wp2_with fail
    refine (trim_any _ _ _ _ _ _ hwd2).mono ?_
    rintro _ _ ⟨m2, zz, rfl, rfl, hd2, hn2, hv2, hm2⟩
    have HV2 : Hid (M.val zz = a - b) := hv2.trans HVS.out
    clear hv2 hwd2
    go_wp2_with fail
    go_ret2
    rw [e1.out]
    exact ⟨_, rfl, ⟨_, _, _, zz, rfl, hd2.lower hu0.size, HV2.out, by omega, hn2⟩, hu0.trans hu⟩
namespace M
end M
def ErrW (w : World) : Prop := ∃ tp p, w.var? Tryz.prog "strconv.ErrSyntax" = some #[.iface tp p]
theorem ErrW.up {w w' : World} (h : ErrW w) (hu : Up w w') : ErrW w' := by
 obtain ⟨tp, p, h⟩ := h
 refine ⟨tp, p, ?_⟩
 unfold World.var? at *
 cases hg : Tryz.prog.globalNamed "strconv.ErrSyntax" with
 | none => simp [hg] at h
 | some g =>
  simp only [hg, Option.bind_some] at h ⊢
  have hlt : g < w.heap.size := by
   rcases Nat.lt_or_ge g w.heap.size with h' | h'
   ·exact h'
   ·rw [Array.getElem?_eq_none h'] at h; simp at h
  rw [Below.block hu g hlt]
  exact h
def M.PsInv (l : List UInt8) (t : ByteArray) (cs : List UInt8) : Prop := l = cs ++ t.data.toList ∧ M.allD cs = true ∧ (cs = [] ∨ t.size % 19 = 0)
theorem M.PsInv.start {l : List UInt8} {s : ByteArray} (h : s.data.toList = l) : M.PsInv l s [] := ⟨by rw [h]; rfl, rfl, .inl rfl⟩
namespace M
theorem pv_ge {ps : List Nat} (h : ps ≠ []) (hl : ps.getLast? ≠ some 0) : 10000000000000000000 ^ (ps.length - 1) ≤ pv ps := by
 obtain ⟨b, x, rfl⟩ : ∃ b x, ps = b ++ [x] := ⟨ps.dropLast, ps.getLast h, (List.dropLast_concat_getLast h).symm⟩
 have hx : 0 < x := by
  rw [List.getLast?_concat] at hl
  exact Nat.pos_of_ne_zero (fun e => hl (by rw [e]))
 rw [pv_append]
 simp only [pv, Nat.mul_zero, Nat.add_zero, List.length_append, List.length_singleton, Nat.add_sub_cancel]
 calc 10000000000000000000 ^ b.length = 10000000000000000000 ^ b.length * 1 := (Nat.mul_one _).symm
  _ ≤ 10000000000000000000 ^ b.length * x := Nat.mul_le_mul_left _ hx
  _ ≤ _ := Nat.le_add_left _ _
theorem PInv.len {a r s : Nat} {ps : List Nat} (h : PInv a ps r) (ha : a < 18446744073709551616 ^ s) : ps.length ≤ 2 * s := by
 have h1 : (18446744073709551616 : Nat) ^ s ≤ 10000000000000000000 ^ (2 * s) := by
  rw [Nat.pow_mul]
  exact Nat.pow_le_pow_left (by omega) _
 rcases Nat.lt_or_ge (2 * s) ps.length with h2 | h2
 ·exfalso
  have h3 : 10000000000000000000 ^ (ps.length - 1) ≤ a := by
   rw [h.eq]
   rcases Nat.eq_zero_or_pos r with h0 | h0
   ·have := pv_ge (by intro e; rw [e] at h2; simp at h2) (h.last h0)
    omega
   ·have h4 : 10000000000000000000 ^ ps.length * 1 ≤ 10000000000000000000 ^ ps.length * r := Nat.mul_le_mul_left _ h0
    have h5 : 10000000000000000000 ^ (ps.length - 1) ≤ 10000000000000000000 ^ ps.length := Nat.pow_le_pow_right (by omega) (by omega)
    omega
  have h6 : 10000000000000000000 ^ (2 * s) ≤ 10000000000000000000 ^ (ps.length - 1) := Nat.pow_le_pow_right (by omega) (by omega)
  omega
 ·exact h2
end M
theorem Nw.lt {w : World} {lo s : Nat} {v : Value} {a : Nat} (h : Nw w lo s v a) : a < 18446744073709551616 ^ s := by
 obtain ⟨A, n, c, xs, _, h1, h2, h3⟩ := h
 have h4 := M.val_lt h1.wds
 rw [h2, h1.num] at h4
 exact Nat.lt_of_lt_of_le h4 (Nat.pow_le_pow_right (by omega) h3)
theorem sub_ok (w : World) (lo lo' s s' : Nat) (v v' : Value) (a b : Nat) (h : Nw w lo s v a) (h' : Nw w lo' s' v' b) (e : b ≤ a) :
  Calls Tryz.prog 87 #[v, v'] w (Opt s (a - b) true w) := by
 have := sub_any w lo lo' s s' v v' a b h h'
 rwa [decide_eq_true e] at this
end Go.Proofs.YtijpffgocookaaaGreatDoor
