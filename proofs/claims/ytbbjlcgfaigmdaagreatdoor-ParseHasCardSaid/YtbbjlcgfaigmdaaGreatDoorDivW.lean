/-
  nat.divideByWord: its contract.
-/
import Derived.Test.YtbbjlcgfaigmdaaGreatDoorNa
import Derived.Test.YtbbjlcgfaigmdaaGreatDoorMath2
import Derived.Deep.DeepCutAuto
import Derived.Deep.CutBlock
namespace Go.Proofs.YtbbjlcgfaigmdaaGreatDoor
open Go.RowKit Go.Shelf

set_option maxHeartbeats 1000000 in
set_option maxRecDepth 100000 in
theorem div64_small (w : World) (lo y : Nat) (hlo : lo < 18446744073709551616) (hy : y < 18446744073709551616) (hy0 : 0 < y) :
    Calls Tryz.prog 120 #[.int .u64 0, u64 lo, u64 y] w (Val (.tuple #[u64 (lo / y), u64 (lo % y)]) w) := by
  have h1 : ((y : Int) == 0) = false := by rw [beq_eq_false_iff_ne]; omega
  have h2 : decide ((y : Int) ≤ 0) = false := by simp; omega
  go_enter Tryz.func120, Tryz.ntmps120
  go_wp2_with fail
  go_quiet (fail)
  go_wp2_with fail
  go_ret2
  exact ⟨ret_u64s (wrap_u64 (by simp) (Nat.lt_of_le_of_lt (Nat.div_le_self _ _) hlo)) (by simp), _, rfl⟩

theorem wrap_nat (k : Nat) (h : k < 18446744073709551616) : IntKind.u64.wrap (k : Int) = (k : Int) := wrap_u64 rfl h
theorem and_low (a : Nat) (ha : a < 18446744073709551616) : bits .and .u64 (a : Int) 4294967295 = ((a % 4294967296 : Nat) : Int) := by
  have h := bits_and_u64_nat a 4294967295 ha (by omega)
  have e : a &&& 4294967295 = a % 4294967296 := Nat.and_two_pow_sub_one_eq_mod a 32
  rw [e] at h
  exact h
theorem or_join (x y s : Nat) (hx : x * 2 ^ s < 18446744073709551616) (hy : y < 2 ^ s) (hs : s ≤ 64) :
    bits .or .u64 (IntKind.u64.wrap ((x : Int) * 2 ^ s)) (y : Int) = ((x * 2 ^ s + y : Nat) : Int) := by
  have e1 : (x : Int) * 2 ^ s = ((x * 2 ^ s : Nat) : Int) := by simp
  have h2 : (2 : Nat) ^ s ≤ 2 ^ 64 := Nat.pow_le_pow_right (by omega) hs
  rw [e1, wrap_nat _ hx, bits_or_u64_nat _ _ hx (by omega), nat_join s _ _ (Nat.mul_mod_left _ _) hy]

theorem wrap_step {V : Nat} (U u Q Y : Nat) (h : U * 4294967296 + u = Q * Y + V) (hV : V < 18446744073709551616) :
    IntKind.u64.wrap (IntKind.u64.wrap (IntKind.u64.wrap ((U : Int) * 4294967296) + (u : Int)) - IntKind.u64.wrap ((Q : Int) * (Y : Int))) = (V : Int) := by
  rw [IntKind.wrap_u64, IntKind.wrap_u64, IntKind.wrap_u64, IntKind.wrap_u64, ← Int.natCast_mul]
  generalize Q * Y = p at *
  omega
theorem wrap_rest {V q a r : Nat} (h : q * a ≤ V) (hV : V < 18446744073709551616) (hr : r = V - q * a) : IntKind.u64.wrap ((V : Int) - IntKind.u64.wrap ((q : Int) * (a : Int))) = (r : Int) := by
  rw [IntKind.wrap_u64, IntKind.wrap_u64, ← Int.natCast_mul]
  generalize q * a = p at *
  omega

/-- What a loop of Div64 leaves. -/
def DivCut (Q : Nat) (w : World) (c : Value) (wx : World) : Prop := c = u64 Q ∧ w = wx

/-- What the walk through Div64 asks of its shifted words, in its own spelling. -/
structure DivIn (hi lo y s Y a b U L u1 u0 q r : Nat) : Prop where
  e1 : IntKind.u64.wrap ((y : Int) * 2 ^ s) = (Y : Int)
  e2 : bits .and .u64 (Y : Int) 4294967295 = (b : Int)
  e3 : (Y : Int) / 4294967296 = (a : Int)
  e4 : bits .or .u64 (IntKind.u64.wrap ((hi : Int) * 2 ^ s)) ((lo : Int) / 2 ^ (64 - s)) = (U : Int)
  e5 : IntKind.u64.wrap ((lo : Int) * 2 ^ s) = (L : Int)
  e6 : (L : Int) / 4294967296 = (u1 : Int)
  e7 : bits .and .u64 (L : Int) 4294967295 = (u0 : Int)
  e8 : IntKind.u64.wrap ((U : Int) / (a : Int)) = (q : Int)
  e9 : IntKind.u64.wrap ((U : Int) - IntKind.u64.wrap ((q : Int) * (a : Int))) = (r : Int)

set_option maxHeartbeats 1000000 in
set_option maxRecDepth 100000 in
theorem div64_walk (w : World) (hi lo y s Y a b U L u1 u0 q r : Nat) (hy : y < 18446744073709551616) (hh0 : 0 < hi) (hh : hi < y) (hlead : (64 - (Lib.bitLen y : Int)) = (s : Int)) (hs63 : s ≤ 63)
    (HI : DivIn hi lo y s Y a b U L u1 u0 q r) (hD : M.Divr Y a b) (hU : U < Y) (hu1 : u1 < 4294967296) (hu0 : u0 < 4294967296) (hG : M.Guess U Y a b u1 q r) (hr : r < 4294967296)
    (hUL : (hi * 18446744073709551616 + lo) * 2 ^ s = U * 18446744073709551616 + L) (hL : L = u1 * 4294967296 + u0) (hYe : Y = y * 2 ^ s) :
    Calls Tryz.prog 120 #[u64 hi, u64 lo, u64 y] w (Val (.tuple #[u64 ((hi * 18446744073709551616 + lo) / y), u64 ((hi * 18446744073709551616 + lo) % y)]) w) := by
  have HUL := Lib.hid hUL
  have HL := Lib.hid hL
  have HYE := Lib.hid hYe
  clear hUL hL hYe
  have h1 : ((y : Int) == 0) = false := by rw [beq_eq_false_iff_ne]; omega
  have h2 : decide ((y : Int) ≤ (hi : Int)) = false := by simp; omega
  have h3 : ((hi : Int) == 0) = false := by rw [beq_eq_false_iff_ne]; omega
  have cw := lead64_any y hy
  rw [hlead] at cw
  have CW := Lib.hid cw
  obtain ⟨e1, e2, e3, e4, e5, e6, e7, e8, e9⟩ := HI
  have ha := hD.hi
  have ha0 : ((a : Int) == 0) = false := by rw [beq_eq_false_iff_ne]; omega
  clear hlead cw
  go_enter Tryz.func120, Tryz.ntmps120
  go_wp2_with fail
  refine (CW.out _).mono ?_
  rintro _ _ ⟨rfl, rfl⟩
  go_upto_block 0 with (fail)
  clear e1 e2 e3 e4 e5 e6 e7 e8 e9 h1 h2 h3 hh0 hh CW
  obtain ⟨Q, hQ⟩ : ∃ Q, Q = (U * 4294967296 + u1) / Y := ⟨_, rfl⟩
  have HQD := Lib.hid hQ
  clear hQ
  go_cut [15] (fun c wx => DivCut Q w c wx)
  case first =>
    have hbl := hD.lo
    have ha' := hD.hi'
    go_wp2_with fail
    go_loop [15, 16] (fun c1 c2 => ∃ q r : Nat, c1 = u64 q ∧ c2 = u64 r ∧ M.Guess U Y a b u1 q r ∧ r < 4294967296) (fun c _ => (intOf c).toNat)
    case atStart => exact ⟨_, _, rfl, rfl, hG, hr⟩
    case round =>
      obtain ⟨q, r, rfl, rfl, HG, hr1⟩ := hrel
      have hqle := HG.le
      by_cases hmore : (U * 4294967296 + u1) / Y < q
      · obtain ⟨k, hk⟩ : ∃ k, q = k + 1 := ⟨q - 1, by have := Nat.lt_of_le_of_lt (Nat.zero_le _) hmore; omega⟩
        have HN := HG.next hmore
        rw [hk, Nat.add_sub_cancel] at HN
        have hq1 : ((q : Int) - 1) = (k : Int) := by omega
        have hq0 : 1 ≤ q := by omega
        have hkq : k ≤ 4294967296 := by omega
        have hkl : k < q := by omega
        have HSTOP : Hid (4294967296 ≤ r + a → k = (U * 4294967296 + u1) / Y) := fun h => HN.stop hD hkq h
        by_cases hbig : 4294967296 ≤ q
        · have hb' : decide ((4294967296 : Int) ≤ (q : Int)) = true := by simp; omega
          clear HG hmore hk
          by_cases hr2 : 4294967296 ≤ r + a
          · have hr3 : decide ((4294967296 : Int) ≤ (r : Int) + (a : Int)) = true := by simp; omega
            have HR2 := Lib.hid hr2
            clear hr2
            go_wp2_with fail
            go_meet
            exact ⟨by rw [HSTOP.out HR2.out, HQD.out], rfl⟩
          · have hr3 : decide ((4294967296 : Int) ≤ (r : Int) + (a : Int)) = false := by simp; omega
            go_wp2_with fail
            go_round
            case rel => exact ⟨k, r + a, rfl, by go_num, HN, by omega⟩
            case measure => simp [intOf]; omega
        · have hcmp : 4294967296 * r + u1 < q * b := by
            rcases Nat.lt_or_ge (4294967296 * r + u1) (q * b) with h | h
            · exact h
            · have := HG.done hD h; omega
          have hPb : q * b ≤ 4294967295 * 4294967295 := Nat.mul_le_mul (by omega) (by omega)
          obtain ⟨P, hP⟩ : ∃ P, q * b = P := ⟨_, rfl⟩
          rw [hP] at hcmp hPb
          have hPw : IntKind.u64.wrap ((q : Int) * (b : Int)) = (P : Int) := wrap_u64 (by rw [← hP]; simp) (by omega)
          have hcmp' : 4294967296 * (r : Int) + (u1 : Int) < (P : Int) := by omega
          have hb' : decide ((4294967296 : Int) ≤ (q : Int)) = false := by simp; omega
          have hc' : decide (4294967296 * (r : Int) + (u1 : Int) < (P : Int)) = true := by simp; omega
          clear HG hmore hk hP hcmp hPb
          by_cases hr2 : 4294967296 ≤ r + a
          · have hr3 : decide ((4294967296 : Int) ≤ (r : Int) + (a : Int)) = true := by simp; omega
            have HR2 := Lib.hid hr2
            clear hr2
            go_wp2_with fail
            go_meet
            exact ⟨by rw [HSTOP.out HR2.out, HQD.out], rfl⟩
          · have hr3 : decide ((4294967296 : Int) ≤ (r : Int) + (a : Int)) = false := by simp; omega
            go_wp2_with fail
            go_round
            case rel => exact ⟨k, r + a, rfl, by go_num, HN, by omega⟩
            case measure => simp [intOf]; omega
      · have hqQ : q = (U * 4294967296 + u1) / Y := Nat.le_antisymm (Nat.le_of_not_lt hmore) HG.ge
        have hbig : q < 4294967296 := by rw [hqQ]; exact M.digit_lt hU hu1
        have hcmp : q * b ≤ 4294967296 * r + u1 := by
          rcases Nat.lt_or_ge (4294967296 * r + u1) (q * b) with h | h
          · exact absurd (HG.more hD h) hmore
          · exact h
        obtain ⟨P, hP⟩ : ∃ P, q * b = P := ⟨_, rfl⟩
        rw [hP] at hcmp
        have hPw : IntKind.u64.wrap ((q : Int) * (b : Int)) = (P : Int) := wrap_u64 (by rw [← hP]; simp) (by omega)
        have hcmp' : (P : Int) ≤ 4294967296 * (r : Int) + (u1 : Int) := by omega
        have HQ := Lib.hid hqQ
        have hb' : decide ((4294967296 : Int) ≤ (q : Int)) = false := by simp; omega
        have hc' : decide (4294967296 * (r : Int) + (u1 : Int) < (P : Int)) = false := by simp; omega
        clear HG hmore hP hcmp hqQ
        go_wp2_with fail
        go_meet
        exact ⟨by rw [HQ.out, HQD.out], rfl⟩
  case rest =>
    obtain ⟨rfl, rfl⟩ := hcut
    obtain ⟨V, hV0⟩ : ∃ V, V = (U * 4294967296 + u1) % Y := ⟨_, rfl⟩
    have hV : V < Y := by rw [hV0]; exact Nat.mod_lt _ hD.pos
    have hVe : U * 4294967296 + u1 = Q * Y + V := by
      rw [hV0, HQD.out, Nat.mul_comm _ Y]; exact (Nat.div_add_mod _ _).symm
    have hY64 : Y < 18446744073709551616 := by have := hD.eq; have := hD.lo; have := hD.hi'; omega
    have g1 := wrap_step (V := V) U u1 Q Y hVe (by omega)
    obtain ⟨q2, hq2⟩ : ∃ q2, q2 = V / a := ⟨_, rfl⟩
    have hG2 := M.Guess.start hD hV hu0
    have hr2' := Nat.lt_trans (M.Guess.rest_lt (U := V) hD) hD.hi'
    have hpa : V / a * a ≤ V := Nat.div_mul_le_self _ _
    rw [← hq2] at hG2 hr2' hpa
    obtain ⟨r2, hr2e⟩ : ∃ r2, r2 = V - q2 * a := ⟨_, rfl⟩
    rw [← hr2e] at hG2 hr2'
    have g2 : IntKind.u64.wrap ((V : Int) / (a : Int)) = (q2 : Int) := wrap_u64 (by rw [hq2]; simp) (by have := hG2.le; omega)
    have g3 : IntKind.u64.wrap ((V : Int) - IntKind.u64.wrap ((q2 : Int) * (a : Int))) = (r2 : Int) := wrap_rest hpa (by omega) hr2e
    have hQ32 : Q < 4294967296 := by rw [HQD.out]; exact M.digit_lt hU hu1
    have HV0 := Lib.hid hV0
    clear hV0 hVe hq2 hpa hr2e hG hr
    go_upto_block 2 with (fail)
    clear g1 g2 g3
    obtain ⟨Q0, hQ0⟩ : ∃ Q0, Q0 = (V * 4294967296 + u0) / Y := ⟨_, rfl⟩
    have HQD2 := Lib.hid hQ0
    clear hQ0
    go_cut [18] (fun c wx => DivCut Q0 w c wx)
    case first =>
      have hbl := hD.lo
      have ha' := hD.hi'
      go_wp2_with fail
      go_loop [18, 16] (fun c1 c2 => ∃ q r : Nat, c1 = u64 q ∧ c2 = u64 r ∧ M.Guess V Y a b u0 q r ∧ r < 4294967296) (fun c _ => (intOf c).toNat)
      case atStart => exact ⟨_, _, rfl, rfl, hG2, hr2'⟩
      case round =>
        obtain ⟨q, r, rfl, rfl, HG, hr1⟩ := hrel
        have hqle := HG.le
        by_cases hmore : (V * 4294967296 + u0) / Y < q
        · obtain ⟨k, hk⟩ : ∃ k, q = k + 1 := ⟨q - 1, by have := Nat.lt_of_le_of_lt (Nat.zero_le _) hmore; omega⟩
          have HN := HG.next hmore
          rw [hk, Nat.add_sub_cancel] at HN
          have hq1 : ((q : Int) - 1) = (k : Int) := by omega
          have hq0 : 1 ≤ q := by omega
          have hkq : k ≤ 4294967296 := by omega
          have hkl : k < q := by omega
          have HSTOP : Hid (4294967296 ≤ r + a → k = (V * 4294967296 + u0) / Y) := fun h => HN.stop hD hkq h
          by_cases hbig : 4294967296 ≤ q
          · have hb' : decide ((4294967296 : Int) ≤ (q : Int)) = true := by simp; omega
            clear HG hmore hk
            by_cases hr2 : 4294967296 ≤ r + a
            · have hr3 : decide ((4294967296 : Int) ≤ (r : Int) + (a : Int)) = true := by simp; omega
              have HR2 := Lib.hid hr2
              clear hr2
              go_wp2_with fail
              go_meet
              exact ⟨by rw [HSTOP.out HR2.out, HQD2.out], rfl⟩
            · have hr3 : decide ((4294967296 : Int) ≤ (r : Int) + (a : Int)) = false := by simp; omega
              go_wp2_with fail
              go_round
              case rel => exact ⟨k, r + a, rfl, by go_num, HN, by omega⟩
              case measure => simp [intOf]; omega
          · have hcmp : 4294967296 * r + u0 < q * b := by
              rcases Nat.lt_or_ge (4294967296 * r + u0) (q * b) with h | h
              · exact h
              · have := HG.done hD h; omega
            have hPb : q * b ≤ 4294967295 * 4294967295 := Nat.mul_le_mul (by omega) (by omega)
            obtain ⟨P, hP⟩ : ∃ P, q * b = P := ⟨_, rfl⟩
            rw [hP] at hcmp hPb
            have hPw : IntKind.u64.wrap ((q : Int) * (b : Int)) = (P : Int) := wrap_u64 (by rw [← hP]; simp) (by omega)
            have hcmp' : 4294967296 * (r : Int) + (u0 : Int) < (P : Int) := by omega
            have hb' : decide ((4294967296 : Int) ≤ (q : Int)) = false := by simp; omega
            have hc' : decide (4294967296 * (r : Int) + (u0 : Int) < (P : Int)) = true := by simp; omega
            clear HG hmore hk hP hcmp hPb
            by_cases hr2 : 4294967296 ≤ r + a
            · have hr3 : decide ((4294967296 : Int) ≤ (r : Int) + (a : Int)) = true := by simp; omega
              have HR2 := Lib.hid hr2
              clear hr2
              go_wp2_with fail
              go_meet
              exact ⟨by rw [HSTOP.out HR2.out, HQD2.out], rfl⟩
            · have hr3 : decide ((4294967296 : Int) ≤ (r : Int) + (a : Int)) = false := by simp; omega
              go_wp2_with fail
              go_round
              case rel => exact ⟨k, r + a, rfl, by go_num, HN, by omega⟩
              case measure => simp [intOf]; omega
        · have hqQ : q = (V * 4294967296 + u0) / Y := Nat.le_antisymm (Nat.le_of_not_lt hmore) HG.ge
          have hbig : q < 4294967296 := by rw [hqQ]; exact M.digit_lt hV hu0
          have hcmp : q * b ≤ 4294967296 * r + u0 := by
            rcases Nat.lt_or_ge (4294967296 * r + u0) (q * b) with h | h
            · exact absurd (HG.more hD h) hmore
            · exact h
          obtain ⟨P, hP⟩ : ∃ P, q * b = P := ⟨_, rfl⟩
          rw [hP] at hcmp
          have hPw : IntKind.u64.wrap ((q : Int) * (b : Int)) = (P : Int) := wrap_u64 (by rw [← hP]; simp) (by omega)
          have hcmp' : (P : Int) ≤ 4294967296 * (r : Int) + (u0 : Int) := by omega
          have HQ := Lib.hid hqQ
          have hb' : decide ((4294967296 : Int) ≤ (q : Int)) = false := by simp; omega
          have hc' : decide (4294967296 * (r : Int) + (u0 : Int) < (P : Int)) = false := by simp; omega
          clear HG hmore hP hcmp hqQ
          go_wp2_with fail
          go_meet
          exact ⟨by rw [HQ.out, HQD2.out], rfl⟩

    case rest =>
      obtain ⟨rfl, rfl⟩ := hcut
      obtain ⟨R, hR⟩ : ∃ R, R = (V * 4294967296 + u0) % Y := ⟨_, rfl⟩
      have hRY : R < Y := by rw [hR]; exact Nat.mod_lt _ hD.pos
      have hRe : V * 4294967296 + u0 = Q0 * Y + R := by
        rw [hR, HQD2.out, Nat.mul_comm _ Y]; exact (Nat.div_add_mod _ _).symm
      have g4 := wrap_step (V := R) V u0 Q0 Y hRe (by omega)
      have hQ32' : Q0 < 4294967296 := by rw [HQD2.out]; exact M.digit_lt hV hu0
      obtain ⟨t1, t2⟩ := M.div_two U u1 u0 Y hD.pos
      obtain ⟨k1, k2⟩ := M.div_shift (hi * 18446744073709551616 + lo) y (2 ^ s) (Nat.pow_pos (by omega))
      rw [HUL.out, HL.out, ← HYE.out] at k1 k2
      rw [k1, ← HQD.out, ← HV0.out, ← HQD2.out] at t1
      rw [k2, ← HV0.out, ← hR] at t2
      have hfin : (R : Int) / 2 ^ s = (((hi * 18446744073709551616 + lo) % y : Nat) : Int) := by
        rw [← t2, Int.natCast_mul]
        have hp : (0 : Int) < 2 ^ s := Int.pow_pos (by omega)
        simp [Int.mul_ediv_cancel _ (Int.ne_of_gt hp)]
      have T1 := Lib.hid t1
      have TF := Lib.hid hfin
      clear hR hRe t1 t2 k1 k2 hfin HUL HL HYE HQD HQD2 HV0
      go_wp2_with fail
      go_ret2
      exact ⟨ret_u64s (by rw [T1.out]; simp) TF.out, 0, rfl⟩

theorem M.bitLen_bounds {y : Nat} (hy : y < 18446744073709551616) (h0 : 0 < y) : Lib.bitLen y = M.bits y ∧ 1 ≤ M.bits y ∧ M.bits y ≤ 64 ∧ 9223372036854775808 ≤ y * 2 ^ (64 - M.bits y) ∧ y * 2 ^ (64 - M.bits y) < 18446744073709551616 := by
  have h1 := M.bits_le (show y ≠ 0 by omega)
  have h2 := M.bits_lt y
  have h3 := M.bits_pos (show y ≠ 0 by omega)
  have h4 : M.bits y ≤ 64 := by
    rcases Nat.lt_or_ge 64 (M.bits y) with h | h
    · have h5 : 2 ^ 64 ≤ 2 ^ (M.bits y - 1) := Nat.pow_le_pow_right (by omega) (by omega)
      omega
    · exact h
  refine ⟨M.bitLen_eq y y (Nat.le_refl _) hy, h3, h4, ?_, ?_⟩
  · have e : 2 ^ (M.bits y - 1) * 2 ^ (64 - M.bits y) = 2 ^ 63 := by rw [← Nat.pow_add, show M.bits y - 1 + (64 - M.bits y) = 63 from by omega]
    have := Nat.mul_le_mul_right (2 ^ (64 - M.bits y)) h1
    omega
  · have e : 2 ^ M.bits y * 2 ^ (64 - M.bits y) = 2 ^ 64 := by rw [← Nat.pow_add, show M.bits y + (64 - M.bits y) = 64 from by omega]
    have hp : 0 < 2 ^ (64 - M.bits y) := Nat.pow_pos (by omega)
    have := Nat.mul_lt_mul_of_pos_right h2 hp
    omega

/-- math/bits.Div64: every y that is greater than the higher word. -/
theorem div64_any (w : World) (hi lo y : Nat) (hlo : lo < 18446744073709551616) (hy : y < 18446744073709551616) (hh : hi < y) :
    Calls Tryz.prog 120 #[u64 hi, u64 lo, u64 y] w (Val (.tuple #[u64 ((hi * 18446744073709551616 + lo) / y), u64 ((hi * 18446744073709551616 + lo) % y)]) w) := by
  rcases Nat.eq_zero_or_pos hi with h0 | h0
  · subst h0
    have := div64_small w lo y hlo hy hh
    rw [Nat.zero_mul, Nat.zero_add]
    exact this
  · obtain ⟨b1, b2, b3, b4, b5⟩ := M.bitLen_bounds hy (by omega)
    obtain ⟨s, hs⟩ : ∃ s, s = 64 - M.bits y := ⟨_, rfl⟩
    rw [← hs] at b4 b5
    obtain ⟨c1, c2, c3, c4⟩ := M.shift_hi (s := s) (by omega) hh hlo b5
    obtain ⟨Y, hYe⟩ : ∃ Y, Y = y * 2 ^ s := ⟨_, rfl⟩
    obtain ⟨U, hUe⟩ : ∃ U, U = hi * 2 ^ s + lo / 2 ^ (64 - s) := ⟨_, rfl⟩
    obtain ⟨L, hLe⟩ : ∃ L, L = lo * 2 ^ s % 18446744073709551616 := ⟨_, rfl⟩
    rw [← hYe] at b4 b5 c2
    rw [← hUe] at c1 c2
    rw [← hLe] at c1
    have hL64 : L < 18446744073709551616 := by rw [hLe]; exact Nat.mod_lt _ (by omega)
    have hD := M.Divr.of b4 b5
    have hG := M.Guess.start hD c2 (show L / 4294967296 < 4294967296 by omega)
    have hr := Nat.lt_trans (M.Guess.rest_lt (U := U) hD) hD.hi'
    have hpa : U / (Y / 4294967296) * (Y / 4294967296) ≤ U := Nat.div_mul_le_self _ _
    refine div64_walk w hi lo y s Y (Y / 4294967296) (Y % 4294967296) U L (L / 4294967296) (L % 4294967296) (U / (Y / 4294967296)) (U - U / (Y / 4294967296) * (Y / 4294967296)) hy h0 hh (by rw [b1]; omega) (by omega)
      ⟨?_, and_low Y b5, by simp, ?_, ?_, by simp, and_low L hL64, ?_, wrap_rest hpa (by omega) rfl⟩ hD c2 (by omega) (by omega) hG hr c1 (by omega) hYe
    · exact wrap_u64 (by rw [hYe]; simp) b5
    · have := or_join hi (lo / 2 ^ (64 - s)) s c3 c4 (by omega)
      rw [← hUe] at this
      rw [← this]
      simp
    · rw [IntKind.wrap_u64, hLe]; simp
    · exact wrap_u64 (by simp) (by have := hG.le; omega)
end Go.Proofs.YtbbjlcgfaigmdaaGreatDoor
namespace Go.Proofs.YtbbjlcgfaigmdaaGreatDoor
open Go.RowKit Go.Shelf

/-- What is so behind a division from the highest word down to word k. -/
def M.DivInv (xs : List Nat) (by_ k left : Nat) (zs : List Nat) : Prop :=
  zs.length = xs.length ∧ left < by_ ∧ (∀ j, j < k → zs.getD j 0 = xs.getD j 0) ∧ M.val (xs.drop k) = M.val (zs.drop k) * by_ + left
theorem M.val_drop {xs : List Nat} {k : Nat} (h : k < xs.length) : M.val (xs.drop k) = xs.getD k 0 + 18446744073709551616 * M.val (xs.drop (k + 1)) := by
  rw [List.drop_eq_getElem_cons h, M.val_cons]
  simp [List.getD_eq_getElem?_getD, List.getElem?_eq_getElem h]
theorem M.DivInv.start (xs : List Nat) (by_ : Nat) (h : 0 < by_) : M.DivInv xs by_ xs.length 0 xs := by
  refine ⟨rfl, h, fun _ _ => rfl, ?_⟩
  rw [List.drop_of_length_le (Nat.le_refl _)]
  simp [M.val]
theorem M.DivInv.step {xs zs : List Nat} {by_ k left x : Nat} (h : M.DivInv xs by_ (k + 1) left zs) (hk : k < xs.length) (hx : xs.getD k 0 = x) :
    M.DivInv xs by_ k ((left * 18446744073709551616 + x) % by_) (zs.set k ((left * 18446744073709551616 + x) / by_)) := by
  obtain ⟨h1, h2, h3, h4⟩ := h
  have hb : 0 < by_ := by omega
  refine ⟨by simp [h1], Nat.mod_lt _ hb, fun j hj => ?_, ?_⟩
  · rw [M.getD_set_ne (by omega)]; exact h3 j (by omega)
  · rw [M.val_drop hk, M.val_drop (xs := zs.set k _) (by simpa [h1] using hk), M.getD_set (by omega), M.drop_set_lt (by omega), hx, h4, Nat.add_mul, Nat.mul_assoc]
    have := Nat.div_add_mod (left * 18446744073709551616 + x) by_
    rw [Nat.mul_comm by_] at this
    rw [Nat.mul_add]
    omega

section
variable {w : World} {lo n c b o : Nat} {xs : List Nat}
theorem Wd.stored (h : Wd w lo (some ⟨b, o, none⟩) n c xs) {i x : Nat} (hi : i < n) (hx : x < 18446744073709551616) :
    Wd (w.setCell ⟨b, o + i, none⟩ (u64 x)) lo (some ⟨b, o, none⟩) n c (xs.set i x) := by
  refine ⟨by simp [h.num], h.len, h.small, h.wds.set i hx, fun hn => ?_⟩
  obtain ⟨b', o', e, hb, hc⟩ := h.at_ hn
  simp only [Option.some.injEq, Addr.mk.injEq, and_true] at e
  obtain ⟨rfl, rfl⟩ := e
  refine ⟨b, o, rfl, hb, fun j hj => ?_⟩
  obtain ⟨k1, k2⟩ := hc j hj
  refine ⟨?_, by rw [World.frozen?_setCell]; exact k2⟩
  by_cases hij : i = j
  · subst hij
    rw [M.getD_set (by rw [h.num]; exact hi)]
    exact World.cell?_setCell_same w _ _ k1
  · rw [M.getD_set_ne hij, World.cell?_setCell_other]
    · exact k1
    · intro e
      injection e with _ e2 _
      omega
end

/-- Below block lo nothing has turned, whatever the draws. -/
theorem below_drewN {B : Nat} {a w : World} (h : Below B a w) (n : Nat) : Below B a (w.drewN n) := ⟨h.os, h.tape, h.output, h.size, h.block⟩
theorem below_up {B : Nat} {a w w' : World} (h : Below B a w) (k : Up w w') (hB : B ≤ w.heap.size) : Below B a w' := h.trans (Below.mono k hB)

theorem only_up {a w w' : World} {row : Option Nat} (h : a.grownBy w row) (k : Up w w') : a.grownBy w' row :=
  ⟨k.os.trans h.os, k.tape.trans h.tape, k.output.trans h.output, Nat.le_trans h.size (Up.size k), fun i hi hne => (k.block i (Nat.lt_of_lt_of_le hi h.size)).trans (h.block i hi hne)⟩
theorem only_setCell {a w : World} {g : Nat} (h : a.grownBy w (some g)) (i : Nat) (u : Value) : a.grownBy (w.setCell ⟨g, i, none⟩ u) (some g) :=
  ⟨h.os, h.tape, h.output, by simpa [World.setCell] using h.size, fun k hk hne => (Below.heap_setCell w ⟨g, i, none⟩ u k (by
    rintro rfl
    exact hne rfl)).trans (h.block k hk hne)⟩

/-- Another block has been written. -/
theorem Wd.kept {w w' : World} {lo n c : Nat} {A : Option Addr} {xs : List Nat} {row : Option Nat} (h : Wd w lo A n c xs) (hg : w.grownBy w' row) (hne : 0 < n → ∀ b, A.map (·.block) = some b → row ≠ some b) : Wd w' lo A n c xs := by
  refine ⟨h.num, h.len, h.small, h.wds, fun hn => ?_⟩
  obtain ⟨b, o, rfl, hb, hc⟩ := h.at_ hn
  refine ⟨b, o, rfl, hb, fun j hj => ?_⟩
  obtain ⟨k1, k2⟩ := hc j hj
  have hbl := hg.block b (World.block_lt_of_cell? w _ k1) (fun e => hne hn b rfl e.symm)
  exact ⟨(World.cell?_of_block (w := w) hbl).trans k1, (World.frozen?_of_block (w := w) hbl).trans k2⟩

/-- What divideByWord comes to. -/
def DivByWord (lo : Nat) (A : Option Addr) (n c : Nat) (xs : List Nat) (b : Nat) (w : World) (e : Ending) (w' : World) : Prop :=
  ∃ zs, e = .returned (u64 (M.val xs % b)) ∧ Wd w' lo A n c zs ∧ M.val zs = M.val xs / b ∧ Below lo w w' ∧ w.grownBy w' (A.map (·.block))

set_option maxHeartbeats 400000 in
set_option maxRecDepth 100000 in
theorem divideByWord_any (w : World) (lo : Nat) (A : Option Addr) (n c : Nat) (xs : List Nat) (h : Wd w lo A n c xs) (b : Nat) (hb0 : 0 < b) (hb : b < 18446744073709551616) (hlo : lo ≤ w.heap.size) :
    Calls Tryz.prog 76 #[.slice A n c, u64 b] w (DivByWord lo A n c xs b w) := by
  have hn := h.num
  have hsm := h.small
  have HST : Hid (M.DivInv xs b n 0 xs) := by rw [← hn]; exact M.DivInv.start xs b hb0
  have hwx := h.wds
  clear hb0
  go_enter Tryz.func76, Tryz.ntmps76
  go_wp2_with fail
  go_loopw [5, 6] (fun l i wr => ∃ (k : Int) (q : Nat) (zs : List Nat), -1 ≤ k ∧ k < n ∧ l = u64 q ∧ i = .int .i64 k ∧ Below lo w wr ∧ w.grownBy wr (A.map (·.block)) ∧ Wd wr lo A n c zs ∧ Hid (M.DivInv xs b (k + 1).toNat q zs)) (fun _ i _ => (intOf i + 1).toNat)
  case atStart => exact ⟨(n : Int) - 1, 0, xs, by omega, by omega, rfl, rfl, Below.refl _ _, World.grownBy.refl _ _, h, by rw [show ((n : Int) - 1 + 1).toNat = n from by omega]; exact HST.out⟩
  case round =>
    obtain ⟨k, q, zs, hk1, hk2, rfl, rfl, hbl, hon, hz, HI⟩ := hrel
    clear h HST
    by_cases hk0 : k = -1
    · subst hk0
      go_wp2_with fail
      go_ret
      obtain ⟨i1, i2, _, i4⟩ := HI.out
      simp only [show ((-1 : Int) + 1).toNat = 0 from rfl, List.drop_zero] at i4
      have hbp : 0 < b := by omega
      refine ⟨zs, ?_, hz, ?_, hbl, hon⟩
      · refine ret_int ?_
        rw [i4, Nat.mul_comm, Nat.mul_add_mod, Nat.mod_eq_of_lt i2]
      · rw [i4, Nat.mul_comm, Nat.mul_add_div hbp, Nat.div_eq_of_lt i2, Nat.add_zero]
    · obtain ⟨i, rfl⟩ := Int.eq_ofNat_of_zero_le (show 0 ≤ k by omega)
      have hin : i < n := by omega
      have hI := HI.out
      rw [show ((i : Int) + 1).toNat = i + 1 from by omega] at hI
      have hq := hI.2.1
      have hx2 := hI.2.2.1 i (by omega)
      obtain ⟨x, hx⟩ : ∃ x, xs.getD i 0 = x := ⟨_, rfl⟩
      rw [hx] at hx2
      have hxb : x < 18446744073709551616 := by rw [← hx]; exact hwx.getD i
      obtain ⟨bb, oo, rfl, hlb, hc⟩ := hz.at_ (by omega)
      obtain ⟨hc1, hf1⟩ := hc i hin
      rw [hx2] at hc1
      have CW := Lib.hid (div64_any wr q x b hxb hb hq)
      have HN := Lib.hid (hI.step (by omega) hx)
      have hqb : (q * 18446744073709551616 + x) / b < 18446744073709551616 := by
        refine Nat.div_lt_of_lt_mul ?_
        have : (q + 1) * 18446744073709551616 ≤ b * 18446744073709551616 := by omega
        omega
      generalize (q * 18446744073709551616 + x) / b = q1 at *
      generalize (q * 18446744073709551616 + x) % b = r1 at *
      have HQB := Lib.hid hqb
      clear hI hq hx2 hx hxb hc hk0 hk1 HI hqb hwx
      go_wp2_with fail
      refine CW.out.mono ?_
      rintro _ W ⟨rfl, kk, hW⟩
      have hu : Up wr W := by rw [hW]; exact (Up.refl wr).drewN kk
      have hzW := hz.up hu
      have hblW := below_up hbl hu (Nat.le_trans hlo hbl.size)
      have honW := only_up hon hu
      obtain ⟨hc2, hf2⟩ : W.cell? ⟨bb, oo + i, none⟩ = some (u64 x) ∧ W.frozen? ⟨bb, oo + i, none⟩ = false := by
        rw [hW]; exact ⟨hc1, hf1⟩
      clear hW CW hbl hz hc1 hf1 hu hon
      go_wp2_with fail
      go_roundw
      case rel =>
        exact ⟨(i : Int) - 1, r1, zs.set i q1, by omega, by omega, rfl, rfl, hblW.setCell hlb _, only_setCell honW _ _, hzW.stored hin HQB.out, by rw [show ((i : Int) - 1 + 1).toNat = i from by omega]; exact HN.out⟩
      case measure => simp [intOf]
end Go.Proofs.YtbbjlcgfaigmdaaGreatDoor
