/-
  nat: dividing by a word, dividing, subtracting; text, Parse, few; what each law of the first layers shows.
-/
import Derived.Test.YtjmnobgllnaljaaGreatDoorNa
import Derived.Test.YtjmnobgllnaljaaGreatDoorMath2
import Derived.Lib.ParseIntB
import Derived.Deep.DeepCutAuto
import Derived.Deep.CutBlock
import Derived.Deep.LoopGhost
import Derived.Shelf.Strconv.AppendUint10
import Derived.Lib.Repeat
import Derived.Shelf.Strconv.AppendInt10
import Derived.Test.YtjmnobgllnaljaaGreatDoorVsa
/-
  nat.divideByWord: its contract.
-/
namespace Go.Proofs.YtjmnobgllnaljaaGreatDoor
open Go.RowKit Go.Shelf

set_option maxHeartbeats 1000000 in
set_option maxRecDepth 100000 in
theorem div64_small (w : World) (lo y : Nat) (hlo : lo < 18446744073709551616) (hy : y < 18446744073709551616) (hy0 : 0 < y) :
    Calls Tryz.prog 80 #[.int .u64 0, u64 lo, u64 y] w (Val (.tuple #[u64 (lo / y), u64 (lo % y)]) w) := by
  have h1 : ((y : Int) == 0) = false := by rw [beq_eq_false_iff_ne]; omega
  have h2 : decide ((y : Int) ≤ 0) = false := by simp; omega
  go_enter Tryz.func80, Tryz.ntmps80
  go_wp2_with fail
  go_quiet (fail)
  go_wp2_with fail
  go_ret2
  exact ⟨ret_u64s (wrap_u64 (by simp) (Nat.lt_of_le_of_lt (Nat.div_le_self _ _) hlo)) (by simp), _, rfl⟩

theorem wrap_nat (k : Nat) (h : k < 18446744073709551616) : IntKind.u64.wrap (k : Int) = (k : Int) := wrap_u64 rfl h
theorem and_low (a : Nat) (ha : a < 18446744073709551616) : bits .and .u64 (a : Int) 4294967295 = ((a % 4294967296 : Nat) : Int) := by
  have h := bits_and_u64_nat a 4294967295 ha (by omega)
  have e : a &&& 4294967295 = a % 4294967296 := Nat.and_two_pow_sub_one_eq_mod a 32
  rw [e] at h
  exact h
theorem or_join (x y s : Nat) (hx : x * 2 ^ s < 18446744073709551616) (hy : y < 2 ^ s) (hs : s ≤ 64) :
    bits .or .u64 (IntKind.u64.wrap ((x : Int) * 2 ^ s)) (y : Int) = ((x * 2 ^ s + y : Nat) : Int) := by
  have e1 : (x : Int) * 2 ^ s = ((x * 2 ^ s : Nat) : Int) := by simp
  have h2 : (2 : Nat) ^ s ≤ 2 ^ 64 := Nat.pow_le_pow_right (by omega) hs
  rw [e1, wrap_nat _ hx, bits_or_u64_nat _ _ hx (by omega), nat_join s _ _ (Nat.mul_mod_left _ _) hy]

theorem wrap_step {V : Nat} (U u Q Y : Nat) (h : U * 4294967296 + u = Q * Y + V) (hV : V < 18446744073709551616) :
    IntKind.u64.wrap (IntKind.u64.wrap (IntKind.u64.wrap ((U : Int) * 4294967296) + (u : Int)) - IntKind.u64.wrap ((Q : Int) * (Y : Int))) = (V : Int) := by
  rw [IntKind.wrap_u64, IntKind.wrap_u64, IntKind.wrap_u64, IntKind.wrap_u64, ← Int.natCast_mul]
  generalize Q * Y = p at *
  omega
theorem wrap_rest {V q a r : Nat} (h : q * a ≤ V) (hV : V < 18446744073709551616) (hr : r = V - q * a) : IntKind.u64.wrap ((V : Int) - IntKind.u64.wrap ((q : Int) * (a : Int))) = (r : Int) := by
  rw [IntKind.wrap_u64, IntKind.wrap_u64, ← Int.natCast_mul]
  generalize q * a = p at *
  omega

/-- What a loop of Div64 leaves. -/
def DivCut (Q : Nat) (w : World) (c : Value) (wx : World) : Prop := c = u64 Q ∧ w = wx

/-- What the walk through Div64 asks of its shifted words, in its own spelling. -/
structure DivIn (hi lo y s Y a b U L u1 u0 q r : Nat) : Prop where
  e1 : IntKind.u64.wrap ((y : Int) * 2 ^ s) = (Y : Int)
  e2 : bits .and .u64 (Y : Int) 4294967295 = (b : Int)
  e3 : (Y : Int) / 4294967296 = (a : Int)
  e4 : bits .or .u64 (IntKind.u64.wrap ((hi : Int) * 2 ^ s)) ((lo : Int) / 2 ^ (64 - s)) = (U : Int)
  e5 : IntKind.u64.wrap ((lo : Int) * 2 ^ s) = (L : Int)
  e6 : (L : Int) / 4294967296 = (u1 : Int)
  e7 : bits .and .u64 (L : Int) 4294967295 = (u0 : Int)
  e8 : IntKind.u64.wrap ((U : Int) / (a : Int)) = (q : Int)
  e9 : IntKind.u64.wrap ((U : Int) - IntKind.u64.wrap ((q : Int) * (a : Int))) = (r : Int)

set_option maxHeartbeats 1000000 in
set_option maxRecDepth 100000 in
theorem div64_walk (w : World) (hi lo y s Y a b U L u1 u0 q r : Nat) (hy : y < 18446744073709551616) (hh0 : 0 < hi) (hh : hi < y) (hlead : (64 - (Lib.bitLen y : Int)) = (s : Int)) (hs63 : s ≤ 63)
    (HI : DivIn hi lo y s Y a b U L u1 u0 q r) (hD : M.Divr Y a b) (hU : U < Y) (hu1 : u1 < 4294967296) (hu0 : u0 < 4294967296) (hG : M.Guess U Y a b u1 q r) (hr : r < 4294967296)
    (hUL : (hi * 18446744073709551616 + lo) * 2 ^ s = U * 18446744073709551616 + L) (hL : L = u1 * 4294967296 + u0) (hYe : Y = y * 2 ^ s) :
    Calls Tryz.prog 80 #[u64 hi, u64 lo, u64 y] w (Val (.tuple #[u64 ((hi * 18446744073709551616 + lo) / y), u64 ((hi * 18446744073709551616 + lo) % y)]) w) := by
  have HUL := Lib.hid hUL
  have HL := Lib.hid hL
  have HYE := Lib.hid hYe
  clear hUL hL hYe
  have h1 : ((y : Int) == 0) = false := by rw [beq_eq_false_iff_ne]; omega
  have h2 : decide ((y : Int) ≤ (hi : Int)) = false := by simp; omega
  have h3 : ((hi : Int) == 0) = false := by rw [beq_eq_false_iff_ne]; omega
  have cw := lead64_any y hy
  rw [hlead] at cw
  have CW := Lib.hid cw
  obtain ⟨e1, e2, e3, e4, e5, e6, e7, e8, e9⟩ := HI
  have ha := hD.hi
  have ha0 : ((a : Int) == 0) = false := by rw [beq_eq_false_iff_ne]; omega
  clear hlead cw
  go_enter Tryz.func80, Tryz.ntmps80
  go_wp2_with fail
  refine (CW.out _).mono ?_
  rintro _ _ ⟨rfl, rfl⟩
  go_upto_block 0 with (fail)
  clear e1 e2 e3 e4 e5 e6 e7 e8 e9 h1 h2 h3 hh0 hh CW
  obtain ⟨Q, hQ⟩ : ∃ Q, Q = (U * 4294967296 + u1) / Y := ⟨_, rfl⟩
  have HQD := Lib.hid hQ
  clear hQ
  go_cut [15] (fun c wx => DivCut Q w c wx)
  case first =>
    have hbl := hD.lo
    have ha' := hD.hi'
    go_wp2_with fail
    go_loop [15, 16] (fun c1 c2 => ∃ q r : Nat, c1 = u64 q ∧ c2 = u64 r ∧ M.Guess U Y a b u1 q r ∧ r < 4294967296) (fun c _ => (intOf c).toNat)
    case atStart => exact ⟨_, _, rfl, rfl, hG, hr⟩
    case round =>
      obtain ⟨q, r, rfl, rfl, HG, hr1⟩ := hrel
      have hqle := HG.le
      by_cases hmore : (U * 4294967296 + u1) / Y < q
      · obtain ⟨k, hk⟩ : ∃ k, q = k + 1 := ⟨q - 1, by have := Nat.lt_of_le_of_lt (Nat.zero_le _) hmore; omega⟩
        have HN := HG.next hmore
        rw [hk, Nat.add_sub_cancel] at HN
        have hq1 : ((q : Int) - 1) = (k : Int) := by omega
        have hq0 : 1 ≤ q := by omega
        have hkq : k ≤ 4294967296 := by omega
        have hkl : k < q := by omega
        have HSTOP : Hid (4294967296 ≤ r + a → k = (U * 4294967296 + u1) / Y) := fun h => HN.stop hD hkq h
        by_cases hbig : 4294967296 ≤ q
        · have hb' : decide ((4294967296 : Int) ≤ (q : Int)) = true := by simp; omega
          clear HG hmore hk
          by_cases hr2 : 4294967296 ≤ r + a
          · have hr3 : decide ((4294967296 : Int) ≤ (r : Int) + (a : Int)) = true := by simp; omega
            have HR2 := Lib.hid hr2
            clear hr2
            go_wp2_with fail
            go_meet
            exact ⟨by rw [HSTOP.out HR2.out, HQD.out], rfl⟩
          · have hr3 : decide ((4294967296 : Int) ≤ (r : Int) + (a : Int)) = false := by simp; omega
            go_wp2_with fail
            go_round
            case rel => exact ⟨k, r + a, rfl, by go_num, HN, by omega⟩
            case measure => simp [intOf]; omega
        · have hcmp : 4294967296 * r + u1 < q * b := by
            rcases Nat.lt_or_ge (4294967296 * r + u1) (q * b) with h | h
            · exact h
            · have := HG.done hD h; omega
          have hPb : q * b ≤ 4294967295 * 4294967295 := Nat.mul_le_mul (by omega) (by omega)
          obtain ⟨P, hP⟩ : ∃ P, q * b = P := ⟨_, rfl⟩
          rw [hP] at hcmp hPb
          have hPw : IntKind.u64.wrap ((q : Int) * (b : Int)) = (P : Int) := wrap_u64 (by rw [← hP]; simp) (by omega)
          have hcmp' : 4294967296 * (r : Int) + (u1 : Int) < (P : Int) := by omega
          have hb' : decide ((4294967296 : Int) ≤ (q : Int)) = false := by simp; omega
          have hc' : decide (4294967296 * (r : Int) + (u1 : Int) < (P : Int)) = true := by simp; omega
          clear HG hmore hk hP hcmp hPb
          by_cases hr2 : 4294967296 ≤ r + a
          · have hr3 : decide ((4294967296 : Int) ≤ (r : Int) + (a : Int)) = true := by simp; omega
            have HR2 := Lib.hid hr2
            clear hr2
            go_wp2_with fail
            go_meet
            exact ⟨by rw [HSTOP.out HR2.out, HQD.out], rfl⟩
          · have hr3 : decide ((4294967296 : Int) ≤ (r : Int) + (a : Int)) = false := by simp; omega
            go_wp2_with fail
            go_round
            case rel => exact ⟨k, r + a, rfl, by go_num, HN, by omega⟩
            case measure => simp [intOf]; omega
      · have hqQ : q = (U * 4294967296 + u1) / Y := Nat.le_antisymm (Nat.le_of_not_lt hmore) HG.ge
        have hbig : q < 4294967296 := by rw [hqQ]; exact M.digit_lt hU hu1
        have hcmp : q * b ≤ 4294967296 * r + u1 := by
          rcases Nat.lt_or_ge (4294967296 * r + u1) (q * b) with h | h
          · exact absurd (HG.more hD h) hmore
          · exact h
        obtain ⟨P, hP⟩ : ∃ P, q * b = P := ⟨_, rfl⟩
        rw [hP] at hcmp
        have hPw : IntKind.u64.wrap ((q : Int) * (b : Int)) = (P : Int) := wrap_u64 (by rw [← hP]; simp) (by omega)
        have hcmp' : (P : Int) ≤ 4294967296 * (r : Int) + (u1 : Int) := by omega
        have HQ := Lib.hid hqQ
        have hb' : decide ((4294967296 : Int) ≤ (q : Int)) = false := by simp; omega
        have hc' : decide (4294967296 * (r : Int) + (u1 : Int) < (P : Int)) = false := by simp; omega
        clear HG hmore hP hcmp hqQ
        go_wp2_with fail
        go_meet
        exact ⟨by rw [HQ.out, HQD.out], rfl⟩
  case rest =>
    obtain ⟨rfl, rfl⟩ := hcut
    obtain ⟨V, hV0⟩ : ∃ V, V = (U * 4294967296 + u1) % Y := ⟨_, rfl⟩
    have hV : V < Y := by rw [hV0]; exact Nat.mod_lt _ hD.pos
    have hVe : U * 4294967296 + u1 = Q * Y + V := by
      rw [hV0, HQD.out, Nat.mul_comm _ Y]; exact (Nat.div_add_mod _ _).symm
    have hY64 : Y < 18446744073709551616 := by have := hD.eq; have := hD.lo; have := hD.hi'; omega
    have g1 := wrap_step (V := V) U u1 Q Y hVe (by omega)
    obtain ⟨q2, hq2⟩ : ∃ q2, q2 = V / a := ⟨_, rfl⟩
    have hG2 := M.Guess.start hD hV hu0
    have hr2' := Nat.lt_trans (M.Guess.rest_lt (U := V) hD) hD.hi'
    have hpa : V / a * a ≤ V := Nat.div_mul_le_self _ _
    rw [← hq2] at hG2 hr2' hpa
    obtain ⟨r2, hr2e⟩ : ∃ r2, r2 = V - q2 * a := ⟨_, rfl⟩
    rw [← hr2e] at hG2 hr2'
    have g2 : IntKind.u64.wrap ((V : Int) / (a : Int)) = (q2 : Int) := wrap_u64 (by rw [hq2]; simp) (by have := hG2.le; omega)
    have g3 : IntKind.u64.wrap ((V : Int) - IntKind.u64.wrap ((q2 : Int) * (a : Int))) = (r2 : Int) := wrap_rest hpa (by omega) hr2e
    have hQ32 : Q < 4294967296 := by rw [HQD.out]; exact M.digit_lt hU hu1
    have HV0 := Lib.hid hV0
    clear hV0 hVe hq2 hpa hr2e hG hr
    go_upto_block 2 with (fail)
    clear g1 g2 g3
    obtain ⟨Q0, hQ0⟩ : ∃ Q0, Q0 = (V * 4294967296 + u0) / Y := ⟨_, rfl⟩
    have HQD2 := Lib.hid hQ0
    clear hQ0
    go_cut [18] (fun c wx => DivCut Q0 w c wx)
    case first =>
      have hbl := hD.lo
      have ha' := hD.hi'
      go_wp2_with fail
      go_loop [18, 16] (fun c1 c2 => ∃ q r : Nat, c1 = u64 q ∧ c2 = u64 r ∧ M.Guess V Y a b u0 q r ∧ r < 4294967296) (fun c _ => (intOf c).toNat)
      case atStart => exact ⟨_, _, rfl, rfl, hG2, hr2'⟩
      case round =>
        obtain ⟨q, r, rfl, rfl, HG, hr1⟩ := hrel
        have hqle := HG.le
        by_cases hmore : (V * 4294967296 + u0) / Y < q
        · obtain ⟨k, hk⟩ : ∃ k, q = k + 1 := ⟨q - 1, by have := Nat.lt_of_le_of_lt (Nat.zero_le _) hmore; omega⟩
          have HN := HG.next hmore
          rw [hk, Nat.add_sub_cancel] at HN
          have hq1 : ((q : Int) - 1) = (k : Int) := by omega
          have hq0 : 1 ≤ q := by omega
          have hkq : k ≤ 4294967296 := by omega
          have hkl : k < q := by omega
          have HSTOP : Hid (4294967296 ≤ r + a → k = (V * 4294967296 + u0) / Y) := fun h => HN.stop hD hkq h
          by_cases hbig : 4294967296 ≤ q
          · have hb' : decide ((4294967296 : Int) ≤ (q : Int)) = true := by simp; omega
            clear HG hmore hk
            by_cases hr2 : 4294967296 ≤ r + a
            · have hr3 : decide ((4294967296 : Int) ≤ (r : Int) + (a : Int)) = true := by simp; omega
              have HR2 := Lib.hid hr2
              clear hr2
              go_wp2_with fail
              go_meet
              exact ⟨by rw [HSTOP.out HR2.out, HQD2.out], rfl⟩
            · have hr3 : decide ((4294967296 : Int) ≤ (r : Int) + (a : Int)) = false := by simp; omega
              go_wp2_with fail
              go_round
              case rel => exact ⟨k, r + a, rfl, by go_num, HN, by omega⟩
              case measure => simp [intOf]; omega
          · have hcmp : 4294967296 * r + u0 < q * b := by
              rcases Nat.lt_or_ge (4294967296 * r + u0) (q * b) with h | h
              · exact h
              · have := HG.done hD h; omega
            have hPb : q * b ≤ 4294967295 * 4294967295 := Nat.mul_le_mul (by omega) (by omega)
            obtain ⟨P, hP⟩ : ∃ P, q * b = P := ⟨_, rfl⟩
            rw [hP] at hcmp hPb
            have hPw : IntKind.u64.wrap ((q : Int) * (b : Int)) = (P : Int) := wrap_u64 (by rw [← hP]; simp) (by omega)
            have hcmp' : 4294967296 * (r : Int) + (u0 : Int) < (P : Int) := by omega
            have hb' : decide ((4294967296 : Int) ≤ (q : Int)) = false := by simp; omega
            have hc' : decide (4294967296 * (r : Int) + (u0 : Int) < (P : Int)) = true := by simp; omega
            clear HG hmore hk hP hcmp hPb
            by_cases hr2 : 4294967296 ≤ r + a
            · have hr3 : decide ((4294967296 : Int) ≤ (r : Int) + (a : Int)) = true := by simp; omega
              have HR2 := Lib.hid hr2
              clear hr2
              go_wp2_with fail
              go_meet
              exact ⟨by rw [HSTOP.out HR2.out, HQD2.out], rfl⟩
            · have hr3 : decide ((4294967296 : Int) ≤ (r : Int) + (a : Int)) = false := by simp; omega
              go_wp2_with fail
              go_round
              case rel => exact ⟨k, r + a, rfl, by go_num, HN, by omega⟩
              case measure => simp [intOf]; omega
        · have hqQ : q = (V * 4294967296 + u0) / Y := Nat.le_antisymm (Nat.le_of_not_lt hmore) HG.ge
          have hbig : q < 4294967296 := by rw [hqQ]; exact M.digit_lt hV hu0
          have hcmp : q * b ≤ 4294967296 * r + u0 := by
            rcases Nat.lt_or_ge (4294967296 * r + u0) (q * b) with h | h
            · exact absurd (HG.more hD h) hmore
            · exact h
          obtain ⟨P, hP⟩ : ∃ P, q * b = P := ⟨_, rfl⟩
          rw [hP] at hcmp
          have hPw : IntKind.u64.wrap ((q : Int) * (b : Int)) = (P : Int) := wrap_u64 (by rw [← hP]; simp) (by omega)
          have hcmp' : (P : Int) ≤ 4294967296 * (r : Int) + (u0 : Int) := by omega
          have HQ := Lib.hid hqQ
          have hb' : decide ((4294967296 : Int) ≤ (q : Int)) = false := by simp; omega
          have hc' : decide (4294967296 * (r : Int) + (u0 : Int) < (P : Int)) = false := by simp; omega
          clear HG hmore hP hcmp hqQ
          go_wp2_with fail
          go_meet
          exact ⟨by rw [HQ.out, HQD2.out], rfl⟩

    case rest =>
      obtain ⟨rfl, rfl⟩ := hcut
      obtain ⟨R, hR⟩ : ∃ R, R = (V * 4294967296 + u0) % Y := ⟨_, rfl⟩
      have hRY : R < Y := by rw [hR]; exact Nat.mod_lt _ hD.pos
      have hRe : V * 4294967296 + u0 = Q0 * Y + R := by
        rw [hR, HQD2.out, Nat.mul_comm _ Y]; exact (Nat.div_add_mod _ _).symm
      have g4 := wrap_step (V := R) V u0 Q0 Y hRe (by omega)
      have hQ32' : Q0 < 4294967296 := by rw [HQD2.out]; exact M.digit_lt hV hu0
      obtain ⟨t1, t2⟩ := M.div_two U u1 u0 Y hD.pos
      obtain ⟨k1, k2⟩ := M.div_shift (hi * 18446744073709551616 + lo) y (2 ^ s) (Nat.pow_pos (by omega))
      rw [HUL.out, HL.out, ← HYE.out] at k1 k2
      rw [k1, ← HQD.out, ← HV0.out, ← HQD2.out] at t1
      rw [k2, ← HV0.out, ← hR] at t2
      have hfin : (R : Int) / 2 ^ s = (((hi * 18446744073709551616 + lo) % y : Nat) : Int) := by
        rw [← t2, Int.natCast_mul]
        have hp : (0 : Int) < 2 ^ s := Int.pow_pos (by omega)
        simp [Int.mul_ediv_cancel _ (Int.ne_of_gt hp)]
      have T1 := Lib.hid t1
      have TF := Lib.hid hfin
      clear hR hRe t1 t2 k1 k2 hfin HUL HL HYE HQD HQD2 HV0
      go_wp2_with fail
      go_ret2
      exact ⟨ret_u64s (by rw [T1.out]; simp) TF.out, 0, rfl⟩

theorem M.bitLen_bounds {y : Nat} (hy : y < 18446744073709551616) (h0 : 0 < y) : Lib.bitLen y = M.bits y ∧ 1 ≤ M.bits y ∧ M.bits y ≤ 64 ∧ 9223372036854775808 ≤ y * 2 ^ (64 - M.bits y) ∧ y * 2 ^ (64 - M.bits y) < 18446744073709551616 := by
  have h1 := M.bits_le (show y ≠ 0 by omega)
  have h2 := M.bits_lt y
  have h3 := M.bits_pos (show y ≠ 0 by omega)
  have h4 : M.bits y ≤ 64 := by
    rcases Nat.lt_or_ge 64 (M.bits y) with h | h
    · have h5 : 2 ^ 64 ≤ 2 ^ (M.bits y - 1) := Nat.pow_le_pow_right (by omega) (by omega)
      omega
    · exact h
  refine ⟨M.bitLen_eq y y (Nat.le_refl _) hy, h3, h4, ?_, ?_⟩
  · have e : 2 ^ (M.bits y - 1) * 2 ^ (64 - M.bits y) = 2 ^ 63 := by rw [← Nat.pow_add, show M.bits y - 1 + (64 - M.bits y) = 63 from by omega]
    have := Nat.mul_le_mul_right (2 ^ (64 - M.bits y)) h1
    omega
  · have e : 2 ^ M.bits y * 2 ^ (64 - M.bits y) = 2 ^ 64 := by rw [← Nat.pow_add, show M.bits y + (64 - M.bits y) = 64 from by omega]
    have hp : 0 < 2 ^ (64 - M.bits y) := Nat.pow_pos (by omega)
    have := Nat.mul_lt_mul_of_pos_right h2 hp
    omega

/-- math/bits.Div64: every y that is greater than the higher word. -/
theorem div64_any (w : World) (hi lo y : Nat) (hlo : lo < 18446744073709551616) (hy : y < 18446744073709551616) (hh : hi < y) :
    Calls Tryz.prog 80 #[u64 hi, u64 lo, u64 y] w (Val (.tuple #[u64 ((hi * 18446744073709551616 + lo) / y), u64 ((hi * 18446744073709551616 + lo) % y)]) w) := by
  rcases Nat.eq_zero_or_pos hi with h0 | h0
  · subst h0
    have := div64_small w lo y hlo hy hh
    rw [Nat.zero_mul, Nat.zero_add]
    exact this
  · obtain ⟨b1, b2, b3, b4, b5⟩ := M.bitLen_bounds hy (by omega)
    obtain ⟨s, hs⟩ : ∃ s, s = 64 - M.bits y := ⟨_, rfl⟩
    rw [← hs] at b4 b5
    obtain ⟨c1, c2, c3, c4⟩ := M.shift_hi (s := s) (by omega) hh hlo b5
    obtain ⟨Y, hYe⟩ : ∃ Y, Y = y * 2 ^ s := ⟨_, rfl⟩
    obtain ⟨U, hUe⟩ : ∃ U, U = hi * 2 ^ s + lo / 2 ^ (64 - s) := ⟨_, rfl⟩
    obtain ⟨L, hLe⟩ : ∃ L, L = lo * 2 ^ s % 18446744073709551616 := ⟨_, rfl⟩
    rw [← hYe] at b4 b5 c2
    rw [← hUe] at c1 c2
    rw [← hLe] at c1
    have hL64 : L < 18446744073709551616 := by rw [hLe]; exact Nat.mod_lt _ (by omega)
    have hD := M.Divr.of b4 b5
    have hG := M.Guess.start hD c2 (show L / 4294967296 < 4294967296 by omega)
    have hr := Nat.lt_trans (M.Guess.rest_lt (U := U) hD) hD.hi'
    have hpa : U / (Y / 4294967296) * (Y / 4294967296) ≤ U := Nat.div_mul_le_self _ _
    refine div64_walk w hi lo y s Y (Y / 4294967296) (Y % 4294967296) U L (L / 4294967296) (L % 4294967296) (U / (Y / 4294967296)) (U - U / (Y / 4294967296) * (Y / 4294967296)) hy h0 hh (by rw [b1]; omega) (by omega)
      ⟨?_, and_low Y b5, by simp, ?_, ?_, by simp, and_low L hL64, ?_, wrap_rest hpa (by omega) rfl⟩ hD c2 (by omega) (by omega) hG hr c1 (by omega) hYe
    · exact wrap_u64 (by rw [hYe]; simp) b5
    · have := or_join hi (lo / 2 ^ (64 - s)) s c3 c4 (by omega)
      rw [← hUe] at this
      rw [← this]
      simp
    · rw [IntKind.wrap_u64, hLe]; simp
    · exact wrap_u64 (by simp) (by have := hG.le; omega)
end Go.Proofs.YtjmnobgllnaljaaGreatDoor
namespace Go.Proofs.YtjmnobgllnaljaaGreatDoor
open Go.RowKit Go.Shelf

/-- What is so behind a division from the highest word down to word k. -/
def M.DivInv (xs : List Nat) (by_ k left : Nat) (zs : List Nat) : Prop :=
  zs.length = xs.length ∧ left < by_ ∧ (∀ j, j < k → zs.getD j 0 = xs.getD j 0) ∧ M.val (xs.drop k) = M.val (zs.drop k) * by_ + left
theorem M.val_drop {xs : List Nat} {k : Nat} (h : k < xs.length) : M.val (xs.drop k) = xs.getD k 0 + 18446744073709551616 * M.val (xs.drop (k + 1)) := by
  rw [List.drop_eq_getElem_cons h, M.val_cons]
  simp [List.getD_eq_getElem?_getD, List.getElem?_eq_getElem h]
theorem M.DivInv.start (xs : List Nat) (by_ : Nat) (h : 0 < by_) : M.DivInv xs by_ xs.length 0 xs := by
  refine ⟨rfl, h, fun _ _ => rfl, ?_⟩
  rw [List.drop_of_length_le (Nat.le_refl _)]
  simp [M.val]
theorem M.DivInv.step {xs zs : List Nat} {by_ k left x : Nat} (h : M.DivInv xs by_ (k + 1) left zs) (hk : k < xs.length) (hx : xs.getD k 0 = x) :
    M.DivInv xs by_ k ((left * 18446744073709551616 + x) % by_) (zs.set k ((left * 18446744073709551616 + x) / by_)) := by
  obtain ⟨h1, h2, h3, h4⟩ := h
  have hb : 0 < by_ := by omega
  refine ⟨by simp [h1], Nat.mod_lt _ hb, fun j hj => ?_, ?_⟩
  · rw [M.getD_set_ne (by omega)]; exact h3 j (by omega)
  · rw [M.val_drop hk, M.val_drop (xs := zs.set k _) (by simpa [h1] using hk), M.getD_set (by omega), M.drop_set_lt (by omega), hx, h4, Nat.add_mul, Nat.mul_assoc]
    have := Nat.div_add_mod (left * 18446744073709551616 + x) by_
    rw [Nat.mul_comm by_] at this
    rw [Nat.mul_add]
    omega

section
variable {w : World} {lo n c b o : Nat} {xs : List Nat}
theorem Wd.stored (h : Wd w lo (some ⟨b, o, none⟩) n c xs) {i x : Nat} (hi : i < n) (hx : x < 18446744073709551616) :
    Wd (w.setCell ⟨b, o + i, none⟩ (u64 x)) lo (some ⟨b, o, none⟩) n c (xs.set i x) := by
  refine ⟨by simp [h.num], h.len, h.small, h.wds.set i hx, fun hn => ?_⟩
  obtain ⟨b', o', e, hb, hc⟩ := h.at_ hn
  simp only [Option.some.injEq, Addr.mk.injEq, and_true] at e
  obtain ⟨rfl, rfl⟩ := e
  refine ⟨b, o, rfl, hb, fun j hj => ?_⟩
  obtain ⟨k1, k2⟩ := hc j hj
  refine ⟨?_, by rw [World.frozen?_setCell]; exact k2⟩
  by_cases hij : i = j
  · subst hij
    rw [M.getD_set (by rw [h.num]; exact hi)]
    exact World.cell?_setCell_same w _ _ k1
  · rw [M.getD_set_ne hij, World.cell?_setCell_other]
    · exact k1
    · intro e
      injection e with _ e2 _
      omega
end

/-- Below block lo nothing has turned, whatever the draws. -/
theorem below_drewN {B : Nat} {a w : World} (h : Below B a w) (n : Nat) : Below B a (w.drewN n) := ⟨h.os, h.tape, h.output, h.size, h.block⟩
theorem below_up {B : Nat} {a w w' : World} (h : Below B a w) (k : Up w w') (hB : B ≤ w.heap.size) : Below B a w' := h.trans (Below.mono k hB)

theorem only_up {a w w' : World} {row : Option Nat} (h : a.grownBy w row) (k : Up w w') : a.grownBy w' row :=
  ⟨k.os.trans h.os, k.tape.trans h.tape, k.output.trans h.output, Nat.le_trans h.size (Up.size k), fun i hi hne => (k.block i (Nat.lt_of_lt_of_le hi h.size)).trans (h.block i hi hne)⟩
theorem only_setCell {a w : World} {g : Nat} (h : a.grownBy w (some g)) (i : Nat) (u : Value) : a.grownBy (w.setCell ⟨g, i, none⟩ u) (some g) :=
  ⟨h.os, h.tape, h.output, by simpa [World.setCell] using h.size, fun k hk hne => (Below.heap_setCell w ⟨g, i, none⟩ u k (by
    rintro rfl
    exact hne rfl)).trans (h.block k hk hne)⟩

/-- Another block has been written. -/
theorem Wd.kept {w w' : World} {lo n c : Nat} {A : Option Addr} {xs : List Nat} {row : Option Nat} (h : Wd w lo A n c xs) (hg : w.grownBy w' row) (hne : 0 < n → ∀ b, A.map (·.block) = some b → row ≠ some b) : Wd w' lo A n c xs := by
  refine ⟨h.num, h.len, h.small, h.wds, fun hn => ?_⟩
  obtain ⟨b, o, rfl, hb, hc⟩ := h.at_ hn
  refine ⟨b, o, rfl, hb, fun j hj => ?_⟩
  obtain ⟨k1, k2⟩ := hc j hj
  have hbl := hg.block b (World.block_lt_of_cell? w _ k1) (fun e => hne hn b rfl e.symm)
  exact ⟨(World.cell?_of_block (w := w) hbl).trans k1, (World.frozen?_of_block (w := w) hbl).trans k2⟩

/-- What divideByWord comes to. -/
def DivByWord (lo : Nat) (A : Option Addr) (n c : Nat) (xs : List Nat) (b : Nat) (w : World) (e : Ending) (w' : World) : Prop :=
  ∃ zs, e = .returned (u64 (M.val xs % b)) ∧ Wd w' lo A n c zs ∧ M.val zs = M.val xs / b ∧ Below lo w w' ∧ w.grownBy w' (A.map (·.block))

set_option maxHeartbeats 400000 in
set_option maxRecDepth 100000 in
theorem divideByWord_any (w : World) (lo : Nat) (A : Option Addr) (n c : Nat) (xs : List Nat) (h : Wd w lo A n c xs) (b : Nat) (hb0 : 0 < b) (hb : b < 18446744073709551616) (hlo : lo ≤ w.heap.size) :
    Calls Tryz.prog 63 #[.slice A n c, u64 b] w (DivByWord lo A n c xs b w) := by
  have hn := h.num
  have hsm := h.small
  have HST : Hid (M.DivInv xs b n 0 xs) := by rw [← hn]; exact M.DivInv.start xs b hb0
  have hwx := h.wds
  clear hb0
  go_enter Tryz.func63, Tryz.ntmps63
  go_wp2_with fail
  go_loopw [5, 6] (fun l i wr => ∃ (k : Int) (q : Nat) (zs : List Nat), -1 ≤ k ∧ k < n ∧ l = u64 q ∧ i = .int .i64 k ∧ Below lo w wr ∧ w.grownBy wr (A.map (·.block)) ∧ Wd wr lo A n c zs ∧ Hid (M.DivInv xs b (k + 1).toNat q zs)) (fun _ i _ => (intOf i + 1).toNat)
  case atStart => exact ⟨(n : Int) - 1, 0, xs, by omega, by omega, rfl, rfl, Below.refl _ _, World.grownBy.refl _ _, h, by rw [show ((n : Int) - 1 + 1).toNat = n from by omega]; exact HST.out⟩
  case round =>
    obtain ⟨k, q, zs, hk1, hk2, rfl, rfl, hbl, hon, hz, HI⟩ := hrel
    clear h HST
    by_cases hk0 : k = -1
    · subst hk0
      go_wp2_with fail
      go_ret
      obtain ⟨i1, i2, _, i4⟩ := HI.out
      simp only [show ((-1 : Int) + 1).toNat = 0 from rfl, List.drop_zero] at i4
      have hbp : 0 < b := by omega
      refine ⟨zs, ?_, hz, ?_, hbl, hon⟩
      · refine ret_int ?_
        rw [i4, Nat.mul_comm, Nat.mul_add_mod, Nat.mod_eq_of_lt i2]
      · rw [i4, Nat.mul_comm, Nat.mul_add_div hbp, Nat.div_eq_of_lt i2, Nat.add_zero]
    · obtain ⟨i, rfl⟩ := Int.eq_ofNat_of_zero_le (show 0 ≤ k by omega)
      have hin : i < n := by omega
      have hI := HI.out
      rw [show ((i : Int) + 1).toNat = i + 1 from by omega] at hI
      have hq := hI.2.1
      have hx2 := hI.2.2.1 i (by omega)
      obtain ⟨x, hx⟩ : ∃ x, xs.getD i 0 = x := ⟨_, rfl⟩
      rw [hx] at hx2
      have hxb : x < 18446744073709551616 := by rw [← hx]; exact hwx.getD i
      obtain ⟨bb, oo, rfl, hlb, hc⟩ := hz.at_ (by omega)
      obtain ⟨hc1, hf1⟩ := hc i hin
      rw [hx2] at hc1
      have CW := Lib.hid (div64_any wr q x b hxb hb hq)
      have HN := Lib.hid (hI.step (by omega) hx)
      have hqb : (q * 18446744073709551616 + x) / b < 18446744073709551616 := by
        refine Nat.div_lt_of_lt_mul ?_
        have : (q + 1) * 18446744073709551616 ≤ b * 18446744073709551616 := by omega
        omega
      generalize (q * 18446744073709551616 + x) / b = q1 at *
      generalize (q * 18446744073709551616 + x) % b = r1 at *
      have HQB := Lib.hid hqb
      clear hI hq hx2 hx hxb hc hk0 hk1 HI hqb hwx
      go_wp2_with fail
      refine CW.out.mono ?_
      rintro _ W ⟨rfl, kk, hW⟩
      have hu : Up wr W := by rw [hW]; exact (Up.refl wr).drewN kk
      have hzW := hz.up hu
      have hblW := below_up hbl hu (Nat.le_trans hlo hbl.size)
      have honW := only_up hon hu
      obtain ⟨hc2, hf2⟩ : W.cell? ⟨bb, oo + i, none⟩ = some (u64 x) ∧ W.frozen? ⟨bb, oo + i, none⟩ = false := by
        rw [hW]; exact ⟨hc1, hf1⟩
      clear hW CW hbl hz hc1 hf1 hu hon
      go_wp2_with fail
      go_roundw
      case rel =>
        exact ⟨(i : Int) - 1, r1, zs.set i q1, by omega, by omega, rfl, rfl, hblW.setCell hlb _, only_setCell honW _ _, hzW.stored hin HQB.out, by rw [show ((i : Int) - 1 + 1).toNat = i from by omega]; exact HN.out⟩
      case measure => simp [intOf]
end Go.Proofs.YtjmnobgllnaljaaGreatDoor
/-
  nat.Div: its contract; of a divisor of more than one word, from divideLong's.
-/
namespace Go.Proofs.YtjmnobgllnaljaaGreatDoor
open Go.RowKit Go.Shelf

/-- What Div comes to. -/
def Div3 (s q r : Nat) (is : Bool) (w : World) (e : Ending) (w' : World) : Prop := ∃ v1 v2, e = .returned (.tuple #[v1, v2, .bool is]) ∧ Nt w' w.heap.size s v1 q ∧ Nt w' w.heap.size s v2 r ∧ Up w w'
/-- What divideLong comes to. -/
def Div2 (s q r : Nat) (w : World) (e : Ending) (w' : World) : Prop := ∃ v1 v2, e = .returned (.tuple #[v1, v2]) ∧ Nt w' w.heap.size s v1 q ∧ Nt w' w.heap.size s v2 r ∧ Up w w'
/-- divideLong's contract. -/
def DivLong : Prop := ∀ (w : World) (lo lo' : Nat) (A A' : Option Addr) (n c n' c' : Nat) (xs ys : List Nat), Wd w lo A n c xs → Wd w lo' A' n' c' ys → M.Nrm xs → M.Nrm ys → n ≤ 1000000000 → 2 ≤ n' → n' ≤ n →
  Calls Tryz.prog 104 #[.slice A n c, .slice A' n' c'] w (Div2 n (M.val xs / M.val ys) (M.val xs % M.val ys) w)

set_option maxHeartbeats 400000 in
set_option maxRecDepth 100000 in
theorem div_zero (w : World) (lo lo' s s' : Nat) (v v' : Value) (a : Nat) (h : Nw w lo s v a) (h' : Nw w lo' s' v' 0) :
    Calls Tryz.prog 79 #[v, v'] w (Div3 s 0 0 false w) := by
  obtain ⟨A, n, c, xs, rfl, hx, _, hns⟩ := h
  obtain ⟨A', n', c', xs', rfl, hx', hb, hns'⟩ := h'
  have HB := Lib.hid hb
  clear hb
  go_enter Tryz.func79, Tryz.ntmps79
  go_wp2_with fail
  refine (trim_any w lo A n c xs hx).mono ?_
  rintro _ _ ⟨m, ys, rfl, rfl, hy, hny, hv, hmn⟩
  clear hx hv
  go_wp2_with fail
  refine (trim_any w lo' A' n' c' xs' hx').mono ?_
  rintro _ _ ⟨m', ys', rfl, rfl, hy', hny', hv', hmn'⟩
  have hm0 : m' = 0 := by rw [← hy'.num, M.val_zero hny' (hv'.trans HB.out)]; rfl
  subst hm0
  clear hv' hx'
  go_wp2_with fail
  go_ret3
  exact ⟨_, _, rfl, Nt.nil _ _ _, Nt.nil _ _ _, Up.refl w⟩

set_option maxHeartbeats 800000 in
set_option maxRecDepth 100000 in
theorem div_of (w : World) (lo lo' s s' : Nat) (v v' : Value) (a b : Nat) (h : Nw w lo s v a) (h' : Nw w lo' s' v' b) (hb0 : 0 < b) (hs : s ≤ 1000000000) (hlong : b < 18446744073709551616 ∨ DivLong) :
    Calls Tryz.prog 79 #[v, v'] w (Div3 (s + 1) (a / b) (a % b) true w) := by
  obtain ⟨A, n, c, xs, rfl, hx, ha, hns⟩ := h
  obtain ⟨A', n', c', xs', rfl, hx', hb, hns'⟩ := h'
  have HA := Lib.hid ha
  have HB := Lib.hid hb
  have HL := Lib.hid hlong
  clear ha hb hlong
  go_enter Tryz.func79, Tryz.ntmps79
  go_wp2_with fail
  refine (trim_any w lo A n c xs hx).mono ?_
  rintro _ _ ⟨m, ys, rfl, rfl, hA, hny, hv, hmn⟩
  have HV : Hid (M.val ys = a) := hv.trans HA.out
  clear hx hv HA
  go_wp2_with fail
  refine (trim_any w lo' A' n' c' xs' hx').mono ?_
  rintro _ _ ⟨m', ys', rfl, rfl, hB, hny', hv', hmn'⟩
  have HV' : Hid (M.val ys' = b) := hv'.trans HB.out
  clear hx' hv' HB
  have hm0 : 1 ≤ m' := by
    rcases Nat.eq_zero_or_pos m' with h0 | h0
    · subst h0
      have := List.eq_nil_of_length_eq_zero hB.num
      have h1 := HV'.out
      rw [this] at h1
      simp [M.val] at h1
      omega
    · exact h0
  have t0 : ((m' : Int) == 0) = false := by rw [beq_eq_false_iff_ne]; omega
  have hsm := hA.small
  by_cases hlt : m < m'
  · have hab : a < b := by rw [← HV.out, ← HV'.out]; exact M.val_lt_of_length hA.wds hny' (by rw [hA.num, hB.num]; exact hlt)
    have E1 : Hid (a / b = 0) := Nat.div_eq_of_lt hab
    have E2 : Hid (a % b = a) := Nat.mod_eq_of_lt hab
    clear hab
    go_wp2_with fail
    refine (norm_any w lo s _ a ⟨A, m, c, ys, rfl, hA, HV.out, by omega⟩).mono ?_
    rintro _ w1 ⟨v1, rfl, h1, h2⟩
    go_wp2_with fail
    go_ret3
    rw [E1.out, E2.out]
    exact ⟨_, _, rfl, Nt.nil _ _ _, h1.more (by omega), h2⟩
  · by_cases hone : m' = 1
    · subst hone
      obtain ⟨y, hy⟩ : ∃ y, ys' = [y] := by
        match ys', hB.num with
        | [y], _ => exact ⟨y, rfl⟩
      have hyb : y = b := by have h1 := HV'.out; rw [hy] at h1; simpa [M.val] using h1
      have hb64 : b < 18446744073709551616 := by rw [← hyb]; exact hB.wds y (by rw [hy]; simp)
      obtain ⟨bb, oo, rfl, _, hc⟩ := hB.at_ (by omega)
      have hc1 := (hc 0 (by omega)).1
      rw [hy, List.getD_cons_zero, hyb, Nat.add_zero] at hc1
      have HB64 := Lib.hid hb64
      clear hc hy hyb hB hny' HV' HL hb64
      have hge : 1 ≤ m := by omega
      go_wp2_with fail
      refine (norm_any w lo s _ a ⟨A, m, c, ys, rfl, hA, HV.out, by omega⟩).mono ?_
      rintro _ w1 ⟨v1, rfl, h1, h2⟩
      obtain ⟨A1, n1, cc1, zs1, rfl, hz1, hzv1, hzs1, hzn1⟩ := h1
      have hc2 : w1.cell? ⟨bb, oo, none⟩ = some (u64 b) := by
        rw [Below.cell h2 (World.block_lt_of_cell? w _ hc1)]; exact hc1
      have HZV := Lib.hid hzv1
      clear hzv1 hA hc1
      go_wp2_with fail
      refine (divideByWord_any w1 _ A1 n1 cc1 zs1 hz1 b hb0 HB64.out h2.size).mono ?_
      rintro _ w2 ⟨zs2, rfl, hz2, hzv2, hbl2, _⟩
      have hu2 : Up w w2 := (show Below w.heap.size w w1 from h2).trans hbl2
      have HZV2 : Hid (M.val zs2 = a / b) := by rw [HZV.out] at hzv2; exact hzv2
      have E2 : Hid (M.val zs1 % b = a % b) := by show _ = _; rw [HZV.out]
      have hmodlt : a % b < 18446744073709551616 := Nat.lt_of_lt_of_le (Nat.mod_lt _ hb0) (Nat.le_of_lt HB64.out)
      rw [E2.out]
      generalize a % b = r at *
      have HM := Lib.hid hmodlt
      clear hz1 hzv2 hbl2 h2 hc2 hmodlt
      go_wp2_with fail
      refine (trim_any w2 _ A1 n1 cc1 zs2 hz2).mono ?_
      rintro _ _ ⟨m3, zz, rfl, rfl, hd3, hn3, hv3, hm3⟩
      have HV3 : Hid (M.val zz = a / b) := hv3.trans HZV2.out
      clear hv3 hz2 HZV2
      go_wp2_with fail
      refine (of_any w2 r HM.out).mono ?_
      rintro _ w4 ⟨v4, rfl, h4, hu4⟩
      go_wp2_with fail
      go_ret3
      exact ⟨_, _, rfl, ⟨_, _, _, zz, rfl, hd3.up hu4, HV3.out, by omega, hn3⟩, (h4.lower hu2.size).more (by omega), hu2.trans hu4⟩
    · have hDL : DivLong := by
        rcases HL.out with h | h
        · exfalso
          have h1 := M.val_ge hny' (by intro e; have := hB.num; rw [e] at this; simp at this; omega)
          have h2 : 18446744073709551616 ^ 1 ≤ 18446744073709551616 ^ (ys'.length - 1) := Nat.pow_le_pow_right (by omega) (by rw [hB.num]; omega)
          have h3 := HV'.out
          omega
        · exact h
      have t1 : ((m' : Int) == 1) = false := by rw [beq_eq_false_iff_ne]; omega
      have CW := Lib.hid (hDL w lo lo' A A' m c m' c' ys ys' hA hB hny hny' (by omega) (by omega) (by omega))
      rw [HV.out, HV'.out] at CW
      clear hDL HL hA hB
      go_wp2_with fail
      refine CW.out.mono ?_
      rintro _ w1 ⟨v1, v2, rfl, h1, h2, h3⟩
      go_wp2_with fail
      go_ret3
      exact ⟨_, _, rfl, h1.more (by omega), h2.more (by omega), h3⟩
end Go.Proofs.YtjmnobgllnaljaaGreatDoor
/-
  nat.piecesOf: its contract.
-/
namespace Go.Proofs.YtjmnobgllnaljaaGreatDoor
open Go.RowKit Go.Shelf

namespace M
/-- The number of these pieces, the lowest first. -/
def pv : List Nat → Nat
  | [] => 0
  | p :: r => p + 10000000000000000000 * pv r
theorem pv_append (a b : List Nat) : pv (a ++ b) = pv a + 10000000000000000000 ^ a.length * pv b := by
  induction a with
  | nil => simp [pv]
  | cons x r ih =>
    simp only [List.cons_append, pv, ih, List.length_cons, Nat.pow_succ]
    rw [Nat.mul_add, Nat.add_assoc, ← Nat.mul_assoc, Nat.mul_comm (10000000000000000000 ^ r.length)]
/-- What is so while the pieces of a are taken, r the rest. -/
structure PInv (a : Nat) (ps : List Nat) (r : Nat) : Prop where
  eq : a = pv ps + 10000000000000000000 ^ ps.length * r
  lt : ∀ p ∈ ps, p < 10000000000000000000
  last : r = 0 → ps.getLast? ≠ some 0
theorem PInv.start (a : Nat) : PInv a [] a := ⟨by simp [pv], fun _ h => (by cases h), fun _ => by simp⟩
theorem PInv.step {a r : Nat} {ps : List Nat} (h : PInv a ps r) (hr : 0 < r) : PInv a (ps ++ [r % 10000000000000000000]) (r / 10000000000000000000) := by
  refine ⟨?_, fun p hp => ?_, fun h0 => ?_⟩
  · rw [h.eq, pv_append, List.length_append, List.length_singleton, Nat.pow_succ]
    simp only [pv, Nat.mul_zero, Nat.add_zero]
    rw [Nat.mul_assoc, Nat.add_assoc, ← Nat.mul_add, Nat.mod_add_div]
  · rcases List.mem_append.1 hp with e | e
    · exact h.lt p e
    · rw [List.mem_singleton.1 e]; exact Nat.mod_lt _ (by omega)
  · rw [List.getLast?_concat]
    intro e
    have : r % 10000000000000000000 = 0 := by simpa using e
    omega
theorem PInv.wds {a r : Nat} {ps : List Nat} (h : PInv a ps r) : Wds ps := fun p hp => Nat.lt_trans (h.lt p hp) (by omega)
end M

/-- What piecesOf comes to. -/
def Pieces (a : Nat) (w : World) (e : Ending) (w' : World) : Prop := ∃ v ps, e = .returned v ∧ Ow w' w.heap.size v ps.length ps ∧ M.PInv a ps 0 ∧ Up w w'

set_option maxHeartbeats 800000 in
set_option maxRecDepth 100000 in
theorem piecesOf_any (w : World) (lo s : Nat) (v : Value) (a : Nat) (h : Nw w lo s v a) (hlen : ∀ ps r, M.PInv a ps r → ps.length ≤ 1000000000) :
    Calls Tryz.prog 42 #[v] w (Pieces a w) := by
  have hn := Lib.hid (norm_any w lo s v a h)
  have HLEN := Lib.hid hlen
  clear h hlen
  go_enter Tryz.func42, Tryz.ntmps42
  go_wp2_with fail
  refine hn.out.mono ?_
  rintro _ w1 ⟨v1, rfl, ⟨A, n, c, zs, rfl, hz, hzv, hzs, hzn⟩, hu1⟩
  have hAb : Hid (∀ b o, 0 < n → A = some ⟨b, o, none⟩ → b < w1.heap.size) := by
    intro b o hn0 hA
    obtain ⟨b', o', e, _, hc⟩ := hz.at_ hn0
    rw [hA] at e
    simp only [Option.some.injEq, Addr.mk.injEq, and_true] at e
    obtain ⟨rfl, rfl⟩ := e
    exact World.block_lt_of_cell? w1 _ (hc 0 hn0).1
  have HZV := Lib.hid hzv
  clear hzv hn
  go_wp2_with fail
  go_loopg [3, 4] a (fun g p r wr => ∃ (ps : List Nat) (k : Nat) (xs : List Nat), Up w wr ∧ w1.heap.size ≤ wr.heap.size ∧ Ow wr w1.heap.size p ps.length ps ∧ r = .slice A k c ∧ k ≤ n ∧ Wd wr w.heap.size A k c xs ∧ M.Nrm xs ∧ M.PInv a ps (M.val xs) ∧ M.val xs ≤ g)
  case atStart => exact ⟨[], n, zs, hu1, Nat.le_refl _, World.ownsRow_nil _ _ _ _, rfl, Nat.le_refl _, hz, hzn, by rw [HZV.out]; exact M.PInv.start a, by rw [HZV.out]; exact Nat.le_refl _⟩
  case round =>
    obtain ⟨ps, k, xs, hu, hw1, hown, rfl, hkn, hx, hxn, hP, hg⟩ := hrel
    clear hz hzn
    rcases Nat.eq_zero_or_pos k with hk0 | hk0
    · subst hk0
      have hxs : xs = [] := List.eq_nil_of_length_eq_zero hx.num
      subst hxs
      go_wp2_with fail
      go_ret
      refine ⟨_, ps, rfl, ?_, hP, hu⟩
      obtain ⟨o1, o2⟩ := hown
      refine ⟨o1, ?_⟩
      rcases o2 with o2 | ⟨g, cap, cur, e1, e2, e3⟩
      · exact Or.inl o2
      · exact Or.inr ⟨g, cap, cur, e1, Nat.le_trans hu1.size e2, e3⟩
    · have hlen := HLEN.out ps _ hP
      have hvp : 0 < M.val xs := M.val_pos hxn (by intro e; rw [e] at hx; have := hx.num; simp at this; omega)
      have hP2 := Lib.hid (hP.step hvp)
      have hsz := hu1.size
      have CW := Lib.hid (divideByWord_any wr w.heap.size A k c xs hx 10000000000000000000 (by omega) (by omega) hu.size)
      simp only [u64, Int.cast_ofNat_Int] at CW
      have hmod : M.val xs % 10000000000000000000 < 18446744073709551616 := by omega
      have hdiv : M.val xs / 10000000000000000000 < M.val xs := Nat.div_lt_self hvp (by omega)
      have HDIV := Lib.hid hdiv
      have HMOD := Lib.hid hmod
      have HWP := Lib.hid hP.wds
      have HG := Lib.hid hg
      have HBL : Hid (∀ b, A.map (·.block) = some b → b < w1.heap.size) := by
        intro b hb
        obtain ⟨b', o', e, _, hc⟩ := hx.at_ hk0
        rw [e] at hb
        simp at hb
        subst hb
        exact hAb.out b' o' (by omega) e
      clear hmod hdiv hP hvp hg
      go_wp2_with fail
      refine CW.out.mono ?_
      rintro _ w2 ⟨zs2, rfl, hz2, hzv2, hbl2, hon2⟩
      generalize M.val xs % 10000000000000000000 = d at *
      rw [← hzv2] at hP2 HDIV
      have hown2 : Ow w2 w1.heap.size u3 ps.length ps := hown.kept hon2 (by
        rcases hob : u3.ownBlock with _ | g
        · exact Or.inl rfl
        · refine Or.inr (fun e => ?_)
          have h1 := (hown.lt g hob).1
          have h2 := HBL.out g e.symm
          omega)
      have hu2 : Up w w2 := (show Below w.heap.size w wr from hu).trans hbl2
      have hw2 : w1.heap.size ≤ w2.heap.size := Nat.le_trans hw1 hbl2.size
      have hd64 : d < 18446744073709551616 := HMOD.out
      have hsrc : Ow (w2.alloc (.cells #[u64 d] 37)) w2.heap.size (.slice (some ⟨w2.heap.size, 0, none⟩) 1 1) 1 [d] := World.ownsRow_lit w2 #[u64 d] 1 (Nat.le_refl _) (by simp only [maxLen]; omega) rfl
      have hsrcw := Ow.wd_ hsrc (M.Wds.cons hd64 M.Wds.nil) (by omega)
      have hown3 := World.ownsRow.alloc hown2 (.cells #[u64 d] 37)
      have hz3 := hz2.up ((Up.refl w2).alloc (.cells #[u64 d] 37))
      clear CW hown hx hzv2 hon2 hbl2 hd64 hsrc hz2
      go_wp2_with (at_builtin; refine wpList_append_wd _ rfl (.tmp 10) (.tmp 13) _ rfl info_u64 w1.heap.size Tryz.underlying22 u3 ps.length ps rfl hown3 _ _ 1 1 [d] rfl hsrcw (by omega) (by simp; omega) ?_; intro v4 w4 hown4 hg4 hat4)
      have hup4 : Up w w4 := by
        have ha := hu2.alloc (.cells #[u64 d] 37)
        exact ha.grown hg4 (fun b hb => by have := (hown2.lt b hb).1; omega)
      have hw4 : w1.heap.size ≤ w4.heap.size := Nat.le_trans hw2 (Nat.le_trans (by simp) hg4.size)
      have hz4 := hz3.kept hg4 (fun _ b hb e => by
        have h1 := (hown2.lt b e).1
        have h2 := HBL.out b hb
        omega)
      clear hz3 hg4 hat4 hown3 hsrcw
      refine (trim_any w4 _ A k c zs2 hz4).mono ?_
      rintro _ _ ⟨m5, zz, rfl, rfl, hd5, hn5, hv5, hm5⟩
      have HP5 : Hid (M.PInv a (ps ++ [d]) (M.val zz)) := by show M.PInv a _ _; rw [hv5]; exact hP2.out
      have HD5 : Hid (M.val zz < M.val xs) := by show _ < _; rw [hv5]; exact HDIV.out
      clear hv5 hP2 hz4
      go_wp2_with fail
      go_roundg (M.val zz)
      case measure => exact Nat.lt_of_lt_of_le HD5.out HG.out
      case rel =>
        refine ⟨ps ++ [d], m5, zz, hup4, hw4, ?_, rfl, by omega, hd5, hn5, HP5.out, Nat.le_refl _⟩
        rw [List.length_append, List.length_singleton]
        exact hown4
end Go.Proofs.YtjmnobgllnaljaaGreatDoor
/-
  nat.Text: its contract.
-/
namespace Go.Proofs.YtjmnobgllnaljaaGreatDoor
open Go.RowKit Go.Shelf Go.Sort

/-- The table of powers of ten that the library reads. -/
abbrev TabW (w : World) : Prop := Lib.TabIs Tryz.prog w "internal/strconv.uint64pow10" .u64 Lib.pow10Tab

/-- A call that makes a string; nothing that was there has turned. -/
def Str (s : ByteArray) (w : World) (e : Ending) (w' : World) : Prop := e = .returned (.string s) ∧ Up w w'

set_option maxHeartbeats 1000000 in
set_option maxRecDepth 100000 in
theorem formatUint_small (w : World) (u : Nat) (hu : u < 100) : Calls Tryz.prog 65 #[u64 u, .int .i64 10] w (Str ⟨(Lib.decDigits u).toArray⟩ w) := by
  go_enter Tryz.func65, Tryz.ntmps65
  go_wp2_with (go_at_call 81; refine (Tryz.internal_strconv_small u hu _).mono ?_; rintro e w' ⟨rfl, rfl⟩)
  go_ret
  exact ⟨rfl, Up.refl _⟩

set_option maxHeartbeats 4000000 in
set_option maxRecDepth 100000 in
theorem formatUint_big (w : World) (u : Nat) (hu : 100 ≤ u) (hu64 : u < 18446744073709551616) (htab : TabW w) :
    Calls Tryz.prog 65 #[u64 u, .int .i64 10] w (Str ⟨(Lib.decDigits u).toArray⟩ w) := by
  have hu1 : 1 ≤ u := by omega
  have hnd20 : Lib.nDigits u ≤ 20 := by have := Lib.numDigits_eq u hu1 hu64; split at this <;> omega
  have hal : Tryz.prog.arrayLen 113 = 24 := by kernel_rfl
  have hsl : ∀ W, (Instr.sliceAt 113 (.pointer (some ⟨w.heap.size, 0, none⟩)) none (some (.int .i64 (Lib.nDigits u : Int))) none).run Tryz.prog W = .ok (.slice (some ⟨w.heap.size, 0, none⟩) (Lib.nDigits u) 24) W := fun W => by
    rw [run_sliceAt_array_h W 113 ⟨w.heap.size, 0, none⟩ (by kernel_rfl) .i64 (Lib.nDigits u : Int) (by omega) (by rw [hal]; omega)]
    go_simp
  have hH0 := Lib.holds_zero0 w 113 (Lib.nDigits u) (by omega)
  have hfmt := Tryz.internal_strconv_formatBase10 w.heap.size 0 24 u (Array.replicate (Lib.nDigits u) 0) (w.alloc (.cells Lib.zeros24 113)) hH0 (by rw [Array.size_replicate]; exact Lib.lt_pow_nDigits u) hu64 (by rw [Array.size_replicate]; omega)
  rw [Array.size_replicate] at hfmt
  have HH0 := Lib.hid hH0
  have iu : (100 : Int) ≤ (u : Int) := by omega
  clear hH0 hal
  go_enter Tryz.func65, Tryz.ntmps65
  go_wp2_with (first
    | (go_at_call 82; refine (Tryz.internal_strconv_numDigits u hu1 hu64 _ (Lib.tabIs_alloc htab _)).mono ?_; rintro e w' ⟨rfl, rfl⟩))
  go_at_call 83
  refine hfmt.mono ?_
  rintro e w' ⟨rfl, k, v', dk, rfl, hF⟩
  have hcv : (convert 67 9 (.slice (some ⟨w.heap.size, 0, none⟩) (Lib.nDigits u) 24)).run Tryz.prog ((putRow (fun (b : UInt8) => Value.int .u8 (b.toNat : Int)) (w.alloc (.cells Lib.zeros24 113)) w.heap.size 0 dk).drewN k) = .ok (.string ⟨(Lib.decDigits u).toArray⟩) ((putRow (fun (b : UInt8) => Value.int .u8 (b.toNat : Int)) (w.alloc (.cells Lib.zeros24 113)) w.heap.size 0 dk).drewN k) := by
    have h := run_convert_bytes_back (P := Tryz.prog) ((putRow (fun (b : UInt8) => Value.int .u8 (b.toNat : Int)) (w.alloc (.cells Lib.zeros24 113)) w.heap.size 0 dk).drewN k) 67 9 5 ⟨w.heap.size, 0, none⟩ 24 (Lib.decDigits u) Tryz.underlying67 Tryz.underlying5 Tryz.underlying9 (fun j hj => by
      rw [Lib.row_is_numeral hF j hj, Lib.add_plain, World.cell?_drewN]
      exact cell?_putRow (fun (b : UInt8) => Value.int .u8 (b.toNat : Int)) _ w.heap.size 0 _ dk HH0.out (by rw [hF.size, Array.size_replicate]) j (by rw [hF.size]; rw [Lib.decDigits_length] at hj; exact hj))
    rw [Lib.decDigits_length] at h
    exact h
  obtain ⟨os, eo⟩ := Lib.fin_at w (.cells Lib.zeros24 113) dk k 0
  have hup : Up w ((putRow (fun (b : UInt8) => Value.int .u8 (b.toNat : Int)) (w.alloc (.cells Lib.zeros24 113)) w.heap.size 0 dk).drewN k) := by rw [eo]; exact Lib.below_grow w.heap.size w (Nat.le_refl _) k os
  generalize (putRow (fun (b : UInt8) => Value.int .u8 (b.toNat : Int)) (w.alloc (.cells Lib.zeros24 113)) w.heap.size 0 dk).drewN k = W2 at hcv hup ⊢
  clear eo HH0 hfmt
  go_wp2
  go_ret
  exact ⟨rfl, hup⟩

set_option maxHeartbeats 1000000 in
theorem formatUint_any (w : World) (u : Nat) (hu64 : u < 18446744073709551616) (htab : TabW w) :
    Calls Tryz.prog 44 #[u64 u, .int .i64 10] w (Str ⟨(Lib.decDigits u).toArray⟩ w) := by
  have cw : Calls Tryz.prog 65 #[u64 u, .int .i64 10] w (Str ⟨(Lib.decDigits u).toArray⟩ w) := by
    rcases Nat.lt_or_ge u 100 with h | h
    · exact formatUint_small w u h
    · exact formatUint_big w u h hu64 htab
  have CW := Lib.hid cw
  clear cw hu64
  go_enter Tryz.func44, Tryz.ntmps44
  go_wp2_with (go_at_call 65; refine CW.out.mono ?_; rintro e w1 ⟨rfl, hu1⟩)
  go_ret
  exact ⟨rfl, hu1⟩

/-- strconv.AppendUint at base 10, onto bytes of the call's own. -/
def ApU (B u n : Nat) (xs : List Value) (w : World) (e : Ending) (w' : World) : Prop := ∃ v', e = .returned v' ∧ w'.ownsRow B 5 1 v' (n + (Lib.decDigits u).length) (xs ++ Lib.byteCells (Lib.decDigits u)) ∧ Below B w w' ∧ Lib.OthersKept 5 none w w'

set_option maxHeartbeats 1000000 in
theorem appendUint_any (B n u : Nat) (hu64 : u < 18446744073709551616) (sv : Value) (xs : List Value) (w : World) (hown : w.ownsRow B 5 1 sv n xs) (hBw : B ≤ w.heap.size) (hlim : n + 20 ≤ 140737488355328) (htab : TabW w) :
    Calls Tryz.prog 43 #[sv, u64 u, .int .i64 10] w (ApU B u n xs w) := by
  have CW := Lib.hid (Tryz.internal_strconv_AppendUint_10 B n u hu64 sv xs w hown hBw hlim htab)
  clear hu64
  go_enter Tryz.func43, Tryz.ntmps43
  go_wp2_with (go_at_call 64; refine CW.out.mono ?_; rintro e w1 ⟨v1, rfl, h1, h2, h3⟩)
  go_ret
  exact ⟨v1, rfl, h1, h2, h3⟩

theorem repeat_any (s : ByteArray) (c : Nat) (w : World) (hc : c ≤ 9223372036854775807) (hlen : s.size * c ≤ 140737488355328) :
    Calls Tryz.prog 45 #[.string s, .int .i64 c] w (Str ⟨(Lib.repeatL s.data.toList c).toArray⟩ w) :=
  (Tryz.strings_Repeat s c w hc hlen).mono fun _ _ ⟨h, k⟩ => ⟨h, k⟩
end Go.Proofs.YtjmnobgllnaljaaGreatDoor
namespace Go.Proofs.YtjmnobgllnaljaaGreatDoor
open Go.RowKit Go.Shelf

namespace M
/-- k digits of d, with noughts ahead. -/
def pad : Nat → Nat → List UInt8
  | 0, _ => []
  | k + 1, d => pad k (d / 10) ++ [UInt8.ofNat (48 + d % 10)]
theorem pad_zero : ∀ k, pad k 0 = List.replicate k 48
  | 0 => rfl
  | k + 1 => by
    rw [pad, Nat.zero_div, pad_zero k, List.replicate_succ']
    rfl
theorem decDigits_cat (r : Nat) (hr : 0 < r) : ∀ k d, d < 10 ^ k → Lib.decDigits (d + 10 ^ k * r) = Lib.decDigits r ++ pad k d
  | 0, d, h => by
    have : d = 0 := by simpa using h
    subst this
    simp [pad]
  | k + 1, d, h => by
    have hp : 10 ^ (k + 1) * r = 10 * (10 ^ k * r) := by rw [Nat.pow_succ, Nat.mul_comm (10 ^ k), Nat.mul_assoc]
    have h1 : 0 < 10 ^ k * r := Nat.mul_pos (Nat.pow_pos (by omega)) hr
    rw [hp]
    rw [Lib.decDigits, dif_neg (by omega), pad, ← List.append_assoc]
    have e1 : (d + 10 * (10 ^ k * r)) / 10 = d / 10 + 10 ^ k * r := by omega
    have e2 : (d + 10 * (10 ^ k * r)) % 10 = d % 10 := by omega
    rw [e1, e2, decDigits_cat r hr k (d / 10) (by rw [Nat.pow_succ] at h; omega)]
theorem pad_eq : ∀ k d, 0 < k → d < 10 ^ k → (Lib.decDigits d).length ≤ k ∧ pad k d = List.replicate (k - (Lib.decDigits d).length) 48 ++ Lib.decDigits d
  | 0, _, h, _ => by omega
  | k + 1, d, _, h => by
    by_cases hd : d < 10
    · rw [Lib.decDigits_one hd, pad, Nat.div_eq_of_lt hd, Nat.mod_eq_of_lt hd, pad_zero]
      simp
    · rw [Lib.decDigits, dif_neg hd, pad]
      have hk : 0 < k := by
        rcases Nat.eq_zero_or_pos k with h0 | h0
        · subst h0; simp at h; omega
        · exact h0
      obtain ⟨i1, i2⟩ := pad_eq k (d / 10) hk (by rw [Nat.pow_succ] at h; omega)
      rw [i2]
      simp only [List.length_append, List.length_singleton]
      refine ⟨by omega, ?_⟩
      rw [← List.append_assoc, show k + 1 - ((Lib.decDigits (d / 10)).length + 1) = k - (Lib.decDigits (d / 10)).length from by omega]
theorem pv_drop {ps : List Nat} {i : Nat} (h : i < ps.length) : pv (ps.drop i) = ps.getD i 0 + 10000000000000000000 * pv (ps.drop (i + 1)) := by
  rw [List.drop_eq_getElem_cons h, pv]
  simp [List.getD_eq_getElem?_getD, List.getElem?_eq_getElem h]
theorem pv_pos {ps : List Nat} (h : ps ≠ []) (hl : ps.getLast? ≠ some 0) : 0 < pv ps := by
  obtain ⟨b, x, rfl⟩ : ∃ b x, ps = b ++ [x] := ⟨ps.dropLast, ps.getLast h, (List.dropLast_concat_getLast h).symm⟩
  have hx : 0 < x := by
    rw [List.getLast?_concat] at hl
    exact Nat.pos_of_ne_zero (fun e => hl (by rw [e]))
  rw [pv_append]
  simp only [pv, Nat.mul_zero, Nat.add_zero]
  exact Nat.lt_of_lt_of_le (Nat.mul_pos (Nat.pow_pos (by omega)) hx) (Nat.le_add_left _ _)
theorem pv_drop_pos {ps : List Nat} {j : Nat} (hj : j < ps.length) (hl : ps.getLast? ≠ some 0) : 0 < pv (ps.drop j) := by
  refine pv_pos (fun e => ?_) ?_
  · have := congrArg List.length e
    simp at this
    omega
  · rw [List.getLast?_drop, if_neg (by omega)]; exact hl
/-- The text of one piece more. -/
theorem text_step {ps : List Nat} {i p : Nat} (hi : i + 1 < ps.length) (hl : ps.getLast? ≠ some 0) (hlt : ∀ q ∈ ps, q < 10000000000000000000) (hp : ps.getD i 0 = p) :
    (Lib.decDigits p).length ≤ 19 ∧ Lib.decDigits (pv (ps.drop i)) = Lib.decDigits (pv (ps.drop (i + 1))) ++ (List.replicate (19 - (Lib.decDigits p).length) 48 ++ Lib.decDigits p) := by
  have hpl : p < 10 ^ 19 := by
    rw [← hp, List.getD_eq_getElem?_getD, List.getElem?_eq_getElem (show i < ps.length by omega)]
    exact hlt _ (List.getElem_mem _)
  obtain ⟨h1, h2⟩ := pad_eq 19 p (by omega) hpl
  refine ⟨h1, ?_⟩
  rw [pv_drop (by omega), hp, ← h2]
  exact decDigits_cat _ (pv_drop_pos hi hl) 19 p hpl
end M

/-- What a call of a text makes. -/
theorem TabW.up {w w' : World} (h : TabW w) (hu : Up w w') : TabW w' := Lib.tabBelow_of_tabIs h w' hu

theorem info_u8 : (Tryz.prog.info? 5).map (fun i => (i.zero, i.size, i.bytes)) = some (some (.int .u8 0), 1, 1) := by kernel_rfl

/-- Bytes that the call owns. -/
abbrev By (w : World) (base : Nat) (v : Value) (bs : List UInt8) : Prop := w.ownsRow base 5 1 v bs.length (Lib.byteCells bs)

theorem wpList_append_str {P : Program} (w : World) {ops : Array Oper} {rest : List Oper} {o : Oper} {a : Act} {Q : Exit → Act → World → Prop} (hgd : o.guard = none) (sl x : Operand) (t u : TypeId)
    (ho : o.op = .call { callee := .builtin .append, args := #[sl, x], argTypes := #[t, u] })
    (hP : (P.info? 5).map (fun i => (i.zero, i.size, i.bytes)) = some (some (.int .u8 0), 1, 1)) (base : Nat) (ht : P.underlying t = some (.slice 5)) (hu : P.underlying u = some .string)
    (v : Value) (bs : List UInt8) (hs : a.eval sl = v) (hown : By w base v bs) (s : ByteArray) (hx : a.eval x = .string s) (cs : List UInt8) (hcs : s.data.toList = cs)
    (hbytes : bs.length + cs.length ≤ 1000000000000) (hbase : base ≤ w.heap.size)
    (h : ∀ v' w', By w' base v' (bs ++ cs) → w.grownBy w' v.ownBlock → wpList P ops Q rest (a.put o.dst v') w') : wpList P ops Q (o :: rest) a w := by
  obtain ⟨i, hi, hz0, hz1, hz2⟩ := info_parts hP
  have hsz : s.size = cs.length := by rw [← hcs]; exact (Array.length_toList).symm
  refine Lib.wpList_append_own_string w hgd sl x t u ho base 5 i ht hu hi hz0 hz1 hz2 v bs.length _ hs hown s hx (by rw [hsz]; simp only [maxLen]; omega) (by rw [hsz]; omega) hbase fun v' w' h1 h2 _ => h v' w' ?_ h2
  rw [Lib.strCells_eq, hcs, ← Lib.byteCells_append, hsz] at h1
  rw [By, List.length_append]
  exact h1

theorem conv_bytes {w : World} {base : Nat} {v : Value} {bs : List UInt8} (h : By w base v bs) (h0 : 0 < bs.length) :
    (convert 67 9 v).run Tryz.prog w = .ok (.string ⟨bs.toArray⟩) w := by
  obtain ⟨g, cap, rfl⟩ : ∃ g cap, v = .slice (some ⟨g, 0, none⟩) bs.length cap := by
    rcases h.2 with ⟨_, h1⟩ | ⟨g, cap, _, h1, _⟩
    · omega
    · exact ⟨g, cap, h1⟩
  have hc := World.ownsRow.cells h (g := g) rfl
  exact run_convert_bytes_back w 67 9 5 ⟨g, 0, none⟩ cap bs Tryz.underlying67 Tryz.underlying5 Tryz.underlying9 (fun j hj => hc j _ (by simp [Lib.byteCells, hj]))
theorem M.decDigits_pos (a : Nat) : 0 < (Lib.decDigits a).length := by rw [Lib.decDigits_length]; exact Lib.nDigits_pos a
theorem By.up {w w' : World} {base : Nat} {v : Value} {bs : List UInt8} (h : By w base v bs) (hu : Up w w') : By w' base v bs :=
  World.ownsRow.kept (row := none) h ⟨Below.os hu, Below.tape hu, Below.output hu, Below.size hu, fun j hj _ => Below.block hu j hj⟩ (by cases h : v.ownBlock <;> simp)
theorem rep_zeros (k : Nat) : Lib.repeatL [48] k = List.replicate k 48 := by
  have := Lib.repeatL_replicate 48 1 k
  simpa using this

set_option maxHeartbeats 1600000 in
set_option maxRecDepth 100000 in
theorem text_any (w : World) (lo s : Nat) (v : Value) (a : Nat) (h : Nw w lo s v a) (hlen : ∀ ps r, M.PInv a ps r → ps.length ≤ 1000000000) (htab : TabW w) :
    Calls Tryz.prog 19 #[v] w (Str ⟨(Lib.decDigits a).toArray⟩ w) := by
  have CW := Lib.hid (piecesOf_any w lo s v a h hlen)
  have HT := Lib.hid htab
  have HL := Lib.hid hlen
  clear h hlen htab
  go_enter Tryz.func19, Tryz.ntmps19
  go_wp2_with fail
  refine CW.out.mono ?_
  rintro _ W ⟨v1, ps, rfl, hown, hP, hu⟩
  have hpl := HL.out ps 0 hP
  have hpv : M.pv ps = a := by have := hP.eq; rw [Nat.mul_zero, Nat.add_zero] at this; exact this.symm
  obtain ⟨A, c, rfl, hd⟩ := Ow.wd hown hP.wds (by omega)
  have HLT := Lib.hid hP.lt
  have HLAST := Lib.hid (hP.last rfl)
  have HPV := Lib.hid hpv
  clear CW HL hown hP hpv
  obtain ⟨n, hn⟩ : ∃ n, ps.length = n := ⟨_, rfl⟩
  rw [hn] at hd hpl ⊢
  have HN := Lib.hid hn
  clear hn
  rcases Nat.eq_zero_or_pos n with h0 | h0
  · subst h0
    go_wp2_with fail
    go_ret
    refine ⟨?_, hu⟩
    have : ps = [] := List.eq_nil_of_length_eq_zero HN.out
    have ha : a = 0 := by rw [← HPV.out, this]; rfl
    rw [ha, Lib.decDigits_one (by omega)]
    rfl
  · obtain ⟨m, rfl⟩ : ∃ m, n = m + 1 := ⟨n - 1, by omega⟩
    obtain ⟨bb, oo, rfl, _, hc⟩ := hd.at_ h0
    obtain ⟨p, hp⟩ : ∃ p, ps.getD m 0 = p := ⟨_, rfl⟩
    have hc1 := (hc m (by omega)).1
    rw [hp] at hc1
    have hpb : p < 18446744073709551616 := by rw [← hp]; exact hd.wds.getD m
    have AW := Lib.hid (appendUint_any W.heap.size 0 p hpb (.slice none 0 0) [] W (World.ownsRow_nil _ _ _ _) (Nat.le_refl _) (by omega) (HT.out.up hu))
    have HB : Hid (Lib.decDigits p = Lib.decDigits (M.pv (ps.drop m))) := by
      show _ = _
      have hm : m < ps.length := by rw [HN.out]; omega
      rw [M.pv_drop hm, hp, List.drop_of_length_le (by rw [HN.out]; exact Nat.le_refl _)]
      rfl
    have HB19 : Hid ((Lib.decDigits p).length ≤ 19) := by
      refine (M.pad_eq 19 p (by omega) ?_).1
      rw [← hp, List.getD_eq_getElem?_getD, List.getElem?_eq_getElem (show m < ps.length by rw [HN.out]; omega)]
      exact HLT.out _ (List.getElem_mem _)
    have hj : ((m + 1 : Nat) : Int) - 1 = (m : Int) := by omega
    clear hp hpb hc
    go_wp2_with fail
    refine AW.out.mono ?_
    rintro _ w2 ⟨v2, rfl, hb2, hu2, _⟩
    go_wp2_with fail
    have hby2 : By w2 W.heap.size v2 (Lib.decDigits (M.pv (ps.drop m))) := by
      rw [← HB.out]
      simpa [By] using hb2
    have hl2 : Hid ((Lib.decDigits (M.pv (ps.drop m))).length ≤ 19) := by show _ ≤ 19; rw [← HB.out]; exact HB19.out
    clear hb2 HB AW hc1 hj HB19
    have hup2 : Up W w2 := hu2
    clear hu2
    go_loopg [5, 6] (m + 1) (fun g t i wr => ∃ (k : Int) (bs : List UInt8), -1 ≤ k ∧ k < m ∧ (k + 1).toNat ≤ g ∧ i = .int .i64 k ∧ Up W wr ∧ By wr W.heap.size t bs ∧ Hid (bs = Lib.decDigits (M.pv (ps.drop (k + 1).toNat))) ∧ Hid (bs.length ≤ 19 * (m + 2 - (k + 1).toNat)))
    case atStart => exact ⟨(m : Int) - 1, _, by omega, by omega, by omega, rfl, hup2, hby2, by rw [show ((m : Int) - 1 + 1).toNat = m from by omega]; rfl, by rw [show ((m : Int) - 1 + 1).toNat = m from by omega]; exact Nat.le_trans hl2.out (by omega)⟩
    case round =>
      obtain ⟨k, bs, hk1, hk2, hkg, rfl, hur, hby, HBS, HLN⟩ := hrel
      clear hby2 hup2
      by_cases hk0 : k = -1
      · subst hk0
        have hbs := HBS.out
        simp only [show ((-1 : Int) + 1).toNat = 0 from rfl, List.drop_zero] at hbs
        rw [HPV.out] at hbs
        have hcv := conv_bytes hby (by rw [hbs]; exact M.decDigits_pos a)
        have HBB := Lib.hid hbs
        clear hbs HBS HLN hby
        go_wp2_with fail
        go_ret
        exact ⟨by rw [← HBB.out]; rfl, hu.trans hur⟩
      · obtain ⟨i, rfl⟩ := Int.eq_ofNat_of_zero_le (show 0 ≤ k by omega)
        obtain ⟨q, hq⟩ : ∃ q, ps.getD i 0 = q := ⟨_, rfl⟩
        have hcq := ((hd.up hur).at_ (by omega))
        obtain ⟨b2, o2, e2, _, hcc⟩ := hcq
        simp only [Option.some.injEq, Addr.mk.injEq, and_true] at e2
        obtain ⟨rfl, rfl⟩ := e2
        have hc1 := (hcc i (by omega)).1
        rw [hq] at hc1
        have hqb : q < 18446744073709551616 := by rw [← hq]; exact hd.wds.getD i
        have FW := Lib.hid (formatUint_any wr q hqb (HT.out.up (hu.trans hur)))
        obtain ⟨t1, t2⟩ := M.text_step (i := i) (by rw [HN.out]; omega) HLAST.out HLT.out hq
        have T2 := Lib.hid t2
        obtain ⟨l, hl⟩ : ∃ l, (Lib.decDigits q).length = l := ⟨_, rfl⟩
        have hsz : (⟨(Lib.decDigits q).toArray⟩ : ByteArray).size = l := hl
        rw [hl] at t1
        have HLL := Lib.hid hl
        obtain ⟨S, hS⟩ : ∃ S, (⟨(Lib.decDigits q).toArray⟩ : ByteArray) = S := ⟨_, rfl⟩
        rw [hS] at FW hsz
        have HS := Lib.hid hS
        clear t2 hq hqb hcc hl hS
        go_wp2_with fail
        refine FW.out.mono ?_
        rintro _ w3 ⟨rfl, hu3⟩
        have hby3 : By w3 W.heap.size u5 bs := hby.up hu3
        have hs19 : ((19 : Int) - (l : Int)) = ((19 - l : Nat) : Int) := by omega
        clear FW hby hc1
        go_wp2_with fail
        have hbl : bs.length ≤ 19 * 1000000001 := Nat.le_trans HLN.out (Nat.mul_le_mul_left _ (by omega))
        have rw0 := repeat_any ⟨#[48]⟩ (19 - l) w3 (by omega) (by simp [ByteArray.size]; omega)
        obtain ⟨S2, hS2⟩ : ∃ S2, (⟨(Lib.repeatL (⟨#[48]⟩ : ByteArray).data.toList (19 - l)).toArray⟩ : ByteArray) = S2 := ⟨_, rfl⟩
        rw [hS2] at rw0
        have hrep : S2.data.toList = List.replicate (19 - l) 48 := by
          rw [← hS2]
          exact rep_zeros _
        clear hS2
        refine rw0.mono ?_
        rintro _ w4 ⟨rfl, hu4⟩
        have HREP := Lib.hid hrep
        clear hrep rw0
        have hby4 := hby3.up hu4
        have hSl : Hid (S.data.toList = Lib.decDigits q) := by show _ = _; rw [← HS.out]
        have hW4 : W.heap.size ≤ w4.heap.size := Nat.le_trans hur.size (Nat.le_trans hu3.size hu4.size)
        have hurw : Up W w4 := hur.trans (hu3.trans hu4)
        have hlen1 : (List.replicate (19 - l) (48 : UInt8)).length ≤ 19 := by rw [List.length_replicate]; omega
        have hlen2 : (Lib.decDigits q).length ≤ 19 := by rw [HLL.out]; omega
        clear hby3 hu3 hu4
        go_wp2_with (first
          | (at_builtin; refine wpList_append_str _ rfl (.tmp 31) (.tmp 35) _ _ rfl info_u8 W.heap.size Tryz.underlying67 Tryz.underlying9 u5 bs rfl hby4 S2 rfl _ HREP.out (by omega) hW4 ?_; intro v5 w5 hby5 hg5)
          | (at_builtin; refine wpList_append_str _ rfl (.tmp 37) (.tmp 38) _ _ rfl info_u8 W.heap.size Tryz.underlying67 Tryz.underlying9 v5 _ rfl hby5 S rfl _ hSl.out (by rw [List.length_append]; omega) (Nat.le_trans hW4 hg5.size) ?_; intro v6 w6 hby6 hg6))
        have hur5 : Up W w5 := hurw.grown hg5 (fun b hb => (World.ownsRow.lt hby4 b hb).1)
        have hur6 : Up W w6 := hur5.grown hg6 (fun b hb => (World.ownsRow.lt hby5 b hb).1)
        go_roundg i
        case measure => omega
        case rel =>
          refine ⟨(i : Int) - 1, _, by omega, by omega, by omega, rfl, hur6, hby6, ?_, ?_⟩
          · show _ = _
            have hb := HBS.out
            rw [show ((i : Int) + 1).toNat = i + 1 from by omega] at hb
            rw [show ((i : Int) - 1 + 1).toNat = i from by omega, T2.out, hb, HLL.out, List.append_assoc]
          · show _ ≤ _
            have hb := HLN.out
            rw [show ((i : Int) + 1).toNat = i + 1 from by omega] at hb
            rw [show ((i : Int) - 1 + 1).toNat = i from by omega, List.length_append, List.length_append, List.length_replicate, HLL.out]
            omega
end Go.Proofs.YtjmnobgllnaljaaGreatDoor
/-
  nat.Sub: its contract.
-/
namespace Go.Proofs.YtjmnobgllnaljaaGreatDoor
open Go.RowKit Go.Shelf

set_option maxHeartbeats 400000 in
set_option maxRecDepth 100000 in
theorem add_any (w : World) (lo lo' s : Nat) (v v' : Value) (a b : Nat) (h : Nw w lo s v a) (h' : Nw w lo' s v' b) (hs : s ≤ 1000000000) :
    Calls Tryz.prog 128 #[v, v'] w (Res (s + 1) (a + b) w) := by
  obtain ⟨A, n, c, xs, rfl, hx, ha, hns⟩ := h
  obtain ⟨A', n', c', xs', rfl, hx', hb, hns'⟩ := h'
  have HA := Lib.hid ha
  have HB := Lib.hid hb
  clear ha hb
  go_enter Tryz.func128, Tryz.ntmps128
  go_wp2_with fail
  refine (trim_any w lo A n c xs hx).mono ?_
  rintro _ _ ⟨m, ys, rfl, rfl, hy, hny, hv, hmn⟩
  have HV : Hid (M.val ys = a) := hv.trans HA.out
  clear hx hv HA
  go_wp2_with fail
  refine (trim_any w lo' A' n' c' xs' hx').mono ?_
  rintro _ _ ⟨m', ys', rfl, rfl, hy', hny', hv', hmn'⟩
  have HV' : Hid (M.val ys' = b) := hv'.trans HB.out
  clear hx' hv' HB
  by_cases hm : m < m'
  · have hA := hy'
    have hB := hy
    have FIN : Hid (M.val ys' + M.val ys = a + b) := by
      show _ = _
      rw [HV.out, HV'.out, Nat.add_comm]
    clear HV HV' hy hy'
    have b1 := hA.len
    have b2 := hA.small
    have b3 := hB.len
    have b4 := hB.small
    go_wp2_with (at_make; refine wpList_make_wd _ rfl (.tmp 22) (.tmp 22) 23 rfl info_u64 Tryz.underlying23 ((m' : Int) + 1) ((m' : Int) + 1) (m' + 1) rfl rfl (by omega) (by omega) (by omega) ?_; intro w1 hown1 hg1)
    have hu1 : Up w w1 := (Up.refl w).grown hg1 (by simp)
    have hz1 : w.heap.size < w1.heap.size := (hown1.lt _ rfl).2
    go_loopw [6, 26] (fun c i wr => ∃ (k q : Nat) (zs : List Nat), k ≤ m' ∧ q ≤ 1 ∧ c = u64 q ∧ i = .int .i64 k ∧ Up w wr ∧ Ow wr w.heap.size (.slice (some ⟨w.heap.size, 0, none⟩) (m' + 1) (m' + 1)) (m' + 1) zs ∧ M.Wds zs ∧ Hid (M.val (zs.take k) + 18446744073709551616 ^ k * q = M.val (ys'.take k) + M.val (ys.take k))) (fun _ i _ => m' - (intOf i).toNat)
    case atStart => exact ⟨0, 0, _, by omega, by omega, rfl, rfl, hu1, hown1, M.Wds.replicate _, by simp [Hid, M.val]⟩
    case round =>
      obtain ⟨k, q, zs, hk, hq, rfl, rfl, hu, hown, hwd, HI⟩ := hrel
      have hcA := (hA.up hu).at_
      have hWB := hB.up hu
      have hzl := hown.num
      clear hown1 hg1 hu1 hz1
      by_cases hlt : k < m'
      · obtain ⟨bb, oo, rfl, _, hc⟩ := hcA (by omega)
        have hc1 := (hc k hlt).1
        obtain ⟨x, hx⟩ : ∃ x, ys'.getD k 0 = x := ⟨_, rfl⟩
        obtain ⟨y, hy⟩ : ∃ y, ys.getD k 0 = y := ⟨_, rfl⟩
        have hxb : x < 18446744073709551616 := by rw [← hx]; exact hA.wds.getD k
        have hyb : y < 18446744073709551616 := by rw [← hy]; exact hB.wds.getD k
        rw [hx] at hc1
        obtain ⟨s1, d1, hs1, hd1, he1, hrun⟩ := add64_ex x y q hxb hyb hq
        have hcz := hown.cellAt k (by omega)
        rw [cu_get (by omega)] at hcz
        have hfz := hown.frozenAt k
        have HE := Lib.hid (M.add_step (i := k) (s := s1) (d := d1) (zs := zs) (by omega) HI.out (by rw [hx, hy]; exact he1))
        have HX := Lib.hid hx
        have cw := Lib.hid (wordAt_nat wr _ _ _ _ _ hWB k (by omega) y hy)
        clear hx hy he1 hxb hyb hc hcA
        go_wp2_with (go_at_call 41; refine cw.out.mono ?_; rintro _ _ ⟨rfl, rfl⟩)
        go_roundw
        case rel =>
          obtain ⟨h1, h2⟩ := hown.stored k (u64 s1)
          rw [cu_set] at h1
          exact ⟨k + 1, d1, zs.set k s1, by omega, hd1, rfl, by go_num, hu.setCell (Nat.le_refl _) _, h1, hwd.set k hs1, HE.out⟩
        case measure => simp [intOf]; omega
      · have hkm : k = m' := by omega
        subst hkm
        have hcz := hown.cellAt k (by omega)
        rw [cu_get (by omega)] at hcz
        have hfz := hown.frozenAt k
        obtain ⟨h1, h2⟩ := hown.stored k (u64 q)
        rw [cu_set] at h1
        have hwd2 := Ow.wd_ h1 (hwd.set k (by omega)) (by omega)
        have hvs : M.val (zs.set k q) = a + b := by
          rw [M.val_set_last (by omega), HI.out, M.val_take_all (by have := hA.num; omega), M.val_take_all (by have := hB.num; omega)]
          exact FIN.out
        have HVS := Lib.hid hvs
        have hu2 := hu.setCell (p := ⟨w.heap.size, k, none⟩) (Nat.le_refl _) (u64 q)
        clear hvs h1 h2 hwd hown hWB hcA
        go_wp2_with fail
        refine (trim_any _ _ _ _ _ _ hwd2).mono ?_
        rintro _ _ ⟨m2, zz, rfl, rfl, hd2, hn2, hv2, hm2⟩
        have HV2 : Hid (M.val zz = a + b) := hv2.trans HVS.out
        clear hv2 hwd2
        go_wp2_with fail
        go_ret
        exact ⟨_, rfl, ⟨_, _, _, zz, rfl, hd2, HV2.out, by omega, hn2⟩, hu2⟩
  · have hA := hy
    have hB := hy'
    have FIN : Hid (M.val ys + M.val ys' = a + b) := by
      show _ = _
      rw [HV.out, HV'.out]
    clear HV HV' hy hy'
    have b1 := hA.len
    have b2 := hA.small
    have b3 := hB.len
    have b4 := hB.small
    go_wp2_with (at_make; refine wpList_make_wd _ rfl (.tmp 22) (.tmp 22) 23 rfl info_u64 Tryz.underlying23 ((m : Int) + 1) ((m : Int) + 1) (m + 1) rfl rfl (by omega) (by omega) (by omega) ?_; intro w1 hown1 hg1)
    have hu1 : Up w w1 := (Up.refl w).grown hg1 (by simp)
    have hz1 : w.heap.size < w1.heap.size := (hown1.lt _ rfl).2
    go_loopw [6, 26] (fun c i wr => ∃ (k q : Nat) (zs : List Nat), k ≤ m ∧ q ≤ 1 ∧ c = u64 q ∧ i = .int .i64 k ∧ Up w wr ∧ Ow wr w.heap.size (.slice (some ⟨w.heap.size, 0, none⟩) (m + 1) (m + 1)) (m + 1) zs ∧ M.Wds zs ∧ Hid (M.val (zs.take k) + 18446744073709551616 ^ k * q = M.val (ys.take k) + M.val (ys'.take k))) (fun _ i _ => m - (intOf i).toNat)
    case atStart => exact ⟨0, 0, _, by omega, by omega, rfl, rfl, hu1, hown1, M.Wds.replicate _, by simp [Hid, M.val]⟩
    case round =>
      obtain ⟨k, q, zs, hk, hq, rfl, rfl, hu, hown, hwd, HI⟩ := hrel
      have hcA := (hA.up hu).at_
      have hWB := hB.up hu
      have hzl := hown.num
      clear hown1 hg1 hu1 hz1
      by_cases hlt : k < m
      · obtain ⟨bb, oo, rfl, _, hc⟩ := hcA (by omega)
        have hc1 := (hc k hlt).1
        obtain ⟨x, hx⟩ : ∃ x, ys.getD k 0 = x := ⟨_, rfl⟩
        obtain ⟨y, hy⟩ : ∃ y, ys'.getD k 0 = y := ⟨_, rfl⟩
        have hxb : x < 18446744073709551616 := by rw [← hx]; exact hA.wds.getD k
        have hyb : y < 18446744073709551616 := by rw [← hy]; exact hB.wds.getD k
        rw [hx] at hc1
        obtain ⟨s1, d1, hs1, hd1, he1, hrun⟩ := add64_ex x y q hxb hyb hq
        have hcz := hown.cellAt k (by omega)
        rw [cu_get (by omega)] at hcz
        have hfz := hown.frozenAt k
        have HE := Lib.hid (M.add_step (i := k) (s := s1) (d := d1) (zs := zs) (by omega) HI.out (by rw [hx, hy]; exact he1))
        have HX := Lib.hid hx
        have cw := Lib.hid (wordAt_nat wr _ _ _ _ _ hWB k (by omega) y hy)
        clear hx hy he1 hxb hyb hc hcA
        go_wp2_with (go_at_call 41; refine cw.out.mono ?_; rintro _ _ ⟨rfl, rfl⟩)
        go_roundw
        case rel =>
          obtain ⟨h1, h2⟩ := hown.stored k (u64 s1)
          rw [cu_set] at h1
          exact ⟨k + 1, d1, zs.set k s1, by omega, hd1, rfl, by go_num, hu.setCell (Nat.le_refl _) _, h1, hwd.set k hs1, HE.out⟩
        case measure => simp [intOf]; omega
      · have hkm : k = m := by omega
        subst hkm
        have hcz := hown.cellAt k (by omega)
        rw [cu_get (by omega)] at hcz
        have hfz := hown.frozenAt k
        obtain ⟨h1, h2⟩ := hown.stored k (u64 q)
        rw [cu_set] at h1
        have hwd2 := Ow.wd_ h1 (hwd.set k (by omega)) (by omega)
        have hvs : M.val (zs.set k q) = a + b := by
          rw [M.val_set_last (by omega), HI.out, M.val_take_all (by have := hA.num; omega), M.val_take_all (by have := hB.num; omega)]
          exact FIN.out
        have HVS := Lib.hid hvs
        have hu2 := hu.setCell (p := ⟨w.heap.size, k, none⟩) (Nat.le_refl _) (u64 q)
        clear hvs h1 h2 hwd hown hWB hcA
        go_wp2_with fail
        refine (trim_any _ _ _ _ _ _ hwd2).mono ?_
        rintro _ _ ⟨m2, zz, rfl, rfl, hd2, hn2, hv2, hm2⟩
        have HV2 : Hid (M.val zz = a + b) := hv2.trans HVS.out
        clear hv2 hwd2
        go_wp2_with fail
        go_ret
        exact ⟨_, rfl, ⟨_, _, _, zz, rfl, hd2, HV2.out, by omega, hn2⟩, hu2⟩
end Go.Proofs.YtjmnobgllnaljaaGreatDoor
namespace Go.Proofs.YtjmnobgllnaljaaGreatDoor
open Go.RowKit Go.Shelf

set_option maxHeartbeats 400000 in
set_option maxRecDepth 100000 in
theorem sub_any (w : World) (lo lo' s s' : Nat) (v v' : Value) (a b : Nat) (h : Nw w lo s v a) (h' : Nw w lo' s' v' b) :
    Calls Tryz.prog 46 #[v, v'] w (Opt s (a - b) (decide (b ≤ a)) w) := by
  obtain ⟨A, n, c, xs, rfl, hx, ha, hns⟩ := h
  obtain ⟨A', n', c', xs', rfl, hx', hb, hns'⟩ := h'
  have HA := Lib.hid ha
  have HB := Lib.hid hb
  clear ha hb
  go_enter Tryz.func46, Tryz.ntmps46
  go_wp2_with fail
  refine (trim_any w lo A n c xs hx).mono ?_
  rintro _ _ ⟨m, ys, rfl, rfl, hy, hny, hv, hmn⟩
  have HV : Hid (M.val ys = a) := hv.trans HA.out
  clear hx hv HA
  go_wp2_with fail
  refine (trim_any w lo' A' n' c' xs' hx').mono ?_
  rintro _ _ ⟨m', ys', rfl, rfl, hy', hny', hv', hmn'⟩
  have HV' : Hid (M.val ys' = b) := hv'.trans HB.out
  clear hx' hv' HB
  have cw := cmp_any w lo lo' m m' (.slice A m c) (.slice A' m' c') a b ⟨A, m, c, ys, rfl, hy, HV.out, Nat.le_refl _⟩ ⟨A', m', c', ys', rfl, hy', HV'.out, Nat.le_refl _⟩
  rcases Nat.lt_or_ge a b with hab | hab
  · rw [M.cmp_lt hab] at cw
    have CW := Lib.hid cw
    have e1 : Hid (decide (b ≤ a) = false) := by simp [Hid]; omega
    have e2 : Hid (a - b = 0) := by simp [Hid]; omega
    clear cw
    go_wp2_with fail
    refine CW.out.mono ?_
    rintro _ _ ⟨rfl, k, rfl⟩
    go_wp2_with fail
    go_ret2
    rw [e1.out, e2.out]
    exact ⟨_, rfl, Nt.nil _ _ _, (Up.refl w).drewN k⟩
  · obtain ⟨z, hz, hz0, hz1⟩ := M.cmp_ge hab
    rw [hz] at cw
    have CW := Lib.hid cw
    have e1 : Hid (decide (b ≤ a) = true) := by simp [Hid]; omega
    have hmm : m' ≤ m := by
      have := M.val_ge_length hy.wds hny' (by rw [HV.out, HV'.out]; exact hab)
      rw [hy.num, hy'.num] at this; exact this
    have HAB := Lib.hid hab
    clear cw hz hab
    go_wp2_with fail
    refine CW.out.mono ?_
    rintro _ W ⟨rfl, k, hW⟩
    have hu0 : Up w W := by rw [hW]; exact (Up.refl w).drewN k
    clear hW CW
    have hA := hy.up hu0
    have hB := hy'.up hu0
    have b1 := hA.len
    have b2 := hA.small
    have b3 := hB.len
    have b4 := hB.small
    clear hy hy'
    go_wp2_with (at_make; refine wpList_make_wd _ rfl (.tmp 19) (.tmp 19) 23 rfl info_u64 Tryz.underlying23 (m : Int) (m : Int) m rfl rfl (by omega) (by omega) (by omega) ?_; intro w1 hown1 hg1)
    have hu1 : Up W w1 := (Up.refl W).grown hg1 (by simp)
    go_loopw [7, 23] (fun c i wr => ∃ (k q : Nat) (zs : List Nat), k ≤ m ∧ q ≤ 1 ∧ c = u64 q ∧ i = .int .i64 k ∧ Up W wr ∧ Ow wr W.heap.size (.slice (some ⟨W.heap.size, 0, none⟩) m m) m zs ∧ M.Wds zs ∧ Hid (M.val (ys.take k) + 18446744073709551616 ^ k * q = M.val (zs.take k) + M.val (ys'.take k))) (fun _ i _ => m - (intOf i).toNat)
    case atStart => exact ⟨0, 0, _, by omega, by omega, rfl, rfl, hu1, hown1, M.Wds.replicate _, by simp [Hid, M.val]⟩
    case round =>
      obtain ⟨k, q, zs, hk, hq, rfl, rfl, hu, hown, hwd, HI⟩ := hrel
      have hcA := (hA.up hu).at_
      have hWB := hB.up hu
      have hzl := hown.num
      clear hown1 hg1 hu1
      by_cases hlt : k < m
      · obtain ⟨bb, oo, rfl, _, hc⟩ := hcA (by omega)
        have hc1 := (hc k hlt).1
        obtain ⟨x, hx⟩ : ∃ x, ys.getD k 0 = x := ⟨_, rfl⟩
        obtain ⟨y, hy⟩ : ∃ y, ys'.getD k 0 = y := ⟨_, rfl⟩
        have hxb : x < 18446744073709551616 := by rw [← hx]; exact hA.wds.getD k
        have hyb : y < 18446744073709551616 := by rw [← hy]; exact hB.wds.getD k
        rw [hx] at hc1
        obtain ⟨s1, d1, hs1, hd1, he1, hrun⟩ := sub64_ex x y q hxb hyb hq
        have hcz := hown.cellAt k (by omega)
        rw [cu_get (by omega)] at hcz
        have hfz := hown.frozenAt k
        have HE := Lib.hid (M.sub_step (i := k) (s := s1) (d := d1) (zs := zs) (by omega) HI.out (by rw [hx, hy]; exact he1))
        have cw := Lib.hid (wordAt_nat wr _ _ _ _ _ hWB k (by omega) y hy)
        clear hx hy he1 hxb hyb hc hcA
        go_wp2_with (go_at_call 41; refine cw.out.mono ?_; rintro _ _ ⟨rfl, rfl⟩)
        go_roundw
        case rel =>
          obtain ⟨h1, h2⟩ := hown.stored k (u64 s1)
          rw [cu_set] at h1
          exact ⟨k + 1, d1, zs.set k s1, by omega, hd1, rfl, by go_num, hu.setCell (Nat.le_refl _) _, h1, hwd.set k hs1, HE.out⟩
        case measure => simp [intOf]; omega
      · have hkm : k = m := by omega
        subst hkm
        have hwd2 := Ow.wd_ hown hwd (by omega)
        have hvs : M.val zs = a - b := by
          have h0 := HI.out
          rw [M.val_take_all (a := ys) (by have := hA.num; omega), M.val_take_all (a := ys') (by have := hB.num; omega), M.val_take_all (a := zs) (by omega), HV.out, HV'.out] at h0
          have h1 : M.val zs < 18446744073709551616 ^ k := by have := M.val_lt hwd; rwa [hzl] at this
          have h2 := HAB.out
          exact M.sub_last hq h0 h1 h2
        have HVS := Lib.hid hvs
        clear hvs hwd hown hWB hcA
        go_wp2_with fail
        refine (trim_any _ _ _ _ _ _ hwd2).mono ?_
        rintro _ _ ⟨m2, zz, rfl, rfl, hd2, hn2, hv2, hm2⟩
        have HV2 : Hid (M.val zz = a - b) := hv2.trans HVS.out
        clear hv2 hwd2
        go_wp2_with fail
        go_ret2
        rw [e1.out]
        exact ⟨_, rfl, ⟨_, _, _, zz, rfl, hd2.lower hu0.size, HV2.out, by omega, hn2⟩, hu0.trans hu⟩
end Go.Proofs.YtjmnobgllnaljaaGreatDoor
/-
  nat.Parse: its contract.
-/
namespace Go.Proofs.YtjmnobgllnaljaaGreatDoor
open Go.RowKit Go.Shelf

namespace M
theorem parseM (M : Nat) (hM : 9999999999999999999 ≤ M) (l : List UInt8) : ∀ acc k, acc < 10 ^ k → k + l.length ≤ 19 → Lib.parseUintM M acc l = if allD l = true then .ok (vsa acc l) else Lib.parseUintB 64 [] := by
  induction l with
  | nil => intro acc k _ _; rw [Lib.parseUintM, vsa_nil]; rfl
  | cons c r ih =>
    intro acc k hk hl
    rw [List.length_cons] at hl
    rw [Lib.parseUintM]
    by_cases hc : 48 ≤ c.toNat ∧ c.toNat ≤ 57
    · have hpow : 10 ^ (k + 1) ≤ 10 ^ 19 := Nat.pow_le_pow_right (by omega) (by omega)
      have h1 : acc * 10 + (c.toNat - 48) < 10 ^ (k + 1) := by rw [Nat.pow_succ]; omega
      rw [if_pos hc, if_neg (by rw [Nat.pow_succ] at hpow; omega), if_neg (by omega), ih _ (k + 1) h1 (by omega)]
      have : isD c = true := (isD_iff c).2 hc
      rw [vsa_cons]
      simp [allD, this]
    · rw [if_neg hc]
      have : isD c = false := by
        cases h : isD c
        · rfl
        · exact absurd ((isD_iff c).1 h) hc
      have e : allD (c :: r) = false := by simp [allD, this]
      rw [e]
      rfl
theorem parseB (l : List UInt8) (h0 : l ≠ []) (hl : l.length ≤ 19) : Lib.parseUintB 64 l = if allD l = true then .ok (vsa 0 l) else Lib.parseUintB 64 [] := by
  rw [Lib.parseUintB, if_neg h0]
  exact parseM _ (by omega) l 0 0 (by simp) (by omega)
end M

/-- The library's error is laid. -/
def ErrW (w : World) : Prop := ∃ tp p, w.var? Tryz.prog "strconv.ErrSyntax" = some #[.iface tp p]
theorem ErrW.up {w w' : World} (h : ErrW w) (hu : Up w w') : ErrW w' := by
  obtain ⟨tp, p, h⟩ := h
  refine ⟨tp, p, ?_⟩
  unfold World.var? at *
  cases hg : Tryz.prog.globalNamed "strconv.ErrSyntax" with
  | none => simp [hg] at h
  | some g =>
    simp only [hg, Option.bind_some] at h ⊢
    have hlt : g < w.heap.size := by
      rcases Nat.lt_or_ge g w.heap.size with h' | h'
      · exact h'
      · rw [Array.getElem?_eq_none h'] at h; simp at h
    rw [Below.block hu g hlt]
    exact h

/-- ParseUint of digits: their number. -/
def PuOk (u : Nat) (w : World) (e : Ending) (w' : World) : Prop := e = .returned (.tuple #[u64 u, .nilIface]) ∧ Up w w'
/-- ParseUint of other bytes: an error. -/
def PuNo (w : World) (e : Ending) (w' : World) : Prop := ∃ N, e = .returned (.tuple #[.int .u64 0, .iface 177 (.pointer (some ⟨N, 0, none⟩))]) ∧ Up w w'
theorem parseUint_ok (s : ByteArray) (l : List UInt8) (hl : s.data.toList = l) (h0 : l ≠ []) (h19 : l.length ≤ 19) (hd : M.allD l = true) (w : World) :
    Calls Tryz.prog 127 #[.string s, .int .i64 10, .int .i64 64] w (PuOk (M.vsa 0 l) w) := by
  have hsz : s.size = l.length := by rw [← hl]; exact (Array.length_toList).symm
  refine (Tryz.strconv_ParseUint_10_at64_ok s (by omega) (M.vsa 0 l) (by rw [hl, M.parseB l h0 h19, if_pos hd]) w).mono ?_
  rintro e w' ⟨he, hw⟩
  refine ⟨he, ?_⟩
  rcases hw with rfl | rfl
  · exact Up.refl _
  · exact Lib.bytesWorld_below w _ s
theorem parseUint_no (s : ByteArray) (l : List UInt8) (hl : s.data.toList = l) (h0 : l ≠ []) (h19 : l.length ≤ 19) (hd : M.allD l = false) (w : World) (hw : ErrW w) :
    Calls Tryz.prog 127 #[.string s, .int .i64 10, .int .i64 64] w (PuNo w) := by
  have hsz : s.size = l.length := by rw [← hl]; exact (Array.length_toList).symm
  obtain ⟨tp, p, hv⟩ := hw
  refine (Any.strconv_ParseUint_10_at64_syntax_var Tryz.laysPu14 s (by omega) (by rw [hl, M.parseB l h0 h19, if_neg (by rw [hd]; simp)]; rfl) tp p w hv).mono ?_
  rintro e w' ⟨N, he, _, _, hb⟩
  exact ⟨N, he, hb⟩

/-- What Parse comes to, of bytes that are no other number's. -/
def Parsed (l : List UInt8) (w : World) (e : Ending) (w' : World) : Prop := Opt 2001 (if M.allD l = true then M.vsa 0 l else 0) (M.allD l) w e w'

/-- What is so while a text is gone through by pieces: t is left, cs is behind. -/
def M.PsInv (l : List UInt8) (t : ByteArray) (cs : List UInt8) : Prop := l = cs ++ t.data.toList ∧ M.allD cs = true ∧ (cs = [] ∨ t.size % 19 = 0)
theorem M.PsInv.start {l : List UInt8} {s : ByteArray} (h : s.data.toList = l) : M.PsInv l s [] := ⟨by rw [h]; rfl, rfl, .inl rfl⟩
theorem M.PsInv.finish {l : List UInt8} {t : ByteArray} {cs : List UInt8} (h : M.PsInv l t cs) (h0 : t.size = 0) : M.allD l = true ∧ cs = l := by
  obtain ⟨h1, h2, _⟩ := h
  have : t.data.toList = [] := List.eq_nil_of_length_eq_zero (by rw [Array.length_toList]; exact h0)
  rw [this, List.append_nil] at h1
  exact ⟨by rw [h1]; exact h2, h1.symm⟩

theorem M.PsInv.no {l : List UInt8} {t : ByteArray} {cs : List UInt8} {z : Nat} (h : M.PsInv l t cs) (hd : M.allD (t.data.toList.take z) = false) : M.allD l = false := by
  rw [h.1, M.allD_append, ← List.take_append_drop z t.data.toList, M.allD_append, hd]
  simp
theorem M.PsInv.step {l : List UInt8} {t : ByteArray} {cs : List UInt8} {z : Nat} (h : M.PsInv l t cs) (hz : z = (t.size - 1) % 19 + 1) (h0 : 0 < t.size) (hd : M.allD (t.data.toList.take z) = true) :
    M.PsInv l (t.extract z t.size) (cs ++ t.data.toList.take z) ∧ M.vsa 0 (cs ++ t.data.toList.take z) = M.vsa 0 cs * 10000000000000000000 + M.vsa 0 (t.data.toList.take z) ∧ (t.extract z t.size).size = t.size - z := by
  obtain ⟨h1, h2, h3⟩ := h
  have hsz : (t.extract z t.size).size = t.size - z := by simp
  have hzl : z ≤ t.size := by omega
  refine ⟨⟨?_, ?_, .inr ?_⟩, ?_, hsz⟩
  · have e : (t.extract z t.size).data.toList = t.data.toList.drop z := by
      rw [Lib.extract_data]
      exact List.take_of_length_le (by rw [List.length_drop, Array.length_toList]; exact Nat.le_refl _)
    rw [e, List.append_assoc, List.take_append_drop]; exact h1
  · rw [M.allD_append, h2, hd]; rfl
  · rw [hsz]; omega
  · rw [M.vsa_append, M.vsa_acc]
    rcases h3 with h3 | h3
    · subst h3
      rw [M.vsa_nil, Nat.zero_mul, Nat.zero_mul]
    · have hl : (t.data.toList.take z).length = 19 := by
        rw [List.length_take, Array.length_toList]
        have : t.data.size = t.size := rfl
        omega
      rw [hl]

set_option maxHeartbeats 3200000 in
set_option maxRecDepth 100000 in
theorem parse_any (w : World) (s : ByteArray) (l : List UInt8) (hl : s.data.toList = l) (h0 : l ≠ []) (hlen : l.length ≤ 2000) (hz : l.headD 0 ≠ 48 ∨ l = [48]) (hEW : ErrW w) :
    Calls Tryz.prog 103 #[.string s] w (Parsed l w) := by
  have hsz : s.size = l.length := by rw [← hl]; exact (Array.length_toList).symm
  have hpos : 0 < s.size := by rw [hsz]; exact List.length_pos_iff.2 h0
  have hs2 : s.size ≤ 2000 := by omega
  have htl : s.toList = l := by rw [Lib.toList_data]; exact hl
  have hE : s.toList.isEmpty = false := by rw [htl]; cases l <;> simp_all
  have hT : ((((s[0]'hpos).toNat : Int) == 48) && !(s.toList == [48])) = false := by
    rcases hz with h | h
    · have : (s[0]'hpos) = l.headD 0 := by
        have h1 : (s[0]'hpos) = s.data.toList[0]'(show 0 < s.data.toList.length by rw [Array.length_toList]; exact hpos) := rfl
        rw [h1]
        cases l with
        | nil => exact absurd rfl h0
        | cons c r => simp [hl]
      have h2 : ((s[0]'hpos).toNat : Int) ≠ 48 := by
        rw [this]
        intro e
        apply h
        apply UInt8.toNat_inj.1
        have : (l.headD 0).toNat = 48 := by omega
        exact this
      simp [h2]
    · have e1 : (s.toList == [48]) = true := by rw [htl, h]; rfl
      rw [e1]; simp
  have HL := Lib.hid hl
  have HTL := Lib.hid htl
  have hxx : ∃ b1 b2, (((s[0]'hpos).toNat : Int) == 48) = b1 ∧ (s.toList == [48]) = b2 := ⟨_, _, rfl, rfl⟩
  obtain ⟨b1, b2, hb1, hb2⟩ := hxx
  rw [hb1, hb2] at hT
  have HSZ := Lib.hid hsz
  have HNE := Lib.hid h0
  clear hz htl hl hlen hsz h0
  have hd2 : decide ((2000 : Int) < (s.size : Int)) = false := by simp; omega
  go_enter Tryz.func103, Tryz.ntmps103
  cases b1 <;> cases b2 <;> simp at hT
  all_goals
    go_wp2_with fail
  all_goals
    go_loopg [0, 4] s.size (fun g st v wr => ∃ (t : ByteArray) (cs : List UInt8), st = .string t ∧ t.size ≤ g ∧ t.size ≤ 2000 ∧ Up w wr ∧ Nt wr w.heap.size cs.length v (M.vsa 0 cs) ∧ M.PsInv l t cs)
    case atStart => exact ⟨s, [], rfl, Nat.le_refl _, hs2, Up.refl _, Nt.nil _ _ _, M.PsInv.start HL.out⟩
    case round =>
      obtain ⟨t, cs, rfl, htg, ht2, hu, hv, HP⟩ := hrel
      by_cases ht0 : t.size = 0
      · go_wp2_with fail
        go_ret2
        obtain ⟨p1, p2⟩ := HP.finish ht0
        subst p2
        have hlc : cs.length ≤ 2001 := by have := HSZ.out; omega
        refine ⟨u4, ?_, ?_, hu⟩
        · rw [p1]; rfl
        · rw [if_pos p1]; exact hv.more hlc
      · obtain ⟨z, hz, hz1, hz19, hzt⟩ : ∃ z : Nat, ((t.size : Int) - 1) % 19 + 1 = (z : Int) ∧ 1 ≤ z ∧ z ≤ 19 ∧ z ≤ t.size := ⟨(t.size - 1) % 19 + 1, by omega, by omega, by omega, by omega⟩
        have hpos2 : 0 < t.size := by omega
        have hzz : z = (t.size - 1) % 19 + 1 := by omega
        obtain ⟨pl, hpl⟩ : ∃ pl, t.data.toList.take z = pl := ⟨_, rfl⟩
        obtain ⟨P, hPe⟩ : ∃ P, t.extract 0 z = P := ⟨_, rfl⟩
        have hPl : P.data.toList = pl := by rw [← hPe, Lib.extract_data, List.drop_zero, Nat.sub_zero, hpl]
        have htl : t.data.toList.length = t.size := Array.length_toList
        have hpll : pl.length = z := by rw [← hpl, List.length_take, htl]; omega
        have hpl0 : pl ≠ [] := by intro e; rw [e] at hpll; simp at hpll; omega
        have hcl : cs.length + t.size ≤ 2000 := by
          have := congrArg List.length HP.1
          rw [List.length_append, htl] at this
          have := HSZ.out
          omega
        rcases hd : M.allD pl with _ | _
        · have hno := HP.no (by rw [hpl]; exact hd)
          have PW := Lib.hid (parseUint_no P pl hPl hpl0 (by omega) hd wr (hEW.up hu))
          have HNO := Lib.hid hno
          have HPE := Lib.hid hPe
          clear hno hd hpl hPl hpl0 hPe hzz htl hpll hv HP
          go_wp2_with (go_at_call 127; rw [HPE.out]; refine PW.out.mono ?_; rintro _ w2 ⟨N, rfl, hu2⟩)
          go_ret2
          refine ⟨.slice none 0 0, ?_, ?_, hu.trans hu2⟩
          · rw [HNO.out]; rfl
          · rw [if_neg (by rw [HNO.out]; simp)]; exact Nt.nil _ _ _
        · obtain ⟨s1, s2, s3⟩ := HP.step hzz hpos2 (by rw [hpl]; exact hd)
          rw [hpl] at s1 s2
          have PW := Lib.hid (parseUint_ok P pl hPl hpl0 (by omega) hd wr)
          have hub : M.vsa 0 pl < 18446744073709551616 := by
            have h1 := M.vsa_lt pl hd
            have h2 : 10 ^ pl.length ≤ 10 ^ 19 := Nat.pow_le_pow_right (by omega) (by omega)
            omega
          have hfit : Hid (M.vsa 0 (cs ++ pl) < 18446744073709551616 ^ (cs ++ pl).length) := by
            have h1 := M.vsa_lt (cs ++ pl) (by rw [M.allD_append, HP.2.1, hd]; rfl)
            have h2 : 10 ^ (cs ++ pl).length ≤ 18446744073709551616 ^ (cs ++ pl).length := Nat.pow_le_pow_left (by omega) _
            exact Nat.lt_of_lt_of_le h1 h2
          generalize M.vsa 0 pl = u at *
          have S1 := Lib.hid s1
          have S2 := Lib.hid s2
          have S3 := Lib.hid s3
          have HUB := Lib.hid hub
          have HPE := Lib.hid hPe
          have hp10 : (10000000000000000000 : Nat) < 18446744073709551616 := by omega
          clear s1 s2 s3 hub hd hpl hPl hpl0 hPe hzz htl hpll HP
          go_wp2_with (go_at_call 127; rw [HPE.out]; refine PW.out.mono ?_; rintro _ w2 ⟨rfl, hu2⟩)
          have OW := of_any w2 10000000000000000000 hp10
          simp only [u64, Int.cast_ofNat_Int] at OW
          refine OW.mono ?_
          rintro _ w3 ⟨v3, rfl, h3, hu3⟩
          have hv3 := (hv.up hu2).up hu3
          clear OW hv
          go_wp2_with fail
          refine (mul_any w3 _ _ _ _ u4 v3 _ _ hv3.nw h3.nw (by omega) (by omega)).mono ?_
          rintro _ w4 ⟨v4, rfl, h4, hu4⟩
          clear h3 hv3
          go_wp2_with fail
          refine (of_any w4 u HUB.out).mono ?_
          rintro _ w5 ⟨v5, rfl, h5, hu5⟩
          have h4b := h4.up hu5
          clear h4
          go_wp2_with fail
          refine (add_any w5 _ _ (cs.length + 1) v4 v5 _ _ h4b.nw (h5.nw.more (by omega)) (by omega)).mono ?_
          rintro _ w6 ⟨v6, rfl, h6, hu6⟩
          have hu26 : Up wr w6 := hu2.trans (hu3.trans (hu4.trans (hu5.trans hu6)))
          have h6b : Nt w6 w.heap.size (cs ++ pl).length v6 (M.vsa 0 (cs ++ pl)) := by
            rw [← S2.out] at h6
            exact (h6.fit hfit.out).lower (Nat.le_trans hu.size (Nat.le_trans hu2.size (Nat.le_trans hu3.size (Nat.le_trans hu4.size hu5.size))))
          clear h6 h5 h4b hu2 hu3 hu4 hu5 hu6
          go_wp2_with fail
          go_roundg (t.size - z)
          case measure => omega
          case rel => exact ⟨t.extract z t.size, cs ++ pl, rfl, by rw [S3.out]; exact Nat.le_refl _, by rw [S3.out]; omega, hu.trans hu26, h6b, S1.out⟩

set_option maxHeartbeats 1600000 in
set_option maxRecDepth 100000 in
/-- Parse of bytes that are empty, too many, or begin with a nought ahead. -/
theorem parse_bad (w : World) (s : ByteArray) (l : List UInt8) (hl : s.data.toList = l) (hb : l = [] ∨ 2000 < l.length ∨ (l.headD 0 = 48 ∧ l ≠ [48])) :
    Calls Tryz.prog 103 #[.string s] w (Opt 2001 0 false w) := by
  have hsz : s.size = l.length := by rw [← hl]; exact (Array.length_toList).symm
  have htl : s.toList = l := by rw [Lib.toList_data]; exact hl
  by_cases h1 : s.size = 0
  · have he : l = [] := List.eq_nil_of_length_eq_zero (by omega)
    have hE : s.toList.isEmpty = true := by rw [htl, he]; rfl
    have hN : s.toList = [] := by rw [htl, he]
    clear hl hsz htl he hb
    go_enter Tryz.func103, Tryz.ntmps103
    go_wp2_with fail
    go_ret2
    exact ⟨_, rfl, Nt.nil _ _ _, Up.refl _⟩
  · have hpos : 0 < s.size := by omega
    have hne : l ≠ [] := by intro e; rw [e] at hsz; exact h1 hsz
    have hE : s.toList.isEmpty = false := by rw [htl]; cases l <;> simp_all
    by_cases h2 : 2000 < s.size
    · have hd2 : decide ((2000 : Int) < (s.size : Int)) = true := by simp; omega
      clear hl hsz htl hb hne h1
      go_enter Tryz.func103, Tryz.ntmps103
      go_wp2_with fail
      go_ret2
      exact ⟨_, rfl, Nt.nil _ _ _, Up.refl _⟩
    · have hd2 : decide ((2000 : Int) < (s.size : Int)) = false := by simp; omega
      have hb3 : l.headD 0 = 48 ∧ l ≠ [48] := by
        rcases hb with h | h | h
        · exact absurd h hne
        · omega
        · exact h
      have hb1 : (((s[0]'hpos).toNat : Int) == 48) = true := by
        have h1 : (s[0]'hpos) = s.data.toList[0]'(show 0 < s.data.toList.length by rw [Array.length_toList]; exact hpos) := rfl
        have h2 : (s[0]'hpos) = l.headD 0 := by
          rw [h1]
          cases l with
          | nil => exact absurd rfl hne
          | cons c r => simp [hl]
        rw [h2, hb3.1]
        rfl
      have hb2 : (s.toList == [48]) = false := by rw [htl]; simpa using hb3.2
      clear hl hsz htl hb hne h1 hb3
      go_enter Tryz.func103, Tryz.ntmps103
      go_wp2_with fail
      go_ret2
      exact ⟨_, rfl, Nt.nil _ _ _, Up.refl _⟩
end Go.Proofs.YtjmnobgllnaljaaGreatDoor
/-
  few; what each law shows first.
-/
namespace Go.Proofs.YtjmnobgllnaljaaGreatDoor
open Go.RowKit Go.Shelf

namespace M
theorem pv_ge {ps : List Nat} (h : ps ≠ []) (hl : ps.getLast? ≠ some 0) : 10000000000000000000 ^ (ps.length - 1) ≤ pv ps := by
  obtain ⟨b, x, rfl⟩ : ∃ b x, ps = b ++ [x] := ⟨ps.dropLast, ps.getLast h, (List.dropLast_concat_getLast h).symm⟩
  have hx : 0 < x := by
    rw [List.getLast?_concat] at hl
    exact Nat.pos_of_ne_zero (fun e => hl (by rw [e]))
  rw [pv_append]
  simp only [pv, Nat.mul_zero, Nat.add_zero, List.length_append, List.length_singleton, Nat.add_sub_cancel]
  calc 10000000000000000000 ^ b.length = 10000000000000000000 ^ b.length * 1 := (Nat.mul_one _).symm
    _ ≤ 10000000000000000000 ^ b.length * x := Nat.mul_le_mul_left _ hx
    _ ≤ _ := Nat.le_add_left _ _
theorem PInv.len {a r s : Nat} {ps : List Nat} (h : PInv a ps r) (ha : a < 18446744073709551616 ^ s) : ps.length ≤ 2 * s := by
  have h1 : (18446744073709551616 : Nat) ^ s ≤ 10000000000000000000 ^ (2 * s) := by
    rw [Nat.pow_mul]
    exact Nat.pow_le_pow_left (by omega) _
  rcases Nat.lt_or_ge (2 * s) ps.length with h2 | h2
  · exfalso
    have h3 : 10000000000000000000 ^ (ps.length - 1) ≤ a := by
      rw [h.eq]
      rcases Nat.eq_zero_or_pos r with h0 | h0
      · have := pv_ge (by intro e; rw [e] at h2; simp at h2) (h.last h0)
        omega
      · have h4 : 10000000000000000000 ^ ps.length * 1 ≤ 10000000000000000000 ^ ps.length * r := Nat.mul_le_mul_left _ h0
        have h5 : 10000000000000000000 ^ (ps.length - 1) ≤ 10000000000000000000 ^ ps.length := Nat.pow_le_pow_right (by omega) (by omega)
        omega
    have h6 : 10000000000000000000 ^ (2 * s) ≤ 10000000000000000000 ^ (ps.length - 1) := Nat.pow_le_pow_right (by omega) (by omega)
    omega
  · exact h2
end M

theorem Nw.lt {w : World} {lo s : Nat} {v : Value} {a : Nat} (h : Nw w lo s v a) : a < 18446744073709551616 ^ s := by
  obtain ⟨A, n, c, xs, _, h1, h2, h3⟩ := h
  have h4 := M.val_lt h1.wds
  rw [h2, h1.num] at h4
  exact Nat.lt_of_lt_of_le h4 (Nat.pow_le_pow_right (by omega) h3)
/-- Text, of a number of not too many words. -/
theorem text_of (w : World) (lo s : Nat) (v : Value) (a : Nat) (h : Nw w lo s v a) (hs : s ≤ 100000000) (htab : TabW w) (S : ByteArray) (hS : (⟨(Lib.decDigits a).toArray⟩ : ByteArray) = S) :
    Calls Tryz.prog 19 #[v] w (Str S w) := by
  have := text_any w lo s v a h (fun ps r hp => by have := hp.len h.lt; omega) htab
  rw [hS] at this
  exact this

theorem lit1 (w : World) (x : Nat) (X : Int) (hX : X = (x : Int)) (hx : x < 18446744073709551616) :
    Nw (w.alloc (.cells #[.int .u64 X] 37)) w.heap.size 1 (.slice (some ⟨w.heap.size, 0, none⟩) 1 1) x := by
  subst hX
  have hown : Ow (w.alloc (.cells #[u64 x] 37)) w.heap.size (.slice (some ⟨w.heap.size, 0, none⟩) 1 1) 1 [x] := World.ownsRow_lit w #[u64 x] 1 (Nat.le_refl _) (by simp only [maxLen]; omega) rfl
  have := Ow.nw hown (M.Wds.cons hx M.Wds.nil) (by omega)
  rwa [show M.val [x] = x from by simp [M.val]] at this
theorem lit2 (w : World) (x y a : Nat) (X Y : Int) (hX : X = (x : Int)) (hY : Y = (y : Int)) (hx : x < 18446744073709551616) (hy : y < 18446744073709551616) (ha : x + 18446744073709551616 * y = a) :
    Nw (w.alloc (.cells #[.int .u64 X, .int .u64 Y] 37)) w.heap.size 2 (.slice (some ⟨w.heap.size, 0, none⟩) 2 2) a := by
  subst hX hY ha
  have hown : Ow (w.alloc (.cells #[u64 x, u64 y] 37)) w.heap.size (.slice (some ⟨w.heap.size, 0, none⟩) 2 2) 2 [x, y] := World.ownsRow_lit w #[u64 x, u64 y] 2 (Nat.le_refl _) (by simp only [maxLen]; omega) rfl
  have := Ow.nw hown (M.Wds.cons hx (M.Wds.cons hy M.Wds.nil)) (by omega)
  rwa [show M.val [x, y] = x + 18446744073709551616 * y from by simp [M.val]] at this
theorem of_lit (w : World) (x : Nat) (X : Int) (hX : X = (x : Int)) (hx : x < 18446744073709551616) : Calls Tryz.prog 91 #[.int .u64 X] w (Res 1 x w) := by
  subst hX; exact of_any w x hx
/-- Add, of numbers of at most so many words each. -/
theorem add_of (w : World) (lo lo' s s' S : Nat) (v v' : Value) (a b : Nat) (h : Nw w lo s v a) (h' : Nw w lo' s' v' b) (h1 : s ≤ S) (h2 : s' ≤ S) (hS : S ≤ 1000000000) :
    Calls Tryz.prog 128 #[v, v'] w (Res (S + 1) (a + b) w) := add_any w lo lo' S v v' a b (h.more h1) (h'.more h2) hS
/-- Cmp, of equal numbers. -/
theorem cmp_same (w : World) (lo lo' s s' : Nat) (v v' : Value) (a b : Nat) (h : Nw w lo s v a) (h' : Nw w lo' s' v' b) (e : a = b) :
    Calls Tryz.prog 15 #[v, v'] w (Val (.int .i64 0) w) := by
  have := cmp_any w lo lo' s s' v v' a b h h'
  rwa [M.cmp_eq e] at this
/-- Sub, of no more than there is. -/
theorem sub_ok (w : World) (lo lo' s s' : Nat) (v v' : Value) (a b : Nat) (h : Nw w lo s v a) (h' : Nw w lo' s' v' b) (e : b ≤ a) :
    Calls Tryz.prog 46 #[v, v'] w (Opt s (a - b) true w) := by
  have := sub_any w lo lo' s s' v v' a b h h'
  rwa [decide_eq_true e] at this
end Go.Proofs.YtjmnobgllnaljaaGreatDoor
