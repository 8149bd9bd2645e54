import Derived.Test.YtijpffgocookaaaGreatDoorQWObm
import Derived.Test.YtijpffgocookaaaGreatDoorQWPm
import Derived.Test.YtijpffgocookaaaGreatDoorQWShelf
import Derived.Lib.Hide
import Derived.Test.YtijpffgocookaaaGreatDoorQWPfa
import Derived.Test.YtijpffgocookaaaGreatDoorQWMqa
import Derived.WalkLawsBesides
import Derived.Deep.RegionHeld3
import Derived.BigQuiet
import Derived.Defers
import Derived.Recover
import Derived.Deep.RegionWith
set_option maxHeartbeats 32000000
set_option linter.unusedVariables false
set_option linter.unusedSimpArgs false
namespace Go.Proofs.YtijpffgocookaaaGreatDoor
open Go.RowKit Go.Shelf
theorem M.bitLen_eq_m : ∀ (n x : Nat), x ≤ n → x < 18446744073709551616 → Lib.bitLen x = M.bits x := by
 intro n
 induction n with
 | zero =>
  intro x hx _
  obtain rfl : x = 0 := by omega
  rfl
 | succ n ih =>
  intro x hx hb
  by_cases h0 : x = 0
  ·subst h0; rfl
  ·rw [Lib.bitLen_half x h0 hb, M.bits_half h0, ih (x / 2) (by omega) (by omega)]
theorem lead64_m (x : Nat) (hx : x < 18446744073709551616) (w : World) : Calls Tryz.prog 159 #[u64 x] w (Same (.int .i64 (64 - (M.bits x : Int))) w) :=
 (Tryz.bits_LeadingZeros64 x w (by omega) (by omega)).mono fun _ _ ⟨h, k⟩ => ⟨by rw [← M.bitLen_eq_m x x (Nat.le_refl _) hx]; simpa using h, k.symm⟩
def Pns (w : World) (e : Ending) (w' : World) : Prop := (∃ s, e = .panicked [{ v := .iface 9 (.string s), recovered := false }]) ∧ Up w w'
theorem size_in (w : World) (n : Nat) (h2 : 2 ≤ n) (hn : n ≤ 64) : Calls Tryz.prog 183 #[.int .i64 ((n : Int) + 1)] w (Same (.int .i64 (n : Int)) w) := by
 have d1 : decide ((n : Int) + 1 < 3) = false := decide_eq_false (by omega)
 have d2 : decide (65 < (n : Int) + 1) = false := decide_eq_false (by omega)
 go_enter Tryz.func183, Tryz.ntmps183
 go_wp2_with fail
 go_ret
 exact ⟨by first | rfl | exact ret_int (by omega), rfl⟩
theorem size_out (w : World) (wd : Int) (h : wd < 3 ∨ 65 < wd) : Calls Tryz.prog 183 #[.int .i64 wd] w (Pns w) := by
 rcases (show wd < 3 ∨ (¬ wd < 3 ∧ 65 < wd) by omega) with h1 | ⟨h0, h1⟩
 ·have d1 : decide (wd < 3) = true := decide_eq_true h1
  clear h
  go_enter Tryz.func183, Tryz.ntmps183
  go_wp2_with fail
  exact ⟨rfl, ⟨_, rfl⟩, Up.refl _⟩
 ·have d1 : decide (wd < 3) = false := decide_eq_false h0
  have d2 : decide (65 < wd) = true := decide_eq_true h1
  clear h
  go_enter Tryz.func183, Tryz.ntmps183
  go_wp2_with fail
  exact ⟨rfl, ⟨_, rfl⟩, Up.refl _⟩
namespace M
def Lf (n : Nat) (R : Int) (r : Nat) : Prop := (R < 0 ∧ R + n - 1 = r) ∨ (0 ≤ R ∧ R + 2 ≤ n ∧ n - R - 2 = r) ∨ (R + 1 = n ∧ r = 0)
theorem Ps.lf {n k r q : Nat} {R : Int} (h : Ps n k R r q) : Lf n R r := by
 obtain ⟨_, h | h | h⟩ := h
 ·exact .inl (by omega)
 ·exact .inr (.inl (by omega))
 ·exact .inr (.inr (by omega))
end M
theorem behind_any (w : World) (n r : Nat) (R : Int) (h2 : 2 ≤ n) (hn : n ≤ 64) (h : M.Lf n R r) :
  Calls Tryz.prog 192 #[.int .i64 (n : Int), .int .i64 R] w (Same (.tuple #[.int .i64 ((min r 2 : Nat) : Int), .int .i64 ((r - 2 : Nat) : Int)]) w) := by
 have d1 : decide (R ≤ -(n : Int)) = false := decide_eq_false (by rcases h with h | h | h <;> omega)
 have d2 : decide ((n : Int) ≤ R) = false := decide_eq_false (by rcases h with h | h | h <;> omega)
 have b1 : -64 ≤ R ∧ R ≤ 64 := by rcases h with h | h | h <;> omega
 have e1 : min (max 0 ((n : Int) - max (R + 1) (-R) - 1)) 2 = ((min r 2 : Nat) : Int) := by rcases h with h | h | h <;> omega
 have e2 : max 0 ((n : Int) - max (R + 1) (-R) - 1) - ((min r 2 : Nat) : Int) = ((r - 2 : Nat) : Int) := by rcases h with h | h | h <;> omega
 have E1 := Lib.hid e1
 have E2 := Lib.hid e2
 clear h e1 e2
 go_enter Tryz.func192, Tryz.ntmps192
 go_wp2_with fail
 go_ret2
 exact ⟨by rw [E1.out, E2.out]; rfl, rfl⟩
namespace M
theorem reg_run {n k r q : Nat} {R : Int} (hn : n ≤ 64) (h : Ps n k R r q) :
  k * 2 ^ (64 - n) < 2 ^ 64 ∧ ((R < 0 ∧ bits (2 ^ 64 - 1 - k * 2 ^ (64 - n)) = 64 ∧ 64 - (bits (k * 2 ^ (64 - n)) : Int) = -R) ∨ (0 ≤ R ∧ 64 - (bits (2 ^ 64 - 1 - k * 2 ^ (64 - n)) : Int) = R + 1)) := by
 have g := h.rng
 have e64 : 2 ^ n * 2 ^ (64 - n) = 2 ^ 64 := by rw [← Nat.pow_add, show n + (64 - n) = 64 by omega]
 have p := p2 (64 - n)
 have hlt : k * 2 ^ (64 - n) < 2 ^ 64 := by rw [← e64]; exact Nat.mul_lt_mul_of_pos_right g.2.1 p
 refine ⟨hlt, ?_⟩
 obtain ⟨hq, h | h | h⟩ := h
 ·obtain ⟨rfl, h1, rfl⟩ := h
  refine .inl ⟨by omega, ?_, ?_⟩
  ·apply bits_of (b := 63)
   ·have a1 : 2 ^ r + q < 2 ^ (n - 1) := Nat.lt_of_lt_of_le (show 2 ^ r + q < 2 ^ (r + 1) by rw [p2s]; omega) (p2le (by omega))
    have a2 : (2 ^ r + q) * 2 ^ (64 - n) < 2 ^ (n - 1) * 2 ^ (64 - n) := Nat.mul_lt_mul_of_pos_right a1 p
    rw [← Nat.pow_add, show n - 1 + (64 - n) = 63 by omega] at a2
    have e2 : (2 : Nat) ^ 64 = 2 * 2 ^ 63 := by decide
    omega
   ·have : (2 : Nat) ^ (63 + 1) = 2 ^ 64 := rfl
    have : 0 < (2 : Nat) ^ 64 := p2 _
    omega
  ·rw [bits_of (b := r + (64 - n))]
   ·omega
   ·rw [Nat.pow_add]; exact Nat.mul_le_mul_right _ (by omega)
   ·rw [show r + (64 - n) + 1 = r + 1 + (64 - n) by omega, Nat.pow_add]
    exact Nat.mul_lt_mul_of_pos_right (by rw [p2s]; omega) p
 ·obtain ⟨h0, h1, rfl⟩ := h
  refine .inr ⟨by omega, ?_⟩
  have ps := p2s r
  have e4 : k + (2 ^ (r + 1) - q) = 2 ^ n := by clear e64 p hlt g; omega
  have e3 : 2 ^ 64 - 1 - k * 2 ^ (64 - n) = (2 ^ (r + 1) - q) * 2 ^ (64 - n) - 1 := by
   have : k * 2 ^ (64 - n) + (2 ^ (r + 1) - q) * 2 ^ (64 - n) = 2 ^ 64 := by
    rw [← Nat.add_mul, e4, e64]
   omega
  have a1 : (2 ^ r + 1) * 2 ^ (64 - n) ≤ (2 ^ (r + 1) - q) * 2 ^ (64 - n) := Nat.mul_le_mul_right _ (by have := p2s r; omega)
  have a2 : (2 ^ (r + 1) - q) * 2 ^ (64 - n) ≤ 2 ^ (r + 1) * 2 ^ (64 - n) := Nat.mul_le_mul_right _ (by omega)
  rw [Nat.add_mul, Nat.one_mul] at a1
  rw [e3, bits_of (b := r + (64 - n))]
  ·omega
  ·rw [Nat.pow_add 2 r (64 - n)]; omega
  ·rw [show r + (64 - n) + 1 = r + 1 + (64 - n) by omega, Nat.pow_add 2 (r + 1) (64 - n)]; omega
 ·obtain ⟨h0, rfl, h1, rfl⟩ := h
  refine .inr ⟨by omega, ?_⟩
  have e3 : 2 ^ 64 - 1 - k * 2 ^ (64 - n) = 2 ^ (64 - n) - 1 := by
   have : k * 2 ^ (64 - n) + 2 ^ (64 - n) = 2 ^ 64 := by rw [← Nat.succ_mul, show k.succ = 2 ^ n by omega, e64]
   omega
  rw [e3]
  by_cases h64 : n = 64
  ·subst h64
   have : bits (2 ^ (64 - 64) - 1) = 0 := rfl
   omega
  ·rw [bits_of (b := 63 - n)]
   ·omega
   ·have := p2s (63 - n)
    rw [show 63 - n + 1 = 64 - n by omega] at this
    have := p2 (63 - n)
    omega
   ·rw [show 63 - n + 1 = 64 - n by omega]; omega
end M
theorem not_u64 (x : Nat) (hx : x < 18446744073709551616) : bits BinOp.xor IntKind.u64 IntKind.u64.max (x : Int) = ((2 ^ 64 - 1 - x : Nat) : Int) := by
 have h1 : (BitVec.ofInt 64 (x : Int)).toNat = x := by
  rw [BitVec.ofInt_natCast, BitVec.toNat_ofNat]; exact Nat.mod_eq_of_lt (by omega)
 have h2 : BitVec.ofInt 64 IntKind.u64.max = BitVec.allOnes 64 := by decide
 show IntKind.u64.wrap ((BitVec.ofInt 64 IntKind.u64.max ^^^ BitVec.ofInt 64 (x : Int)).toNat : Int) = _
 rw [h2, BitVec.allOnes_xor, BitVec.toNat_not, h1]
 simp [IntKind.wrap, IntKind.bits, IntKind.signed]
 omega
theorem regime_any (w : World) (n k r q : Nat) (R : Int) (hn : n ≤ 64) (h : M.Ps n k R r q) :
  Calls Tryz.prog 191 #[.int .i64 (n : Int), u64 k] w (Same (.int .i64 R) w) := by
 have g := h.rng
 obtain ⟨hlt, hr⟩ := M.reg_run hn h
 obtain ⟨s, hs⟩ : ∃ s, 64 - n = s := ⟨_, rfl⟩
 obtain ⟨x, hx⟩ : ∃ x, k * 2 ^ (64 - n) = x := ⟨_, rfl⟩
 rw [hx] at hlt hr
 have xs : (k : Int) * 2 ^ s = (x : Int) := by rw [← hx, ← hs]; push_cast; rfl
 have ss : (64 : Int) - n = (s : Int) := by omega
 have sb : s ≤ 62 := by omega
 have xb : x < 18446744073709551616 := hlt
 have nx := not_u64 x xb
 obtain ⟨y, hy⟩ : ∃ y, 2 ^ 64 - 1 - x = y := ⟨_, rfl⟩
 have yb : y < 18446744073709551616 := by omega
 rw [hy] at nx hr
 clear hy
 have rb : -64 ≤ R ∧ R ≤ 64 := by omega
 clear hs hx hlt
 rcases hr with ⟨r0, r1, r2⟩ | ⟨r0, r1⟩
 ·have CL := Lib.hid (fun W => lead64_m y yb W)
  have CM := Lib.hid (fun W => lead64_m x xb W)
  rw [r1] at CL
  rw [r2] at CM
  have t0 : decide ((0 : Int) < 64 - ((64 : Nat) : Int)) = false := rfl
  clear r1 r2 h g
  go_enter Tryz.func191, Tryz.ntmps191
  go_wp2_with fail
  refine (CL.out _).mono ?_
  rintro _ _ ⟨rfl, rfl⟩
  go_wp2_with fail
  refine (CM.out _).mono ?_
  rintro _ _ ⟨rfl, rfl⟩
  go_wp2_with fail
  go_ret
  exact ⟨by first | rfl | exact ret_int (by omega), rfl⟩
 ·have CL := Lib.hid (fun W => lead64_m y yb W)
  rw [r1] at CL
  have t0 : decide ((0 : Int) < R + 1) = true := decide_eq_true (by omega)
  clear r1 h g
  go_enter Tryz.func191, Tryz.ntmps191
  go_wp2_with fail
  refine (CL.out _).mono ?_
  rintro _ _ ⟨rfl, rfl⟩
  go_wp2_with fail
  go_ret
  exact ⟨by first | rfl | exact ret_int (by omega), rfl⟩
def Sp (R E : Int) (F : Nat) (B : Int) (w : World) (e : Ending) (w' : World) : Prop := e = .returned (fdv R E F B) ∧ Up w w'
namespace M
theorem Ps.low {n k r q : Nat} {R : Int} (h : Ps n k R r q) : ∃ c, k = c * 2 ^ r + q := by
 obtain ⟨hq, h | h | h⟩ := h
 ·exact ⟨1, by omega⟩
 ·refine ⟨2 ^ (n - r) - 2, ?_⟩
  have e : 2 ^ (n - r) * 2 ^ r = 2 ^ n := by rw [← Nat.pow_add]; congr 1; omega
  have e2 := p2s r
  rw [Nat.sub_mul, e]
  have e3 : 2 * 2 ^ r ≤ 2 ^ n := by rw [← e2]; exact p2le (by omega)
  omega
 ·exact ⟨k, by obtain ⟨_, rfl, _⟩ := h; simp at hq; omega⟩
end M
theorem and_3n (a : Nat) (h : a < 18446744073709551616) : bits BinOp.and IntKind.u64 (a : Int) 3 = ((a % 4 : Nat) : Int) := by
 have := bits_and_u64_nat a 3 h (by omega)
 rw [show ((3 : Nat) : Int) = 3 from rfl] at this
 rw [this, show a &&& 3 = a % 2 ^ 2 from Nat.and_two_pow_sub_one_eq_mod a 2]
theorem and_1n (a : Nat) (h : a < 18446744073709551616) : bits BinOp.and IntKind.u64 (a : Int) 1 = ((a % 2 : Nat) : Int) := by
 have := bits_and_u64_nat a 1 h (by omega)
 rw [show ((1 : Nat) : Int) = 1 from rfl] at this
 rw [this, show a &&& 1 = a % 2 ^ 1 from Nat.and_two_pow_sub_one_eq_mod a 1]
theorem and_0n (a : Nat) (h : a < 18446744073709551616) : bits BinOp.and IntKind.u64 (a : Int) 0 = 0 := by
 have := bits_and_u64_nat a 0 h (by omega)
 rw [show ((0 : Nat) : Int) = 0 from rfl] at this
 rw [this, Nat.and_zero]
 rfl
set_option maxRecDepth 100000 in
theorem split_any (w : World) (n k r q : Nat) (R : Int) (hn : n ≤ 64) (h : M.Ps n k R r q) (E F : Nat) (B : Int) (hE : Hid (M.ex r q = E)) (hF : Hid (M.fr r q = F)) (hB : Hid (((r - 2 : Nat) : Int) = B)) :
  Calls Tryz.prog 182 #[.int .i64 (n : Int), u64 k] w (Sp R E F B w) := by
 have g := h.rng
 have h64 : 2 ^ n ≤ 18446744073709551616 := M.p2le (b := 64) hn
 have kb : k < 18446744073709551616 := by omega
 have CR := Lib.hid (fun W => regime_any W n k r q R hn h)
 have CB := Lib.hid (fun W => behind_any W n r R g.2.2.1 hn h.lf)
 have k0 : ((k : Int) == 0) = false := by rw [beq_eq_false_iff_ne]; omega
 obtain ⟨P, hP⟩ : ∃ P : Nat, 2 ^ n = P := ⟨_, rfl⟩
 have k1 : (k : Int) / 2 ^ n = 0 := by
  have : (2 : Int) ^ n = (P : Int) := by rw [← hP]; push_cast; rfl
  rw [this]
  exact Int.ediv_eq_zero_of_lt (by omega) (by omega)
 have U0 := (Up.refl w).alloc (.cells #[.int .i64 0, .int .i64 0, .int .u64 0, .int .i64 0] 195)
 have a := Ob.mk_ w 195 #[.int .i64 0, .int .i64 0, .int .u64 0, .int .i64 0]
 obtain ⟨c, hc⟩ := h.low
 have hq := h.1
 clear h64 hP
 rcases (show r = 0 ∨ r = 1 ∨ 2 ≤ r by omega) with rfl | rfl | h2
 ·obtain rfl : q = 0 := by simpa using hq
  obtain rfl : E = 0 := hE.out.symm
  obtain rfl : F = 0 := hF.out.symm
  obtain rfl : B = 0 := hB.out.symm
  have b0 := and_0n k kb
  clear h hc hq hE hF hB
  go_enter Tryz.func182, Tryz.ntmps182
  go_wp2_with fail
  refine (CR.out _).mono ?_
  rintro _ _ ⟨rfl, rfl⟩
  go_wp2_with fail
  refine (CB.out _).mono ?_
  rintro _ _ ⟨rfl, rfl⟩
  go_wp2_with fail
  go_region
  go_wp2_with fail
  refine bodyPost_ret (v := fdv R 0 0 0) (by simp [results, Tryz.results182, go_sem]) rfl ?_
  exact ⟨rfl, ((Up.refl w).alloc _).drew⟩
 ·have hF0 : F = 0 := by have := hF.out; simp [M.fr] at this; omega
  obtain rfl : B = 0 := hB.out.symm
  have hE2 : q * 2 = E := hE.out
  have hkq : k % 2 = q := by omega
  have b1 := and_1n k kb
  rw [hkq] at b1
  have b0 := and_0n k kb
  have e2 : (q : Int) * 2 = (E : Int) := by omega
  have eb : E ≤ 3 := by omega
  subst hF0
  clear h hc hq hE hF hB hkq hE2
  go_enter Tryz.func182, Tryz.ntmps182
  go_wp2_with fail
  refine (CR.out _).mono ?_
  rintro _ _ ⟨rfl, rfl⟩
  go_wp2_with fail
  refine (CB.out _).mono ?_
  rintro _ _ ⟨rfl, rfl⟩
  go_wp2_with fail
  go_region
  go_wp2_with fail
  refine bodyPost_ret (v := fdv R (E : Int) 0 0) (by simp [results, Tryz.results182, go_sem]) rfl ?_
  exact ⟨rfl, ((Up.refl w).alloc _).drew⟩
 ·obtain ⟨b, rfl⟩ : ∃ b, r = b + 2 := ⟨r - 2, by omega⟩
  have hE3 := M.ex_le hq
  rw [hE.out] at hE3
  have eE : q / 2 ^ b = E := by have := hE.out; unfold M.ex at this; rw [if_pos h2, Nat.add_sub_cancel] at this; exact this
  have eF : q % 2 ^ b = F := by have := hF.out; unfold M.fr at this; rw [Nat.add_sub_cancel] at this; exact this
  have eB : B = (b : Int) := by have := hB.out; omega
  subst eB
  have pb := M.p2 b
  have e4 : (2 : Nat) ^ (b + 2) = 2 ^ b * 4 := by rw [Nat.pow_add]
  have hA : k / 2 ^ b % 4 = E := by
   rw [hc, e4, show c * (2 ^ b * 4) + q = q + 2 ^ b * (c * 4) by rw [Nat.mul_left_comm, Nat.add_comm], Nat.add_mul_div_left _ _ pb, eE]
   omega
  have hK : k % 2 ^ b = F := by
   rw [hc, e4, show c * (2 ^ b * 4) + q = q + 2 ^ b * (c * 4) by rw [Nat.mul_left_comm, Nat.add_comm], Nat.add_mul_mod_self_left, eF]
  obtain ⟨A, hAA⟩ : ∃ A, k / 2 ^ b = A := ⟨_, rfl⟩
  have Ab : A < 18446744073709551616 := by rw [← hAA]; exact Nat.lt_of_le_of_lt (Nat.div_le_self _ _) kb
  have a3 := and_3n A Ab
  rw [hAA] at hA
  rw [hA] at a3
  have b1 := and_pn k b kb (by omega)
  rw [hK] at b1
  obtain ⟨p, hp⟩ : ∃ p : Nat, 2 ^ b = p := ⟨_, rfl⟩
  have hb61 : b ≤ 62 := by omega
  have p62 : p ≤ 4611686018427387904 := by
   rw [← hp]
   have h1 := M.p2le hb61
   have h2 : (2 : Nat) ^ 62 = 4611686018427387904 := by decide
   omega
  have pz : (2 : Int) ^ b = (p : Int) := by rw [← hp]; push_cast; rfl
  have kz : (k : Int) / (p : Int) = (A : Int) := by rw [← hAA, ← hp]; push_cast; rfl
  rw [hp] at b1 pb
  clear h hc hq hE hF hB eE eF e4 hA hK hAA hp
  go_enter Tryz.func182, Tryz.ntmps182
  go_wp2_with fail
  refine (CR.out _).mono ?_
  rintro _ _ ⟨rfl, rfl⟩
  go_wp2_with fail
  refine (CB.out _).mono ?_
  rintro _ _ ⟨rfl, rfl⟩
  go_wp2_with fail
  go_region
  go_wp2_with fail
  refine bodyPost_ret (v := fdv R (E : Int) F (b : Int)) (by simp [results, Tryz.results182, go_sem]) rfl ?_
  exact ⟨rfl, ((Up.refl w).alloc _).drew⟩
theorem split_out (w : World) (n k : Nat) (hn : n ≤ 64) (hk : k < 18446744073709551616) (h : k = 0 ∨ 2 ^ n ≤ k) : Calls Tryz.prog 182 #[.int .i64 (n : Int), u64 k] w (Pns w) := by
 by_cases k0 : k = 0
 ·subst k0
  clear h
  go_enter Tryz.func182, Tryz.ntmps182
  go_wp2_with fail
  exact ⟨rfl, ⟨_, rfl⟩, (Up.refl _).alloc _⟩
 ·have d0 : ((k : Int) == 0) = false := by rw [beq_eq_false_iff_ne]; omega
  obtain ⟨P, hP⟩ : ∃ P : Nat, 2 ^ n = P := ⟨_, rfl⟩
  have pz : (2 : Int) ^ n = (P : Int) := by rw [← hP]; push_cast; rfl
  have pp : 0 < P := by rw [← hP]; exact M.p2 n
  have hPk : P ≤ k := by omega
  obtain ⟨A, hA⟩ : ∃ A : Nat, k / P = A := ⟨_, rfl⟩
  have hA0 : 0 < A := by rw [← hA]; exact Nat.div_pos hPk pp
  have kz : (k : Int) / (P : Int) = (A : Int) := by rw [← hA]; push_cast; rfl
  have d1 : ((A : Int) != 0) = true := by rw [bne_iff_ne]; omega
  clear h hP hPk hA hA0 k0
  go_enter Tryz.func182, Tryz.ntmps182
  go_wp2_with fail
  exact ⟨rfl, ⟨_, rfl⟩, (Up.refl _).alloc _⟩
theorem nat_join' (s x y : Nat) (hx : x % 2 ^ s = 0) (hy : y < 2 ^ s) : x ||| y = x + y := by
 have h := (Nat.shiftLeft_add_eq_or_of_lt hy (x / 2 ^ s)).symm
 rw [Nat.shiftLeft_eq] at h
 rwa [Nat.div_mul_cancel (Nat.dvd_of_mod_eq_zero hx)] at h
theorem or_n (s x y : Nat) (hx : x < 18446744073709551616) (hy : y < 18446744073709551616) (h1 : x % 2 ^ s = 0) (h2 : y < 2 ^ s) : bits BinOp.or IntKind.u64 (x : Int) (y : Int) = ((x + y : Nat) : Int) := by
 rw [bits_or_u64_nat x y hx hy, nat_join' s x y h1 h2]
namespace M
end M
def Vm (m : Nat) (z : Int) (w : World) (e : Ending) (w' : World) : Prop := e = .returned (.tuple #[u64 m, .int .i64 z]) ∧ Up w w'
set_option maxRecDepth 100000 in
theorem number_any (w : World) (T : Tz w) (R : Int) (E F b m t : Nat) (z : Int) (hR : -64 ≤ R ∧ R ≤ 64) (hE : E ≤ 3) (hb : b ≤ 60) (hF : F < 2 ^ b) (hm : 2 ^ b + F = m * 2 ^ t) (ho : m % 2 = 1) (hz : 4 * R + E - b + t = z) :
  Calls Tryz.prog 181 #[fdv R (E : Int) F (b : Int)] w (Vm m z w) := by
 obtain ⟨p, hp⟩ : ∃ p : Nat, 2 ^ b = p := ⟨_, rfl⟩
 have pz : (2 : Int) ^ b = (p : Int) := by rw [← hp]; push_cast; rfl
 have pb : p ≤ 1152921504606846976 := by
  rw [← hp]
  have h1 := M.p2le hb
  have h2 : (2 : Nat) ^ 60 = 1152921504606846976 := by decide
  omega
 have o1 := or_n b p F (by omega) (by omega) (by rw [← hp]; exact Nat.mod_self _) hF
 rw [hp] at hm hF
 obtain ⟨x, hx⟩ : ∃ x, p + F = x := ⟨_, rfl⟩
 rw [hx] at o1 hm
 have xb : x < 18446744073709551616 := by omega
 have t60 : t ≤ 61 := by
  have h3 : 2 ^ t ≤ m * 2 ^ t := Nat.le_mul_of_pos_left _ (by omega)
  have h2 : (2 : Nat) ^ 62 = 4611686018427387904 := by decide
  rw [← hm] at h3
  have := M.p2inj (a := t) (b := 62) (by omega)
  omega
 have CT := Lib.hid (fun W (TW : Tz W) => tz_any W TW x m t xb hm ho)
 obtain ⟨y, hy⟩ : ∃ y : Nat, 2 ^ t = y := ⟨_, rfl⟩
 have yz : (2 : Int) ^ t = (y : Int) := by rw [← hy]; push_cast; rfl
 have xy : (x : Int) / (y : Int) = (m : Int) := by
  rw [hm, hy]
  have y0 : 0 < y := by rw [← hy]; exact M.p2 t
  push_cast
  exact Int.mul_ediv_cancel _ (by omega)
 obtain ⟨z1, hz1⟩ : ∃ z1, R * 4 + (E : Int) - (b : Int) + (t : Int) = z1 := ⟨_, rfl⟩
 obtain rfl : z1 = z := by omega
 have T' := Lib.hid T
 clear hm hp hx hy hz hF T
 go_enter Tryz.func181, Tryz.ntmps181
 go_wp2_with fail
 obtain ⟨V, hV⟩ : ∃ V, w.alloc (.cells #[.int .i64 R, .int .i64 (E : Int), u64 F, .int .i64 (b : Int)] 195) = V := ⟨_, rfl⟩
 have a : Ob V w.heap.size 195 #[.int .i64 R, .int .i64 (E : Int), .int .u64 (F : Int), .int .i64 (b : Int)] := by rw [← hV]; exact Ob.mk_ _ _ _
 have U : Up w V := by rw [← hV]; exact (Up.refl w).alloc _
 rw [hV]
 clear hV
 obtain ⟨a0, a1, a2, a3⟩ := a.g4
 go_quiet (fail)
 obtain ⟨W1, hW1⟩ : ∃ W1, V.drewN nq = W1 := ⟨_, rfl⟩
 replace a : Ob W1 w.heap.size 195 #[.int .i64 R, .int .i64 (E : Int), .int .u64 (F : Int), .int .i64 (b : Int)] := by rw [← hW1]; exact a.drewN _
 replace U : Up w W1 := by rw [← hW1]; exact U.drewN _
 rw [hW1]
 clear hW1 a0 a1 a2 a3
 go_wp2_with fail
 refine (CT.out _ (T'.out.up U)).mono ?_
 rintro _ _ ⟨rfl, rfl⟩
 obtain ⟨a0, a1, a2, a3⟩ := a.g4
 go_wp2_with fail
 go_quiet (fail)
 go_wp2_with fail
 go_ret2
 exact ⟨rfl, by first | exact U.drewN _ | exact U⟩
structure Fo5 (n m0 m t p : Nat) (e0 pw R : Int) : Prop where
 lt : m0 < 18446744073709551616
 odd : m % 2 = 1
 eq : m0 = m * 2 ^ t
 len : M.bits m = p + 1
 pwr : IntKind.i64.wrap (IntKind.i64.wrap (e0 + t) + p) = pw
 reg : pw / 4 = R
theorem catch_idle (p q : Addr) (x : Value) (w : World) (hc : w.cell? p = some x) (hz : w.frozen? p = false) :
  CallsD Tryz.prog 190 #[.pointer (some p), .pointer (some q)] .returning w fun e u' w' => e = .returned (.tuple #[]) ∧ u' = .returning ∧ w' = w.setCell p (.int .i64 0) := by
 refine callsD_of_wpS Tryz.func190 rfl fun c₀ cs hu => ?_
 apply wpS_seq
 apply wpS_region
 simp [wpOpsS, go_sem, recoverD, hu, Tryz.ntmps190, Exit.thenS]
 refine wpS_of_wp ?_
 go_wp2_with fail
 cases c₀
 simp_all [bodyPostS, results, Tryz.results190]
theorem catch_str (p q : Addr) (x : Value) (s : ByteArray) (w : World) (hc : w.cell? p = some x) (hz : w.frozen? p = false) :
  CallsD Tryz.prog 190 #[.pointer (some p), .pointer (some q)] (.panicking [{ v := .iface 9 (.string s), recovered := false }]) w fun e u' w' => e = .returned (.tuple #[]) ∧ u' = .panicking [{ v := .iface 9 (.string s), recovered := true }] ∧ w' = w.setCell p (.int .i64 1) := by
 have hta : ∀ w : World, (Instr.typeAssert (.iface 9 (.string s)) 20 205 true).run Tryz.prog w = .ok (.tuple #[.string ⟨#[]⟩, .bool false]) w := fun _ => by kernel_rfl
 refine callsD_of_wpS Tryz.func190 rfl fun c₀ cs hu => ?_
 apply wpS_seq
 apply wpS_region
 simp [wpOpsS, go_sem, recoverD, hu, Tryz.ntmps190, Exit.thenS]
 refine wpS_of_wp ?_
 go_wp2_with fail
 simp [bodyPostS, results, Tryz.results190]
structure Cv (w V : World) (x : Int) : Prop where
 up : Up w V
 lt : w.heap.size + 1 < V.heap.size
 c0 : V.cell? ⟨w.heap.size + 1, 0, none⟩ = some (.int .i64 0)
 f0 : V.frozen? ⟨w.heap.size + 1, 0, none⟩ = false
 c1 : V.cell? ⟨w.heap.size, 0, none⟩ = some (.int .i64 x)
theorem Cv.mk_ (w : World) (x : Int) (t t' : TypeId) : Cv w ((w.alloc (.cells #[.int .i64 x] t)).alloc (.cells #[.int .i64 0] t')) x where
 up := ((Up.refl w).alloc _).alloc _
 lt := by simp
 c0 := by simp [go_sem]
 f0 := by simp [go_sem]
 c1 := by simp [go_sem]
theorem caught_ret (w : World) (x : Int) (f : FuncId) (cap : Array Value) (b b' : Nat) (hb : b < w.heap.size) (hb' : b' < w.heap.size) (Q : World → Prop)
  (hent : ∀ (args : Array Value) (w : World), (callFunc f args).run Tryz.prog w = .ok (.enter f args) w) (hQ : ∀ W c v, w.heap.size ≤ c → Q W → Q (W.setCell ⟨c, 0, none⟩ v))
  (hC : ∀ W, Up w W → Calls Tryz.prog f cap W (fun e W' => e = .returned (.tuple #[]) ∧ Kb b b' W W' ∧ Q W')) :
  Calls Tryz.prog 179 #[.int .i64 x, .func (Fn.func f) #[] cap] w (fun e w' => e = .returned (.int .i64 0) ∧ Kb b b' w w' ∧ Q w') := by
 have hmf : ∀ (fn : Fn) (first cap : Array Value) (w : World), (Instr.makeFunc fn first cap).run Tryz.prog w = .ok (.func fn first cap) w := fun _ _ _ _ => rfl
 go_enter_defers Tryz.func179, Tryz.ntmps179
 go_wp2_with fail
 obtain ⟨V, hV⟩ : ∃ V, (w.alloc (.cells #[.int .i64 x] 25)).alloc (.cells #[.int .i64 0] 25) = V := ⟨_, rfl⟩
 have cv : Cv w V x := by rw [← hV]; exact Cv.mk_ _ _ _ _
 rw [hV]
 clear hV
 refine (hC V cv.up).mono ?_
 rintro _ W1 ⟨rfl, K, q⟩
 have c0 := (K.cell (p := ⟨w.heap.size + 1, 0, none⟩) cv.lt (by simp; omega) (by simp; omega)).trans cv.c0
 have f0 := (K.frozen (p := ⟨w.heap.size + 1, 0, none⟩) cv.lt (by simp; omega) (by simp; omega)).trans cv.f0
 have K1 : Kb b b' w W1 := (Kb.of_up cv.up).trans K
 clear hC
 go_wp2_with fail
 have K2 := K1.setNew (p := ⟨w.heap.size + 1, 0, none⟩) (Nat.le_succ _) (.int .i64 0)
 have q2 := hQ _ (w.heap.size + 1) (.int .i64 0) (Nat.le_succ _) q
 have c2 : (W1.setCell ⟨w.heap.size + 1, 0, none⟩ (.int .i64 0)).cell? ⟨w.heap.size + 1, 0, none⟩ = some (.int .i64 0) := by simp [go_sem, c0]
 have f2 : (W1.setCell ⟨w.heap.size + 1, 0, none⟩ (.int .i64 0)).frozen? ⟨w.heap.size + 1, 0, none⟩ = false := by simp [go_sem, f0]
 obtain ⟨W2, hW2⟩ : ∃ W2, W1.setCell ⟨w.heap.size + 1, 0, none⟩ (.int .i64 0) = W2 := ⟨_, rfl⟩
 rw [hW2] at K2 q2 c2 f2 ⊢
 clear hW2 K1 q c0 f0 K
 refine leaves_cons (f := 190) (args := #[.pointer (some ⟨w.heap.size + 1, 0, none⟩), .pointer (some ⟨w.heap.size, 0, none⟩)]) (by simp) (by simp [go_sem]) ?_
 refine (catch_idle _ _ _ _ c2 f2).mono ?_
 rintro e u' w'' ⟨rfl, rfl, rfl⟩
 have c3 : (W2.setCell ⟨w.heap.size + 1, 0, none⟩ (.int .i64 0)).cell? ⟨w.heap.size + 1, 0, none⟩ = some (.int .i64 0) := by simp [go_sem, c2]
 have K3 := K2.setNew (p := ⟨w.heap.size + 1, 0, none⟩) (Nat.le_succ _) (.int .i64 0)
 have q3 := hQ _ (w.heap.size + 1) (.int .i64 0) (Nat.le_succ _) q2
 simp [Leaves, settle, results, Tryz.results179, go_sem, c3]
 exact ⟨K3, q3⟩
theorem caught_str (w : World) (x : Int) (f : FuncId) (cap : Array Value)
  (hent : ∀ (args : Array Value) (w : World), (callFunc f args).run Tryz.prog w = .ok (.enter f args) w)
  (hC : ∀ W, Up w W → Calls Tryz.prog f cap W (Pns W)) :
  Calls Tryz.prog 179 #[.int .i64 x, .func (Fn.func f) #[] cap] w (fun e w' => e = .returned (.int .i64 1) ∧ Up w w') := by
 have hmf : ∀ (fn : Fn) (first cap : Array Value) (w : World), (Instr.makeFunc fn first cap).run Tryz.prog w = .ok (.func fn first cap) w := fun _ _ _ _ => rfl
 go_enter_defers Tryz.func179, Tryz.ntmps179
 go_wp2_with fail
 obtain ⟨V, hV⟩ : ∃ V, (w.alloc (.cells #[.int .i64 x] 25)).alloc (.cells #[.int .i64 0] 25) = V := ⟨_, rfl⟩
 have cv : Cv w V x := by rw [← hV]; exact Cv.mk_ _ _ _ _
 rw [hV]
 clear hV
 refine (hC V cv.up).mono ?_
 rintro _ W1 ⟨⟨s, rfl⟩, U1⟩
 have c0 := (Below.cell (p := ⟨w.heap.size + 1, 0, none⟩) U1 cv.lt).trans cv.c0
 have f0 := (Below.frozen (p := ⟨w.heap.size + 1, 0, none⟩) U1 cv.lt).trans cv.f0
 have U := (cv.up.trans U1).setCell (p := ⟨w.heap.size + 1, 0, none⟩) (Nat.le_succ _) (.int .i64 1)
 go_wp2_with fail
 refine leaves_cons (f := 190) (args := #[.pointer (some ⟨w.heap.size + 1, 0, none⟩), .pointer (some ⟨w.heap.size, 0, none⟩)]) (by simp) (by simp [go_sem]) ?_
 refine (catch_str _ _ _ _ _ c0 f0).mono ?_
 rintro e u' w'' ⟨rfl, rfl, rfl⟩
 have c3 : (W1.setCell ⟨w.heap.size + 1, 0, none⟩ (.int .i64 1)).cell? ⟨w.heap.size + 1, 0, none⟩ = some (.int .i64 1) := by simp [go_sem, c0]
 simp [Leaves, settle, results, Tryz.results179, go_sem, c3]
 exact U
theorem up_drew {w w' : World} (h : Up w.drew w') : Up w w' := ((Up.refl w).drew).trans h
set_option maxRecDepth 100000 in
theorem cvalue_in (w : World) (T : Tz w) (a b c d : Nat) (n : Nat) (hn2 : 2 ≤ n) (hn : n ≤ 64) (k m : Nat) (z : Int) (h : M.IsK n k m z) (ha : w.cell? ⟨a, 0, none⟩ = some (.int .i64 ((n : Int) + 1))) (hb : w.cell? ⟨b, 0, none⟩ = some (u64 k)) (hc : w.cell? ⟨c, 0, none⟩ = some (u64 0)) (hf : w.frozen? ⟨c, 0, none⟩ = false) (hd : w.cell? ⟨d, 0, none⟩ = some (.int .i64 0)) (hg : w.frozen? ⟨d, 0, none⟩ = false) (hcd : c ≠ d) (hca : c ≠ a) (hcb : c ≠ b) (hda : d ≠ a) (hdb : d ≠ b) :
  Calls Tryz.prog 180 #[.pointer (some ⟨a, 0, none⟩), .pointer (some ⟨b, 0, none⟩), .pointer (some ⟨c, 0, none⟩), .pointer (some ⟨d, 0, none⟩)] w (fun e w' => e = .returned (.tuple #[]) ∧ Kb c d w w' ∧ w'.cell? ⟨c, 0, none⟩ = some (u64 m) ∧ w'.frozen? ⟨c, 0, none⟩ = false ∧ w'.cell? ⟨d, 0, none⟩ = some (.int .i64 z) ∧ w'.frozen? ⟨d, 0, none⟩ = false) := by
 have CS := Lib.hid (fun W => size_in W n hn2 hn)
 obtain ⟨ho, R, r, q, t, hP, hm, hz⟩ := h
 have g := hP.rng
 have hx := M.ex_le hP.1
 have hfr := M.fr_lt r q
 have CP := Lib.hid (fun W => split_any W n k r q R hn hP (M.ex r q) (M.fr r q) _ (Lib.hid rfl) (Lib.hid rfl) (Lib.hid rfl))
 have CN := Lib.hid (fun W (TW : Tz W) => number_any W TW R (M.ex r q) (M.fr r q) (r - 2) m t z (by omega) hx (by omega) hfr hm ho hz)
 obtain ⟨E, hE⟩ : ∃ E, M.ex r q = E := ⟨_, rfl⟩
 obtain ⟨F, hF⟩ : ∃ F, M.fr r q = F := ⟨_, rfl⟩
 obtain ⟨B, hB⟩ : ∃ B, r - 2 = B := ⟨_, rfl⟩
 rw [hE, hF, hB] at CP CN
 have la : a < w.heap.size := World.block_lt_of_cell? _ _ ha
 have lb : b < w.heap.size := World.block_lt_of_cell? _ _ hb
 have lc : c < w.heap.size := World.block_lt_of_cell? _ _ hc
 have ld : d < w.heap.size := World.block_lt_of_cell? _ _ hd
 have hdc : d ≠ c := Ne.symm hcd
 have T' := Lib.hid T
 clear hE hF hB hP hm hz T hx hfr g ho
 go_enter Tryz.func180, Tryz.ntmps180
 go_wp2_with fail
 go_region_held3 (fun w' => w'.cell? ⟨a, 0, none⟩ = some (.int .i64 ((n : Int) + 1)) ∧ w'.cell? ⟨b, 0, none⟩ = some (u64 k)) (go_keep) (first
  | (go_at_call 183; refine (CS.out _).mono ?_; rintro _ _ ⟨rfl, rfl⟩)
  | (go_at_call 182; refine (CP.out _).mono ?_; rintro _ w1 ⟨rfl, U1⟩; have U2 : Up w w1 := (by first | with_reducible exact U1 | exact up_drew U1); have ha1 : w1.cell? ⟨a, 0, none⟩ = some (.int .i64 ((n : Int) + 1)) := (Below.cell (p := ⟨a, 0, none⟩) U2 la).trans ha; have hb1 : w1.cell? ⟨b, 0, none⟩ = some (u64 k) := (Below.cell (p := ⟨b, 0, none⟩) U2 lb).trans hb)
  | (go_at_call 181; refine (CN.out _ (T'.out.up U2)).mono ?_; rintro _ w2 ⟨rfl, U3⟩; have U : Up w w2 := U2.trans U3; have ha2 : w2.cell? ⟨a, 0, none⟩ = some (.int .i64 ((n : Int) + 1)) := (Below.cell (p := ⟨a, 0, none⟩) U la).trans ha; have hb2 : w2.cell? ⟨b, 0, none⟩ = some (u64 k) := (Below.cell (p := ⟨b, 0, none⟩) U lb).trans hb; have hc1 : w2.cell? ⟨c, 0, none⟩ = some (u64 0) := (Below.cell (p := ⟨c, 0, none⟩) U lc).trans hc; have hf1 : w2.frozen? ⟨c, 0, none⟩ = false := (Below.frozen (p := ⟨c, 0, none⟩) U lc).trans hf; have hd1 : w2.cell? ⟨d, 0, none⟩ = some (.int .i64 0) := (Below.cell (p := ⟨d, 0, none⟩) U ld).trans hd; have hg1 : w2.frozen? ⟨d, 0, none⟩ = false := (Below.frozen (p := ⟨d, 0, none⟩) U ld).trans hg))
 all_goals
  go_wp2_with fail
  go_end0
  refine ⟨rfl, ?_, ?_, ?_, ?_, ?_⟩
  ·first | exact ((Kb.of_up U).setIn (p := ⟨c, 0, none⟩) (.inl rfl) _).setIn (p := ⟨d, 0, none⟩) (.inr rfl) _ | exact ((Kb.of_up U).setIn (p := ⟨d, 0, none⟩) (.inr rfl) _).setIn (p := ⟨c, 0, none⟩) (.inl rfl) _
  all_goals simp [go_sem, hc1, hd1, hf1, hg1, hcd, hdc]
set_option maxRecDepth 100000 in
theorem cvalue_wide (w : World) (a b c d : Nat) (wd : Int) (hw : wd < 3 ∨ 65 < wd) (ha : w.cell? ⟨a, 0, none⟩ = some (.int .i64 wd)) (k : Nat) (hb : w.cell? ⟨b, 0, none⟩ = some (u64 k)) :
  Calls Tryz.prog 180 #[.pointer (some ⟨a, 0, none⟩), .pointer (some ⟨b, 0, none⟩), .pointer (some ⟨c, 0, none⟩), .pointer (some ⟨d, 0, none⟩)] w (Pns w) := by
 have CS := Lib.hid (fun W => size_out W wd hw)
 clear hw
 go_enter Tryz.func180, Tryz.ntmps180
 go_wp2_with fail
 refine wp_region_held_drew (S := fun w' => w'.cell? ⟨a, 0, none⟩ = some (.int .i64 wd) ∧ w'.cell? ⟨b, 0, none⟩ = some (u64 k)) (by kernel_rfl) ?_ (fun hHeld => ?_)
 ·try dsimp only
  go_keep
 refine wpAnyH_take (i := 0) (v := ?_) rfl (by kernel_rfl) (by kernel_rfl) (by kernel_rfl) (fun _ _ _ h => h) (Or.inl ⟨by rfl, ?_⟩) (by assumption) ?_
 rotate_left
 ·intro w hSw
  (try dsimp only at hSw)
  go_simp
  all_goals with_reducible rfl
 try simp only [Act.put, M.z1, M.z2, M.z3, M.z4, M.z5, M.z6]
 refine wpAnyH_take (i := 2) (v := ?_) rfl (by kernel_rfl) (by kernel_rfl) (by kernel_rfl) (fun _ _ _ h => h) (Or.inl ⟨by rfl, ?_⟩) (by assumption) ?_
 rotate_left
 ·intro w hSw
  (try dsimp only at hSw)
  go_simp
  all_goals with_reducible rfl
 try simp only [Act.put, M.z1, M.z2, M.z3, M.z4, M.z5, M.z6]
 refine wpAnyH_ready (rs := [1]) (by kernel_rfl) (by simp) ?_
 refine AllReadyH.cons rfl (fun K hK => ?_) AllReadyH.nil
 go_simp
 (refine (CS.out _).mono ?_)
 rintro _ w1 ⟨⟨s, rfl⟩, U1⟩
 exact ⟨rfl, ⟨_, rfl⟩, (by first | with_reducible exact U1 | exact up_drew U1)⟩
set_option maxRecDepth 100000 in
theorem cvalue_out (w : World) (a b c d : Nat) (n : Nat) (hn2 : 2 ≤ n) (hn : n ≤ 64) (ha : w.cell? ⟨a, 0, none⟩ = some (.int .i64 ((n : Int) + 1))) (k : Nat) (hk : k < 18446744073709551616) (hx : k = 0 ∨ 2 ^ n ≤ k) (hb : w.cell? ⟨b, 0, none⟩ = some (u64 k)) :
  Calls Tryz.prog 180 #[.pointer (some ⟨a, 0, none⟩), .pointer (some ⟨b, 0, none⟩), .pointer (some ⟨c, 0, none⟩), .pointer (some ⟨d, 0, none⟩)] w (Pns w) := by
 have CS := Lib.hid (fun W => size_in W n hn2 hn)
 have CP := Lib.hid (fun W => split_out W n k hn hk hx)
 clear hx
 go_enter Tryz.func180, Tryz.ntmps180
 go_wp2_with fail
 refine wp_region_held_drew (S := fun w' => w'.cell? ⟨a, 0, none⟩ = some (.int .i64 ((n : Int) + 1)) ∧ w'.cell? ⟨b, 0, none⟩ = some (u64 k)) (by kernel_rfl) ?_ (fun hHeld => ?_)
 ·try dsimp only
  go_keep
 refine wpAnyH_take (i := 0) (v := ?_) rfl (by kernel_rfl) (by kernel_rfl) (by kernel_rfl) (fun _ _ _ h => h) (Or.inl ⟨by rfl, ?_⟩) (by assumption) ?_
 rotate_left
 ·intro w hSw
  (try dsimp only at hSw)
  go_simp
  all_goals with_reducible rfl
 try simp only [Act.put, M.z1, M.z2, M.z3, M.z4, M.z5, M.z6]
 refine wpAnyH_take (i := 2) (v := ?_) rfl (by kernel_rfl) (by kernel_rfl) (by kernel_rfl) (fun _ _ _ h => h) (Or.inl ⟨by rfl, ?_⟩) (by assumption) ?_
 rotate_left
 ·intro w hSw
  (try dsimp only at hSw)
  go_simp
  all_goals with_reducible rfl
 try simp only [Act.put, M.z1, M.z2, M.z3, M.z4, M.z5, M.z6]
 refine wpAnyH_ready (rs := [1]) (by kernel_rfl) (by simp) ?_
 refine AllReadyH.cons rfl (fun K hK => ?_) AllReadyH.nil
 go_simp
 (refine (CS.out _).mono ?_)
 rintro _ _ ⟨rfl, rfl⟩
 go_wp2_with fail
 refine hK.out _ _ ?_ (fun hHeld => ?_)
 ·exact hHeld
 clear hK K
 try simp only [Act.put, M.z1, M.z2, M.z3, M.z4, M.z5, M.z6]
 refine wpAnyH_ready (rs := [3]) (by kernel_rfl) (by simp) ?_
 refine AllReadyH.cons rfl (fun K hK => ?_) AllReadyH.nil
 go_simp
 (refine (CP.out _).mono ?_)
 rintro _ w1 ⟨⟨s, rfl⟩, U1⟩
 exact ⟨rfl, ⟨_, rfl⟩, (by first | with_reducible exact U1 | exact up_drew U1)⟩
namespace M
end M
theorem size_alloc (w : World) (o : Obj) : (w.alloc o).heap.size = w.heap.size + 1 := Array.size_push _
theorem Ob.at1 (w : World) (o : Obj) (ty : TypeId) (cs : Array Value) : Ob ((w.alloc o).alloc (.cells cs ty)) (w.heap.size + 1) ty cs := by
 have := Ob.mk_ (w.alloc o) ty cs
 rwa [size_alloc] at this
theorem Ob.at2 (w : World) (o o' : Obj) (ty : TypeId) (cs : Array Value) : Ob (((w.alloc o).alloc o').alloc (.cells cs ty)) (w.heap.size + 1 + 1) ty cs := by
 have := Ob.mk_ ((w.alloc o).alloc o') ty cs
 rwa [size_alloc, size_alloc] at this
theorem Ob.at3 (w : World) (o o' o'' : Obj) (ty : TypeId) (cs : Array Value) : Ob ((((w.alloc o).alloc o').alloc o'').alloc (.cells cs ty)) (w.heap.size + 1 + 1 + 1) ty cs := by
 have := Ob.mk_ (((w.alloc o).alloc o').alloc o'') ty cs
 rwa [size_alloc, size_alloc, size_alloc] at this
theorem of_bad5 {wd : Int} {k : Nat} (h : bad wd k) : (wd < 3 ∨ 65 < wd) ∨ ∃ n : Nat, wd = (n : Int) + 1 ∧ 2 ≤ n ∧ n ≤ 64 ∧ (k = 0 ∨ 2 ^ n ≤ k) := by
 by_cases hw : wd < 3 ∨ 65 < wd
 ·exact .inl hw
 ·refine .inr ⟨(wd - 1).toNat, by omega, by omega, by omega, ?_⟩
  rcases h with h | h | h | h
  ·exact absurd (.inl h) hw
  ·exact absurd (.inr h) hw
  ·exact .inl h
  ·exact .inr h
theorem frozen_set (w : World) (p a : Addr) (v : Value) : (w.setCell p v).frozen? a = w.frozen? a := by simp [go_sem]
set_option maxRecDepth 100000 in
theorem pvalue_is (w : World) (T : Tz w) (n k m : Nat) (z : Int) (hn : n ≤ 64) (h : M.IsK n k m z) :
  Calls Tryz.prog 166 #[.int .i64 ((n : Int) + 1), u64 k] w (Vn m z 0 w) := by
 have hn2 : 2 ≤ n := by obtain ⟨_, _, _, _, _, h, _⟩ := h; exact h.rng.2.2.1
 have hmf : ∀ (fn : Fn) (first cap : Array Value) (w : World), (Instr.makeFunc fn first cap).run Tryz.prog w = .ok (.func fn first cap) w := fun _ _ _ _ => rfl
 obtain ⟨V, hV⟩ : ∃ V, (((w.alloc (.cells #[.int .i64 ((n : Int) + 1)] 3)).alloc (.cells #[u64 k] 30)).alloc (.cells #[.int .u64 0] 30)).alloc (.cells #[.int .i64 0] 3) = V := ⟨_, rfl⟩
 have UV : Up w V := by rw [← hV]; exact (((((Up.refl w).alloc _).alloc _).alloc _).alloc _)
 have sz : V.heap.size = w.heap.size + 1 + 1 + 1 + 1 := by rw [← hV]; simp only [size_alloc]
 have B0 : Ob V (w.heap.size) 3 #[.int .i64 ((n : Int) + 1)] := by rw [← hV]; exact (Ob.mk_ _ _ _).up ((((Up.refl _).alloc _).alloc _).alloc _)
 have B1 : Ob V (w.heap.size + 1) 30 #[u64 k] := by rw [← hV]; exact (Ob.at1 _ _ _ _).up (((Up.refl _).alloc _).alloc _)
 have B2 : Ob V (w.heap.size + 1 + 1) 30 #[.int .u64 0] := by rw [← hV]; exact (Ob.at2 _ _ _ _ _).up ((Up.refl _).alloc _)
 have B3 : Ob V (w.heap.size + 1 + 1 + 1) 3 #[.int .i64 0] := by rw [← hV]; exact (Ob.at3 _ _ _ _ _ _)
 have CC := Lib.hid (caught_ret V 1 180 #[.pointer (some ⟨w.heap.size, 0, none⟩), .pointer (some ⟨w.heap.size + 1, 0, none⟩), .pointer (some ⟨w.heap.size + 1 + 1, 0, none⟩), .pointer (some ⟨w.heap.size + 1 + 1 + 1, 0, none⟩)] (w.heap.size + 1 + 1) (w.heap.size + 1 + 1 + 1) (by omega) (by omega) (fun W => W.cell? ⟨w.heap.size + 1 + 1, 0, none⟩ = some (u64 m) ∧ W.frozen? ⟨w.heap.size + 1 + 1, 0, none⟩ = false ∧ W.cell? ⟨w.heap.size + 1 + 1 + 1, 0, none⟩ = some (.int .i64 z) ∧ W.frozen? ⟨w.heap.size + 1 + 1 + 1, 0, none⟩ = false) (enters_of Tryz.func180 (by kernel_rfl) rfl) (fun W c v hc hO => ⟨(World.cell?_setCell_other _ _ _ _ (by (try simp) <;> omega)).trans hO.1, (frozen_set _ _ _ _).trans hO.2.1, (World.cell?_setCell_other _ _ _ _ (by (try simp) <;> omega)).trans hO.2.2.1, (frozen_set _ _ _ _).trans hO.2.2.2⟩) (fun W U => cvalue_in W (T.up (UV.trans U)) _ _ _ _ n hn2 hn k m z h (((B0.up U).get 0).trans rfl) (((B1.up U).get 0).trans rfl) (((B2.up U).get 0).trans rfl) ((B2.up U).fr 0) (((B3.up U).get 0).trans rfl) ((B3.up U).fr 0) (by omega) (by omega) (by omega) (by omega) (by omega)))
 clear h T
 go_enter Tryz.func166, Tryz.ntmps166
 go_wp2_with fail
 try rw [hV]
 clear hV
 refine CC.out.mono ?_
 rintro _ w1 ⟨rfl, K, c0, f0, d0, e0⟩
 have U9 : Up w w1 := K.up UV (by omega) (by omega)
 go_wp2_with fail
 go_region
 go_wp2_with fail
 have y0 : (((w1.setCell ⟨w.heap.size + 1 + 1, 0, none⟩ (.int .u64 (m : Int))).setCell ⟨w.heap.size + 1 + 1 + 1, 0, none⟩ (.int .i64 z)).drew).cell? ⟨w.heap.size + 1 + 1, 0, none⟩ = some (u64 m) := by simp [go_sem, c0, d0]
 have y1 : (((w1.setCell ⟨w.heap.size + 1 + 1, 0, none⟩ (.int .u64 (m : Int))).setCell ⟨w.heap.size + 1 + 1 + 1, 0, none⟩ (.int .i64 z)).drew).cell? ⟨w.heap.size + 1 + 1 + 1, 0, none⟩ = some (.int .i64 z) := by simp [go_sem, c0, d0]
 refine bodyPost_ret (v := .tuple #[u64 m, .int .i64 z, .int .i64 0]) (by simp [results, Tryz.results166, go_sem, y0, y1]) rfl ?_
 exact ⟨rfl, ((U9.setCell (p := ⟨w.heap.size + 1 + 1, 0, none⟩) (by simp only; omega) _).setCell (p := ⟨w.heap.size + 1 + 1 + 1, 0, none⟩) (by simp only; omega) _).drew⟩
set_option maxRecDepth 100000 in
theorem pvalue_wide (w : World) (wd : Int) (k : Nat) (hw : wd < 3 ∨ 65 < wd) :
  Calls Tryz.prog 166 #[.int .i64 wd, u64 k] w (Vn 0 0 1 w) := by
 have hmf : ∀ (fn : Fn) (first cap : Array Value) (w : World), (Instr.makeFunc fn first cap).run Tryz.prog w = .ok (.func fn first cap) w := fun _ _ _ _ => rfl
 obtain ⟨V, hV⟩ : ∃ V, (((w.alloc (.cells #[.int .i64 wd] 3)).alloc (.cells #[u64 k] 30)).alloc (.cells #[.int .u64 0] 30)).alloc (.cells #[.int .i64 0] 3) = V := ⟨_, rfl⟩
 have UV : Up w V := by rw [← hV]; exact (((((Up.refl w).alloc _).alloc _).alloc _).alloc _)
 have sz : V.heap.size = w.heap.size + 1 + 1 + 1 + 1 := by rw [← hV]; simp only [size_alloc]
 have B0 : Ob V (w.heap.size) 3 #[.int .i64 wd] := by rw [← hV]; exact (Ob.mk_ _ _ _).up ((((Up.refl _).alloc _).alloc _).alloc _)
 have B1 : Ob V (w.heap.size + 1) 30 #[u64 k] := by rw [← hV]; exact (Ob.at1 _ _ _ _).up (((Up.refl _).alloc _).alloc _)
 have B2 : Ob V (w.heap.size + 1 + 1) 30 #[.int .u64 0] := by rw [← hV]; exact (Ob.at2 _ _ _ _ _).up ((Up.refl _).alloc _)
 have B3 : Ob V (w.heap.size + 1 + 1 + 1) 3 #[.int .i64 0] := by rw [← hV]; exact (Ob.at3 _ _ _ _ _ _)
 have CC := Lib.hid (caught_str V 1 180 #[.pointer (some ⟨w.heap.size, 0, none⟩), .pointer (some ⟨w.heap.size + 1, 0, none⟩), .pointer (some ⟨w.heap.size + 1 + 1, 0, none⟩), .pointer (some ⟨w.heap.size + 1 + 1 + 1, 0, none⟩)] (enters_of Tryz.func180 (by kernel_rfl) rfl) (fun W U => cvalue_wide W _ _ _ _ wd hw (((B0.up U).get 0).trans rfl) k (((B1.up U).get 0).trans rfl)))
 clear hw
 go_enter Tryz.func166, Tryz.ntmps166
 go_wp2_with fail
 try rw [hV]
 clear hV
 refine CC.out.mono ?_
 rintro _ w1 ⟨rfl, U1⟩
 have U9 : Up w w1 := UV.trans U1
 have c0 : w1.cell? ⟨w.heap.size + 1 + 1, 0, none⟩ = some (u64 0) := ((B2.up U1).get 0).trans rfl
 have f0 := (B2.up U1).fr 0
 have d0 : w1.cell? ⟨w.heap.size + 1 + 1 + 1, 0, none⟩ = some (.int .i64 0) := ((B3.up U1).get 0).trans rfl
 have e0 := (B3.up U1).fr 0
 go_wp2_with fail
 go_region
 go_wp2_with fail
 have y0 : (((w1.setCell ⟨w.heap.size + 1 + 1, 0, none⟩ (.int .u64 0)).setCell ⟨w.heap.size + 1 + 1 + 1, 0, none⟩ (.int .i64 0)).drew).cell? ⟨w.heap.size + 1 + 1, 0, none⟩ = some (u64 0) := by simp [go_sem, c0, d0]
 have y1 : (((w1.setCell ⟨w.heap.size + 1 + 1, 0, none⟩ (.int .u64 0)).setCell ⟨w.heap.size + 1 + 1 + 1, 0, none⟩ (.int .i64 0)).drew).cell? ⟨w.heap.size + 1 + 1 + 1, 0, none⟩ = some (.int .i64 0) := by simp [go_sem, c0, d0]
 refine bodyPost_ret (v := .tuple #[u64 0, .int .i64 0, .int .i64 1]) (by simp [results, Tryz.results166, go_sem, y0, y1]) rfl ?_
 exact ⟨rfl, ((U9.setCell (p := ⟨w.heap.size + 1 + 1, 0, none⟩) (by simp only; omega) _).setCell (p := ⟨w.heap.size + 1 + 1 + 1, 0, none⟩) (by simp only; omega) _).drew⟩
set_option maxRecDepth 100000 in
theorem pvalue_key (w : World) (n k : Nat) (hn2 : 2 ≤ n) (hn : n ≤ 64) (hk : k < 18446744073709551616) (hx : k = 0 ∨ 2 ^ n ≤ k) :
  Calls Tryz.prog 166 #[.int .i64 ((n : Int) + 1), u64 k] w (Vn 0 0 1 w) := by
 have hmf : ∀ (fn : Fn) (first cap : Array Value) (w : World), (Instr.makeFunc fn first cap).run Tryz.prog w = .ok (.func fn first cap) w := fun _ _ _ _ => rfl
 obtain ⟨V, hV⟩ : ∃ V, (((w.alloc (.cells #[.int .i64 ((n : Int) + 1)] 3)).alloc (.cells #[u64 k] 30)).alloc (.cells #[.int .u64 0] 30)).alloc (.cells #[.int .i64 0] 3) = V := ⟨_, rfl⟩
 have UV : Up w V := by rw [← hV]; exact (((((Up.refl w).alloc _).alloc _).alloc _).alloc _)
 have sz : V.heap.size = w.heap.size + 1 + 1 + 1 + 1 := by rw [← hV]; simp only [size_alloc]
 have B0 : Ob V (w.heap.size) 3 #[.int .i64 ((n : Int) + 1)] := by rw [← hV]; exact (Ob.mk_ _ _ _).up ((((Up.refl _).alloc _).alloc _).alloc _)
 have B1 : Ob V (w.heap.size + 1) 30 #[u64 k] := by rw [← hV]; exact (Ob.at1 _ _ _ _).up (((Up.refl _).alloc _).alloc _)
 have B2 : Ob V (w.heap.size + 1 + 1) 30 #[.int .u64 0] := by rw [← hV]; exact (Ob.at2 _ _ _ _ _).up ((Up.refl _).alloc _)
 have B3 : Ob V (w.heap.size + 1 + 1 + 1) 3 #[.int .i64 0] := by rw [← hV]; exact (Ob.at3 _ _ _ _ _ _)
 have CC := Lib.hid (caught_str V 1 180 #[.pointer (some ⟨w.heap.size, 0, none⟩), .pointer (some ⟨w.heap.size + 1, 0, none⟩), .pointer (some ⟨w.heap.size + 1 + 1, 0, none⟩), .pointer (some ⟨w.heap.size + 1 + 1 + 1, 0, none⟩)] (enters_of Tryz.func180 (by kernel_rfl) rfl) (fun W U => cvalue_out W _ _ _ _ n hn2 hn (((B0.up U).get 0).trans rfl) k hk hx (((B1.up U).get 0).trans rfl)))
 clear hx
 go_enter Tryz.func166, Tryz.ntmps166
 go_wp2_with fail
 try rw [hV]
 clear hV
 refine CC.out.mono ?_
 rintro _ w1 ⟨rfl, U1⟩
 have U9 : Up w w1 := UV.trans U1
 have c0 : w1.cell? ⟨w.heap.size + 1 + 1, 0, none⟩ = some (u64 0) := ((B2.up U1).get 0).trans rfl
 have f0 := (B2.up U1).fr 0
 have d0 : w1.cell? ⟨w.heap.size + 1 + 1 + 1, 0, none⟩ = some (.int .i64 0) := ((B3.up U1).get 0).trans rfl
 have e0 := (B3.up U1).fr 0
 go_wp2_with fail
 go_region
 go_wp2_with fail
 have y0 : (((w1.setCell ⟨w.heap.size + 1 + 1, 0, none⟩ (.int .u64 0)).setCell ⟨w.heap.size + 1 + 1 + 1, 0, none⟩ (.int .i64 0)).drew).cell? ⟨w.heap.size + 1 + 1, 0, none⟩ = some (u64 0) := by simp [go_sem, c0, d0]
 have y1 : (((w1.setCell ⟨w.heap.size + 1 + 1, 0, none⟩ (.int .u64 0)).setCell ⟨w.heap.size + 1 + 1 + 1, 0, none⟩ (.int .i64 0)).drew).cell? ⟨w.heap.size + 1 + 1 + 1, 0, none⟩ = some (.int .i64 0) := by simp [go_sem, c0, d0]
 refine bodyPost_ret (v := .tuple #[u64 0, .int .i64 0, .int .i64 1]) (by simp [results, Tryz.results166, go_sem, y0, y1]) rfl ?_
 exact ⟨rfl, ((U9.setCell (p := ⟨w.heap.size + 1 + 1, 0, none⟩) (by simp only; omega) _).setCell (p := ⟨w.heap.size + 1 + 1 + 1, 0, none⟩) (by simp only; omega) _).drew⟩
theorem pvalue_out (w : World) (wd : Int) (k : Nat) (hk : k < 18446744073709551616) (h : bad wd k) : Calls Tryz.prog 166 #[.int .i64 wd, u64 k] w (Vn 0 0 1 w) := by
 rcases of_bad5 h with hw | ⟨n, rfl, h2, hn, hx⟩
 ·exact pvalue_wide w wd k hw
 ·exact pvalue_key w n k h2 hn hk hx
end Go.Proofs.YtijpffgocookaaaGreatDoor
