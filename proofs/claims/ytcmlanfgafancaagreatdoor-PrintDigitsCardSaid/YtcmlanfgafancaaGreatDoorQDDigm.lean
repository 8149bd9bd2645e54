import Derived.Test.YtcmlanfgafancaaGreatDoorQDNa
import Derived.Deep.RegionHeld3
import Derived.Deep.DrawnRows
import Derived.Test.YtcmlanfgafancaaGreatDoorQDVga
import Derived.Deep.RegionLaw
import Derived.Deep.QuietTactic
set_option maxHeartbeats 32000000
set_option linter.unusedVariables false
set_option linter.unusedSimpArgs false
namespace Go.Proofs.YtcmlanfgafancaaGreatDoor
open Go.RowKit Go.Shelf
theorem even_at (w : World) (lo s : Nat) (v : Value) (a : Nat) (h : Nw w lo s v a) (t : Bool) (e : Hid (a.testBit 0 = t)) : Calls Tryz.prog 158 #[v] w (Same (.bool (!t)) w) := by
 have := even_any w lo s v a h
 rwa [e.out] at this
theorem bits_at2 (w : World) (lo s : Nat) (v : Value) (a : Nat) (z : Int) (h : Nw w lo s v a) (e : Hid ((M.bits a : Int) = z)) : Calls Tryz.prog 195 #[v] w (Same (.int .i64 z) w) := by
 have := bits_any w lo s v a h
 rwa [e.out] at this
abbrev xv (neg : Bool) (v : Value) (t f : Int) : Value := .agg #[.bool neg, v, .int .i64 t, .int .i64 f]
def Num (z : Int) (w : World) (e : Ending) (w' : World) : Prop := e = .returned (.int .i64 z) ∧ Up w w'
def Boo (t : Bool) (w : World) (e : Ending) (w' : World) : Prop := e = .returned (.bool t) ∧ Up w w'
theorem nearestPower_any (w : World) (k z : Int) (hz : Hid (max (-5000) (min k 5000) = z)) : Calls Tryz.prog 205 #[.int .i64 k] w (Same (.int .i64 z) w) := by
 go_enter Tryz.func205, Tryz.ntmps205
 go_wp2_with fail
 go_ret
 exact ⟨ret_int hz.out, rfl⟩
theorem mayBePower_any (w : World) (k : Int) (t : Bool) (ht : Hid (decide (-5000 ≤ k ∧ k ≤ 5000) = t)) : Calls Tryz.prog 143 #[.int .i64 k] w (Same (.bool t) w) := by
 obtain ⟨z, hz⟩ : ∃ z, max (-5000) (min k 5000) = z := ⟨_, rfl⟩
 have HT : Hid ((k == z) = t) := by
  rw [Hid, ← ht.out, Bool.eq_iff_iff, beq_iff_eq, decide_eq_true_iff]
  omega
 have CN := Lib.hid (nearestPower_any w k z hz)
 clear hz ht
 go_enter Tryz.func143, Tryz.ntmps143
 go_wp2_with fail
 refine CN.out.mono ?_
 rintro _ _ ⟨rfl, rfl⟩
 go_wp2_with fail
 go_ret
 exact ⟨ret_bool HT.out, rfl⟩
theorem M.bits_eq_zero (a : Nat) : (((M.bits a : Nat) : Int) == 0) = decide (a = 0) := by
 rw [Bool.eq_iff_iff, beq_iff_eq, decide_eq_true_iff]
 constructor
 ·intro h
  rcases Nat.eq_zero_or_pos a with h0 | h0
  ·exact h0
  ·have := M.bits_pos (a := a) (by omega); omega
 ·intro h; rw [h]; rfl
theorem isNought_any (w : World) (lo s : Nat) (v : Value) (a : Nat) (h : Nw w lo s v a) (t : Bool) (ht : Hid (decide (a = 0) = t)) : Calls Tryz.prog 146 #[v] w (Same (.bool t) w) := by
 obtain ⟨z, hz⟩ : ∃ z : Int, ((M.bits a : Nat) : Int) = z := ⟨_, rfl⟩
 have HT : Hid ((z == 0) = t) := by rw [Hid, ← hz, M.bits_eq_zero]; exact ht.out
 have CB := Lib.hid (bits_at2 w lo s v a z h hz)
 obtain ⟨A, n, c, xs, rfl, _, _, _⟩ := h
 clear hz ht
 go_enter Tryz.func146, Tryz.ntmps146
 go_wp2_with fail
 refine CB.out.mono ?_
 rintro _ _ ⟨rfl, rfl⟩
 go_wp2_with fail
 go_ret
 exact ⟨ret_bool HT.out, rfl⟩
theorem xtimes_any (w : World) (lo s : Nat) (v : Value) (a : Nat) (h : Nw w lo s v a) (hs : s ≤ 50000000) (two five : Int) (T F : Nat) (hT : Hid (max 0 (min two 131072) = (T : Int))) (hF : Hid (max 0 (min five 10000) = (F : Int))) :
  Calls Tryz.prog 155 #[v, .int .i64 two, .int .i64 five] w (Res (s + F + T / 64 + 3) (a * 5 ^ F * 2 ^ T) w) := by
 have CP := Lib.hid (pow_any w 5 F five (by omega) hF.out)
 have hF1 : F ≤ 10000 := by have := hF.out; omega
 obtain ⟨A, n, c, xs, rfl, hx, ha, hns⟩ := h
 have HA := Lib.hid ha
 clear ha hF
 go_enter Tryz.func155, Tryz.ntmps155
 go_wp2_with fail
 refine CP.out.mono ?_
 rintro _ w1 ⟨v1, rfl, h1, hu1⟩
 have hv : Nw w1 lo s (.slice A n c) a := ⟨A, n, c, xs, rfl, hx.up hu1, HA.out, hns⟩
 go_wp2_with fail
 refine (mul_any w1 _ _ _ _ _ _ _ _ hv h1.nw (by omega) (by omega)).mono ?_
 rintro _ w2 ⟨v2, rfl, h2, hu2⟩
 go_wp2_with fail
 refine (shl_any w2 _ _ _ _ h2.nw (by omega) two T hT.out).mono ?_
 rintro _ w3 ⟨v3, rfl, h3, hu3⟩
 go_wp2_with fail
 go_ret
 exact ⟨v3, rfl, (h3.lower (Up.size (hu1.trans hu2))).more (by omega), (hu1.trans hu2).trans hu3⟩
end Go.Proofs.YtcmlanfgafancaaGreatDoor
namespace Go.Proofs.YtcmlanfgafancaaGreatDoor
open Go.RowKit Go.Shelf
theorem cell_up {w w' : World} (hu : Up w w') {p : Addr} {v : Value} (h : w.cell? p = some v) : w'.cell? p = some v := by
 rw [Below.cell hu (World.block_lt_of_cell? w _ h)]; exact h
theorem frozen_up {w w' : World} (hu : Up w w') {p : Addr} {v : Value} (h : w.cell? p = some v) (k : w.frozen? p = false) : w'.frozen? p = false := by
 rw [Below.frozen hu (World.block_lt_of_cell? w _ h)]; exact k
theorem xtimes_up (w w' : World) (lo s : Nat) (v : Value) (a : Nat) (h : Nw w lo s v a) (hu : Up w w') (hs : s ≤ 50000000) (two five : Int) (T F : Nat) (hT : Hid (max 0 (min two 131072) = (T : Int))) (hF : Hid (max 0 (min five 10000) = (F : Int))) :
  Calls Tryz.prog 155 #[v, .int .i64 two, .int .i64 five] w' (Res (s + F + T / 64 + 3) (a * 5 ^ F * 2 ^ T) w') := xtimes_any w' lo s v a (h.up hu) hs two five T F hT hF
set_option maxRecDepth 100000 in
theorem xcmp_any (w : World) (lo lo' s s' : Nat) (neg neg' : Bool) (v v' : Value) (t f t' f' : Int) (a b : Nat) (h : Nw w lo s v a) (h' : Nw w lo' s' v' b) (hs : s ≤ 1000000) (hs' : s' ≤ 1000000)
  (bt : -1000000 ≤ t ∧ t ≤ 1000000) (bf : -1000000 ≤ f ∧ f ≤ 1000000) (bt' : -1000000 ≤ t' ∧ t' ≤ 1000000) (bf' : -1000000 ≤ f' ∧ f' ≤ 1000000)
  (T F T' F' : Nat) (hT : Hid (max 0 (min (t - t') 131072) = (T : Int))) (hF : Hid (max 0 (min (f - f') 10000) = (F : Int))) (hT' : Hid (max 0 (min (-(t - t')) 131072) = (T' : Int))) (hF' : Hid (max 0 (min (-(f - f')) 10000) = (F' : Int)))
  (z : Int) (hz : Hid (M.cmp (a * 5 ^ F * 2 ^ T) (b * 5 ^ F' * 2 ^ T') = z)) :
  Calls Tryz.prog 230 #[xv neg v t f, xv neg' v' t' f'] w (Num z w) := by
 obtain ⟨D, hD⟩ : ∃ D, t - t' = D := ⟨_, rfl⟩
 obtain ⟨E, hE⟩ : ∃ E, f - f' = E := ⟨_, rfl⟩
 have bD : -2000000 ≤ D ∧ D ≤ 2000000 := by omega
 have bE : -2000000 ≤ E ∧ E ≤ 2000000 := by omega
 rw [hD] at hT hT'
 rw [hE] at hF hF'
 have w1 : IntKind.i64.wrap (t - t') = D := by rw [hD]; simp [IntKind.wrap, IntKind.bits, IntKind.signed]; omega
 have w2 : IntKind.i64.wrap (f - f') = E := by rw [hE]; simp [IntKind.wrap, IntKind.bits, IntKind.signed]; omega
 have w1' : IntKind.i64.wrap D = D := by simp [IntKind.wrap, IntKind.bits, IntKind.signed]; omega
 have w2' : IntKind.i64.wrap E = E := by simp [IntKind.wrap, IntKind.bits, IntKind.signed]; omega
 have w3' : IntKind.i64.wrap (-D) = -D := by simp [IntKind.wrap, IntKind.bits, IntKind.signed]; omega
 have w4' : IntKind.i64.wrap (-E) = -E := by simp [IntKind.wrap, IntKind.bits, IntKind.signed]; omega
 clear bt bf bt' bf'
 go_enter Tryz.func230, Tryz.ntmps230
 go_wp2_with fail
 go_quiet (fail)
 obtain ⟨W, hW⟩ : ∃ W, ((w.alloc (.cells #[.bool neg, v, .int .i64 t, .int .i64 f] 84)).alloc (.cells #[.bool neg', v', .int .i64 t', .int .i64 f'] 84)).drewN nq = W := ⟨_, rfl⟩
 have hu : Up w W := by rw [← hW]; exact ((((Up.refl w).alloc _).alloc _).drewN _)
 have c1 : W.cell? ⟨w.heap.size, 1, none⟩ = some v := by rw [← hW]; simp
 have c2 : W.cell? ⟨w.heap.size + 1, 1, none⟩ = some v' := by rw [← hW]; simp
 rw [hW]
 clear hW
 have hh := h.up hu
 have hh' := h'.up hu
 go_wp2_with fail
 go_region_held3 (fun w' => w'.cell? ⟨w.heap.size, 1, none⟩ = some v ∧ w'.cell? ⟨w.heap.size + 1, 1, none⟩ = some v') (go_keep) (first
  | (go_at_call_of 155 v; (with_reducible refine (xtimes_up W _ lo s v a hh ?_ (by omega) _ _ T F hT hF).mono ?_); (first | with_reducible assumption | exact (Up.refl _).drewN 1); rintro _ wA ⟨vA, rfl, hA, hua⟩; have uA : Up W wA := Up.trans (by first | with_reducible assumption | exact (Up.refl W).drewN 1) hua; have kA := cell_up uA c1; have kA' := cell_up uA c2)
  | (go_at_call_of 155 v'; (with_reducible refine (xtimes_up W _ lo' s' v' b hh' ?_ (by omega) _ _ T' F' hT' hF').mono ?_); (first | with_reducible assumption | exact (Up.refl _).drewN 1); rintro _ wB ⟨vB, rfl, hB, hub⟩; have uB : Up W wB := Up.trans (by first | with_reducible assumption | exact (Up.refl W).drewN 1) hub; have kB := cell_up uB c1; have kB' := cell_up uB c2)
  | (go_at_call 263; (first
   | (with_reducible refine (cmp_at _ _ _ _ _ _ _ _ _ z (hA.up hub).nw hB.nw hz).mono ?_)
   | (with_reducible refine (cmp_at _ _ _ _ _ _ _ _ _ z hA.nw (hB.up hua).nw hz).mono ?_)); rintro _ wC ⟨rfl, kk, rfl⟩))
 all_goals
  go_wp2_with fail
  go_ret
  first
   | exact ⟨rfl, hu.trans ((uA.trans hub).drewN _)⟩
   | exact ⟨rfl, hu.trans ((uB.trans hua).drewN _)⟩
namespace M
def ov (a : Nat) (t f m : Int) : Nat := a * 5 ^ (f - m).toNat * 2 ^ (t - m).toNat
theorem ov_zero {a : Nat} {t f m : Int} : ov a t f m = 0 ↔ a = 0 := by
 unfold ov
 have h1 : 0 < 5 ^ (f - m).toNat := Nat.pow_pos (by omega)
 have h2 : 0 < 2 ^ (t - m).toNat := Nat.pow_pos (by omega)
 rw [Nat.mul_eq_zero, Nat.mul_eq_zero]
 omega
theorem cmp_ov {a b : Nat} {t f t' f' m : Int} {T F T' F' : Nat} (h1 : m ≤ t) (h2 : m ≤ f) (h3 : m ≤ t') (h4 : m ≤ f') (b1 : t - t' ≤ 131072) (b2 : t' - t ≤ 131072) (b3 : f - f' ≤ 10000) (b4 : f' - f ≤ 10000)
  (hT : max 0 (min (t - t') 131072) = (T : Int)) (hF : max 0 (min (f - f') 10000) = (F : Int)) (hT' : max 0 (min (-(t - t')) 131072) = (T' : Int)) (hF' : max 0 (min (-(f - f')) 10000) = (F' : Int)) :
  cmp (a * 5 ^ F * 2 ^ T) (b * 5 ^ F' * 2 ^ T') = cmp (ov a t f m) (ov b t' f' m) := by
 obtain ⟨c2, hc2⟩ : ∃ c2 : Nat, (c2 : Int) = min t t' - m := ⟨(min t t' - m).toNat, by omega⟩
 obtain ⟨c5, hc5⟩ : ∃ c5 : Nat, (c5 : Int) = min f f' - m := ⟨(min f f' - m).toNat, by omega⟩
 have e1 : (t - m).toNat = T + c2 := by omega
 have e2 : (f - m).toNat = F + c5 := by omega
 have e3 : (t' - m).toNat = T' + c2 := by omega
 have e4 : (f' - m).toNat = F' + c5 := by omega
 have hp : 0 < 5 ^ c5 * 2 ^ c2 := Nat.mul_pos (Nat.pow_pos (by omega)) (Nat.pow_pos (by omega))
 have k1 : ∀ (x F T : Nat), x * 5 ^ (F + c5) * 2 ^ (T + c2) = x * 5 ^ F * 2 ^ T * (5 ^ c5 * 2 ^ c2) := by
  intro x F T
  rw [Nat.pow_add, Nat.pow_add]
  simp only [Nat.mul_assoc, Nat.mul_left_comm, Nat.mul_comm]
 unfold ov
 rw [e1, e2, e3, e4, k1, k1, cmp_times _ _ _ hp]
end M
theorem xcmp_ov (m : Int) (bm : -1000000 ≤ m ∧ m ≤ 900000) (w : World) (lo lo' s s' : Nat) (neg neg' : Bool) (v v' : Value) (t f t' f' : Int) (a b : Nat) (h : Nw w lo s v a) (h' : Nw w lo' s' v' b) (hs : s ≤ 1000000) (hs' : s' ≤ 1000000)
  (bt : m ≤ t ∧ t ≤ m + 10000) (bf : m ≤ f ∧ f ≤ m + 10000) (bt' : m ≤ t' ∧ t' ≤ m + 10000) (bf' : m ≤ f' ∧ f' ≤ m + 10000) (z : Int) (hz : Hid (M.cmp (M.ov a t f m) (M.ov b t' f' m) = z)) :
  Calls Tryz.prog 230 #[xv neg v t f, xv neg' v' t' f'] w (Num z w) := by
 refine xcmp_any w lo lo' s s' neg neg' v v' t f t' f' a b h h' hs hs' (by omega) (by omega) (by omega) (by omega) (max 0 (min (t - t') 131072)).toNat (max 0 (min (f - f') 10000)).toNat (max 0 (min (-(t - t')) 131072)).toNat (max 0 (min (-(f - f')) 10000)).toNat
  (by show _ = _; omega) (by show _ = _; omega) (by show _ = _; omega) (by show _ = _; omega) z ?_
 rw [Hid, M.cmp_ov (m := m) bt.1 bf.1 bt'.1 bf'.1 (by omega) (by omega) (by omega) (by omega) (by omega) (by omega) (by omega) (by omega)]
 exact hz.out
def Bx (w : World) (b : Nat) (neg : Bool) (v : Value) (t f : Int) : Prop :=
 (w.cell? ⟨b, 0, none⟩ = some (.bool neg) ∧ w.cell? ⟨b, 1, none⟩ = some v ∧ w.cell? ⟨b, 2, none⟩ = some (.int .i64 t) ∧ w.cell? ⟨b, 3, none⟩ = some (.int .i64 f)) ∧
 w.frozen? ⟨b, 0, none⟩ = false ∧ w.frozen? ⟨b, 1, none⟩ = false ∧ w.frozen? ⟨b, 2, none⟩ = false ∧ w.frozen? ⟨b, 3, none⟩ = false
theorem Bx.mk_ (w : World) (neg : Bool) (v : Value) (t f : Int) : Bx (w.alloc (.cells #[.bool neg, v, .int .i64 t, .int .i64 f] 84)) w.heap.size neg v t f := by
 refine ⟨⟨?_, ?_, ?_, ?_⟩, ?_, ?_, ?_, ?_⟩ <;> simp
theorem Bx.up {w w' : World} {b : Nat} {neg : Bool} {v : Value} {t f : Int} (h : Bx w b neg v t f) (hu : Up w w') : Bx w' b neg v t f := by
 obtain ⟨⟨a0, a1, a2, a3⟩, b0, b1, b2, b3⟩ := h
 exact ⟨⟨cell_up hu a0, cell_up hu a1, cell_up hu a2, cell_up hu a3⟩, frozen_up hu a0 b0, frozen_up hu a1 b1, frozen_up hu a2 b2, frozen_up hu a3 b3⟩
theorem lt_w128 {a : Nat} (h : a < 18446744073709551616) : a < 18446744073709551616 ^ 128 := Nat.lt_of_lt_of_le h (by
 have : 18446744073709551616 ^ 1 ≤ 18446744073709551616 ^ 128 := Nat.pow_le_pow_right (by omega) (by omega)
 omega)
end Go.Proofs.YtcmlanfgafancaaGreatDoor
namespace Go.Proofs.YtcmlanfgafancaaGreatDoor
open Go.RowKit Go.Shelf
abbrev set4 (w : World) (b : Nat) (u0 u1 u2 u3 : Value) : World := (((w.setCell ⟨b, 0, none⟩ u0).setCell ⟨b, 1, none⟩ u1).setCell ⟨b, 2, none⟩ u2).setCell ⟨b, 3, none⟩ u3
theorem Nt.set4 {w : World} {lo s : Nat} {v : Value} {a : Nat} (h : Nt w lo s v a) {b : Nat} (hb : b < lo) (u0 u1 u2 u3 : Value) : Nt (set4 w b u0 u1 u2 u3) lo s v a := by
 obtain ⟨A, n, c, xs, e, h1, h2⟩ := h
 exact ⟨A, n, c, xs, e, (((h1.set_other (p := ⟨b, 0, none⟩) hb u0).set_other (p := ⟨b, 1, none⟩) hb u1).set_other (p := ⟨b, 2, none⟩) hb u2).set_other (p := ⟨b, 3, none⟩) hb u3, h2⟩
theorem Up.set4 {w w' : World} (h : Up w w') {b : Nat} (hb : w.heap.size ≤ b) (u0 u1 u2 u3 : Value) : Up w (set4 w' b u0 u1 u2 u3) :=
 (((h.setCell (p := ⟨b, 0, none⟩) hb u0).setCell (p := ⟨b, 1, none⟩) hb u1).setCell (p := ⟨b, 2, none⟩) hb u2).setCell (p := ⟨b, 3, none⟩) hb u3
abbrev M.pw (k : Int) : Prop := -5000 ≤ k ∧ k ≤ 5000
theorem right_any (w : World) (neg : Bool) (A : Option Addr) (n c y : Nat) (t f : Int) (hn : n ≤ 9223372036854775807) (hcell : 0 < n → ∃ ad, A = some ad ∧ w.cell? (ad.add (n - 1)) = some (u64 y))
  (r : Bool) (hr : Hid (decide ((n = 0 ∨ y ≠ 0) ∧ n ≤ 128 ∧ M.pw t ∧ M.pw f) = r)) :
  Calls Tryz.prog 112 #[xv neg (.slice A n c) t f] w (Boo r w) := by
 have hu := (Up.refl w).alloc (.cells #[.bool neg, .slice A n c, .int .i64 t, .int .i64 f] 84)
 obtain ⟨t1, ht1⟩ : ∃ t1, decide (M.pw t) = t1 := ⟨_, rfl⟩
 obtain ⟨f1, hf1⟩ : ∃ f1, decide (M.pw f) = f1 := ⟨_, rfl⟩
 have CT := Lib.hid (fun w' => mayBePower_any w' t t1 ht1)
 have CF := Lib.hid (fun w' => mayBePower_any w' f f1 hf1)
 have hrest : Hid ((n = 0 ∨ y ≠ 0) → r = (decide (n ≤ 128) && (t1 && f1))) := by
  intro h
  rw [← hr.out, ← ht1, ← hf1]
  rw [Bool.eq_iff_iff]
  simp only [decide_eq_true_iff, Bool.and_eq_true]
  exact ⟨fun ⟨_, b⟩ => b, fun b => ⟨h, b⟩⟩
 rcases Nat.eq_zero_or_pos n with h0 | h0
 ·subst h0
  have hR := hrest.out (.inl rfl)
  simp only [Nat.zero_le, decide_true, Bool.true_and] at hR
  have HR := Lib.hid hR
  clear hrest hr hcell ht1 hf1 hR
  rcases t1 with _ | _
  ·go_enter Tryz.func112, Tryz.ntmps112
   go_wp2_with fail
   refine (CT.out _).mono ?_
   rintro _ _ ⟨rfl, rfl⟩
   go_wp2_with fail
   go_ret
   exact ⟨ret_bool HR.out.symm, hu⟩
  ·go_enter Tryz.func112, Tryz.ntmps112
   go_wp2_with fail
   refine (CT.out _).mono ?_
   rintro _ _ ⟨rfl, rfl⟩
   go_wp2_with fail
   refine (CF.out _).mono ?_
   rintro _ _ ⟨rfl, rfl⟩
   go_wp2_with fail
   go_ret
   exact ⟨ret_bool HR.out.symm, hu⟩
 ·obtain ⟨ad, rfl, hc⟩ := hcell h0
  have hc2 := cell_up hu hc
  have hn0 : ((n : Int) == 0) = false := by rw [beq_eq_false_iff_ne]; omega
  by_cases hy : y = 0
  ·have HR : Hid (r = false) := by
    rw [Hid, ← hr.out, decide_eq_false_iff_not]
    rintro ⟨h, _⟩
    omega
   subst hy
   clear hrest hr hcell ht1 hf1 CT CF hc
   go_enter Tryz.func112, Tryz.ntmps112
   go_wp2_with fail
   go_ret
   exact ⟨ret_bool HR.out.symm, hu⟩
  ·have HR := Lib.hid (hrest.out (.inr hy))
   have hy0 : ((y : Int) != 0) = true := by rw [bne_iff_ne]; omega
   clear hrest hr hcell ht1 hf1 hc hy
   by_cases h128 : n ≤ 128
   ·have HR2 : Hid (r = (t1 && f1)) := by rw [Hid, HR.out, decide_eq_true h128, Bool.true_and]
    clear HR
    rcases t1 with _ | _
    ·go_enter Tryz.func112, Tryz.ntmps112
     go_wp2_with fail
     refine (CT.out _).mono ?_
     rintro _ _ ⟨rfl, rfl⟩
     go_wp2_with fail
     go_ret
     exact ⟨ret_bool HR2.out.symm, hu⟩
    ·go_enter Tryz.func112, Tryz.ntmps112
     go_wp2_with fail
     refine (CT.out _).mono ?_
     rintro _ _ ⟨rfl, rfl⟩
     go_wp2_with fail
     refine (CF.out _).mono ?_
     rintro _ _ ⟨rfl, rfl⟩
     go_wp2_with fail
     go_ret
     exact ⟨ret_bool HR2.out.symm, hu⟩
   ·have HR2 : Hid (r = false) := by rw [Hid, HR.out, decide_eq_false h128, Bool.false_and]
    have hn128 : 128 < n := by omega
    clear HR CT CF h128
    go_enter Tryz.func112, Tryz.ntmps112
    go_wp2_with fail
    go_ret
    exact ⟨ret_bool HR2.out.symm, hu⟩
theorem right_nt (w : World) (lo s : Nat) (neg : Bool) (v : Value) (a : Nat) (t f : Int) (h : Nt w lo s v a) (r : Bool) (hr : Hid (decide (a < 18446744073709551616 ^ 128 ∧ M.pw t ∧ M.pw f) = r)) :
  Calls Tryz.prog 112 #[xv neg v t f] w (Boo r w) := by
 obtain ⟨A, n, c, xs, rfl, hx, hv, hs, hn⟩ := h
 have hl := hx.num
 refine right_any w neg A n c (xs.getD (n - 1) 0) t f (by have := hx.small; omega) (fun h0 => ?_) r ?_
 ·obtain ⟨b, o, rfl, _, hc⟩ := hx.at_ h0
  exact ⟨_, rfl, by rw [Addr.add_lit]; exact (hc (n - 1) (by omega)).1⟩
 ·have e1 : n = 0 ∨ xs.getD (n - 1) 0 ≠ 0 := by
   rcases Nat.eq_zero_or_pos n with h0 | h0
   ·exact .inl h0
   ·exact .inr (M.top_ne hn (by omega))
  have e2 : n ≤ 128 ↔ a < 18446744073709551616 ^ 128 := by
   constructor
   ·intro h
    have h1 := M.val_lt hx.wds
    rw [hl, hv] at h1
    exact Nat.lt_of_lt_of_le h1 (Nat.pow_le_pow_right (by omega) h)
   ·intro h
    rw [← hl]
    exact M.len_of_lt hn (by rw [hv]; exact h)
  rw [Hid, ← hr.out, Bool.eq_iff_iff, decide_eq_true_iff, decide_eq_true_iff, e2]
  exact ⟨fun ⟨_, b⟩ => b, fun b => ⟨e1, b⟩⟩
def Xo (neg : Bool) (s a : Nat) (t f : Int) (is : Bool) (w : World) (e : Ending) (w' : World) : Prop := ∃ v, e = .returned (.tuple #[xv neg v t f, .bool is]) ∧ Nt w' w.heap.size s v a ∧ Up w w'
set_option maxRecDepth 100000 in
theorem dec_yes (w : World) (lo s : Nat) (neg : Bool) (v : Value) (a : Nat) (k : Int) (h : Nw w lo s v a) (ha : a < 18446744073709551616 ^ 128) (hk : M.pw k) :
  Calls Tryz.prog 117 #[.bool neg, v, .int .i64 k] w (Xo neg s a k k true w) := by
 have hr : Hid (decide (a < 18446744073709551616 ^ 128 ∧ M.pw k ∧ M.pw k) = true) := decide_eq_true ⟨ha, hk, hk⟩
 have hz : w.heap.size < (w.alloc (.cells #[.bool false, .slice none 0 0, .int .i64 0, .int .i64 0] 84)).heap.size := by rw [show (w.alloc (.cells #[.bool false, .slice none 0 0, .int .i64 0, .int .i64 0] 84)).heap.size = w.heap.size + 1 from Array.size_push _]; omega
 clear ha
 go_enter Tryz.func117, Tryz.ntmps117
 go_wp2_with fail
 have hu := (Up.refl w).alloc (.cells #[.bool false, .slice none 0 0, .int .i64 0, .int .i64 0] 84)
 refine (norm_any _ _ _ _ _ (h.up hu)).mono ?_
 rintro _ w1 ⟨_, rfl, ⟨A1, n1, c1, xs1, rfl, h1⟩, hu1⟩
 go_wp2_with fail
 obtain ⟨W, hW⟩ : ∃ W, w1.alloc (.cells #[.bool neg, .slice A1 n1 c1, .int .i64 k, .int .i64 k] 84) = W := ⟨_, rfl⟩
 have uW : Up w1 W := by rw [← hW]; exact (Up.refl w1).alloc _
 have bB : Bx W w1.heap.size neg (.slice A1 n1 c1) k k := by rw [← hW]; exact Bx.mk_ w1 _ _ _ _
 have bA := ((Bx.mk_ w false (.slice none 0 0) 0 0).up hu1).up uW
 have hN : Nt W _ s (.slice A1 n1 c1) a := Nt.up ⟨A1, n1, c1, xs1, rfl, h1⟩ uW
 have u1 := (hu.trans hu1).trans uW
 rw [hW]
 clear hW h1 hu1 uW
 refine (right_nt W _ _ _ _ a k k hN true hr).mono ?_
 rintro _ w2 ⟨rfl, hu2⟩
 replace hN := hN.up hu2
 obtain ⟨⟨a0, a1, a2, a3⟩, b0, b1, b2, b3⟩ := bA.up hu2
 obtain ⟨⟨c0, c1', c2, c3⟩, _⟩ := bB.up hu2
 replace u1 := u1.trans hu2
 clear bA bB hu2 hr
 have fin : Xo neg s a k k true w (.returned (.tuple #[xv neg (.slice A1 n1 c1) k k, .bool true])) (set4 w2 w.heap.size (.bool neg) (.slice A1 n1 c1) (.int .i64 k) (.int .i64 k)) :=
  ⟨_, rfl, (hN.set4 hz _ _ _ _).lower (Nat.le_of_lt hz), u1.set4 (Nat.le_refl _) _ _ _ _⟩
 have FIN := Lib.hid fin
 clear fin hN u1 hz hu
 go_wp2_with fail
 exact bodyPost_ret (v := .tuple #[xv neg (.slice A1 n1 c1) k k, .bool true]) (by simp [results, Tryz.results117, go_sem, a0, a1, a2, a3]) rfl FIN.out
abbrev vv (c : Int) (neg : Bool) (m : Nat) (e : Int) : Value := .agg #[.int .i64 c, .bool neg, u64 m, .int .i64 e]
theorem of_up (w w' : World) (x : Nat) (hx : x < 18446744073709551616) (_hu : Up w w') : Calls Tryz.prog 144 #[u64 x] w' (Res 1 x w') := of_any w' x hx
set_option maxRecDepth 100000 in
theorem xof_fin (w : World) (neg : Bool) (m : Nat) (e : Int) (hm : m < 18446744073709551616) (he : M.pw e) : Calls Tryz.prog 77 #[vv 2 neg m e] w (Xo neg 1 m e 0 true w) := by
 have CE := Lib.hid (fun w' => mayBePower_any w' e true (decide_eq_true he))
 clear he
 go_enter Tryz.func77, Tryz.ntmps77
 go_wp2_with fail
 refine (CE.out _).mono ?_
 rintro _ _ ⟨rfl, rfl⟩
 go_wp2_with fail
 have bA := Bx.mk_ (w.alloc (.cells #[.int .i64 2, .bool neg, .int .u64 (m : Int), .int .i64 e] 38)) false (.slice none 0 0) 0 0
 rw [show (w.alloc (.cells #[.int .i64 2, .bool neg, .int .u64 (m : Int), .int .i64 e] 38)).heap.size = w.heap.size + 1 from Array.size_push _] at bA
 obtain ⟨W, hW⟩ : ∃ W, (w.alloc (.cells #[.int .i64 2, .bool neg, .int .u64 (m : Int), .int .i64 e] 38)).alloc (.cells #[.bool false, .slice none 0 0, .int .i64 0, .int .i64 0] 84) = W := ⟨_, rfl⟩
 rw [hW] at bA
 have hu : Up w W := by rw [← hW]; exact (((Up.refl w).alloc _).alloc _)
 have c0 : W.cell? ⟨w.heap.size, 0, none⟩ = some (.int .i64 2) := by rw [← hW]; simp
 have c1 : W.cell? ⟨w.heap.size, 1, none⟩ = some (.bool neg) := by rw [← hW]; simp
 have c2 : W.cell? ⟨w.heap.size, 2, none⟩ = some (u64 m) := by rw [← hW]; simp
 have c3 : W.cell? ⟨w.heap.size, 3, none⟩ = some (.int .i64 e) := by rw [← hW]; simp
 rw [hW]
 clear hW
 have hsz : w.heap.size + 1 < W.heap.size := World.block_lt_of_cell? W _ bA.1.1
 go_region_held3 (fun w' => w'.cell? ⟨w.heap.size, 1, none⟩ = some (.bool neg) ∧ w'.cell? ⟨w.heap.size, 2, none⟩ = some (u64 m) ∧ w'.cell? ⟨w.heap.size, 3, none⟩ = some (.int .i64 e)) (first | go_keep | skip) ((go_at_call 144; (with_reducible refine (of_up W _ m hm ?_).mono ?_); (first | with_reducible assumption | exact (Up.refl _).drewN 1); rintro _ w1 ⟨_, rfl, ⟨A1, nn1, cc1, ys1, rfl, h1⟩, hu1⟩; have u1 : Up W w1 := Up.trans (by first | with_reducible assumption | exact (Up.refl W).drewN 1) hu1; have a1 := cell_up u1 c1; have a2 := cell_up u1 c2; have a3 := cell_up u1 c3; obtain ⟨⟨b0, b1, b2, b3⟩, g0, g1, g2, g3⟩ := bA.up u1))
 have hN : Nt w1 _ 1 (.slice A1 nn1 cc1) m := ⟨A1, nn1, cc1, ys1, rfl, h1⟩
 have fin : Xo neg 1 m e 0 true w (.returned (.tuple #[xv neg (.slice A1 nn1 cc1) e 0, .bool true])) (set4 w1 (w.heap.size + 1) (.bool neg) (.slice A1 nn1 cc1) (.int .i64 e) (.int .i64 0)) :=
  ⟨_, rfl, (hN.set4 hsz _ _ _ _).lower (Up.size hu.drew), (hu.trans u1).set4 (Nat.le_succ _) _ _ _ _⟩
 have FIN := Lib.hid fin
 clear fin hN bA c0 c1 c2 c3 a1 a2 a3 h1
 go_wp2_with fail
 exact bodyPost_ret (v := .tuple #[xv neg (.slice A1 nn1 cc1) e 0, .bool true]) (by simp [results, Tryz.results77, go_sem, b0, b1, b2, b3]) rfl FIN.out
end Go.Proofs.YtcmlanfgafancaaGreatDoor
namespace Go.Proofs.YtcmlanfgafancaaGreatDoor
open Go.RowKit
namespace M
def bse : Int := -5000
theorem bse_eq : bse = -5000 := rfl
def sz (a : Nat) (t f : Int) : Nat := ov a t f bse
theorem sz_zero {a : Nat} {t f : Int} : sz a t f = 0 ↔ a = 0 := ov_zero
theorem gt_sz {a b : Nat} {d e : Int} (hd : -5000 ≤ d) (he : -5000 ≤ e) (h : Gt a d b e) : sz b e 0 < sz a d 0 := by
 obtain ⟨D, h1, h2, h3⟩ := h
 unfold sz ov
 rw [bse_eq]
 obtain ⟨c, hc⟩ : ∃ c : Nat, 5 ^ ((0 : Int) - -5000).toNat = c := ⟨_, rfl⟩
 have hcp : 0 < c := by rw [← hc]; exact Nat.pow_pos (by omega)
 rw [hc]
 clear hc
 have key : b * 2 ^ (e - -5000).toNat < a * 2 ^ (d - -5000).toNat := by
  rcases Int.le_total 5000 D with hD | hD
  ·obtain ⟨s, hs⟩ : ∃ s : Nat, D = 5000 + s := ⟨(D - 5000).toNat, by omega⟩
   rw [show (e + D).toNat = (e - -5000).toNat + s by omega, show (d + D).toNat = (d - -5000).toNat + s by omega, Nat.pow_add, Nat.pow_add, ← Nat.mul_assoc, ← Nat.mul_assoc] at h3
   exact Nat.lt_of_mul_lt_mul_right h3
  ·obtain ⟨s, hs⟩ : ∃ s : Nat, D + s = 5000 := ⟨(5000 - D).toNat, by omega⟩
   rw [show (e - -5000).toNat = (e + D).toNat + s by omega, show (d - -5000).toNat = (d + D).toNat + s by omega, Nat.pow_add, Nat.pow_add, ← Nat.mul_assoc, ← Nat.mul_assoc]
   exact Nat.mul_lt_mul_of_pos_right h3 (p2 s)
 have e1 : ∀ x y : Nat, x * c * y = c * (x * y) := fun x y => by ac_rfl
 rw [e1, e1]
 exact Nat.mul_lt_mul_of_pos_left key hcp
structure Ok3 (f : Fm) : Prop where
 two : f.k = 2 → 0 ≤ f.b ∧ f.b ≤ 1023 ∧ f.t.toNat / 2 ^ f.m.toNat ≤ 2047
 most : f.n ≠ 0 → f.k = 2 ∧ f.t < f.n ∧ f.n < half f
 big : 3 ≤ f.t
 nan : f.k = 2 → f.x ≠ 0 → f.t < f.x
theorem ok3 (i : Nat) (a : 1 ≤ i) (b : i ≤ 14) : Ok3 (tb i) := by
 refine all14 (p := fun i => Ok3 (tb i)) ?_ ?_ ?_ ?_ ?_ ?_ ?_ ?_ ?_ ?_ ?_ ?_ ?_ ?_ i a b <;> exact ⟨by decide +kernel, by decide, by decide, by decide⟩
theorem ism_z {p k m : Nat} {b z : Int} (h : IsM p b k m z) (hp : p ≤ 60) (hb : 0 ≤ b ∧ b ≤ 1023) (hk : k / 2 ^ p ≤ 2047) : -2000 ≤ z ∧ z ≤ 3000 := by
  have hl := mX_lt p k
  have h60 : 2 ^ p ≤ 2 ^ 60 := p2le hp
  have c60 : (2 : Nat) ^ 60 = 1152921504606846976 := by decide
  have hs := mS_eq p b k
  rcases h with ⟨_, rfl, rfl⟩ | ⟨g1, t, g2, g3⟩
  · exact ⟨by decide, by decide⟩
  · have p1 : m ≤ m * 2 ^ t := Nat.le_mul_of_pos_right _ (p2 t)
    have p3 : 2 ^ t ≤ m * 2 ^ t := Nat.le_mul_of_pos_left _ (by omega)
    have t62 : t < 62 := p2inj (by have : (2 : Nat) ^ 62 = 4611686018427387904 := by decide
                                   omega)
    exact ⟨by omega, by omega⟩
theorem bd_z {f : Fm} (ok : Ok f) (ok2 : Ok2 f) (ok3 : Ok3 f) {k m : Nat} {z : Int} (hk : (k : Int) ≤ tp f) (h : Bd f k m z) : 0 < m ∧ m < 18446744073709551616 ∧ -3000 ≤ z ∧ z ≤ 3000 := by
 have hm := (bd_rng h).1
 have h0 := bd_nz h
 refine ⟨by omega, hm, ?_⟩
 unfold tp at hk
 rcases h with ⟨e, a, _, ha, haW, h⟩ | ⟨e, p, hp, hpm, ho, h⟩ | ⟨e, hm, k0, rfl, rfl⟩ | ⟨e, hb, hk', rfl, rfl⟩
 ·have := h.rng (by omega); omega
 ·obtain ⟨b1, b2, b3⟩ := ok3.two e
  rw [if_neg (by omega)] at hk
  have q : (2 * k + 1) / 2 ^ (p + 1) = k / 2 ^ p := by
   rw [p2s, ← Nat.div_div_eq_div_mul, show (2 * k + 1) / 2 = k by omega]
  have q2 : k / 2 ^ p ≤ 2047 := by
   refine Nat.le_trans (Nat.div_le_div_right (c := 2 ^ p) (show k ≤ f.t.toNat by omega)) ?_
   rw [show p = f.m.toNat by omega]
   exact b3
  have := ism_z h (by omega) ⟨b1, b2⟩ (by rw [q]; exact q2)
  omega
 ·have := ok2.tri e
  omega
 ·have := ok2.four e
  rw [if_neg (by omega)] at hk
  omega
theorem mg_z {f : Fm} (ok : Ok f) (ok2 : Ok2 f) (ok3 : Ok3 f) {k m : Nat} {z : Int} (hk : (k : Int) ≤ tp f) (h : Mg0 f k m z) : m < 18446744073709551616 ∧ -3000 ≤ z ∧ z ≤ 3000 := by
  have kb : k < 18446744073709551616 := by
    have hm := ok.hm
    have ht := ok.t
    have o1 := ok2.one
    have o3 := ok2.tri
    have o4 := ok2.four
    have o2 := ok.two
    unfold tp at hk
    rcases ok.k with e | e | e | e
    · rw [if_neg (by omega)] at hk; omega
    · rw [if_neg (by omega)] at hk; omega
    · rw [if_pos e] at hk; omega
    · rw [if_neg (by omega)] at hk; omega
  have hm := (mg_rng kb h).1
  refine ⟨hm, ?_⟩
  unfold tp at hk
  rcases h with ⟨_, _, _, rfl⟩ | ⟨h0, h⟩
  · exact ⟨by decide, by decide⟩
  · rcases h with ⟨e, a, ha, haW, h⟩ | ⟨e, p, hp, ho, h⟩ | ⟨e, hm', k0, ho, t, hk', hz⟩ | ⟨e, hb, hk', rfl, rfl⟩
    · have := h.rng ha; omega
    · obtain ⟨b1, b2, b3⟩ := ok3.two e
      rw [if_neg (by omega)] at hk
      have q2 : k / 2 ^ p ≤ 2047 := by
        refine Nat.le_trans (Nat.div_le_div_right (c := 2 ^ p) (show k ≤ f.t.toNat by omega)) ?_
        rw [show p = f.m.toNat by omega]
        exact b3
      have := ism_z h ho.1 ⟨b1, b2⟩ q2
      omega
    · have p3 : 2 ^ t ≤ m * 2 ^ t := Nat.le_mul_of_pos_left _ (by omega)
      have t64 : t < 64 := p2inj (by have : (2 : Nat) ^ 64 = 18446744073709551616 := by decide
                                     omega)
      have := ok2.tri e
      omega
    · have := ok2.four e
      rw [if_neg (by omega)] at hk
      omega
def Bo (f : Fm) (k X : Nat) : Prop := ∃ m z, Bd f k m z ∧ sz m z 0 = X
theorem bo_ex {f : Fm} (ok : Ok f) (ok2 : Ok2 f) {k : Nat} (hk : (k : Int) ≤ tp f) : ∃ X, Bo f k X := by
 obtain ⟨m, z, h⟩ := bd_ex ok ok2 hk
 exact ⟨_, m, z, h, rfl⟩
theorem bo_step {f : Fm} (ok : Ok f) (ok2 : Ok2 f) (ok3 : Ok3 f) {k X Y : Nat} (hk : ((k + 1 : Nat) : Int) ≤ tp f) (h : Bo f k X) (h' : Bo f (k + 1) Y) : X < Y := by
 obtain ⟨m, z, h, rfl⟩ := h
 obtain ⟨m', z', h', rfl⟩ := h'
 obtain ⟨n, y, hn⟩ := mg0_ex ok ok2 hk
 have b1 := bd_z ok ok2 ok3 (k := k) (by omega) h
 have b2 := bd_z ok ok2 ok3 hk h'
 have b3 := mg_z ok ok2 ok3 hk hn
 obtain ⟨n0, g1⟩ := gt_next h hn
 rcases gt_mid hn h' with e | ⟨_, g2⟩
 ·exact absurd e n0
 ·exact Nat.lt_trans (gt_sz (by omega) (by omega) g1) (gt_sz (by omega) (by omega) g2)
theorem bo_uniq {f : Fm} {k X Y : Nat} (h : Bo f k X) (h' : Bo f k Y) : X = Y := by
 obtain ⟨m, z, h, rfl⟩ := h
 obtain ⟨m', z', h', rfl⟩ := h'
 have key : m = m' ∧ z = z' := by
  rcases h with ⟨e, a, _, ha, haW, h⟩ | ⟨e, p, hp, hpm, ho, h⟩ | ⟨e, hm, k0, rfl, rfl⟩ | ⟨e, hb, hk', rfl, rfl⟩
  ·rcases h' with ⟨_, a', _, ha', haW', h'⟩ | ⟨e', _⟩ | ⟨e', _⟩ | ⟨e', _⟩
   ·obtain rfl : a = a' := by omega
    exact isk_uniq h h'
   ·omega
   ·omega
   ·omega
  ·rcases h' with ⟨e', _⟩ | ⟨_, p', hp', hpm', ho', h'⟩ | ⟨e', _⟩ | ⟨e', _⟩
   ·omega
   ·obtain rfl : p = p' := by omega
    rcases h with ⟨g, rfl, rfl⟩ | ⟨g1, t, g2, rfl⟩
    ·rcases h' with ⟨_, rfl, rfl⟩ | ⟨g1', t', g2', _⟩
     ·exact ⟨rfl, rfl⟩
     ·have := p2 t'
      rw [g] at g2'
      rcases Nat.mul_eq_zero.1 g2'.symm with e1 | e1 <;> omega
    ·rcases h' with ⟨g, rfl, rfl⟩ | ⟨g1', t', g2', rfl⟩
     ·have := p2 t
      rw [g] at g2
      rcases Nat.mul_eq_zero.1 g2.symm with e1 | e1 <;> omega
     ·obtain ⟨e1, e2⟩ := odd_uniq g1 g1' (g2.symm.trans g2')
      exact ⟨e1, by rw [e2]⟩
   ·omega
   ·omega
  ·rcases h' with ⟨e', _⟩ | ⟨e', _⟩ | ⟨_, _, _, rfl, rfl⟩ | ⟨e', _⟩
   ·omega
   ·omega
   ·exact ⟨rfl, rfl⟩
   ·omega
  ·rcases h' with ⟨e', _⟩ | ⟨e', _⟩ | ⟨e', _⟩ | ⟨_, _, _, rfl, rfl⟩
   ·omega
   ·omega
   ·omega
   ·exact ⟨rfl, rfl⟩
 rw [key.1, key.2]
theorem bo_lt {f : Fm} (ok : Ok f) (ok2 : Ok2 f) (ok3 : Ok3 f) : ∀ (d k X Y : Nat), ((k + d + 1 : Nat) : Int) ≤ tp f → Bo f k X → Bo f (k + d + 1) Y → X < Y := by
 intro d
 induction d with
 | zero => intro k X Y hk h h'; exact bo_step ok ok2 ok3 hk h h'
 | succ d ih =>
  intro k X Y hk h h'
  obtain ⟨Z, hz⟩ := bo_ex ok ok2 (k := k + d + 1) (by omega)
  exact Nat.lt_trans (ih k X Z (by omega) h hz) (bo_step ok ok2 ok3 (k := k + d + 1) hk hz h')
def Byd (f : Fm) (X k : Nat) : Prop := ∃ Y, Bo f k Y ∧ (Y < X ∨ (Y = X ∧ k % 2 = 1))
theorem byd_iff {f : Fm} {X k Y : Nat} (h : Bo f k Y) : Byd f X k ↔ (Y < X ∨ (Y = X ∧ k % 2 = 1)) := by
 constructor
 ·rintro ⟨Z, h', hz⟩
  rw [bo_uniq h h']; exact hz
 ·exact fun e => ⟨Y, h, e⟩
theorem byd_down {f : Fm} (ok : Ok f) (ok2 : Ok2 f) (ok3 : Ok3 f) {X k k' : Nat} (hk : (k' : Int) ≤ tp f) (h : k ≤ k') (hb : Byd f X k') : Byd f X k := by
 rcases Nat.eq_or_lt_of_le h with rfl | h
 ·exact hb
 ·obtain ⟨Y, h1, h2⟩ := hb
  obtain ⟨Z, hz⟩ := bo_ex ok ok2 (k := k) (by omega)
  obtain ⟨d, rfl⟩ : ∃ d, k' = k + d + 1 := ⟨k' - k - 1, by omega⟩
  have := bo_lt ok ok2 ok3 d k Z Y hk hz h1
  exact ⟨Z, hz, .inl (by omega)⟩
theorem byd_zero {f : Fm} {k : Nat} : ¬ Byd f 0 k := by
 rintro ⟨Y, ⟨m, z, h, rfl⟩, h2⟩
 have h0 := bd_nz h
 have : sz m z 0 ≠ 0 := fun e => h0 (sz_zero.1 e)
 omega
def Nr (f : Fm) (q X k : Nat) (over : Bool) : Prop :=
 (over = true ∧ k = q ∧ Byd f X q) ∨
 (over = false ∧ k ≤ q ∧ ¬ Byd f X k ∧ (f.k = 1 → X ≠ 0 → k ≠ 0) ∧ ∀ j, j < k → Byd f X j ∨ (f.k = 1 ∧ X ≠ 0 ∧ j = 0))
theorem nr_uniq {f : Fm} (ok : Ok f) (ok2 : Ok2 f) (ok3 : Ok3 f) {q X k k' : Nat} {o o' : Bool} (hq : (q : Int) ≤ tp f) (h : Nr f q X k o) (h' : Nr f q X k' o') : k = k' ∧ o = o' := by
 have key : ∀ {k k' : Nat}, k < k' → (¬ Byd f X k ∧ (f.k = 1 → X ≠ 0 → k ≠ 0)) → (∀ j, j < k' → Byd f X j ∨ (f.k = 1 ∧ X ≠ 0 ∧ j = 0)) → False := by
  intro k k' hl h1 h2
  rcases h2 k hl with e | ⟨e1, e2, e3⟩
  ·exact h1.1 e
  ·exact h1.2 e1 e2 e3
 rcases h with ⟨rfl, rfl, h⟩ | ⟨rfl, h1, h2, h3, h4⟩
 ·rcases h' with ⟨rfl, rfl, h'⟩ | ⟨rfl, g1, g2, g3, g4⟩
  ·exact ⟨rfl, rfl⟩
  ·exact absurd (byd_down ok ok2 ok3 hq g1 h) g2
 ·rcases h' with ⟨rfl, rfl, h'⟩ | ⟨rfl, g1, g2, g3, g4⟩
  ·exact absurd (byd_down ok ok2 ok3 hq h1 h') h2
  ·refine ⟨?_, rfl⟩
   rcases Nat.lt_trichotomy k k' with e | e | e
   ·exact (key e ⟨h2, h3⟩ g4).elim
   ·exact e
   ·exact (key e ⟨g2, g3⟩ h4).elim
theorem nr_zero {f : Fm} {q : Nat} : Nr f q 0 0 false :=
 .inr ⟨rfl, Nat.zero_le _, byd_zero, fun _ h => absurd rfl h, fun j h => absurd h (Nat.not_lt_zero j)⟩
theorem nr_has {f : Fm} (ok : Ok f) (ok2 : Ok2 f) (ok3 : Ok3 f) {q k m : Nat} {z : Int} (hq : (q : Int) ≤ tp f) (hk : k ≤ q) (h : Mg0 f k m z) : Nr f q (sz m z 0) k false := by
 have b3 := mg_z ok ok2 ok3 (k := k) (by omega) h
 have up : ∀ j, k ≤ j → j ≤ q → ¬ Byd f (sz m z 0) j := by
  intro j h1 h2 hb
  obtain ⟨Y, ⟨n, y, hn, rfl⟩, h3⟩ := byd_down ok ok2 ok3 (by omega) h1 hb
  have b1 := bd_z ok ok2 ok3 (k := k) (by omega) hn
  rcases gt_mid h hn with e | ⟨_, g⟩
  ·subst e
   rw [sz_zero.2 rfl] at h3
   have : sz n y 0 ≠ 0 := fun e => by have := sz_zero.1 e; omega
   omega
  ·have := gt_sz (by omega) (by omega) g
   omega
 refine .inr ⟨rfl, hk, up k (Nat.le_refl _) hk, ?_, ?_⟩
 ·intro e h0 e0
  subst e0
  rcases h with ⟨_, _, rfl, _⟩ | ⟨h1, _⟩
  ·exact h0 (sz_zero.2 rfl)
  ·omega
 ·intro j hj
  refine .inl ?_
  obtain ⟨k', rfl⟩ : ∃ k', k = k' + 1 := ⟨k - 1, by omega⟩
  refine byd_down ok ok2 ok3 (k' := k') (by omega) (by omega) ?_
  obtain ⟨n, y, hn⟩ := bd_ex ok ok2 (k := k') (by omega)
  have b1 := bd_z ok ok2 ok3 (k := k') (by omega) hn
  exact ⟨_, ⟨n, y, hn, rfl⟩, .inl (gt_sz (by omega) (by omega) (gt_next hn h).2)⟩
end M
end Go.Proofs.YtcmlanfgafancaaGreatDoor
namespace Go.Proofs.YtcmlanfgafancaaGreatDoor
open Go.RowKit Go.Shelf
namespace M
def dz (a : Nat) : List UInt8 := if a = 0 then [] else Lib.decDigits a
theorem dd_step (a : Nat) : Lib.decDigits a = dz (a / 10) ++ [UInt8.ofNat (48 + a % 10)] := by
 unfold dz
 by_cases h : a < 10
 ·rw [if_pos (by omega), Lib.decDigits_one h, Nat.mod_eq_of_lt h]; rfl
 ·rw [if_neg (by omega)]
  conv => lhs; rw [Lib.decDigits, dif_neg h]
end M
end Go.Proofs.YtcmlanfgafancaaGreatDoor
