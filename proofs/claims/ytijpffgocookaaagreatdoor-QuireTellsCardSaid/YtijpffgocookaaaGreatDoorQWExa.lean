import Derived.Test.YtijpffgocookaaaGreatDoorQWNa
import Derived.Deep.RegionHeld3
import Derived.Deep.DrawnRows
set_option maxHeartbeats 32000000
set_option linter.unusedVariables false
set_option linter.unusedSimpArgs false
namespace Go.Proofs.YtijpffgocookaaaGreatDoor
open Go.RowKit Go.Shelf
theorem bits_at2 (w : World) (lo s : Nat) (v : Value) (a : Nat) (z : Int) (h : Nw w lo s v a) (e : Hid ((M.bits a : Int) = z)) : Calls Tryz.prog 42 #[v] w (Same (.int .i64 z) w) := by
 have := bits_any w lo s v a h
 rwa [e.out] at this
abbrev xv (neg : Bool) (v : Value) (t f : Int) : Value := .agg #[.bool neg, v, .int .i64 t, .int .i64 f]
def Num (z : Int) (w : World) (e : Ending) (w' : World) : Prop := e = .returned (.int .i64 z) ∧ Up w w'
def Boo (t : Bool) (w : World) (e : Ending) (w' : World) : Prop := e = .returned (.bool t) ∧ Up w w'
theorem nearestPower_any (w : World) (k z : Int) (hz : Hid (max (-5000) (min k 5000) = z)) : Calls Tryz.prog 116 #[.int .i64 k] w (Same (.int .i64 z) w) := by
 go_enter Tryz.func116, Tryz.ntmps116
 go_wp2_with fail
 go_ret
 exact ⟨ret_int hz.out, rfl⟩
theorem mayBePower_any (w : World) (k : Int) (t : Bool) (ht : Hid (decide (-5000 ≤ k ∧ k ≤ 5000) = t)) : Calls Tryz.prog 89 #[.int .i64 k] w (Same (.bool t) w) := by
 obtain ⟨z, hz⟩ : ∃ z, max (-5000) (min k 5000) = z := ⟨_, rfl⟩
 have HT : Hid ((k == z) = t) := by
  rw [Hid, ← ht.out, Bool.eq_iff_iff, beq_iff_eq, decide_eq_true_iff]
  omega
 have CN := Lib.hid (nearestPower_any w k z hz)
 clear hz ht
 go_enter Tryz.func89, Tryz.ntmps89
 go_wp2_with fail
 refine CN.out.mono ?_
 rintro _ _ ⟨rfl, rfl⟩
 go_wp2_with fail
 go_ret
 exact ⟨ret_bool HT.out, rfl⟩
theorem M.bits_eq_zero (a : Nat) : (((M.bits a : Nat) : Int) == 0) = decide (a = 0) := by
 rw [Bool.eq_iff_iff, beq_iff_eq, decide_eq_true_iff]
 constructor
 ·intro h
  rcases Nat.eq_zero_or_pos a with h0 | h0
  ·exact h0
  ·have := M.bits_pos (a := a) (by omega); omega
 ·intro h; rw [h]; rfl
theorem isNought_any (w : World) (lo s : Nat) (v : Value) (a : Nat) (h : Nw w lo s v a) (t : Bool) (ht : Hid (decide (a = 0) = t)) : Calls Tryz.prog 94 #[v] w (Same (.bool t) w) := by
 obtain ⟨z, hz⟩ : ∃ z : Int, ((M.bits a : Nat) : Int) = z := ⟨_, rfl⟩
 have HT : Hid ((z == 0) = t) := by rw [Hid, ← hz, M.bits_eq_zero]; exact ht.out
 have CB := Lib.hid (bits_at2 w lo s v a z h hz)
 obtain ⟨A, n, c, xs, rfl, _, _, _⟩ := h
 clear hz ht
 go_enter Tryz.func94, Tryz.ntmps94
 go_wp2_with fail
 refine CB.out.mono ?_
 rintro _ _ ⟨rfl, rfl⟩
 go_wp2_with fail
 go_ret
 exact ⟨ret_bool HT.out, rfl⟩
theorem xtimes_any (w : World) (lo s : Nat) (v : Value) (a : Nat) (h : Nw w lo s v a) (hs : s ≤ 50000000) (two five : Int) (T F : Nat) (hT : Hid (max 0 (min two 131072) = (T : Int))) (hF : Hid (max 0 (min five 10000) = (F : Int))) :
  Calls Tryz.prog 169 #[v, .int .i64 two, .int .i64 five] w (Res (s + F + T / 64 + 3) (a * 5 ^ F * 2 ^ T) w) := by
 have CP := Lib.hid (pow_any w 5 F five (by omega) hF.out)
 have hF1 : F ≤ 10000 := by have := hF.out; omega
 obtain ⟨A, n, c, xs, rfl, hx, ha, hns⟩ := h
 have HA := Lib.hid ha
 clear ha hF
 go_enter Tryz.func169, Tryz.ntmps169
 go_wp2_with fail
 refine CP.out.mono ?_
 rintro _ w1 ⟨v1, rfl, h1, hu1⟩
 have hv : Nw w1 lo s (.slice A n c) a := ⟨A, n, c, xs, rfl, hx.up hu1, HA.out, hns⟩
 go_wp2_with fail
 refine (mul_any w1 _ _ _ _ _ _ _ _ hv h1.nw (by omega) (by omega)).mono ?_
 rintro _ w2 ⟨v2, rfl, h2, hu2⟩
 go_wp2_with fail
 refine (shl_any w2 _ _ _ _ h2.nw (by omega) two T hT.out).mono ?_
 rintro _ w3 ⟨v3, rfl, h3, hu3⟩
 go_wp2_with fail
 go_ret
 exact ⟨v3, rfl, (h3.lower (Up.size (hu1.trans hu2))).more (by omega), (hu1.trans hu2).trans hu3⟩
theorem cell_up {w w' : World} (hu : Up w w') {p : Addr} {v : Value} (h : w.cell? p = some v) : w'.cell? p = some v := by
 rw [Below.cell hu (World.block_lt_of_cell? w _ h)]; exact h
theorem frozen_up {w w' : World} (hu : Up w w') {p : Addr} {v : Value} (h : w.cell? p = some v) (k : w.frozen? p = false) : w'.frozen? p = false := by
 rw [Below.frozen hu (World.block_lt_of_cell? w _ h)]; exact k
theorem xtimes_up (w w' : World) (lo s : Nat) (v : Value) (a : Nat) (h : Nw w lo s v a) (hu : Up w w') (hs : s ≤ 50000000) (two five : Int) (T F : Nat) (hT : Hid (max 0 (min two 131072) = (T : Int))) (hF : Hid (max 0 (min five 10000) = (F : Int))) :
  Calls Tryz.prog 169 #[v, .int .i64 two, .int .i64 five] w' (Res (s + F + T / 64 + 3) (a * 5 ^ F * 2 ^ T) w') := xtimes_any w' lo s v a (h.up hu) hs two five T F hT hF
set_option maxRecDepth 100000 in
theorem xcmp_any (w : World) (lo lo' s s' : Nat) (neg neg' : Bool) (v v' : Value) (t f t' f' : Int) (a b : Nat) (h : Nw w lo s v a) (h' : Nw w lo' s' v' b) (hs : s ≤ 1000000) (hs' : s' ≤ 1000000)
  (bt : -1000000 ≤ t ∧ t ≤ 1000000) (bf : -1000000 ≤ f ∧ f ≤ 1000000) (bt' : -1000000 ≤ t' ∧ t' ≤ 1000000) (bf' : -1000000 ≤ f' ∧ f' ≤ 1000000)
  (T F T' F' : Nat) (hT : Hid (max 0 (min (t - t') 131072) = (T : Int))) (hF : Hid (max 0 (min (f - f') 10000) = (F : Int))) (hT' : Hid (max 0 (min (-(t - t')) 131072) = (T' : Int))) (hF' : Hid (max 0 (min (-(f - f')) 10000) = (F' : Int)))
  (z : Int) (hz : Hid (M.cmp (a * 5 ^ F * 2 ^ T) (b * 5 ^ F' * 2 ^ T') = z)) :
  Calls Tryz.prog 148 #[xv neg v t f, xv neg' v' t' f'] w (Num z w) := by
 obtain ⟨D, hD⟩ : ∃ D, t - t' = D := ⟨_, rfl⟩
 obtain ⟨E, hE⟩ : ∃ E, f - f' = E := ⟨_, rfl⟩
 have bD : -2000000 ≤ D ∧ D ≤ 2000000 := by omega
 have bE : -2000000 ≤ E ∧ E ≤ 2000000 := by omega
 rw [hD] at hT hT'
 rw [hE] at hF hF'
 have w1 : IntKind.i64.wrap (t - t') = D := by rw [hD]; simp [IntKind.wrap, IntKind.bits, IntKind.signed]; omega
 have w2 : IntKind.i64.wrap (f - f') = E := by rw [hE]; simp [IntKind.wrap, IntKind.bits, IntKind.signed]; omega
 have w1' : IntKind.i64.wrap D = D := by simp [IntKind.wrap, IntKind.bits, IntKind.signed]; omega
 have w2' : IntKind.i64.wrap E = E := by simp [IntKind.wrap, IntKind.bits, IntKind.signed]; omega
 have w3' : IntKind.i64.wrap (-D) = -D := by simp [IntKind.wrap, IntKind.bits, IntKind.signed]; omega
 have w4' : IntKind.i64.wrap (-E) = -E := by simp [IntKind.wrap, IntKind.bits, IntKind.signed]; omega
 clear bt bf bt' bf'
 go_enter Tryz.func148, Tryz.ntmps148
 go_wp2_with fail
 go_quiet (fail)
 obtain ⟨W, hW⟩ : ∃ W, ((w.alloc (.cells #[.bool neg, v, .int .i64 t, .int .i64 f] 34)).alloc (.cells #[.bool neg', v', .int .i64 t', .int .i64 f'] 34)).drewN nq = W := ⟨_, rfl⟩
 have hu : Up w W := by rw [← hW]; exact ((((Up.refl w).alloc _).alloc _).drewN _)
 have c1 : W.cell? ⟨w.heap.size, 1, none⟩ = some v := by rw [← hW]; simp
 have c2 : W.cell? ⟨w.heap.size + 1, 1, none⟩ = some v' := by rw [← hW]; simp
 rw [hW]
 clear hW
 have hh := h.up hu
 have hh' := h'.up hu
 go_wp2_with fail
 go_region_held3 (fun w' => w'.cell? ⟨w.heap.size, 1, none⟩ = some v ∧ w'.cell? ⟨w.heap.size + 1, 1, none⟩ = some v') (go_keep) (first
  | (go_at_call_of 169 v; (with_reducible refine (xtimes_up W _ lo s v a hh ?_ (by omega) _ _ T F hT hF).mono ?_); (first | with_reducible assumption | exact (Up.refl _).drewN 1); rintro _ wA ⟨vA, rfl, hA, hua⟩; have uA : Up W wA := Up.trans (by first | with_reducible assumption | exact (Up.refl W).drewN 1) hua; have kA := cell_up uA c1; have kA' := cell_up uA c2)
  | (go_at_call_of 169 v'; (with_reducible refine (xtimes_up W _ lo' s' v' b hh' ?_ (by omega) _ _ T' F' hT' hF').mono ?_); (first | with_reducible assumption | exact (Up.refl _).drewN 1); rintro _ wB ⟨vB, rfl, hB, hub⟩; have uB : Up W wB := Up.trans (by first | with_reducible assumption | exact (Up.refl W).drewN 1) hub; have kB := cell_up uB c1; have kB' := cell_up uB c2)
  | (go_at_call 61; (first
   | (with_reducible refine (cmp_at _ _ _ _ _ _ _ _ _ z (hA.up hub).nw hB.nw hz).mono ?_)
   | (with_reducible refine (cmp_at _ _ _ _ _ _ _ _ _ z hA.nw (hB.up hua).nw hz).mono ?_)); rintro _ wC ⟨rfl, kk, rfl⟩))
 all_goals
  go_wp2_with fail
  go_ret
  first
   | exact ⟨rfl, hu.trans ((uA.trans hub).drewN _)⟩
   | exact ⟨rfl, hu.trans ((uB.trans hua).drewN _)⟩
namespace M
def ov (a : Nat) (t f m : Int) : Nat := a * 5 ^ (f - m).toNat * 2 ^ (t - m).toNat
theorem ov_zero {a : Nat} {t f m : Int} : ov a t f m = 0 ↔ a = 0 := by
 unfold ov
 have h1 : 0 < 5 ^ (f - m).toNat := Nat.pow_pos (by omega)
 have h2 : 0 < 2 ^ (t - m).toNat := Nat.pow_pos (by omega)
 rw [Nat.mul_eq_zero, Nat.mul_eq_zero]
 omega
theorem cmp_ov {a b : Nat} {t f t' f' m : Int} {T F T' F' : Nat} (h1 : m ≤ t) (h2 : m ≤ f) (h3 : m ≤ t') (h4 : m ≤ f') (b1 : t - t' ≤ 131072) (b2 : t' - t ≤ 131072) (b3 : f - f' ≤ 10000) (b4 : f' - f ≤ 10000)
  (hT : max 0 (min (t - t') 131072) = (T : Int)) (hF : max 0 (min (f - f') 10000) = (F : Int)) (hT' : max 0 (min (-(t - t')) 131072) = (T' : Int)) (hF' : max 0 (min (-(f - f')) 10000) = (F' : Int)) :
  cmp (a * 5 ^ F * 2 ^ T) (b * 5 ^ F' * 2 ^ T') = cmp (ov a t f m) (ov b t' f' m) := by
 obtain ⟨c2, hc2⟩ : ∃ c2 : Nat, (c2 : Int) = min t t' - m := ⟨(min t t' - m).toNat, by omega⟩
 obtain ⟨c5, hc5⟩ : ∃ c5 : Nat, (c5 : Int) = min f f' - m := ⟨(min f f' - m).toNat, by omega⟩
 have e1 : (t - m).toNat = T + c2 := by omega
 have e2 : (f - m).toNat = F + c5 := by omega
 have e3 : (t' - m).toNat = T' + c2 := by omega
 have e4 : (f' - m).toNat = F' + c5 := by omega
 have hp : 0 < 5 ^ c5 * 2 ^ c2 := Nat.mul_pos (Nat.pow_pos (by omega)) (Nat.pow_pos (by omega))
 have k1 : ∀ (x F T : Nat), x * 5 ^ (F + c5) * 2 ^ (T + c2) = x * 5 ^ F * 2 ^ T * (5 ^ c5 * 2 ^ c2) := by
  intro x F T
  rw [Nat.pow_add, Nat.pow_add]
  simp only [Nat.mul_assoc, Nat.mul_left_comm, Nat.mul_comm]
 unfold ov
 rw [e1, e2, e3, e4, k1, k1, cmp_times _ _ _ hp]
end M
theorem xcmp_ov (m : Int) (bm : -1000000 ≤ m ∧ m ≤ 900000) (w : World) (lo lo' s s' : Nat) (neg neg' : Bool) (v v' : Value) (t f t' f' : Int) (a b : Nat) (h : Nw w lo s v a) (h' : Nw w lo' s' v' b) (hs : s ≤ 1000000) (hs' : s' ≤ 1000000)
  (bt : m ≤ t ∧ t ≤ m + 10000) (bf : m ≤ f ∧ f ≤ m + 10000) (bt' : m ≤ t' ∧ t' ≤ m + 10000) (bf' : m ≤ f' ∧ f' ≤ m + 10000) (z : Int) (hz : Hid (M.cmp (M.ov a t f m) (M.ov b t' f' m) = z)) :
  Calls Tryz.prog 148 #[xv neg v t f, xv neg' v' t' f'] w (Num z w) := by
 refine xcmp_any w lo lo' s s' neg neg' v v' t f t' f' a b h h' hs hs' (by omega) (by omega) (by omega) (by omega) (max 0 (min (t - t') 131072)).toNat (max 0 (min (f - f') 10000)).toNat (max 0 (min (-(t - t')) 131072)).toNat (max 0 (min (-(f - f')) 10000)).toNat
  (by show _ = _; omega) (by show _ = _; omega) (by show _ = _; omega) (by show _ = _; omega) z ?_
 rw [Hid, M.cmp_ov (m := m) bt.1 bf.1 bt'.1 bf'.1 (by omega) (by omega) (by omega) (by omega) (by omega) (by omega) (by omega) (by omega)]
 exact hz.out
def Bx (w : World) (b : Nat) (neg : Bool) (v : Value) (t f : Int) : Prop :=
 (w.cell? ⟨b, 0, none⟩ = some (.bool neg) ∧ w.cell? ⟨b, 1, none⟩ = some v ∧ w.cell? ⟨b, 2, none⟩ = some (.int .i64 t) ∧ w.cell? ⟨b, 3, none⟩ = some (.int .i64 f)) ∧
 w.frozen? ⟨b, 0, none⟩ = false ∧ w.frozen? ⟨b, 1, none⟩ = false ∧ w.frozen? ⟨b, 2, none⟩ = false ∧ w.frozen? ⟨b, 3, none⟩ = false
theorem Bx.mk_ (w : World) (neg : Bool) (v : Value) (t f : Int) : Bx (w.alloc (.cells #[.bool neg, v, .int .i64 t, .int .i64 f] 34)) w.heap.size neg v t f := by
 refine ⟨⟨?_, ?_, ?_, ?_⟩, ?_, ?_, ?_, ?_⟩ <;> simp
theorem Bx.up {w w' : World} {b : Nat} {neg : Bool} {v : Value} {t f : Int} (h : Bx w b neg v t f) (hu : Up w w') : Bx w' b neg v t f := by
 obtain ⟨⟨a0, a1, a2, a3⟩, b0, b1, b2, b3⟩ := h
 exact ⟨⟨cell_up hu a0, cell_up hu a1, cell_up hu a2, cell_up hu a3⟩, frozen_up hu a0 b0, frozen_up hu a1 b1, frozen_up hu a2 b2, frozen_up hu a3 b3⟩
theorem lit1n (w : World) (x : Nat) (X : Int) (hX : X = (x : Int)) (hx : x < 18446744073709551616) (h0 : x ≠ 0) :
  Nt (w.alloc (.cells #[.int .u64 X] 30)) w.heap.size 1 (.slice (some ⟨w.heap.size, 0, none⟩) 1 1) x :=
 ⟨_, 1, 1, [x], rfl, lit1_wd w x X hX hx, by simp [M.val], by omega, by simp [M.Nrm, h0]⟩
theorem lit1_at (o : Obj) (w : World) (x : Nat) (X : Int) (hX : X = (x : Int)) (hx : x < 18446744073709551616) (h0 : x ≠ 0) :
  Nt ((w.alloc o).alloc (.cells #[.int .u64 X] 30)) (w.heap.size + 1) 1 (.slice (some ⟨w.heap.size + 1, 0, none⟩) 1 1) x := by
 have := lit1n (w.alloc o) x X hX hx h0
 rwa [show (w.alloc o).heap.size = w.heap.size + 1 from Array.size_push _] at this
abbrev set4 (w : World) (b : Nat) (u0 u1 u2 u3 : Value) : World := (((w.setCell ⟨b, 0, none⟩ u0).setCell ⟨b, 1, none⟩ u1).setCell ⟨b, 2, none⟩ u2).setCell ⟨b, 3, none⟩ u3
theorem Nt.set4 {w : World} {lo s : Nat} {v : Value} {a : Nat} (h : Nt w lo s v a) {b : Nat} (hb : b < lo) (u0 u1 u2 u3 : Value) : Nt (set4 w b u0 u1 u2 u3) lo s v a := by
 obtain ⟨A, n, c, xs, e, h1, h2⟩ := h
 exact ⟨A, n, c, xs, e, (((h1.set_other (p := ⟨b, 0, none⟩) hb u0).set_other (p := ⟨b, 1, none⟩) hb u1).set_other (p := ⟨b, 2, none⟩) hb u2).set_other (p := ⟨b, 3, none⟩) hb u3, h2⟩
theorem Up.set4 {w w' : World} (h : Up w w') {b : Nat} (hb : w.heap.size ≤ b) (u0 u1 u2 u3 : Value) : Up w (set4 w' b u0 u1 u2 u3) :=
 (((h.setCell (p := ⟨b, 0, none⟩) hb u0).setCell (p := ⟨b, 1, none⟩) hb u1).setCell (p := ⟨b, 2, none⟩) hb u2).setCell (p := ⟨b, 3, none⟩) hb u3
abbrev M.pw (k : Int) : Prop := -5000 ≤ k ∧ k ≤ 5000
theorem right_any (w : World) (neg : Bool) (A : Option Addr) (n c y : Nat) (t f : Int) (hn : n ≤ 9223372036854775807) (hcell : 0 < n → ∃ ad, A = some ad ∧ w.cell? (ad.add (n - 1)) = some (u64 y))
  (r : Bool) (hr : Hid (decide ((n = 0 ∨ y ≠ 0) ∧ n ≤ 128 ∧ M.pw t ∧ M.pw f) = r)) :
  Calls Tryz.prog 54 #[xv neg (.slice A n c) t f] w (Boo r w) := by
 have hu := (Up.refl w).alloc (.cells #[.bool neg, .slice A n c, .int .i64 t, .int .i64 f] 34)
 obtain ⟨t1, ht1⟩ : ∃ t1, decide (M.pw t) = t1 := ⟨_, rfl⟩
 obtain ⟨f1, hf1⟩ : ∃ f1, decide (M.pw f) = f1 := ⟨_, rfl⟩
 have CT := Lib.hid (fun w' => mayBePower_any w' t t1 ht1)
 have CF := Lib.hid (fun w' => mayBePower_any w' f f1 hf1)
 have hrest : Hid ((n = 0 ∨ y ≠ 0) → r = (decide (n ≤ 128) && (t1 && f1))) := by
  intro h
  rw [← hr.out, ← ht1, ← hf1]
  rw [Bool.eq_iff_iff]
  simp only [decide_eq_true_iff, Bool.and_eq_true]
  exact ⟨fun ⟨_, b⟩ => b, fun b => ⟨h, b⟩⟩
 rcases Nat.eq_zero_or_pos n with h0 | h0
 ·subst h0
  have hR := hrest.out (.inl rfl)
  simp only [Nat.zero_le, decide_true, Bool.true_and] at hR
  have HR := Lib.hid hR
  clear hrest hr hcell ht1 hf1 hR
  rcases t1 with _ | _
  ·go_enter Tryz.func54, Tryz.ntmps54
   go_wp2_with fail
   refine (CT.out _).mono ?_
   rintro _ _ ⟨rfl, rfl⟩
   go_wp2_with fail
   go_ret
   exact ⟨ret_bool HR.out.symm, hu⟩
  ·go_enter Tryz.func54, Tryz.ntmps54
   go_wp2_with fail
   refine (CT.out _).mono ?_
   rintro _ _ ⟨rfl, rfl⟩
   go_wp2_with fail
   refine (CF.out _).mono ?_
   rintro _ _ ⟨rfl, rfl⟩
   go_wp2_with fail
   go_ret
   exact ⟨ret_bool HR.out.symm, hu⟩
 ·obtain ⟨ad, rfl, hc⟩ := hcell h0
  have hc2 := cell_up hu hc
  have hn0 : ((n : Int) == 0) = false := by rw [beq_eq_false_iff_ne]; omega
  by_cases hy : y = 0
  ·have HR : Hid (r = false) := by
    rw [Hid, ← hr.out, decide_eq_false_iff_not]
    rintro ⟨h, _⟩
    omega
   subst hy
   clear hrest hr hcell ht1 hf1 CT CF hc
   go_enter Tryz.func54, Tryz.ntmps54
   go_wp2_with fail
   go_ret
   exact ⟨ret_bool HR.out.symm, hu⟩
  ·have HR := Lib.hid (hrest.out (.inr hy))
   have hy0 : ((y : Int) != 0) = true := by rw [bne_iff_ne]; omega
   clear hrest hr hcell ht1 hf1 hc hy
   by_cases h128 : n ≤ 128
   ·have HR2 : Hid (r = (t1 && f1)) := by rw [Hid, HR.out, decide_eq_true h128, Bool.true_and]
    clear HR
    rcases t1 with _ | _
    ·go_enter Tryz.func54, Tryz.ntmps54
     go_wp2_with fail
     refine (CT.out _).mono ?_
     rintro _ _ ⟨rfl, rfl⟩
     go_wp2_with fail
     go_ret
     exact ⟨ret_bool HR2.out.symm, hu⟩
    ·go_enter Tryz.func54, Tryz.ntmps54
     go_wp2_with fail
     refine (CT.out _).mono ?_
     rintro _ _ ⟨rfl, rfl⟩
     go_wp2_with fail
     refine (CF.out _).mono ?_
     rintro _ _ ⟨rfl, rfl⟩
     go_wp2_with fail
     go_ret
     exact ⟨ret_bool HR2.out.symm, hu⟩
   ·have HR2 : Hid (r = false) := by rw [Hid, HR.out, decide_eq_false h128, Bool.false_and]
    have hn128 : 128 < n := by omega
    clear HR CT CF h128
    go_enter Tryz.func54, Tryz.ntmps54
    go_wp2_with fail
    go_ret
    exact ⟨ret_bool HR2.out.symm, hu⟩
theorem right_nt (w : World) (lo s : Nat) (neg : Bool) (v : Value) (a : Nat) (t f : Int) (h : Nt w lo s v a) (r : Bool) (hr : Hid (decide (a < 18446744073709551616 ^ 128 ∧ M.pw t ∧ M.pw f) = r)) :
  Calls Tryz.prog 54 #[xv neg v t f] w (Boo r w) := by
 obtain ⟨A, n, c, xs, rfl, hx, hv, hs, hn⟩ := h
 have hl := hx.num
 refine right_any w neg A n c (xs.getD (n - 1) 0) t f (by have := hx.small; omega) (fun h0 => ?_) r ?_
 ·obtain ⟨b, o, rfl, _, hc⟩ := hx.at_ h0
  exact ⟨_, rfl, by rw [Addr.add_lit]; exact (hc (n - 1) (by omega)).1⟩
 ·have e1 : n = 0 ∨ xs.getD (n - 1) 0 ≠ 0 := by
   rcases Nat.eq_zero_or_pos n with h0 | h0
   ·exact .inl h0
   ·exact .inr (M.top_ne hn (by omega))
  have e2 : n ≤ 128 ↔ a < 18446744073709551616 ^ 128 := by
   constructor
   ·intro h
    have h1 := M.val_lt hx.wds
    rw [hl, hv] at h1
    exact Nat.lt_of_lt_of_le h1 (Nat.pow_le_pow_right (by omega) h)
   ·intro h
    rw [← hl]
    exact M.len_of_lt hn (by rw [hv]; exact h)
  rw [Hid, ← hr.out, Bool.eq_iff_iff, decide_eq_true_iff, decide_eq_true_iff, e2]
  exact ⟨fun ⟨_, b⟩ => b, fun b => ⟨e1, b⟩⟩
def Xo (neg : Bool) (s a : Nat) (t f : Int) (is : Bool) (w : World) (e : Ending) (w' : World) : Prop := ∃ v, e = .returned (.tuple #[xv neg v t f, .bool is]) ∧ Nt w' w.heap.size s v a ∧ Up w w'
abbrev vv (c : Int) (neg : Bool) (m : Nat) (e : Int) : Value := .agg #[.int .i64 c, .bool neg, u64 m, .int .i64 e]
theorem of_up (w w' : World) (x : Nat) (hx : x < 18446744073709551616) (_hu : Up w w') : Calls Tryz.prog 41 #[u64 x] w' (Res 1 x w') := of_any w' x hx
set_option maxRecDepth 100000 in
theorem xof_fin (w : World) (neg : Bool) (m : Nat) (e : Int) (hm : m < 18446744073709551616) (he : M.pw e) : Calls Tryz.prog 171 #[vv 2 neg m e] w (Xo neg 1 m e 0 true w) := by
 have CE := Lib.hid (fun w' => mayBePower_any w' e true (decide_eq_true he))
 clear he
 go_enter Tryz.func171, Tryz.ntmps171
 go_wp2_with fail
 refine (CE.out _).mono ?_
 rintro _ _ ⟨rfl, rfl⟩
 go_wp2_with fail
 have bA := Bx.mk_ (w.alloc (.cells #[.int .i64 2, .bool neg, .int .u64 (m : Int), .int .i64 e] 85)) false (.slice none 0 0) 0 0
 rw [show (w.alloc (.cells #[.int .i64 2, .bool neg, .int .u64 (m : Int), .int .i64 e] 85)).heap.size = w.heap.size + 1 from Array.size_push _] at bA
 obtain ⟨W, hW⟩ : ∃ W, (w.alloc (.cells #[.int .i64 2, .bool neg, .int .u64 (m : Int), .int .i64 e] 85)).alloc (.cells #[.bool false, .slice none 0 0, .int .i64 0, .int .i64 0] 34) = W := ⟨_, rfl⟩
 rw [hW] at bA
 have hu : Up w W := by rw [← hW]; exact (((Up.refl w).alloc _).alloc _)
 have c0 : W.cell? ⟨w.heap.size, 0, none⟩ = some (.int .i64 2) := by rw [← hW]; simp
 have c1 : W.cell? ⟨w.heap.size, 1, none⟩ = some (.bool neg) := by rw [← hW]; simp
 have c2 : W.cell? ⟨w.heap.size, 2, none⟩ = some (u64 m) := by rw [← hW]; simp
 have c3 : W.cell? ⟨w.heap.size, 3, none⟩ = some (.int .i64 e) := by rw [← hW]; simp
 rw [hW]
 clear hW
 have hsz : w.heap.size + 1 < W.heap.size := World.block_lt_of_cell? W _ bA.1.1
 go_region_held3 (fun w' => w'.cell? ⟨w.heap.size, 1, none⟩ = some (.bool neg) ∧ w'.cell? ⟨w.heap.size, 2, none⟩ = some (u64 m) ∧ w'.cell? ⟨w.heap.size, 3, none⟩ = some (.int .i64 e)) (first | go_keep | skip) ((go_at_call 41; (with_reducible refine (of_up W _ m hm ?_).mono ?_); (first | with_reducible assumption | exact (Up.refl _).drewN 1); rintro _ w1 ⟨_, rfl, ⟨A1, nn1, cc1, ys1, rfl, h1⟩, hu1⟩; have u1 : Up W w1 := Up.trans (by first | with_reducible assumption | exact (Up.refl W).drewN 1) hu1; have a1 := cell_up u1 c1; have a2 := cell_up u1 c2; have a3 := cell_up u1 c3; obtain ⟨⟨b0, b1, b2, b3⟩, g0, g1, g2, g3⟩ := bA.up u1))
 have hN : Nt w1 _ 1 (.slice A1 nn1 cc1) m := ⟨A1, nn1, cc1, ys1, rfl, h1⟩
 have fin : Xo neg 1 m e 0 true w (.returned (.tuple #[xv neg (.slice A1 nn1 cc1) e 0, .bool true])) (set4 w1 (w.heap.size + 1) (.bool neg) (.slice A1 nn1 cc1) (.int .i64 e) (.int .i64 0)) :=
  ⟨_, rfl, (hN.set4 hsz _ _ _ _).lower (Up.size hu.drew), (hu.trans u1).set4 (Nat.le_succ _) _ _ _ _⟩
 have FIN := Lib.hid fin
 clear fin hN bA c0 c1 c2 c3 a1 a2 a3 h1
 go_wp2_with fail
 exact bodyPost_ret (v := .tuple #[xv neg (.slice A1 nn1 cc1) e 0, .bool true]) (by simp [results, Tryz.results171, go_sem, b0, b1, b2, b3]) rfl FIN.out
end Go.Proofs.YtijpffgocookaaaGreatDoor
