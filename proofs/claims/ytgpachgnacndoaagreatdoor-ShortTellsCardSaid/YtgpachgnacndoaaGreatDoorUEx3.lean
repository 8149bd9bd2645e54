/-
  Package exact: part, Floor, Log10.
-/
import Derived.Test.YtgpachgnacndoaaGreatDoorULong
import Derived.Test.YtgpachgnacndoaaGreatDoorUExa
namespace Go.Proofs.YtgpachgnacndoaaGreatDoor
open Go.RowKit Go.Shelf

theorem nDigits_le' : ∀ (k u : Nat), u < 10 ^ (k + 1) → Lib.nDigits u ≤ k + 1
  | 0, u, h => by rw [Lib.nDigits_small (by simpa using h)]; exact Nat.le_refl _
  | k + 1, u, h => by
    by_cases h10 : u < 10
    · rw [Lib.nDigits_small h10]; omega
    · rw [Lib.nDigits_big h10]
      have := nDigits_le' k (u / 10) (by rw [Nat.pow_succ] at h; omega)
      omega
/-- What Floor tells of what is left. -/
def M.part (l w : Nat) : Int := if l = 0 then 0 else 2 + M.cmp (l * 2) w
set_option maxHeartbeats 400000 in
theorem part_any (w : World) (lo lo' s s' : Nat) (v v' : Value) (a b : Nat) (h : Nw w lo s v a) (h' : Nw w lo' s' v' b) (hs : s ≤ 100000000) (z : Int) (hz : Hid (M.part a b = z)) : Calls Tryz.prog 113 #[v, v'] w (Num z w) := by
  by_cases h0 : a = 0
  · have hz0 : Hid (z = 0) := by rw [Hid, ← hz.out, M.part, if_pos h0]
    have CI := Lib.hid (isNought_any w lo s v a h true (decide_eq_true h0))
    clear hz h0
    go_enter Tryz.func113, Tryz.ntmps113
    go_wp2_with fail
    refine CI.out.mono ?_
    rintro _ _ ⟨rfl, rfl⟩
    go_wp2_with fail
    go_ret
    exact ⟨ret_int hz0.out.symm, Up.refl w⟩
  · have CI := Lib.hid (isNought_any w lo s v a h false (decide_eq_false h0))
    obtain ⟨y, hy⟩ : ∃ y, M.cmp (a * 2 ^ 1) b = y := ⟨_, rfl⟩
    have ry := M.cmp_rng (a * 2 ^ 1) b
    rw [hy] at ry
    have hz0 : Hid (z = 2 + y) := by rw [Hid, ← hz.out, M.part, if_neg h0, ← hy, Nat.pow_one]
    have HY := Lib.hid hy
    clear hz h0 hy
    go_enter Tryz.func113, Tryz.ntmps113
    go_wp2_with fail
    refine CI.out.mono ?_
    rintro _ _ ⟨rfl, rfl⟩
    go_wp2_with fail
    refine (shl_any w _ _ _ _ h hs 1 1 (by omega)).mono ?_
    rintro _ w1 ⟨v1, rfl, h1, hu1⟩
    go_wp2_with fail
    refine (cmp_at w1 _ _ _ _ _ _ _ _ y h1.nw (h'.up hu1) HY).mono ?_
    rintro _ w2 ⟨rfl, kk, rfl⟩
    go_wp2_with fail
    go_ret
    exact ⟨ret_int hz0.out.symm, hu1.drewN kk⟩

/-- What Floor comes to. -/
def Flo (S q : Nat) (z : Int) (w : World) (e : Ending) (w' : World) : Prop := ∃ v, e = .returned (.tuple #[v, .int .i64 z]) ∧ Nt w' w.heap.size S v q ∧ Up w w'
set_option maxHeartbeats 2000000 in
set_option maxRecDepth 100000 in
theorem floor_any (w : World) (lo s : Nat) (neg : Bool) (v : Value) (t f : Int) (a : Nat) (h : Nw w lo s v a) (hs : s ≤ 1000000)
    (bt : -1000000 ≤ t ∧ t ≤ 1000000) (bf : -1000000 ≤ f ∧ f ≤ 1000000) (k K : Int) (hK : Hid (max (-5000) (min k 5000) = K))
    (T F T' F' : Nat) (hT : Hid (max 0 (min (t - K) 131072) = (T : Int))) (hF : Hid (max 0 (min (f - K) 10000) = (F : Int))) (hT' : Hid (max 0 (min (-(t - K)) 131072) = (T' : Int))) (hF' : Hid (max 0 (min (-(f - K)) 10000) = (F' : Int)))
    (q r : Nat) (hq : Hid (a * 5 ^ F * 2 ^ T / (1 * 5 ^ F' * 2 ^ T') = q)) (hr : Hid (a * 5 ^ F * 2 ^ T % (1 * 5 ^ F' * 2 ^ T') = r)) (z : Int) (hz : Hid (M.part r (1 * 5 ^ F' * 2 ^ T') = z)) :
    Calls Tryz.prog 80 #[xv neg v t f, .int .i64 k] w (Flo (s + F + T / 64 + 4) q z w) := by
  have bK : -5000 ≤ K ∧ K ≤ 5000 := by have := hK.out; omega
  obtain ⟨D, hD⟩ : ∃ D, t - K = D := ⟨_, rfl⟩
  obtain ⟨E, hE⟩ : ∃ E, f - K = E := ⟨_, rfl⟩
  have bD : -2000000 ≤ D ∧ D ≤ 2000000 := by omega
  have bE : -2000000 ≤ E ∧ E ≤ 2000000 := by omega
  rw [hD] at hT hT'
  rw [hE] at hF hF'
  have bT : T ≤ 131072 := by have := hT.out; omega
  have bT' : T' ≤ 131072 := by have := hT'.out; omega
  have bF : F ≤ 10000 := by have := hF.out; omega
  have bF' : F' ≤ 10000 := by have := hF'.out; omega
  have hby : 0 < 1 * 5 ^ F' * 2 ^ T' := Nat.mul_pos (Nat.mul_pos (by omega) (Nat.pow_pos (by omega))) (Nat.pow_pos (by omega))
  obtain ⟨B, hB⟩ : ∃ B, 1 * 5 ^ F' * 2 ^ T' = B := ⟨_, rfl⟩
  have HB := Lib.hid hB
  rw [hB] at hq hr hz hby
  have w1 : IntKind.i64.wrap (t - K) = D := by rw [hD]; simp [IntKind.wrap, IntKind.bits, IntKind.signed]; omega
  have w2 : IntKind.i64.wrap (f - K) = E := by rw [hE]; simp [IntKind.wrap, IntKind.bits, IntKind.signed]; omega
  have w1' : IntKind.i64.wrap D = D := by simp [IntKind.wrap, IntKind.bits, IntKind.signed]; omega
  have w2' : IntKind.i64.wrap E = E := by simp [IntKind.wrap, IntKind.bits, IntKind.signed]; omega
  have CN := Lib.hid (fun w' => nearestPower_any w' k K hK)
  clear hB
  go_enter Tryz.func80, Tryz.ntmps80
  go_wp2_with fail
  refine (CN.out _).mono ?_
  rintro _ _ ⟨rfl, rfl⟩
  go_wp2_with fail
  go_quiet (fail)
  obtain ⟨W, hW⟩ : ∃ W, (w.alloc (.cells #[.bool neg, v, .int .i64 t, .int .i64 f] 40)).drewN nq = W := ⟨_, rfl⟩
  have hu : Up w W := by rw [← hW]; exact (((Up.refl w).alloc _).drewN _)
  have c1 : W.cell? ⟨w.heap.size, 1, none⟩ = some v := by rw [← hW]; simp
  rw [hW]
  clear hW w1 w2 w1' w2' hD hE
  have hh := h.up hu
  go_wp2_with fail
  refine (of_lit _ 1 _ rfl (by omega)).mono ?_
  rintro _ w1 ⟨v1, rfl, h1, hu1⟩
  go_wp2_with fail
  refine (xtimes_any w1 _ _ _ _ h1.nw (by omega) (-D) (-E) T' F' hT' hF').mono ?_
  rintro _ w2 ⟨v2, rfl, h2, hu2⟩
  rw [HB.out] at h2
  have u2 : Up W w2 := hu1.trans hu2
  have c2 := cell_up u2 c1
  clear c1 h1 hu1 hu2
  go_wp2_with fail
  refine (xtimes_any w2 _ _ _ _ (hh.up u2) (by omega) D E T F hT hF).mono ?_
  rintro _ w3 ⟨v3, rfl, h3, hu3⟩
  go_wp2_with fail
  refine (div_any w3 _ _ _ _ _ _ _ _ h3.nw (h2.up hu3).nw hby (by omega)).mono ?_
  rintro _ w4 ⟨v4, v5, rfl, h4, h5, hu4⟩
  rw [hq.out] at h4
  rw [hr.out] at h5
  have u4 : Up w2 w4 := hu3.trans hu4
  go_wp2_with fail
  refine (part_any w4 _ _ _ _ _ _ _ _ h5.nw (h2.up u4).nw (by omega) z hz).mono ?_
  rintro _ w5 ⟨rfl, hu5⟩
  go_wp2_with fail
  go_ret2
  exact ⟨v4, rfl, ((h4.up hu5).lower (Up.size ((hu.trans u2).trans hu3))).more (by omega), ((hu.trans u2).trans u4).trans hu5⟩

theorem M.digits_len {a s F T : Nat} (h : a < 18446744073709551616 ^ s) (hs : s ≤ 1000000) (hF : F ≤ 10000) (hT : T ≤ 131072) : (Lib.decDigits (a * 5 ^ F * 2 ^ T)).length ≤ 100000000 := by
  have h1 : a * 5 ^ F * 2 ^ T < 10 ^ (20 * s + F + T + 1) := by
    have e1 : (18446744073709551616 : Nat) ^ s ≤ 10 ^ (20 * s) := by rw [Nat.pow_mul]; exact Nat.pow_le_pow_left (by omega) s
    have e2 : (5 : Nat) ^ F ≤ 10 ^ F := Nat.pow_le_pow_left (by omega) F
    have e3 : (2 : Nat) ^ T ≤ 10 ^ T := Nat.pow_le_pow_left (by omega) T
    have e4 : a * 5 ^ F * 2 ^ T ≤ 10 ^ (20 * s) * 10 ^ F * 10 ^ T := Nat.mul_le_mul (Nat.mul_le_mul (by omega) e2) e3
    rw [← Nat.pow_add, ← Nat.pow_add] at e4
    exact Nat.lt_of_le_of_lt e4 (Nat.pow_lt_pow_right (by omega) (by omega))
  rw [Lib.decDigits_length]
  have := nDigits_le' (20 * s + F + T) _ h1
  omega
/-- The power that Log10 tells. -/
def M.log10 (a F T : Nat) (m : Int) : Int := if a = 0 then 0 else m + (Lib.decDigits (a * 5 ^ F * 2 ^ T)).length - 1
set_option maxHeartbeats 2000000 in
set_option maxRecDepth 100000 in
theorem log10_any (w : World) (hTW : TabW w) (lo s : Nat) (neg : Bool) (v : Value) (t f : Int) (a : Nat) (h : Nw w lo s v a) (hs : s ≤ 1000000)
    (bt : -1000000 ≤ t ∧ t ≤ 1000000) (bf : -1000000 ≤ f ∧ f ≤ 1000000) (m : Int) (hm : Hid (min t f = m))
    (T F : Nat) (hT : Hid (max 0 (min (t - m) 131072) = (T : Int))) (hF : Hid (max 0 (min (f - m) 10000) = (F : Int))) (z : Int) (hz : Hid (M.log10 a F T m = z)) :
    Calls Tryz.prog 40 #[xv neg v t f] w (Num z w) := by
  have hu := (Up.refl w).alloc (.cells #[.bool neg, v, .int .i64 t, .int .i64 f] 40)
  by_cases h0 : a = 0
  · have hz0 : Hid (z = 0) := by rw [Hid, ← hz.out, M.log10, if_pos h0]
    have CI := Lib.hid (isNought_any _ lo s v a (h.up hu) true (decide_eq_true h0))
    clear hz h0 hm hT hF
    go_enter Tryz.func40, Tryz.ntmps40
    go_wp2_with fail
    refine CI.out.mono ?_
    rintro _ _ ⟨rfl, rfl⟩
    go_wp2_with fail
    go_ret
    exact ⟨ret_int hz0.out.symm, hu⟩
  · have CI := Lib.hid (isNought_any _ lo s v a (h.up hu) false (decide_eq_false h0))
    have bm : -1000000 ≤ m ∧ m ≤ 1000000 := by have := hm.out; omega
    have bT : T ≤ 131072 := by have := hT.out; omega
    have bF : F ≤ 10000 := by have := hF.out; omega
    obtain ⟨L, hL⟩ : ∃ L, (Lib.decDigits (a * 5 ^ F * 2 ^ T)).length = L := ⟨_, rfl⟩
    have hz0 : Hid (z = m + (L : Int) - 1) := by rw [Hid, ← hz.out, M.log10, if_neg h0, hL]
    obtain ⟨S, hS⟩ : ∃ S, (⟨(Lib.decDigits (a * 5 ^ F * 2 ^ T)).toArray⟩ : ByteArray) = S := ⟨_, rfl⟩
    have hSL : S.size = L := by rw [← hS, ← hL]; rfl
    have hLb : L ≤ 100000000 := by
      rw [← hL]
      exact M.digits_len (h.lt) hs bF bT
    have HS := Lib.hid hS
    have hm1 := hm.out
    have HSL := Lib.hid hSL
    have hSb : (S.size : Int) ≤ 100000000 := by omega
    clear hz h0 hL hS hSL
    go_enter Tryz.func40, Tryz.ntmps40
    go_wp2_with fail
    refine CI.out.mono ?_
    rintro _ _ ⟨rfl, rfl⟩
    go_wp2_with fail
    refine (xtimes_any _ _ _ _ _ (h.up hu) (by omega) (t - m) (f - m) T F hT hF).mono ?_
    rintro _ w1 ⟨v1, rfl, h1, hu1⟩
    go_wp2_with fail
    refine (text_of _ _ _ _ _ h1.nw (by omega) (hTW.up (hu.trans hu1)) S HS.out).mono ?_
    rintro _ w2 ⟨rfl, hu2⟩
    go_wp2_with fail
    go_ret
    exact ⟨ret_int (by rw [hz0.out, ← HSL.out]), (hu.trans hu1).trans hu2⟩
end Go.Proofs.YtgpachgnacndoaaGreatDoor
