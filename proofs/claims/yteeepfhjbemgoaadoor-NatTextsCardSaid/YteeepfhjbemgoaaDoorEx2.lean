/-
  Package exact: Cmp and CmpSigned.
-/
import Derived.Test.YteeepfhjbemgoaaDoorEx1
namespace Go.Proofs.YteeepfhjbemgoaaDoor
open Go.RowKit Go.Shelf

theorem cell_up {w w' : World} (hu : Up w w') {p : Addr} {v : Value} (h : w.cell? p = some v) : w'.cell? p = some v := by
  rw [Below.cell hu (World.block_lt_of_cell? w _ h)]; exact h
theorem frozen_up {w w' : World} (hu : Up w w') {p : Addr} {v : Value} (h : w.cell? p = some v) (k : w.frozen? p = false) : w'.frozen? p = false := by
  rw [Below.frozen hu (World.block_lt_of_cell? w _ h)]; exact k
theorem xtimes_up (w w' : World) (lo s : Nat) (v : Value) (a : Nat) (h : Nw w lo s v a) (hu : Up w w') (hs : s ≤ 50000000) (two five : Int) (T F : Nat) (hT : Hid (max 0 (min two 131072) = (T : Int))) (hF : Hid (max 0 (min five 10000) = (F : Int))) :
    Calls Tryd.prog 92 #[v, .int .i64 two, .int .i64 five] w' (Res (s + F + T / 64 + 3) (a * 5 ^ F * 2 ^ T) w') := xtimes_any w' lo s v a (h.up hu) hs two five T F hT hF

set_option maxHeartbeats 2000000 in
set_option maxRecDepth 100000 in
theorem xcmp_any (w : World) (lo lo' s s' : Nat) (neg neg' : Bool) (v v' : Value) (t f t' f' : Int) (a b : Nat) (h : Nw w lo s v a) (h' : Nw w lo' s' v' b) (hs : s ≤ 1000000) (hs' : s' ≤ 1000000)
    (bt : -1000000 ≤ t ∧ t ≤ 1000000) (bf : -1000000 ≤ f ∧ f ≤ 1000000) (bt' : -1000000 ≤ t' ∧ t' ≤ 1000000) (bf' : -1000000 ≤ f' ∧ f' ≤ 1000000)
    (T F T' F' : Nat) (hT : Hid (max 0 (min (t - t') 131072) = (T : Int))) (hF : Hid (max 0 (min (f - f') 10000) = (F : Int))) (hT' : Hid (max 0 (min (-(t - t')) 131072) = (T' : Int))) (hF' : Hid (max 0 (min (-(f - f')) 10000) = (F' : Int)))
    (z : Int) (hz : Hid (M.cmp (a * 5 ^ F * 2 ^ T) (b * 5 ^ F' * 2 ^ T') = z)) :
    Calls Tryd.prog 50 #[xv neg v t f, xv neg' v' t' f'] w (Num z w) := by
  obtain ⟨D, hD⟩ : ∃ D, t - t' = D := ⟨_, rfl⟩
  obtain ⟨E, hE⟩ : ∃ E, f - f' = E := ⟨_, rfl⟩
  have bD : -2000000 ≤ D ∧ D ≤ 2000000 := by omega
  have bE : -2000000 ≤ E ∧ E ≤ 2000000 := by omega
  rw [hD] at hT hT'
  rw [hE] at hF hF'
  have w1 : IntKind.i64.wrap (t - t') = D := by rw [hD]; simp [IntKind.wrap, IntKind.bits, IntKind.signed]; omega
  have w2 : IntKind.i64.wrap (f - f') = E := by rw [hE]; simp [IntKind.wrap, IntKind.bits, IntKind.signed]; omega
  have w1' : IntKind.i64.wrap D = D := by simp [IntKind.wrap, IntKind.bits, IntKind.signed]; omega
  have w2' : IntKind.i64.wrap E = E := by simp [IntKind.wrap, IntKind.bits, IntKind.signed]; omega
  have w3' : IntKind.i64.wrap (-D) = -D := by simp [IntKind.wrap, IntKind.bits, IntKind.signed]; omega
  have w4' : IntKind.i64.wrap (-E) = -E := by simp [IntKind.wrap, IntKind.bits, IntKind.signed]; omega
  clear bt bf bt' bf'
  go_enter Tryd.func50, Tryd.ntmps50
  go_wp2_with fail
  go_quiet (fail)
  obtain ⟨W, hW⟩ : ∃ W, ((w.alloc (.cells #[.bool neg, v, .int .i64 t, .int .i64 f] 44)).alloc (.cells #[.bool neg', v', .int .i64 t', .int .i64 f'] 44)).drewN nq = W := ⟨_, rfl⟩
  have hu : Up w W := by rw [← hW]; exact ((((Up.refl w).alloc _).alloc _).drewN _)
  have c1 : W.cell? ⟨w.heap.size, 1, none⟩ = some v := by rw [← hW]; simp
  have c2 : W.cell? ⟨w.heap.size + 1, 1, none⟩ = some v' := by rw [← hW]; simp
  rw [hW]
  clear hW
  have hh := h.up hu
  have hh' := h'.up hu
  go_wp2_with fail
  go_region_held3 (fun w' => w'.cell? ⟨w.heap.size, 1, none⟩ = some v ∧ w'.cell? ⟨w.heap.size + 1, 1, none⟩ = some v') (go_keep) (first
    | (go_at_call_of 92 v; (with_reducible refine (xtimes_up W _ lo s v a hh ?_ (by omega) _ _ T F hT hF).mono ?_); (first | with_reducible assumption | exact (Up.refl _).drewN 1); rintro _ wA ⟨vA, rfl, hA, hua⟩; have uA : Up W wA := Up.trans (by first | with_reducible assumption | exact (Up.refl W).drewN 1) hua; have kA := cell_up uA c1; have kA' := cell_up uA c2)
    | (go_at_call_of 92 v'; (with_reducible refine (xtimes_up W _ lo' s' v' b hh' ?_ (by omega) _ _ T' F' hT' hF').mono ?_); (first | with_reducible assumption | exact (Up.refl _).drewN 1); rintro _ wB ⟨vB, rfl, hB, hub⟩; have uB : Up W wB := Up.trans (by first | with_reducible assumption | exact (Up.refl W).drewN 1) hub; have kB := cell_up uB c1; have kB' := cell_up uB c2)
    | (go_at_call 35; (first
      | (with_reducible refine (cmp_at _ _ _ _ _ _ _ _ _ z (hA.up hub).nw hB.nw hz).mono ?_)
      | (with_reducible refine (cmp_at _ _ _ _ _ _ _ _ _ z hA.nw (hB.up hua).nw hz).mono ?_)); rintro _ wC ⟨rfl, kk, rfl⟩))
  all_goals
    go_wp2_with fail
    go_ret
    first
      | exact ⟨rfl, hu.trans ((uA.trans hub).drewN _)⟩
      | exact ⟨rfl, hu.trans ((uB.trans hua).drewN _)⟩

/-- -1, 0, 1, of numbers with signs. -/
def M.icmp (x y : Int) : Int := if x < y then -1 else if x = y then 0 else 1
set_option maxHeartbeats 400000 in
theorem compare_i (w : World) (x y z : Int) (hz : Hid (M.icmp x y = z)) : Calls Tryd.prog 81 #[.int .i64 x, .int .i64 y] w (Same (.int .i64 z) w) := by
  rcases Int.lt_trichotomy x y with h | h | h
  · have e : Hid (z = -1) := by rw [Hid, ← hz.out, M.icmp, if_pos h]
    clear hz
    go_enter Tryd.func81, Tryd.ntmps81
    go_wp2
    go_ret
    exact ⟨ret_int e.out.symm, rfl⟩
  · have e : Hid (z = 0) := by rw [Hid, ← hz.out, M.icmp, if_neg (by omega), if_pos h]
    subst h
    clear hz
    go_enter Tryd.func81, Tryd.ntmps81
    go_wp2
    go_ret
    exact ⟨ret_int e.out.symm, rfl⟩
  · have e : Hid (z = 1) := by rw [Hid, ← hz.out, M.icmp, if_neg (by omega), if_neg (by omega)]
    clear hz
    go_enter Tryd.func81, Tryd.ntmps81
    go_wp2
    go_ret
    exact ⟨ret_int e.out.symm, rfl⟩
theorem sign_up (w w' : World) (lo s : Nat) (neg : Bool) (v : Value) (t f : Int) (a : Nat) (h : Nw w lo s v a) (hu : Up w w') (z : Int) (hz : Hid (M.sgn neg a = z)) : Calls Tryd.prog 114 #[xv neg v t f] w' (Num z w') := sign_any w' lo s neg v t f a (h.up hu) z hz
theorem M.sgn_rng (neg : Bool) (a : Nat) : M.sgn neg a = -1 ∨ M.sgn neg a = 0 ∨ M.sgn neg a = 1 := by
  unfold M.sgn
  split
  · exact .inr (.inl rfl)
  · split
    · exact .inl rfl
    · exact .inr (.inr rfl)
/-- How two numbers stand, of their signs, and their sizes' standing. -/
def M.csg (x y z : Int) : Int := if x = y then x * z else M.icmp x y

set_option maxHeartbeats 4000000 in
set_option maxRecDepth 100000 in
theorem xcmps_any (w : World) (lo lo' s s' : Nat) (neg neg' : Bool) (v v' : Value) (t f t' f' : Int) (a b : Nat) (h : Nw w lo s v a) (h' : Nw w lo' s' v' b) (hs : s ≤ 1000000) (hs' : s' ≤ 1000000)
    (bt : -1000000 ≤ t ∧ t ≤ 1000000) (bf : -1000000 ≤ f ∧ f ≤ 1000000) (bt' : -1000000 ≤ t' ∧ t' ≤ 1000000) (bf' : -1000000 ≤ f' ∧ f' ≤ 1000000)
    (T F T' F' : Nat) (hT : Hid (max 0 (min (t - t') 131072) = (T : Int))) (hF : Hid (max 0 (min (f - f') 10000) = (F : Int))) (hT' : Hid (max 0 (min (-(t - t')) 131072) = (T' : Int))) (hF' : Hid (max 0 (min (-(f - f')) 10000) = (F' : Int)))
    (z : Int) (hz : Hid (M.cmp (a * 5 ^ F * 2 ^ T) (b * 5 ^ F' * 2 ^ T') = z)) (r : Int) (hr : Hid (M.csg (M.sgn neg a) (M.sgn neg' b) z = r)) :
    Calls Tryd.prog 76 #[xv neg v t f, xv neg' v' t' f'] w (Num r w) := by
  obtain ⟨x, hx⟩ : ∃ x, M.sgn neg a = x := ⟨_, rfl⟩
  obtain ⟨y, hy⟩ : ∃ y, M.sgn neg' b = y := ⟨_, rfl⟩
  have rx := M.sgn_rng neg a
  have ry := M.sgn_rng neg' b
  have rz := M.cmp_rng (a * 5 ^ F * 2 ^ T) (b * 5 ^ F' * 2 ^ T')
  rw [hz.out] at rz
  rw [hx] at rx hr
  rw [hy] at ry hr
  have HX := Lib.hid hx
  have HY := Lib.hid hy
  have CX := Lib.hid (fun w' (hu : Up w w') => xcmp_any w' lo lo' s s' neg neg' v v' t f t' f' a b (h.up hu) (h'.up hu) hs hs' bt bf bt' bf' T F T' F' hT hF hT' hF' z hz)
  clear hx hy hz hT hF hT' hF' bt bf bt' bf'
  go_enter Tryd.func76, Tryd.ntmps76
  go_wp2_with fail
  obtain ⟨W, hW⟩ : ∃ W, (w.alloc (.cells #[.bool neg, v, .int .i64 t, .int .i64 f] 44)).alloc (.cells #[.bool neg', v', .int .i64 t', .int .i64 f'] 44) = W := ⟨_, rfl⟩
  have hu : Up w W := by rw [← hW]; exact (((Up.refl w).alloc _).alloc _)
  have c0 : W.cell? ⟨w.heap.size, 0, none⟩ = some (.bool neg) := by rw [← hW]; simp
  have c1 : W.cell? ⟨w.heap.size, 1, none⟩ = some v := by rw [← hW]; simp
  have c2 : W.cell? ⟨w.heap.size, 2, none⟩ = some (.int .i64 t) := by rw [← hW]; simp
  have c3 : W.cell? ⟨w.heap.size, 3, none⟩ = some (.int .i64 f) := by rw [← hW]; simp
  have d0 : W.cell? ⟨w.heap.size + 1, 0, none⟩ = some (.bool neg') := by rw [← hW]; simp
  have d1 : W.cell? ⟨w.heap.size + 1, 1, none⟩ = some v' := by rw [← hW]; simp
  have d2 : W.cell? ⟨w.heap.size + 1, 2, none⟩ = some (.int .i64 t') := by rw [← hW]; simp
  have d3 : W.cell? ⟨w.heap.size + 1, 3, none⟩ = some (.int .i64 f') := by rw [← hW]; simp
  rw [hW]
  clear hW
  have hh := h.up hu
  have hh' := h'.up hu
  go_region_held3 (fun w' => w'.cell? ⟨w.heap.size, 0, none⟩ = some (.bool neg) ∧ w'.cell? ⟨w.heap.size, 1, none⟩ = some v ∧ w'.cell? ⟨w.heap.size, 2, none⟩ = some (.int .i64 t) ∧ w'.cell? ⟨w.heap.size, 3, none⟩ = some (.int .i64 f) ∧ w'.cell? ⟨w.heap.size + 1, 0, none⟩ = some (.bool neg') ∧ w'.cell? ⟨w.heap.size + 1, 1, none⟩ = some v' ∧ w'.cell? ⟨w.heap.size + 1, 2, none⟩ = some (.int .i64 t') ∧ w'.cell? ⟨w.heap.size + 1, 3, none⟩ = some (.int .i64 f')) (go_keep) (first
    | (go_at_call_of 114 v; (with_reducible refine (sign_up W _ lo s neg v t f a hh ?_ x HX).mono ?_); (first | with_reducible assumption | exact (Up.refl _).drewN 1); rintro _ wA ⟨rfl, hua⟩; have uA : Up W wA := Up.trans (by first | with_reducible assumption | exact (Up.refl W).drewN 1) hua; have a0 := cell_up uA c0; have a1 := cell_up uA c1; have a2 := cell_up uA c2; have a3 := cell_up uA c3; have a4 := cell_up uA d0; have a5 := cell_up uA d1; have a6 := cell_up uA d2; have a7 := cell_up uA d3)
    | (go_at_call_of 114 v'; (with_reducible refine (sign_up W _ lo' s' neg' v' t' f' b hh' ?_ y HY).mono ?_); (first | with_reducible assumption | exact (Up.refl _).drewN 1); rintro _ wB ⟨rfl, hub⟩; have uB : Up W wB := Up.trans (by first | with_reducible assumption | exact (Up.refl W).drewN 1) hub; have b0 := cell_up uB c0; have b1 := cell_up uB c1; have b2 := cell_up uB c2; have b3 := cell_up uB c3; have b4 := cell_up uB d0; have b5 := cell_up uB d1; have b6 := cell_up uB d2; have b7 := cell_up uB d3))
  all_goals
    first
      | have uV := And.intro hub uB
      | have uV := And.intro hua uA
    replace uV := uV.2
    by_cases hxy : x = y
    · subst hxy
      have hp : x * z = r := by have := hr.out; rw [M.csg, if_pos rfl] at this; exact this
      have hpb : -1 ≤ r ∧ r ≤ 1 := by
        rw [← hp]
        rcases rx with rfl | rfl | rfl <;> omega
      have hne : (x != x) = false := by simp
      clear rx ry hr
      go_wp2_with fail
      refine (CX.out _ (hu.trans uV)).mono ?_
      rintro _ w9 ⟨rfl, hu9⟩
      go_wp2_with fail
      go_ret
      exact ⟨rfl, (hu.trans uV).trans hu9⟩
    · have hne : (x != y) = true := by rw [bne_iff_ne]; exact hxy
      have HI : Hid (M.icmp x y = r) := by have := hr.out; rw [M.csg, if_neg hxy] at this; exact this
      clear rx ry hr hxy
      go_wp2_with fail
      refine (compare_i _ x y r HI).mono ?_
      rintro _ _ ⟨rfl, rfl⟩
      go_wp2_with fail
      go_ret
      exact ⟨rfl, hu.trans uV⟩
namespace M
/-- A number over a base that is not above its powers. -/
def ov (a : Nat) (t f m : Int) : Nat := a * 5 ^ (f - m).toNat * 2 ^ (t - m).toNat
theorem ov_zero {a : Nat} {t f m : Int} : ov a t f m = 0 ↔ a = 0 := by
  unfold ov
  have h1 : 0 < 5 ^ (f - m).toNat := Nat.pow_pos (by omega)
  have h2 : 0 < 2 ^ (t - m).toNat := Nat.pow_pos (by omega)
  rw [Nat.mul_eq_zero, Nat.mul_eq_zero]
  omega
theorem cmp_ov {a b : Nat} {t f t' f' m : Int} {T F T' F' : Nat} (h1 : m ≤ t) (h2 : m ≤ f) (h3 : m ≤ t') (h4 : m ≤ f') (b1 : t - t' ≤ 131072) (b2 : t' - t ≤ 131072) (b3 : f - f' ≤ 10000) (b4 : f' - f ≤ 10000)
    (hT : max 0 (min (t - t') 131072) = (T : Int)) (hF : max 0 (min (f - f') 10000) = (F : Int)) (hT' : max 0 (min (-(t - t')) 131072) = (T' : Int)) (hF' : max 0 (min (-(f - f')) 10000) = (F' : Int)) :
    cmp (a * 5 ^ F * 2 ^ T) (b * 5 ^ F' * 2 ^ T') = cmp (ov a t f m) (ov b t' f' m) := by
  obtain ⟨c2, hc2⟩ : ∃ c2 : Nat, (c2 : Int) = min t t' - m := ⟨(min t t' - m).toNat, by omega⟩
  obtain ⟨c5, hc5⟩ : ∃ c5 : Nat, (c5 : Int) = min f f' - m := ⟨(min f f' - m).toNat, by omega⟩
  have e1 : (t - m).toNat = T + c2 := by omega
  have e2 : (f - m).toNat = F + c5 := by omega
  have e3 : (t' - m).toNat = T' + c2 := by omega
  have e4 : (f' - m).toNat = F' + c5 := by omega
  have hp : 0 < 5 ^ c5 * 2 ^ c2 := Nat.mul_pos (Nat.pow_pos (by omega)) (Nat.pow_pos (by omega))
  have k1 : ∀ (x F T : Nat), x * 5 ^ (F + c5) * 2 ^ (T + c2) = x * 5 ^ F * 2 ^ T * (5 ^ c5 * 2 ^ c2) := by
    intro x F T
    rw [Nat.pow_add, Nat.pow_add]
    simp only [Nat.mul_assoc, Nat.mul_left_comm, Nat.mul_comm]
  unfold ov
  rw [e1, e2, e3, e4, k1, k1, cmp_times _ _ _ hp]
end M
/-- Cmp, over a base. -/
theorem xcmp_ov (m : Int) (bm : -1000000 ≤ m ∧ m ≤ 900000) (w : World) (lo lo' s s' : Nat) (neg neg' : Bool) (v v' : Value) (t f t' f' : Int) (a b : Nat) (h : Nw w lo s v a) (h' : Nw w lo' s' v' b) (hs : s ≤ 1000000) (hs' : s' ≤ 1000000)
    (bt : m ≤ t ∧ t ≤ m + 10000) (bf : m ≤ f ∧ f ≤ m + 10000) (bt' : m ≤ t' ∧ t' ≤ m + 10000) (bf' : m ≤ f' ∧ f' ≤ m + 10000) (z : Int) (hz : Hid (M.cmp (M.ov a t f m) (M.ov b t' f' m) = z)) :
    Calls Tryd.prog 50 #[xv neg v t f, xv neg' v' t' f'] w (Num z w) := by
  refine xcmp_any w lo lo' s s' neg neg' v v' t f t' f' a b h h' hs hs' (by omega) (by omega) (by omega) (by omega) (max 0 (min (t - t') 131072)).toNat (max 0 (min (f - f') 10000)).toNat (max 0 (min (-(t - t')) 131072)).toNat (max 0 (min (-(f - f')) 10000)).toNat
    (by show _ = _; omega) (by show _ = _; omega) (by show _ = _; omega) (by show _ = _; omega) z ?_
  rw [Hid, M.cmp_ov (m := m) bt.1 bf.1 bt'.1 bf'.1 (by omega) (by omega) (by omega) (by omega) (by omega) (by omega) (by omega) (by omega)]
  exact hz.out
/-- A number's cells, which may be written. -/
def Bx (w : World) (b : Nat) (neg : Bool) (v : Value) (t f : Int) : Prop :=
  (w.cell? ⟨b, 0, none⟩ = some (.bool neg) ∧ w.cell? ⟨b, 1, none⟩ = some v ∧ w.cell? ⟨b, 2, none⟩ = some (.int .i64 t) ∧ w.cell? ⟨b, 3, none⟩ = some (.int .i64 f)) ∧
  w.frozen? ⟨b, 0, none⟩ = false ∧ w.frozen? ⟨b, 1, none⟩ = false ∧ w.frozen? ⟨b, 2, none⟩ = false ∧ w.frozen? ⟨b, 3, none⟩ = false
theorem Bx.mk_ (w : World) (neg : Bool) (v : Value) (t f : Int) : Bx (w.alloc (.cells #[.bool neg, v, .int .i64 t, .int .i64 f] 44)) w.heap.size neg v t f := by
  refine ⟨⟨?_, ?_, ?_, ?_⟩, ?_, ?_, ?_, ?_⟩ <;> simp
theorem Bx.up {w w' : World} {b : Nat} {neg : Bool} {v : Value} {t f : Int} (h : Bx w b neg v t f) (hu : Up w w') : Bx w' b neg v t f := by
  obtain ⟨⟨a0, a1, a2, a3⟩, b0, b1, b2, b3⟩ := h
  exact ⟨⟨cell_up hu a0, cell_up hu a1, cell_up hu a2, cell_up hu a3⟩, frozen_up hu a0 b0, frozen_up hu a1 b1, frozen_up hu a2 b2, frozen_up hu a3 b3⟩
theorem bx_at (o : Obj) (w : World) (neg : Bool) (v : Value) (t f : Int) : Bx ((w.alloc o).alloc (.cells #[.bool neg, v, .int .i64 t, .int .i64 f] 44)) (w.heap.size + 1) neg v t f := by
  have := Bx.mk_ (w.alloc o) neg v t f
  rwa [show (w.alloc o).heap.size = w.heap.size + 1 from Array.size_push _] at this

theorem lit1n (w : World) (x : Nat) (X : Int) (hX : X = (x : Int)) (hx : x < 18446744073709551616) (h0 : x ≠ 0) :
    Nt (w.alloc (.cells #[.int .u64 X] 41)) w.heap.size 1 (.slice (some ⟨w.heap.size, 0, none⟩) 1 1) x :=
  ⟨_, 1, 1, [x], rfl, lit1_wd w x X hX hx, by simp [M.val], by omega, by simp [M.Nrm, h0]⟩
theorem lit1_at (o : Obj) (w : World) (x : Nat) (X : Int) (hX : X = (x : Int)) (hx : x < 18446744073709551616) (h0 : x ≠ 0) :
    Nt ((w.alloc o).alloc (.cells #[.int .u64 X] 41)) (w.heap.size + 1) 1 (.slice (some ⟨w.heap.size + 1, 0, none⟩) 1 1) x := by
  have := lit1n (w.alloc o) x X hX hx h0
  rwa [show (w.alloc o).heap.size = w.heap.size + 1 from Array.size_push _] at this
theorem lt_w128 {a : Nat} (h : a < 18446744073709551616) : a < 18446744073709551616 ^ 128 := Nat.lt_of_lt_of_le h (by
  have : 18446744073709551616 ^ 1 ≤ 18446744073709551616 ^ 128 := Nat.pow_le_pow_right (by omega) (by omega)
  omega)
end Go.Proofs.YteeepfhjbemgoaaDoor
