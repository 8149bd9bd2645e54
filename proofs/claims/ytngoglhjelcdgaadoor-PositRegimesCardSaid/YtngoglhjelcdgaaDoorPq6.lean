/-
  Package posit: fieldsOf.
-/
import Derived.Test.YtngoglhjelcdgaaDoorPq5
namespace Go.Proofs.YtngoglhjelcdgaaDoor
open Go.RowKit Go.Shelf

theorem and_3i (x : Int) : bits BinOp.and IntKind.i64 x 3 = x % 4 := by
  show IntKind.i64.wrap ((BitVec.ofInt 64 x &&& BitVec.ofInt 64 3).toNat : Int) = _
  rw [BitVec.toNat_and, show (BitVec.ofInt 64 3).toNat = 2 ^ 2 - 1 from rfl, Nat.and_two_pow_sub_one_eq_mod]
  have h5 : (BitVec.ofInt 64 x).toNat = (x % 18446744073709551616).toNat := by rw [BitVec.toNat_ofInt]; rfl
  rw [h5]
  have e : (((x % 18446744073709551616).toNat % 2 ^ 2 : Nat) : Int) = x % 4 := by
    have : (2 : Nat) ^ 2 = 4 := by decide
    rw [this]
    omega
  rw [e]
  exact IntWalk.i64_in _ (by omega)
set_option maxHeartbeats 2000000 in
theorem fields_nought (w : World) (n : Nat) (e0 : Int) : Calls Tryd.prog 33 #[.int .i64 (n : Int), u64 0, .int .i64 e0] w (Pns w) := by
  go_enter Tryd.func33, Tryd.ntmps33
  go_wp2_with fail
  exact ⟨rfl, ⟨_, rfl⟩, (Up.refl _).alloc _⟩
/-- The numbers that fieldsOf goes over. -/
structure Fo (n m0 m t p : Nat) (e0 pw R : Int) : Prop where
  lt : m0 < 18446744073709551616
  odd : m % 2 = 1
  eq : m0 = m * 2 ^ t
  len : M.bits m = p + 1
  pwr : IntKind.i64.wrap (IntKind.i64.wrap (e0 + t) + p) = pw
  reg : pw / 4 = R
theorem Fo.t63 {n m0 m t p : Nat} {e0 pw R : Int} (h : Fo n m0 m t p e0 pw R) : t ≤ 63 ∧ p ≤ 63 ∧ m < 18446744073709551616 ∧ 2 ^ p ≤ m ∧ m < 2 ^ (p + 1) := by
  have h1 : 2 ^ t ≤ m * 2 ^ t := Nat.le_mul_of_pos_left _ (by have := h.odd; omega)
  have h2 : m ≤ m * 2 ^ t := Nat.le_mul_of_pos_right _ (M.p2 t)
  rw [← h.eq] at h1 h2
  have lt := h.lt
  have h3 : (2 : Nat) ^ 64 = 18446744073709551616 := by decide
  have a := M.p2inj (a := t) (b := 64) (by omega)
  have hm0 : m ≠ 0 := by have := h.odd; omega
  have l := M.bits_le hm0
  have u := M.bits_lt m
  rw [h.len, Nat.add_sub_cancel] at l
  rw [h.len] at u
  have b := M.p2inj (a := p) (b := 64) (by omega)
  exact ⟨by omega, by omega, by omega, l, u⟩
set_option maxHeartbeats 4000000 in
set_option maxRecDepth 100000 in
theorem fields_far (w : World) (T : Tz w) (n m0 m t p : Nat) (e0 pw R : Int) (hn : n ≤ 64) (h : Fo n m0 m t p e0 pw R) (hR : R ≤ -(n : Int) ∨ n ≤ R) :
    Calls Tryd.prog 33 #[.int .i64 (n : Int), u64 m0, .int .i64 e0] w (Pnn w) := by
  have g := h.t63
  obtain ⟨lt, ho, eq, len, hpw, reg⟩ := h
  have CT := Lib.hid (fun W (TW : Tz W) => tz_any W TW m0 m t lt eq ho)
  have CL := Lib.hid (fun W => len64_any m g.2.2.1 W)
  have CB := Lib.hid (fun W => behind_out W n R hn hR)
  rw [len] at CL
  obtain ⟨s1, hs1⟩ : ∃ s1, IntKind.i64.wrap (e0 + (t : Int)) = s1 := ⟨_, rfl⟩
  rw [hs1] at hpw
  have d0 : ((m0 : Int) == 0) = false := by
    rw [beq_eq_false_iff_ne]
    have : 0 < m * 2 ^ t := Nat.mul_pos (by omega) (M.p2 t)
    omega
  obtain ⟨y, hy⟩ : ∃ y : Nat, 2 ^ t = y := ⟨_, rfl⟩
  have yz : (2 : Int) ^ t = (y : Int) := by rw [← hy]; push_cast; rfl
  have xy : (m0 : Int) / (y : Int) = (m : Int) := by
    rw [eq, hy]
    have y0 : 0 < y := by rw [← hy]; exact M.p2 t
    push_cast
    exact Int.mul_ediv_cancel _ (by omega)
  have pl : (((p + 1 : Nat) : Int)) - 1 = (p : Int) := by omega
  have tb : t ≤ 63 := g.1
  have pb : p ≤ 63 := g.2.1
  have T' := Lib.hid T
  have G := Lib.hid g
  clear g hy eq len T hR ho
  go_enter Tryd.func33, Tryd.ntmps33
  go_wp2_with fail
  refine (CT.out _ (T'.out.up ((Up.refl _).alloc _))).mono ?_
  rintro _ _ ⟨rfl, rfl⟩
  go_wp2_with fail
  refine (CL.out _).mono ?_
  rintro _ _ ⟨rfl, rfl⟩
  go_wp2_with fail
  refine (CB.out _).mono ?_
  rintro _ w1 ⟨⟨s, rfl⟩, U⟩
  exact ⟨rfl, ⟨_, rfl⟩, ((Up.refl _).alloc _).trans U⟩
set_option maxHeartbeats 4000000 in
set_option maxRecDepth 100000 in
theorem fields_long (w : World) (T : Tz w) (n m0 m t p r : Nat) (e0 pw R : Int) (hn2 : 2 ≤ n) (hn : n ≤ 64) (h : Fo n m0 m t p e0 pw R) (hL : M.Lf n R r) (hp : r - 2 < p) :
    Calls Tryd.prog 33 #[.int .i64 (n : Int), u64 m0, .int .i64 e0] w (Pnn w) := by
  have g := h.t63
  obtain ⟨lt, ho, eq, len, hpw, reg⟩ := h
  have CT := Lib.hid (fun W (TW : Tz W) => tz_any W TW m0 m t lt eq ho)
  have CL := Lib.hid (fun W => len64_any m g.2.2.1 W)
  have CB := Lib.hid (fun W => behind_any W n r R hn2 hn hL)
  have rb : -64 ≤ R ∧ R ≤ 64 ∧ r ≤ 62 := by rcases hL with h | h | h <;> omega
  obtain ⟨B, hB⟩ : ∃ B : Nat, r - 2 = B := ⟨_, rfl⟩
  obtain ⟨X, hX⟩ : ∃ X : Int, ((min r 2 : Nat) : Int) = X := ⟨_, rfl⟩
  rw [hB, hX] at CB
  rw [hB] at hp
  have bb : B ≤ 60 := by omega
  have d1 : B < p := by omega
  rw [len] at CL
  obtain ⟨s1, hs1⟩ : ∃ s1, IntKind.i64.wrap (e0 + (t : Int)) = s1 := ⟨_, rfl⟩
  rw [hs1] at hpw
  have d0 : ((m0 : Int) == 0) = false := by
    rw [beq_eq_false_iff_ne]
    have : 0 < m * 2 ^ t := Nat.mul_pos (by omega) (M.p2 t)
    omega
  obtain ⟨y, hy⟩ : ∃ y : Nat, 2 ^ t = y := ⟨_, rfl⟩
  have yz : (2 : Int) ^ t = (y : Int) := by rw [← hy]; push_cast; rfl
  have xy : (m0 : Int) / (y : Int) = (m : Int) := by
    rw [eq, hy]
    have y0 : 0 < y := by rw [← hy]; exact M.p2 t
    push_cast
    exact Int.mul_ediv_cancel _ (by omega)
  have pl : (((p + 1 : Nat) : Int)) - 1 = (p : Int) := by omega
  have tb : t ≤ 63 := g.1
  have pb : p ≤ 63 := g.2.1
  have T' := Lib.hid T
  have G := Lib.hid g
  clear g hy eq len T hL hX hB ho hp
  go_enter Tryd.func33, Tryd.ntmps33
  go_wp2_with fail
  refine (CT.out _ (T'.out.up ((Up.refl _).alloc _))).mono ?_
  rintro _ _ ⟨rfl, rfl⟩
  go_wp2_with fail
  refine (CL.out _).mono ?_
  rintro _ _ ⟨rfl, rfl⟩
  go_wp2_with fail
  refine (CB.out _).mono ?_
  rintro _ _ ⟨rfl, rfl⟩
  go_wp2_with fail
  exact ⟨rfl, ⟨_, rfl⟩, (Up.refl _).alloc _⟩
set_option maxHeartbeats 4000000 in
set_option maxRecDepth 100000 in
theorem fields_in (w : World) (T : Tz w) (n m0 m t p r : Nat) (e0 pw R : Int) (hn2 : 2 ≤ n) (hn : n ≤ 64) (h : Fo n m0 m t p e0 pw R) (hL : M.Lf n R r) (hp : p ≤ r - 2) :
    Calls Tryd.prog 33 #[.int .i64 (n : Int), u64 m0, .int .i64 e0] w (Sp R (pw % 4) ((m - 2 ^ p) * 2 ^ (r - 2 - p)) ((r - 2 : Nat) : Int) w) := by
  have g := h.t63
  obtain ⟨lt, ho, eq, len, hpw, reg⟩ := h
  have CT := Lib.hid (fun W (TW : Tz W) => tz_any W TW m0 m t lt eq ho)
  have CL := Lib.hid (fun W => len64_any m g.2.2.1 W)
  have CB := Lib.hid (fun W => behind_any W n r R hn2 hn hL)
  have rb : -64 ≤ R ∧ R ≤ 64 ∧ r ≤ 62 := by rcases hL with h | h | h <;> omega
  obtain ⟨B, hB⟩ : ∃ B : Nat, r - 2 = B := ⟨_, rfl⟩
  obtain ⟨X, hX⟩ : ∃ X : Int, ((min r 2 : Nat) : Int) = X := ⟨_, rfl⟩
  rw [hB, hX] at CB
  rw [hB] at hp
  have bb : B ≤ 60 := by omega
  have d1 : ¬ B < p := by omega
  obtain ⟨P, hP⟩ : ∃ P : Nat, 2 ^ p = P := ⟨_, rfl⟩
  have Pz : (2 : Int) ^ p = (P : Int) := by rw [← hP]; push_cast; rfl
  have Pb : P ≤ 1152921504606846976 := by
    rw [← hP]
    have h1 := M.p2le (a := p) (b := 60) (by omega)
    have h2 : (2 : Nat) ^ 60 = 1152921504606846976 := by decide
    omega
  obtain ⟨q, hq⟩ : ∃ q, B - p = q := ⟨_, rfl⟩
  have qz : (B : Int) - (p : Int) = (q : Int) := by omega
  have qb : q ≤ 60 := by omega
  obtain ⟨Q, hQ⟩ : ∃ Q : Nat, 2 ^ q = Q := ⟨_, rfl⟩
  have Qz : (2 : Int) ^ q = (Q : Int) := by rw [← hQ]; push_cast; rfl
  obtain ⟨D, hD⟩ : ∃ D : Nat, m - P = D := ⟨_, rfl⟩
  have m1 := g.2.2.2.1
  have m2 := g.2.2.2.2
  rw [M.p2s] at m2
  rw [hP] at m1 m2
  have Dz : (m : Int) - (P : Int) = (D : Int) := by omega
  obtain ⟨F, hF⟩ : ∃ F : Nat, D * Q = F := ⟨_, rfl⟩
  have Fz : (D : Int) * (Q : Int) = (F : Int) := by rw [← hF]; push_cast; rfl
  have Fb : F < 1152921504606846976 := by
    rw [← hF]
    have a1 : D * Q < P * Q := Nat.mul_lt_mul_of_pos_right (by omega) (by rw [← hQ]; exact M.p2 q)
    have a2 : P * Q ≤ 2 ^ 60 := by rw [← hP, ← hQ, ← Nat.pow_add]; exact M.p2le (by omega)
    have h2 : (2 : Nat) ^ 60 = 1152921504606846976 := by decide
    omega
  have Db : D < 1152921504606846976 := by omega
  rw [hB, hq, hP, hD, hQ, hF]
  obtain ⟨E, hE⟩ : ∃ E, pw % 4 = E := ⟨_, rfl⟩
  have an : bits BinOp.and IntKind.i64 pw 3 = E := by rw [and_3i, hE]
  rw [hE]
  have eb : 0 ≤ E ∧ E ≤ 3 := by omega
  clear hP hq hQ hD hF m1 m2 hE
  rw [len] at CL
  obtain ⟨s1, hs1⟩ : ∃ s1, IntKind.i64.wrap (e0 + (t : Int)) = s1 := ⟨_, rfl⟩
  rw [hs1] at hpw
  have d0 : ((m0 : Int) == 0) = false := by
    rw [beq_eq_false_iff_ne]
    have : 0 < m * 2 ^ t := Nat.mul_pos (by omega) (M.p2 t)
    omega
  obtain ⟨y, hy⟩ : ∃ y : Nat, 2 ^ t = y := ⟨_, rfl⟩
  have yz : (2 : Int) ^ t = (y : Int) := by rw [← hy]; push_cast; rfl
  have xy : (m0 : Int) / (y : Int) = (m : Int) := by
    rw [eq, hy]
    have y0 : 0 < y := by rw [← hy]; exact M.p2 t
    push_cast
    exact Int.mul_ediv_cancel _ (by omega)
  have pl : (((p + 1 : Nat) : Int)) - 1 = (p : Int) := by omega
  have tb : t ≤ 63 := g.1
  have pb : p ≤ 63 := g.2.1
  have T' := Lib.hid T
  have G := Lib.hid g
  clear g hy eq len T hL hX hB ho hp
  go_enter Tryd.func33, Tryd.ntmps33
  go_wp2_with fail
  refine (CT.out _ (T'.out.up ((Up.refl _).alloc _))).mono ?_
  rintro _ _ ⟨rfl, rfl⟩
  go_wp2_with fail
  refine (CL.out _).mono ?_
  rintro _ _ ⟨rfl, rfl⟩
  go_wp2_with fail
  refine (CB.out _).mono ?_
  rintro _ _ ⟨rfl, rfl⟩
  go_wp2_with fail
  refine bodyPost_ret (v := fdv R E F (B : Int)) (by simp [results, Tryd.results33, go_sem]) rfl ?_
  exact ⟨rfl, by first | exact (Up.refl _).alloc _ | exact ((Up.refl w).alloc _).drew⟩
end Go.Proofs.YtngoglhjelcdgaaDoor
