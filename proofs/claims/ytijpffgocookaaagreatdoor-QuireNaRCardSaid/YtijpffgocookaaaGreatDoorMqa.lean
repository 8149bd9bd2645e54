/-
  Package mini, as its contracts.
-/
import Derived.Test.YtijpffgocookaaaGreatDoorMra
import Derived.Test.YtijpffgocookaaaGreatDoorTz
import Derived.BigQuiet
/-
  The laws of layer 6: what is asked of package mini; what each shows first; MiniTells, MiniDoubles.
-/
namespace Go.Proofs.YtijpffgocookaaaGreatDoor
open Go.RowKit

def S3 (f m : Nat) (x : Int) (w : World) (e : Ending) (w' : World) : Prop := e = .returned (.tuple #[u64 f, u64 m, .int .i64 x]) ∧ Up w w'
def Vn6 (m : Nat) (z x : Int) (w : World) (e : Ending) (w' : World) : Prop := e = .returned (.tuple #[u64 m, .int .i64 z, .int .i64 x]) ∧ Up w w'
def Kn6 (k : Nat) (x : Int) (w : World) (e : Ending) (w' : World) : Prop := e = .returned (.tuple #[u64 k, .int .i64 x]) ∧ Up w w'
def True6 (w : World) (e : Ending) (w' : World) : Prop := e = .returned (.bool true) ∧ Up w w'
theorem bad_all {man b : Int} {k : Nat} (h : bad6 man 0 k) : bad6 man b k := by
  rcases h with h | h | h | h | h
  · exact .inl h
  · exact .inr (.inl h)
  · omega
  · omega
  · exact .inr (.inr (.inr (.inr h)))
theorem nat_u6 {x : Int} (h : (Lit.int .u64 x).wf = true) : ∃ k : Nat, x = (k : Int) ∧ k < 18446744073709551616 := by
  have h6 : (0 : Int) ≤ x ∧ x ≤ 18446744073709551615 := by simpa [Lit.wf, IntKind.min, IntKind.max, IntKind.signed, IntKind.bits] using h
  exact ⟨x.toNat, by omega, by omega⟩
namespace M
theorem ism56 : IsM 3 7 56 1 0 := .inr ⟨by decide, 3, by decide, by decide⟩
theorem ism1 : IsM 3 7 1 1 (-9) := .inr ⟨by decide, 0, by decide, by decide⟩
theorem ism126 : IsM 3 7 126 7 6 := .inr ⟨by decide, 1, by decide, by decide⟩
theorem ism17 : ∀ k, mok 3 7 k → ¬ IsM 3 7 k 17 0 := fun k _ h => by
  have hl := mX_lt 3 k
  rcases h with ⟨_, h2, _⟩ | ⟨_, t, h2, _⟩
  · omega
  · have p := p2 t
    have : 17 ≤ 17 * 2 ^ t := Nat.le_mul_of_pos_right _ p
    have : (2 : Nat) ^ 3 = 8 := by decide
    omega
end M
end Go.Proofs.YtijpffgocookaaaGreatDoor
/-
  Package mini: the field and the shift of a number; the small calls.
-/
namespace Go.Proofs.YtijpffgocookaaaGreatDoor
open Go.RowKit

theorem isMan_any (w : World) (x : Int) (b : Bool) (h : decide (0 ≤ x ∧ x ≤ 60) = b) : Calls Tryz.prog 193 #[.int .i64 x] w (Same (.bool b) w) := by
  by_cases h1 : 0 ≤ x
  · have d1 : decide (0 ≤ x) = true := decide_eq_true h1
    have d2 : decide (x ≤ 60) = b := by rw [← h]; simp [h1]
    clear h
    go_enter Tryz.func193, Tryz.ntmps193
    go_wp2_with fail
    go_ret
    exact ⟨by first | rfl | exact ret_bool d2, rfl⟩
  · have d1 : decide (0 ≤ x) = false := decide_eq_false h1
    obtain rfl : false = b := by rw [← h]; simp [h1]
    clear h
    go_enter Tryz.func193, Tryz.ntmps193
    go_wp2_with fail
    go_ret
    exact ⟨rfl, rfl⟩
theorem isBias_any (w : World) (x : Int) (b : Bool) (h : decide (-2000 ≤ x ∧ x ≤ 2000) = b) : Calls Tryz.prog 185 #[.int .i64 x] w (Same (.bool b) w) := by
  by_cases h1 : -2000 ≤ x
  · have d1 : decide (-2000 ≤ x) = true := decide_eq_true h1
    have d2 : decide (x ≤ 2000) = b := by rw [← h]; simp [h1]
    clear h
    go_enter Tryz.func185, Tryz.ntmps185
    go_wp2_with fail
    go_ret
    exact ⟨by first | rfl | exact ret_bool d2, rfl⟩
  · have d1 : decide (-2000 ≤ x) = false := decide_eq_false h1
    obtain rfl : false = b := by rw [← h]; simp [h1]
    clear h
    go_enter Tryz.func185, Tryz.ntmps185
    go_wp2_with fail
    go_ret
    exact ⟨rfl, rfl⟩
theorem unit_any (w : World) (p f : Nat) (b : Int) (hp : p ≤ 60) (b1 : -2000 ≤ b) (b2 : b ≤ 2000) (hf : f ≤ 100000) :
    Calls Tryz.prog 186 #[.int .i64 (p : Int), .int .i64 b, .int .i64 (f : Int)] w (Same (.int .i64 ((f : Int) - b - p)) w) := by
  go_enter Tryz.func186, Tryz.ntmps186
  go_wp2_with fail
  go_ret
  exact ⟨by first | rfl | exact ret_int (by omega), rfl⟩
theorem pow_small6 {p P : Nat} (h : 2 ^ p = P) (hp : p ≤ 63) : 0 < P ∧ P ≤ 9223372036854775808 := by
  rw [← h]
  have h1 := M.p2le (a := p) (b := 63) hp
  have h2 : (2 : Nat) ^ 63 = 9223372036854775808 := by decide
  exact ⟨M.p2 p, by omega⟩
namespace M
theorem bits_shl {m : Nat} (h : m ≠ 0) (t : Nat) : bits (m * 2 ^ t) = bits m + t := by
  have hb := bits_pos h
  have h1 := bits_le h
  have h2 := bits_lt m
  obtain ⟨c, hc⟩ : ∃ c, bits m = c + 1 := ⟨bits m - 1, by omega⟩
  rw [hc, Nat.add_sub_cancel] at h1
  rw [hc] at h2
  have p := p2 t
  rw [hc, bits_of (b := c + t)]
  · omega
  · rw [Nat.pow_add]; exact Nat.mul_le_mul_right _ h1
  · rw [show c + t + 1 = (c + 1) + t by omega, Nat.pow_add]
    exact Nat.mul_lt_mul_of_pos_right h2 p
theorem bits_ge {a k : Nat} (h : 2 ^ k ≤ a) : k + 1 ≤ bits a := by
  have := bits_lt a
  rcases Nat.lt_or_ge k (bits a) with h' | h'
  · omega
  · have := p2le h'; omega
/-- The field and the shift of a magnitude's odd part. -/
theorem key_nums {p k m : Nat} {b z : Int} (hk : k < 18446744073709551616) (ho : mok p b k) (h : IsM p b k m z) (h0 : m ≠ 0) :
    ∃ F t : Nat, 1 ≤ F ∧ F ≤ min 4095 (18446744073709551615 / 2 ^ p) ∧ max (b + z + (bits m : Int) - 1) 1 = (F : Int) ∧ z - ((F : Int) - b - p) = (t : Int) ∧ (F - 1) * 2 ^ p + m * 2 ^ t = k ∧ t < 62 := by
  obtain ⟨hp, hb1, hb2, h4⟩ := ho
  rcases h with ⟨_, h2, _⟩ | ⟨h1, t, h2, h3⟩
  · exact absurd h2 h0
  · have hl := mX_lt p k
    obtain ⟨e, hlow⟩ := key_parts p k
    have hbits := bits_shl h0 t
    rw [← h2] at hbits
    have hs := mS_eq p b k
    have h60 : 2 ^ p ≤ 2 ^ 60 := p2le hp
    have c60 : (2 : Nat) ^ 60 = 1152921504606846976 := by decide
    have hdiv : 1 ≤ 18446744073709551615 / 2 ^ p := by
      rw [Nat.le_div_iff_mul_le (p2 p)]; omega
    have hfd : k / 2 ^ p ≤ 18446744073709551615 / 2 ^ p := Nat.div_le_div_right (by omega)
    have t62 : t < 62 := p2inj (by have : (2 : Nat) ^ 62 = 4611686018427387904 := by decide
                                   have p3 : 2 ^ t ≤ m * 2 ^ t := Nat.le_mul_of_pos_left _ (by omega)
                                   omega)
    obtain ⟨f, hf⟩ : ∃ f, k / 2 ^ p = f := ⟨_, rfl⟩
    obtain ⟨a, ha⟩ : ∃ a, k % 2 ^ p = a := ⟨_, rfl⟩
    rw [hf, ha] at e
    rw [ha] at hlow
    rw [hf] at hs h4 hfd
    have hX : mX p k = if f = 0 then a else a + 2 ^ p := by unfold mX; rw [hf, ha]
    obtain ⟨P, hP⟩ : ∃ P, 2 ^ p = P := ⟨_, rfl⟩
    rcases (show f = 0 ∨ 0 < f by omega) with f0 | f0
    · subst f0
      rw [if_pos rfl] at hX
      have hb := bits_le_of_lt (a := mX p k) (k := p) (by omega)
      refine ⟨1, t, by omega, by omega, by omega, by omega, ?_, t62⟩
      rw [← h2, hX]; omega
    · rw [if_neg (by omega)] at hX
      have hb := bits_le_of_lt (a := mX p k) (k := p + 1) (by rw [p2s]; omega)
      have hb2 := bits_ge (a := mX p k) (k := p) (by omega)
      refine ⟨f, t, by omega, by omega, by omega, by omega, ?_, t62⟩
      rw [← h2, hX]
      obtain ⟨g, rfl⟩ : ∃ g, f = g + 1 := ⟨f - 1, by omega⟩
      rw [Nat.add_sub_cancel]
      rw [Nat.add_mul] at e
      omega
/-- A number whose field and shift may be is a magnitude's. -/
theorem key_found {p m F t : Nat} {b z : Int} (hp : p ≤ 60) (hb1 : -2000 ≤ b) (hb2 : b ≤ 2000) (h1 : m % 2 = 1) (hF : max (b + z + (bits m : Int) - 1) 1 = (F : Int)) (ht : z - ((F : Int) - b - p) = (t : Int)) (h4 : F ≤ 4095) :
    ∃ k, mok p b k ∧ IsM p b k m z := by
  have hbits := bits_shl (m := m) (by omega) t
  obtain ⟨y, hy⟩ : ∃ y, m * 2 ^ t = y := ⟨_, rfl⟩
  rw [hy] at hbits
  have y0 : y ≠ 0 := by
    have := Nat.mul_pos (show 0 < m by omega) (p2 t)
    omega
  have hyl : y < 2 ^ (p + 1) := Nat.lt_of_lt_of_le (bits_lt y) (p2le (by omega))
  rw [p2s] at hyl
  rcases (show y < 2 ^ p ∨ 2 ^ p ≤ y by omega) with hc | hc
  · have hb := bits_le_of_lt hc
    have F1 : F = 1 := by omega
    subst F1
    have hd : y / 2 ^ p = 0 := Nat.div_eq_of_lt hc
    refine ⟨y, ⟨hp, hb1, hb2, by omega⟩, .inr ⟨h1, t, ?_, ?_⟩⟩
    · unfold mX
      rw [hd, if_pos rfl, Nat.mod_eq_of_lt hc, hy]
    · unfold mS
      rw [hd, if_pos rfl]
      omega
  · have hb := bits_ge hc
    obtain ⟨d, hd⟩ := of_parts (p := p) (f := F) (m := y - 2 ^ p) (by omega)
    refine ⟨F * 2 ^ p + (y - 2 ^ p), ⟨hp, hb1, hb2, by omega⟩, .inr ⟨h1, t, ?_, ?_⟩⟩
    · unfold mX
      rw [d, hd, if_neg (by omega), hy]
      omega
    · unfold mS
      rw [d, if_neg (by omega)]
      omega
end M
end Go.Proofs.YtijpffgocookaaaGreatDoor
/-
  Package mini: what each of its calls comes to.
-/
namespace Go.Proofs.YtijpffgocookaaaGreatDoor
open Go.RowKit Go.Shelf

set_option maxHeartbeats 2000000 in
theorem msplit_any (w : World) (p k f m : Nat) (hp : p ≤ 60) (hk : k < 18446744073709551616) (h4 : k / 2 ^ p ≤ 4095) (hf : k / 2 ^ p = f) (hm : k % 2 ^ p = m) :
    Calls Tryz.prog 184 #[.int .i64 (p : Int), u64 k] w (S3 f m 0 w) := by
  have CM := Lib.hid (fun W => isMan_any W (p : Int) true (decide_eq_true (by omega)))
  have an := and_pn k p hk (by omega)
  rw [hm] at an
  have sh := shr_cast hf
  rw [hf] at h4
  obtain ⟨P, hP⟩ : ∃ P : Nat, 2 ^ p = P := ⟨_, rfl⟩
  have pz : (2 : Int) ^ p = (P : Int) := by rw [← hP]; push_cast; rfl
  have hPs := pow_small6 hP (by omega)
  rw [hP] at an
  have sh2 : (k : Int) / (P : Int) = (f : Int) := by rw [← pz]; exact sh
  have d4 : decide (4095 < (f : Int)) = false := decide_eq_false (by omega)
  have U := Up.refl w
  clear hf hm hP
  go_enter Tryz.func184, Tryz.ntmps184
  go_wp2_with fail
  refine (CM.out _).mono ?_
  rintro _ _ ⟨rfl, rfl⟩
  go_wp2_with fail
  go_quiet (fail)
  go_wp2_with fail
  go_ret3
  exact ⟨rfl, by first | exact U | exact U.drewN _⟩
set_option maxHeartbeats 2000000 in
theorem msplit_bad (w : World) (man : Int) (k : Nat) (_hk : k < 18446744073709551616) (h : bad6 man 0 k) :
    Calls Tryz.prog 184 #[.int .i64 man, u64 k] w (S3 0 0 1 w) := by
  have U := Up.refl w
  by_cases c : 0 ≤ man ∧ man ≤ 60
  · have CM := Lib.hid (fun W => isMan_any W man true (decide_eq_true c))
    obtain ⟨p, rfl⟩ := Int.eq_ofNat_of_zero_le c.1
    have h5 : 4095 < k / 2 ^ p := by
      rcases h with h | h | h | h | h
      · omega
      · omega
      · omega
      · omega
      · simpa using h
    obtain ⟨f, hf⟩ : ∃ f, k / 2 ^ p = f := ⟨_, rfl⟩
    have sh := shr_cast hf
    rw [hf] at h5
    have d4 : decide (4095 < (f : Int)) = true := decide_eq_true (by omega)
    have p60 : p ≤ 60 := by omega
    clear h hf c
    go_enter Tryz.func184, Tryz.ntmps184
    go_wp2_with fail
    refine (CM.out _).mono ?_
    rintro _ _ ⟨rfl, rfl⟩
    go_wp2_with fail
    go_ret3
    exact ⟨rfl, U⟩
  · have CM := Lib.hid (fun W => isMan_any W man false (decide_eq_false c))
    clear h c
    go_enter Tryz.func184, Tryz.ntmps184
    go_wp2_with fail
    refine (CM.out _).mono ?_
    rintro _ _ ⟨rfl, rfl⟩
    go_wp2_with fail
    go_ret3
    exact ⟨rfl, U⟩
set_option maxHeartbeats 4000000 in
theorem mvalue_bad (w : World) (man b : Int) (k : Nat) (hk : k < 18446744073709551616) (h : bad6 man b k) :
    Calls Tryz.prog 167 #[.int .i64 man, .int .i64 b, u64 k] w (Vn6 0 0 1 w) := by
  have U := Up.refl w
  by_cases c : bad6 man 0 k
  · have CM := Lib.hid (fun W => msplit_bad W man k hk c)
    clear h c
    go_enter Tryz.func167, Tryz.ntmps167
    go_wp2_with fail
    refine (CM.out _).mono ?_
    rintro _ w1 ⟨rfl, h1⟩
    replace U := U.trans h1
    clear h1
    go_wp2_with fail
    go_ret3
    exact ⟨rfl, U⟩
  · obtain ⟨p, rfl, ho⟩ := of_bad6 c
    have hb : ¬ (-2000 ≤ b ∧ b ≤ 2000) := by
      intro hb
      rcases h with h | h | h | h | h
      · exact c (.inl h)
      · exact c (.inr (.inl h))
      · omega
      · omega
      · exact c (.inr (.inr (.inr (.inr h))))
    have CM := Lib.hid (fun W => msplit_any W p k _ _ ho.1 hk ho.2.2.2 rfl rfl)
    have CB := Lib.hid (fun W => isBias_any W b false (decide_eq_false hb))
    obtain ⟨f, hf⟩ : ∃ f, k / 2 ^ p = f := ⟨_, rfl⟩
    obtain ⟨a, ha⟩ : ∃ a, k % 2 ^ p = a := ⟨_, rfl⟩
    rw [hf, ha] at CM
    clear h c hf ha ho hb
    go_enter Tryz.func167, Tryz.ntmps167
    go_wp2_with fail
    refine (CM.out _).mono ?_
    rintro _ w1 ⟨rfl, h1⟩
    replace U := U.trans h1
    clear h1
    go_wp2_with fail
    refine (CB.out _).mono ?_
    rintro _ _ ⟨rfl, rfl⟩
    go_wp2_with fail
    go_ret3
    exact ⟨rfl, U⟩
set_option maxHeartbeats 4000000 in
theorem mvalue_any (w : World) (TW : Hid (Tz w)) (p k m : Nat) (b z : Int) (hk : k < 18446744073709551616) (ho : M.mok p b k) (h : M.IsM p b k m z) :
    Calls Tryz.prog 167 #[.int .i64 (p : Int), .int .i64 b, u64 k] w (Vn6 m z 0 w) := by
  have U := Up.refl w
  have CM := Lib.hid (fun W => msplit_any W p k _ _ ho.1 hk ho.2.2.2 rfl rfl)
  have CB := Lib.hid (fun W => isBias_any W b true (decide_eq_true ⟨ho.2.1, ho.2.2.1⟩))
  have hl := (M.key_parts p k).2
  have h0 := h.zero.1
  have hX : M.mX p k = if k / 2 ^ p = 0 then k % 2 ^ p else k % 2 ^ p + 2 ^ p := rfl
  have hS : M.mS p b k = if k / 2 ^ p = 0 then 1 - b - p else (k / 2 ^ p : Nat) - b - p := rfl
  obtain ⟨p60, b1, b2, h4⟩ := ho
  have hf0 : k / 2 ^ p ≠ 0 → k ≠ 0 := by rintro h rfl; simp at h
  obtain ⟨f, hf⟩ : ∃ f, k / 2 ^ p = f := ⟨_, rfl⟩
  obtain ⟨a, ha⟩ : ∃ a, k % 2 ^ p = a := ⟨_, rfl⟩
  rw [ha] at hl hX CM
  rw [hf] at hX hS h4 CM hf0
  clear hf ha
  rcases h with ⟨g1, rfl, rfl⟩ | ⟨g1, t, g2, g3⟩
  · obtain rfl : k = 0 := h0.1 rfl
    clear hX hS g1 h0 hf0 hl
    go_enter Tryz.func167, Tryz.ntmps167
    go_wp2_with fail
    refine (CM.out _).mono ?_
    rintro _ w1 ⟨rfl, h1⟩
    replace U := U.trans h1
    clear h1
    go_wp2_with fail
    refine (CB.out _).mono ?_
    rintro _ _ ⟨rfl, rfl⟩
    go_wp2_with fail
    go_ret3
    exact ⟨rfl, U⟩
  · have k0 : ((k : Int) == 0) = false := by
      rw [beq_eq_false_iff_ne]
      have : m ≠ 0 := by omega
      have : k ≠ 0 := fun e => this (h0.2 e)
      omega
    clear h0 hf0
    have h60 : 2 ^ p ≤ 2 ^ 60 := M.p2le p60
    have c60 : (2 : Nat) ^ 60 = 1152921504606846976 := by decide
    have t64 : t < 64 := by
      refine M.p2inj (a := t) (b := 64) ?_
      have c64 : (2 : Nat) ^ 64 = 18446744073709551616 := by decide
      have p3 : 2 ^ t ≤ m * 2 ^ t := Nat.le_mul_of_pos_left _ (by omega)
      have := M.mX_lt p k
      omega
    rw [g2] at hX
    by_cases c : f = 0
    · subst c
      rw [if_pos rfl] at hX hS
      rw [hS] at g3
      have a64 : a < 18446744073709551616 := by omega
      have CT := Lib.hid (fun W (T : Tz W) => tz_any W T a m t a64 hX.symm g1)
      have CU := Lib.hid (fun W => unit_any W p 1 b p60 b1 b2 (by decide))
      have dv : (a : Int) / 2 ^ t = (m : Int) := shr_cast (by rw [← hX]; exact Nat.mul_div_cancel _ (M.p2 t))
      have z1 : (1 : Int) - b - p + t = z := by omega
      clear hX hS g2 g3 g1 hl h60 c60
      go_enter Tryz.func167, Tryz.ntmps167
      go_wp2_with fail
      refine (CM.out _).mono ?_
      rintro _ w1 ⟨rfl, h1⟩
      replace U := U.trans h1
      clear h1
      go_wp2_with fail
      refine (CB.out _).mono ?_
      rintro _ _ ⟨rfl, rfl⟩
      go_wp2_with fail
      refine (CT.out _ (TW.out.up U)).mono ?_
      rintro _ _ ⟨rfl, rfl⟩
      go_wp2_with fail
      go_quiet ((go_at_call 186; exact Same.quiet (CU.out _)))
      go_wp2_with fail
      go_ret3
      exact ⟨by first | rfl | exact ret_3 rfl (by omega), by first | exact U | exact U.drewN _⟩
    · rw [if_neg c] at hX hS
      rw [hS] at g3
      obtain ⟨P, hP⟩ : ∃ P : Nat, 2 ^ p = P := ⟨_, rfl⟩
      have pz : (2 : Int) ^ p = (P : Int) := by rw [← hP]; push_cast; rfl
      have P60 : P ≤ 1152921504606846976 := by
        rw [← hP]
        have h1 := M.p2le (b := 60) p60
        have h2 : (2 : Nat) ^ 60 = 1152921504606846976 := by decide
        omega
      rw [hP] at hl hX
      obtain ⟨X, hX'⟩ : ∃ X, a + P = X := ⟨_, rfl⟩
      rw [hX'] at hX
      have CT := Lib.hid (fun W (T : Tz W) => tz_any W T X m t (by omega) hX.symm g1)
      have CU := Lib.hid (fun W => unit_any W p f b p60 b1 b2 (by omega))
      have dv : (X : Int) / 2 ^ t = (m : Int) := shr_cast (by rw [← hX]; exact Nat.mul_div_cancel _ (M.p2 t))
      have z1 : (f : Int) - b - p + t = z := by omega
      have xz : (a : Int) + (P : Int) = (X : Int) := by omega
      have xb : X < 9223372036854775808 := by omega
      have xw : IntKind.u64.wrap (X : Int) = (X : Int) := by rw [IntKind.wrap_u64]; omega
      have f0 : ((f : Int) != 0) = true := by simpa using c
      have f1 : ¬ (f : Int) < 1 := by omega
      clear hX hS g2 g3 g1 hl hP h60 c60
      go_enter Tryz.func167, Tryz.ntmps167
      go_wp2_with fail
      refine (CM.out _).mono ?_
      rintro _ w1 ⟨rfl, h1⟩
      replace U := U.trans h1
      clear h1
      go_wp2_with fail
      refine (CB.out _).mono ?_
      rintro _ _ ⟨rfl, rfl⟩
      go_wp2_with fail
      refine (CT.out _ (TW.out.up U)).mono ?_
      rintro _ _ ⟨rfl, rfl⟩
      go_wp2_with fail
      go_quiet ((go_at_call 186; exact Same.quiet (CU.out _)))
      go_wp2_with fail
      go_ret3
      exact ⟨by first | rfl | exact ret_3 rfl (by omega), by first | exact U | exact U.drewN _⟩
end Go.Proofs.YtijpffgocookaaaGreatDoor
