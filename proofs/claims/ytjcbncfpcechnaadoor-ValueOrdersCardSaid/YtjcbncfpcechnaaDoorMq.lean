/-
  Package mini: what each of its calls comes to.
-/
import Derived.Test.YtjcbncfpcechnaaDoorMa
import Derived.Test.YtjcbncfpcechnaaDoorMq0
import Derived.BigQuiet
namespace Go.Proofs.YtjcbncfpcechnaaDoor
open Go.RowKit Go.Shelf

set_option maxHeartbeats 2000000 in
theorem msplit_any (w : World) (p k f m : Nat) (hp : p ≤ 60) (hk : k < 18446744073709551616) (h4 : k / 2 ^ p ≤ 4095) (hf : k / 2 ^ p = f) (hm : k % 2 ^ p = m) :
    Calls Tryd.prog 78 #[.int .i64 (p : Int), u64 k] w (S3 f m 0 w) := by
  have CM := Lib.hid (fun W => isMan_any W (p : Int) true (decide_eq_true (by omega)))
  have an := and_pn k p hk (by omega)
  rw [hm] at an
  have sh := shr_cast hf
  rw [hf] at h4
  obtain ⟨P, hP⟩ : ∃ P : Nat, 2 ^ p = P := ⟨_, rfl⟩
  have pz : (2 : Int) ^ p = (P : Int) := by rw [← hP]; push_cast; rfl
  have hPs := pow_small6 hP (by omega)
  rw [hP] at an
  have sh2 : (k : Int) / (P : Int) = (f : Int) := by rw [← pz]; exact sh
  have d4 : decide (4095 < (f : Int)) = false := decide_eq_false (by omega)
  have U := Up.refl w
  clear hf hm hP
  go_enter Tryd.func78, Tryd.ntmps78
  go_wp2_with fail
  refine (CM.out _).mono ?_
  rintro _ _ ⟨rfl, rfl⟩
  go_wp2_with fail
  go_quiet (fail)
  go_wp2_with fail
  go_ret3
  exact ⟨rfl, by first | exact U | exact U.drewN _⟩
set_option maxHeartbeats 2000000 in
theorem msplit_bad (w : World) (man : Int) (k : Nat) (_hk : k < 18446744073709551616) (h : bad6 man 0 k) :
    Calls Tryd.prog 78 #[.int .i64 man, u64 k] w (S3 0 0 1 w) := by
  have U := Up.refl w
  by_cases c : 0 ≤ man ∧ man ≤ 60
  · have CM := Lib.hid (fun W => isMan_any W man true (decide_eq_true c))
    obtain ⟨p, rfl⟩ := Int.eq_ofNat_of_zero_le c.1
    have h5 : 4095 < k / 2 ^ p := by
      rcases h with h | h | h | h | h
      · omega
      · omega
      · omega
      · omega
      · simpa using h
    obtain ⟨f, hf⟩ : ∃ f, k / 2 ^ p = f := ⟨_, rfl⟩
    have sh := shr_cast hf
    rw [hf] at h5
    have d4 : decide (4095 < (f : Int)) = true := decide_eq_true (by omega)
    have p60 : p ≤ 60 := by omega
    clear h hf c
    go_enter Tryd.func78, Tryd.ntmps78
    go_wp2_with fail
    refine (CM.out _).mono ?_
    rintro _ _ ⟨rfl, rfl⟩
    go_wp2_with fail
    go_ret3
    exact ⟨rfl, U⟩
  · have CM := Lib.hid (fun W => isMan_any W man false (decide_eq_false c))
    clear h c
    go_enter Tryd.func78, Tryd.ntmps78
    go_wp2_with fail
    refine (CM.out _).mono ?_
    rintro _ _ ⟨rfl, rfl⟩
    go_wp2_with fail
    go_ret3
    exact ⟨rfl, U⟩
set_option maxHeartbeats 4000000 in
theorem mvalue_bad (w : World) (man b : Int) (k : Nat) (hk : k < 18446744073709551616) (h : bad6 man b k) :
    Calls Tryd.prog 71 #[.int .i64 man, .int .i64 b, u64 k] w (Vn6 0 0 1 w) := by
  have U := Up.refl w
  by_cases c : bad6 man 0 k
  · have CM := Lib.hid (fun W => msplit_bad W man k hk c)
    clear h c
    go_enter Tryd.func71, Tryd.ntmps71
    go_wp2_with fail
    refine (CM.out _).mono ?_
    rintro _ w1 ⟨rfl, h1⟩
    replace U := U.trans h1
    clear h1
    go_wp2_with fail
    go_ret3
    exact ⟨rfl, U⟩
  · obtain ⟨p, rfl, ho⟩ := of_bad6 c
    have hb : ¬ (-2000 ≤ b ∧ b ≤ 2000) := by
      intro hb
      rcases h with h | h | h | h | h
      · exact c (.inl h)
      · exact c (.inr (.inl h))
      · omega
      · omega
      · exact c (.inr (.inr (.inr (.inr h))))
    have CM := Lib.hid (fun W => msplit_any W p k _ _ ho.1 hk ho.2.2.2 rfl rfl)
    have CB := Lib.hid (fun W => isBias_any W b false (decide_eq_false hb))
    obtain ⟨f, hf⟩ : ∃ f, k / 2 ^ p = f := ⟨_, rfl⟩
    obtain ⟨a, ha⟩ : ∃ a, k % 2 ^ p = a := ⟨_, rfl⟩
    rw [hf, ha] at CM
    clear h c hf ha ho hb
    go_enter Tryd.func71, Tryd.ntmps71
    go_wp2_with fail
    refine (CM.out _).mono ?_
    rintro _ w1 ⟨rfl, h1⟩
    replace U := U.trans h1
    clear h1
    go_wp2_with fail
    refine (CB.out _).mono ?_
    rintro _ _ ⟨rfl, rfl⟩
    go_wp2_with fail
    go_ret3
    exact ⟨rfl, U⟩
set_option maxHeartbeats 4000000 in
theorem mvalue_any (w : World) (TW : Hid (Tz w)) (p k m : Nat) (b z : Int) (hk : k < 18446744073709551616) (ho : M.mok p b k) (h : M.IsM p b k m z) :
    Calls Tryd.prog 71 #[.int .i64 (p : Int), .int .i64 b, u64 k] w (Vn6 m z 0 w) := by
  have U := Up.refl w
  have CM := Lib.hid (fun W => msplit_any W p k _ _ ho.1 hk ho.2.2.2 rfl rfl)
  have CB := Lib.hid (fun W => isBias_any W b true (decide_eq_true ⟨ho.2.1, ho.2.2.1⟩))
  have hl := (M.key_parts p k).2
  have h0 := h.zero.1
  have hX : M.mX p k = if k / 2 ^ p = 0 then k % 2 ^ p else k % 2 ^ p + 2 ^ p := rfl
  have hS : M.mS p b k = if k / 2 ^ p = 0 then 1 - b - p else (k / 2 ^ p : Nat) - b - p := rfl
  obtain ⟨p60, b1, b2, h4⟩ := ho
  have hf0 : k / 2 ^ p ≠ 0 → k ≠ 0 := by rintro h rfl; simp at h
  obtain ⟨f, hf⟩ : ∃ f, k / 2 ^ p = f := ⟨_, rfl⟩
  obtain ⟨a, ha⟩ : ∃ a, k % 2 ^ p = a := ⟨_, rfl⟩
  rw [ha] at hl hX CM
  rw [hf] at hX hS h4 CM hf0
  clear hf ha
  rcases h with ⟨g1, rfl, rfl⟩ | ⟨g1, t, g2, g3⟩
  · obtain rfl : k = 0 := h0.1 rfl
    clear hX hS g1 h0 hf0 hl
    go_enter Tryd.func71, Tryd.ntmps71
    go_wp2_with fail
    refine (CM.out _).mono ?_
    rintro _ w1 ⟨rfl, h1⟩
    replace U := U.trans h1
    clear h1
    go_wp2_with fail
    refine (CB.out _).mono ?_
    rintro _ _ ⟨rfl, rfl⟩
    go_wp2_with fail
    go_ret3
    exact ⟨rfl, U⟩
  · have k0 : ((k : Int) == 0) = false := by
      rw [beq_eq_false_iff_ne]
      have : m ≠ 0 := by omega
      have : k ≠ 0 := fun e => this (h0.2 e)
      omega
    clear h0 hf0
    have h60 : 2 ^ p ≤ 2 ^ 60 := M.p2le p60
    have c60 : (2 : Nat) ^ 60 = 1152921504606846976 := by decide
    have t64 : t < 64 := by
      refine M.p2inj (a := t) (b := 64) ?_
      have c64 : (2 : Nat) ^ 64 = 18446744073709551616 := by decide
      have p3 : 2 ^ t ≤ m * 2 ^ t := Nat.le_mul_of_pos_left _ (by omega)
      have := M.mX_lt p k
      omega
    rw [g2] at hX
    by_cases c : f = 0
    · subst c
      rw [if_pos rfl] at hX hS
      rw [hS] at g3
      have a64 : a < 18446744073709551616 := by omega
      have CT := Lib.hid (fun W (T : Tz W) => tz_any W T a m t a64 hX.symm g1)
      have CU := Lib.hid (fun W => unit_any W p 1 b p60 b1 b2 (by decide))
      have dv : (a : Int) / 2 ^ t = (m : Int) := shr_cast (by rw [← hX]; exact Nat.mul_div_cancel _ (M.p2 t))
      have z1 : (1 : Int) - b - p + t = z := by omega
      clear hX hS g2 g3 g1 hl h60 c60
      go_enter Tryd.func71, Tryd.ntmps71
      go_wp2_with fail
      refine (CM.out _).mono ?_
      rintro _ w1 ⟨rfl, h1⟩
      replace U := U.trans h1
      clear h1
      go_wp2_with fail
      refine (CB.out _).mono ?_
      rintro _ _ ⟨rfl, rfl⟩
      go_wp2_with fail
      refine (CT.out _ (TW.out.up U)).mono ?_
      rintro _ _ ⟨rfl, rfl⟩
      go_wp2_with fail
      go_quiet ((go_at_call 80; exact Same.quiet (CU.out _)))
      go_wp2_with fail
      go_ret3
      exact ⟨by first | rfl | exact ret_3 rfl (by omega), by first | exact U | exact U.drewN _⟩
    · rw [if_neg c] at hX hS
      rw [hS] at g3
      obtain ⟨P, hP⟩ : ∃ P : Nat, 2 ^ p = P := ⟨_, rfl⟩
      have pz : (2 : Int) ^ p = (P : Int) := by rw [← hP]; push_cast; rfl
      have P60 : P ≤ 1152921504606846976 := by
        rw [← hP]
        have h1 := M.p2le (b := 60) p60
        have h2 : (2 : Nat) ^ 60 = 1152921504606846976 := by decide
        omega
      rw [hP] at hl hX
      obtain ⟨X, hX'⟩ : ∃ X, a + P = X := ⟨_, rfl⟩
      rw [hX'] at hX
      have CT := Lib.hid (fun W (T : Tz W) => tz_any W T X m t (by omega) hX.symm g1)
      have CU := Lib.hid (fun W => unit_any W p f b p60 b1 b2 (by omega))
      have dv : (X : Int) / 2 ^ t = (m : Int) := shr_cast (by rw [← hX]; exact Nat.mul_div_cancel _ (M.p2 t))
      have z1 : (f : Int) - b - p + t = z := by omega
      have xz : (a : Int) + (P : Int) = (X : Int) := by omega
      have xb : X < 9223372036854775808 := by omega
      have xw : IntKind.u64.wrap (X : Int) = (X : Int) := by rw [IntKind.wrap_u64]; omega
      have f0 : ((f : Int) != 0) = true := by simpa using c
      have f1 : ¬ (f : Int) < 1 := by omega
      clear hX hS g2 g3 g1 hl hP h60 c60
      go_enter Tryd.func71, Tryd.ntmps71
      go_wp2_with fail
      refine (CM.out _).mono ?_
      rintro _ w1 ⟨rfl, h1⟩
      replace U := U.trans h1
      clear h1
      go_wp2_with fail
      refine (CB.out _).mono ?_
      rintro _ _ ⟨rfl, rfl⟩
      go_wp2_with fail
      refine (CT.out _ (TW.out.up U)).mono ?_
      rintro _ _ ⟨rfl, rfl⟩
      go_wp2_with fail
      go_quiet ((go_at_call 80; exact Same.quiet (CU.out _)))
      go_wp2_with fail
      go_ret3
      exact ⟨by first | rfl | exact ret_3 rfl (by omega), by first | exact U | exact U.drewN _⟩
end Go.Proofs.YtjcbncfpcechnaaDoor
