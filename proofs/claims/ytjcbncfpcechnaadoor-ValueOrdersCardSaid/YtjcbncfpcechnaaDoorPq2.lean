/-
  Package posit: split.
-/
import Derived.Test.YtjcbncfpcechnaaDoorPq
import Derived.Deep.RegionHeld3
namespace Go.Proofs.YtjcbncfpcechnaaDoor
open Go.RowKit Go.Shelf

def Sp (R E : Int) (F : Nat) (B : Int) (w : World) (e : Ending) (w' : World) : Prop := e = .returned (fdv R E F B) ∧ Up w w'
namespace M
theorem Ps.low {n k r q : Nat} {R : Int} (h : Ps n k R r q) : ∃ c, k = c * 2 ^ r + q := by
  obtain ⟨hq, h | h | h⟩ := h
  · exact ⟨1, by omega⟩
  · refine ⟨2 ^ (n - r) - 2, ?_⟩
    have e : 2 ^ (n - r) * 2 ^ r = 2 ^ n := by rw [← Nat.pow_add]; congr 1; omega
    have e2 := p2s r
    rw [Nat.sub_mul, e]
    have e3 : 2 * 2 ^ r ≤ 2 ^ n := by rw [← e2]; exact p2le (by omega)
    omega
  · exact ⟨k, by obtain ⟨_, rfl, _⟩ := h; simp at hq; omega⟩
end M
theorem and_3n (a : Nat) (h : a < 18446744073709551616) : bits BinOp.and IntKind.u64 (a : Int) 3 = ((a % 4 : Nat) : Int) := by
  have := bits_and_u64_nat a 3 h (by omega)
  rw [show ((3 : Nat) : Int) = 3 from rfl] at this
  rw [this, show a &&& 3 = a % 2 ^ 2 from Nat.and_two_pow_sub_one_eq_mod a 2]
theorem and_1n (a : Nat) (h : a < 18446744073709551616) : bits BinOp.and IntKind.u64 (a : Int) 1 = ((a % 2 : Nat) : Int) := by
  have := bits_and_u64_nat a 1 h (by omega)
  rw [show ((1 : Nat) : Int) = 1 from rfl] at this
  rw [this, show a &&& 1 = a % 2 ^ 1 from Nat.and_two_pow_sub_one_eq_mod a 1]
theorem and_0n (a : Nat) (h : a < 18446744073709551616) : bits BinOp.and IntKind.u64 (a : Int) 0 = 0 := by
  have := bits_and_u64_nat a 0 h (by omega)
  rw [show ((0 : Nat) : Int) = 0 from rfl] at this
  rw [this, Nat.and_zero]
  rfl
set_option maxHeartbeats 4000000 in
set_option maxRecDepth 100000 in
theorem split_any (w : World) (n k r q : Nat) (R : Int) (hn : n ≤ 64) (h : M.Ps n k R r q) (E F : Nat) (B : Int) (hE : Hid (M.ex r q = E)) (hF : Hid (M.fr r q = F)) (hB : Hid (((r - 2 : Nat) : Int) = B)) :
    Calls Tryd.prog 76 #[.int .i64 (n : Int), u64 k] w (Sp R E F B w) := by
  have g := h.rng
  have h64 : 2 ^ n ≤ 18446744073709551616 := M.p2le (b := 64) hn
  have kb : k < 18446744073709551616 := by omega
  have CR := Lib.hid (fun W => regime_any W n k r q R hn h)
  have CB := Lib.hid (fun W => behind_any W n r R g.2.2.1 hn h.lf)
  have k0 : ((k : Int) == 0) = false := by rw [beq_eq_false_iff_ne]; omega
  obtain ⟨P, hP⟩ : ∃ P : Nat, 2 ^ n = P := ⟨_, rfl⟩
  have k1 : (k : Int) / 2 ^ n = 0 := by
    have : (2 : Int) ^ n = (P : Int) := by rw [← hP]; push_cast; rfl
    rw [this]
    exact Int.ediv_eq_zero_of_lt (by omega) (by omega)
  have U0 := (Up.refl w).alloc (.cells #[.int .i64 0, .int .i64 0, .int .u64 0, .int .i64 0] 97)
  have a := Ob.mk_ w 97 #[.int .i64 0, .int .i64 0, .int .u64 0, .int .i64 0]
  obtain ⟨c, hc⟩ := h.low
  have hq := h.1
  clear h64 hP
  rcases (show r = 0 ∨ r = 1 ∨ 2 ≤ r by omega) with rfl | rfl | h2
  · obtain rfl : q = 0 := by simpa using hq
    obtain rfl : E = 0 := hE.out.symm
    obtain rfl : F = 0 := hF.out.symm
    obtain rfl : B = 0 := hB.out.symm
    have b0 := and_0n k kb
    clear h hc hq hE hF hB
    go_enter Tryd.func76, Tryd.ntmps76
    go_wp2_with fail
    refine (CR.out _).mono ?_
    rintro _ _ ⟨rfl, rfl⟩
    go_wp2_with fail
    refine (CB.out _).mono ?_
    rintro _ _ ⟨rfl, rfl⟩
    go_wp2_with fail
    go_region
    go_wp2_with fail
    refine bodyPost_ret (v := fdv R 0 0 0) (by simp [results, Tryd.results76, go_sem]) rfl ?_
    exact ⟨rfl, ((Up.refl w).alloc _).drew⟩
  · have hF0 : F = 0 := by have := hF.out; simp [M.fr] at this; omega
    obtain rfl : B = 0 := hB.out.symm
    have hE2 : q * 2 = E := hE.out
    have hkq : k % 2 = q := by omega
    have b1 := and_1n k kb
    rw [hkq] at b1
    have b0 := and_0n k kb
    have e2 : (q : Int) * 2 = (E : Int) := by omega
    have eb : E ≤ 3 := by omega
    subst hF0
    clear h hc hq hE hF hB hkq hE2
    go_enter Tryd.func76, Tryd.ntmps76
    go_wp2_with fail
    refine (CR.out _).mono ?_
    rintro _ _ ⟨rfl, rfl⟩
    go_wp2_with fail
    refine (CB.out _).mono ?_
    rintro _ _ ⟨rfl, rfl⟩
    go_wp2_with fail
    go_region
    go_wp2_with fail
    refine bodyPost_ret (v := fdv R (E : Int) 0 0) (by simp [results, Tryd.results76, go_sem]) rfl ?_
    exact ⟨rfl, ((Up.refl w).alloc _).drew⟩
  · obtain ⟨b, rfl⟩ : ∃ b, r = b + 2 := ⟨r - 2, by omega⟩
    have hE3 := M.ex_le hq
    rw [hE.out] at hE3
    have eE : q / 2 ^ b = E := by have := hE.out; unfold M.ex at this; rw [if_pos h2, Nat.add_sub_cancel] at this; exact this
    have eF : q % 2 ^ b = F := by have := hF.out; unfold M.fr at this; rw [Nat.add_sub_cancel] at this; exact this
    have eB : B = (b : Int) := by have := hB.out; omega
    subst eB
    have pb := M.p2 b
    have e4 : (2 : Nat) ^ (b + 2) = 2 ^ b * 4 := by rw [Nat.pow_add]
    have hA : k / 2 ^ b % 4 = E := by
      rw [hc, e4, show c * (2 ^ b * 4) + q = q + 2 ^ b * (c * 4) by rw [Nat.mul_left_comm, Nat.add_comm], Nat.add_mul_div_left _ _ pb, eE]
      omega
    have hK : k % 2 ^ b = F := by
      rw [hc, e4, show c * (2 ^ b * 4) + q = q + 2 ^ b * (c * 4) by rw [Nat.mul_left_comm, Nat.add_comm], Nat.add_mul_mod_self_left, eF]
    obtain ⟨A, hAA⟩ : ∃ A, k / 2 ^ b = A := ⟨_, rfl⟩
    have Ab : A < 18446744073709551616 := by rw [← hAA]; exact Nat.lt_of_le_of_lt (Nat.div_le_self _ _) kb
    have a3 := and_3n A Ab
    rw [hAA] at hA
    rw [hA] at a3
    have b1 := and_pn k b kb (by omega)
    rw [hK] at b1
    obtain ⟨p, hp⟩ : ∃ p : Nat, 2 ^ b = p := ⟨_, rfl⟩
    have hb61 : b ≤ 62 := by omega
    have p62 : p ≤ 4611686018427387904 := by
      rw [← hp]
      have h1 := M.p2le hb61
      have h2 : (2 : Nat) ^ 62 = 4611686018427387904 := by decide
      omega
    have pz : (2 : Int) ^ b = (p : Int) := by rw [← hp]; push_cast; rfl
    have kz : (k : Int) / (p : Int) = (A : Int) := by rw [← hAA, ← hp]; push_cast; rfl
    rw [hp] at b1 pb
    clear h hc hq hE hF hB eE eF e4 hA hK hAA hp
    go_enter Tryd.func76, Tryd.ntmps76
    go_wp2_with fail
    refine (CR.out _).mono ?_
    rintro _ _ ⟨rfl, rfl⟩
    go_wp2_with fail
    refine (CB.out _).mono ?_
    rintro _ _ ⟨rfl, rfl⟩
    go_wp2_with fail
    go_region
    go_wp2_with fail
    refine bodyPost_ret (v := fdv R (E : Int) F (b : Int)) (by simp [results, Tryd.results76, go_sem]) rfl ?_
    exact ⟨rfl, ((Up.refl w).alloc _).drew⟩
end Go.Proofs.YtjcbncfpcechnaaDoor
