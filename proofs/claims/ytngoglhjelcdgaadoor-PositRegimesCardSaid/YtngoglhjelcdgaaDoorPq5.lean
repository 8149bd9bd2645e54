/-
  Package posit: join wholly; number.
-/
import Derived.Test.YtngoglhjelcdgaaDoorPq4
namespace Go.Proofs.YtngoglhjelcdgaaDoor
open Go.RowKit Go.Shelf

namespace M
theorem rn_of {n k r q : Nat} {R : Int} (hn : n ≤ 64) (h : Ps n k R r q) : k = rn n R + q ∧ rn n R % 2 ^ r = 0 ∧ rn n R < 18446744073709551616 := by
  have g := h.rng
  have h64 : 2 ^ n ≤ 18446744073709551616 := p2le (b := 64) hn
  obtain ⟨hq, h | h | h⟩ := h
  · obtain ⟨h0, h1, h2⟩ := h
    have e : rn n R = 2 ^ r := by unfold rn; rw [if_pos (by omega), show (R + n - 1).toNat = r by omega]
    rw [e]
    have l1 := p2le (a := r) (b := 62) (by omega)
    have l2 : (2 : Nat) ^ 62 = 4611686018427387904 := by decide
    exact ⟨h0, Nat.mod_self _, by omega⟩
  · obtain ⟨h0, h1, h2⟩ := h
    have e : rn n R = 2 ^ n - 2 ^ (r + 1) := by unfold rn; rw [if_neg (by omega), show ((n : Int) - 1 - R).toNat = r + 1 by omega]
    have e1 : 2 ^ (n - r) * 2 ^ r = 2 ^ n := by rw [← Nat.pow_add]; congr 1; omega
    have e2 := p2s r
    have e3 : 2 ^ n - 2 ^ (r + 1) = (2 ^ (n - r) - 2) * 2 ^ r := by rw [Nat.sub_mul, e1, e2]
    refine ⟨by rw [e]; have := p2le (a := r + 1) (b := n) (by omega); omega, by rw [e, e3]; exact Nat.mul_mod_left _ _, by rw [e]; have := p2 (r + 1); omega⟩
  · obtain ⟨h0, rfl, h1, h2⟩ := h
    have e : rn n R = 2 ^ n - 1 := by unfold rn; rw [if_neg (by omega), show ((n : Int) - 1 - R).toNat = 0 by omega]
    have hq' : q = 0 := by simpa using hq
    rw [e]
    exact ⟨by omega, Nat.mod_one _, by omega⟩
theorem ps_of_lf {n r q : Nat} {R : Int} (hn : 2 ≤ n) (h : Lf n R r) (hq : q < 2 ^ r) : ∃ k, Ps n k R r q := by
  rcases h with h | h | h
  · exact ⟨2 ^ r + q, hq, .inl ⟨rfl, by omega, by omega⟩⟩
  · have := p2le (a := r + 1) (b := n) (by omega)
    exact ⟨2 ^ n + q - 2 ^ (r + 1), hq, .inr (.inl ⟨by omega, by omega, by omega⟩)⟩
  · obtain ⟨h1, rfl⟩ := h
    have := p2 n
    exact ⟨2 ^ n - 1, hq, .inr (.inr ⟨by omega, rfl, hn, by omega⟩)⟩
end M
theorem join_in (w : World) (n k : Nat) (hn : n ≤ 64) (R E : Int) (F : Nat) (B : Int) (h : M.IsF n k R E F B) :
    Calls Tryd.prog 29 #[.int .i64 (n : Int), fdv R E F B] w (Wu k w) := by
  obtain ⟨r, q, hP, hE, hF, hB⟩ := h
  have g := hP.rng
  obtain ⟨e1, e2, e3⟩ := M.rn_of hn hP
  have hq := hP.1
  rcases (show r = 0 ∨ r = 1 ∨ 2 ≤ r by omega) with rfl | rfl | h2
  · obtain rfl : q = 0 := by simpa using hq
    obtain rfl : E = 0 := hE.symm
    obtain rfl : F = 0 := hF.symm
    obtain rfl : B = 0 := hB.symm
    have := join_ok0 w n R g.2.2.1 hn hP.lf e3
    rwa [show M.rn n R = k by omega] at this
  · have hq2 : q < 2 := by simpa using hq
    obtain rfl : F = 0 := by rw [← hF]; exact Nat.mod_one _
    obtain rfl : B = 0 := hB.symm
    have := join_ok1 w n q R g.2.2.1 hn hP.lf e3 (by omega) (by simpa using e2)
    rw [← e1] at this
    have hE2 : ((q * 2 : Nat) : Int) = E := hE
    rwa [show 2 * (q : Int) = E by omega] at this
  · obtain ⟨b, rfl⟩ : ∃ b, r = b + 2 := ⟨r - 2, by omega⟩
    have hx := M.ex_le hq
    have eE : M.ex (b + 2) q = q / 2 ^ b := by unfold M.ex; rw [if_pos h2, Nat.add_sub_cancel]
    have eF : M.fr (b + 2) q = q % 2 ^ b := by unfold M.fr; rw [Nat.add_sub_cancel]
    obtain rfl : B = (b : Int) := by omega
    have := join_ok2 w n b (q / 2 ^ b) (q % 2 ^ b) R g.2.2.1 hn hP.lf e3 (by omega) (Nat.mod_lt _ (M.p2 b)) e2
    rw [show M.rn n R + q / 2 ^ b * 2 ^ b + q % 2 ^ b = k by have := Nat.div_add_mod' q (2 ^ b); omega] at this
    rw [← hE, ← hF, eE, eF]
    exact this
set_option maxHeartbeats 2000000 in
theorem join_far (w : World) (n : Nat) (hn : n ≤ 64) (R E : Int) (F : Nat) (B : Int) (h : R ≤ -(n : Int) ∨ n ≤ R) :
    Calls Tryd.prog 29 #[.int .i64 (n : Int), fdv R E F B] w (Pnn w) := by
  have CB := Lib.hid (fun W => behind_out W n R hn h)
  clear h
  go_enter Tryd.func29, Tryd.ntmps29
  go_wp2_with fail
  refine (CB.out _).mono ?_
  rintro _ w1 ⟨⟨s, rfl⟩, U⟩
  exact ⟨rfl, ⟨_, rfl⟩, ((Up.refl _).alloc _).trans U⟩
theorem join_none (w : World) (n : Nat) (hn2 : 2 ≤ n) (hn : n ≤ 64) (R E : Int) (F : Nat) (B : Int) (hF : F < 18446744073709551616) (hE1 : -9223372036854775808 ≤ E) (hE2 : E ≤ 9223372036854775807) (h : ∀ k, ¬ M.IsF n k R E F B) :
    Calls Tryd.prog 29 #[.int .i64 (n : Int), fdv R E F B] w (Pnn w) := by
  by_cases hR : R ≤ -(n : Int) ∨ n ≤ R
  · exact join_far w n hn R E F B hR
  obtain ⟨r, hL⟩ := M.lf_ex (n := n) (R := R) (by omega) (by omega)
  rcases (show r = 0 ∨ r = 1 ∨ 2 ≤ r by omega) with rfl | rfl | h2
  · by_cases an : bits BinOp.andNot IntKind.i64 E 0 = 0
    · by_cases hB : B = 0
      · by_cases hF0 : F = 0
        · obtain rfl := (left_0 E hE1 hE2).1 an
          obtain ⟨k, hk⟩ := M.ps_of_lf hn2 hL (q := 0) (by decide)
          subst hB hF0
          exact absurd ⟨0, 0, hk, rfl, rfl, rfl⟩ (h k)
        · subst hB
          exact join_f0 w n F R hn2 hn hL E an hF0 hF
      · exact join_b0 w n F R hn2 hn hL E B an hB
    · exact join_e0 w n F R hn2 hn hL E B an
  · by_cases an : bits BinOp.andNot IntKind.i64 E 2 = 0
    · by_cases hB : B = 0
      · by_cases hF0 : F = 0
        · subst hB hF0
          rcases (left_2 E hE1 hE2).1 an with rfl | rfl
          · obtain ⟨k, hk⟩ := M.ps_of_lf hn2 hL (q := 0) (by decide)
            exact absurd ⟨1, 0, hk, rfl, rfl, rfl⟩ (h k)
          · obtain ⟨k, hk⟩ := M.ps_of_lf hn2 hL (q := 1) (by decide)
            exact absurd ⟨1, 1, hk, rfl, rfl, rfl⟩ (h k)
        · subst hB
          exact join_f1 w n F R hn2 hn hL E an hF0 hF
      · exact join_b1 w n F R hn2 hn hL E B an hB
    · exact join_e1 w n F R hn2 hn hL E B an
  · obtain ⟨b, rfl⟩ : ∃ b, r = b + 2 := ⟨r - 2, by omega⟩
    by_cases an : bits BinOp.andNot IntKind.i64 E 3 = 0
    · by_cases hB : B = (b : Int)
      · by_cases hF0 : 2 ^ b ≤ F
        · subst hB
          exact join_f2 w n b F R hn2 hn hL E an hF0 hF
        · subst hB
          have he := left_any E 3 (by decide) hE1 hE2 an
          obtain ⟨e, rfl⟩ : ∃ e : Nat, E = (e : Int) := ⟨E.toNat, by omega⟩
          have e3 : e ≤ 3 := by omega
          have p4 : 2 ^ (b + 2) = 4 * 2 ^ b := by rw [Nat.pow_add, Nat.mul_comm]
          have e4 : e * 2 ^ b ≤ 3 * 2 ^ b := Nat.mul_le_mul_right _ e3
          obtain ⟨k, hk⟩ := M.ps_of_lf hn2 hL (q := e * 2 ^ b + F) (by omega)
          refine absurd ⟨b + 2, e * 2 ^ b + F, hk, ?_, ?_, by omega⟩ (h k)
          · unfold M.ex
            rw [if_pos h2, Nat.add_sub_cancel, Nat.mul_comm e, Nat.mul_add_div (M.p2 b), Nat.div_eq_of_lt (by omega)]
            omega
          · unfold M.fr
            rw [Nat.add_sub_cancel, Nat.mul_comm e, Nat.mul_add_mod, Nat.mod_eq_of_lt (by omega)]
      · exact join_b2 w n b F R hn2 hn hL E B an hB
    · exact join_e2 w n b F R hn2 hn hL E B an
/-- What number comes to. -/
def Vm (m : Nat) (z : Int) (w : World) (e : Ending) (w' : World) : Prop := e = .returned (.tuple #[u64 m, .int .i64 z]) ∧ Up w w'
set_option maxHeartbeats 4000000 in
set_option maxRecDepth 100000 in
theorem number_any (w : World) (T : Tz w) (R : Int) (E F b m t : Nat) (z : Int) (hR : -64 ≤ R ∧ R ≤ 64) (hE : E ≤ 3) (hb : b ≤ 60) (hF : F < 2 ^ b) (hm : 2 ^ b + F = m * 2 ^ t) (ho : m % 2 = 1) (hz : 4 * R + E - b + t = z) :
    Calls Tryd.prog 31 #[fdv R (E : Int) F (b : Int)] w (Vm m z w) := by
  obtain ⟨p, hp⟩ : ∃ p : Nat, 2 ^ b = p := ⟨_, rfl⟩
  have pz : (2 : Int) ^ b = (p : Int) := by rw [← hp]; push_cast; rfl
  have pb : p ≤ 1152921504606846976 := by
    rw [← hp]
    have h1 := M.p2le hb
    have h2 : (2 : Nat) ^ 60 = 1152921504606846976 := by decide
    omega
  have o1 := or_n b p F (by omega) (by omega) (by rw [← hp]; exact Nat.mod_self _) hF
  rw [hp] at hm hF
  obtain ⟨x, hx⟩ : ∃ x, p + F = x := ⟨_, rfl⟩
  rw [hx] at o1 hm
  have xb : x < 18446744073709551616 := by omega
  have t60 : t ≤ 61 := by
    have h3 : 2 ^ t ≤ m * 2 ^ t := Nat.le_mul_of_pos_left _ (by omega)
    have h2 : (2 : Nat) ^ 62 = 4611686018427387904 := by decide
    rw [← hm] at h3
    have := M.p2inj (a := t) (b := 62) (by omega)
    omega
  have CT := Lib.hid (fun W (TW : Tz W) => tz_any W TW x m t xb hm ho)
  obtain ⟨y, hy⟩ : ∃ y : Nat, 2 ^ t = y := ⟨_, rfl⟩
  have yz : (2 : Int) ^ t = (y : Int) := by rw [← hy]; push_cast; rfl
  have xy : (x : Int) / (y : Int) = (m : Int) := by
    rw [hm, hy]
    have y0 : 0 < y := by rw [← hy]; exact M.p2 t
    push_cast
    exact Int.mul_ediv_cancel _ (by omega)
  obtain ⟨z1, hz1⟩ : ∃ z1, R * 4 + (E : Int) - (b : Int) + (t : Int) = z1 := ⟨_, rfl⟩
  obtain rfl : z1 = z := by omega
  have T' := Lib.hid T
  clear hm hp hx hy hz hF T
  go_enter Tryd.func31, Tryd.ntmps31
  go_wp2_with fail
  obtain ⟨V, hV⟩ : ∃ V, w.alloc (.cells #[.int .i64 R, .int .i64 (E : Int), u64 F, .int .i64 (b : Int)] 25) = V := ⟨_, rfl⟩
  have a : Ob V w.heap.size 25 #[.int .i64 R, .int .i64 (E : Int), .int .u64 (F : Int), .int .i64 (b : Int)] := by rw [← hV]; exact Ob.mk_ _ _ _
  have U : Up w V := by rw [← hV]; exact (Up.refl w).alloc _
  rw [hV]
  clear hV
  have a0 := a.get 0
  have a1 := a.get 1
  have a2 := a.get 2
  have a3 := a.get 3
  simp only [List.getElem?_toArray, List.getElem?_cons_zero, List.getElem?_cons_succ] at a0 a1 a2 a3
  go_quiet (fail)
  obtain ⟨W1, hW1⟩ : ∃ W1, V.drewN nq = W1 := ⟨_, rfl⟩
  replace a : Ob W1 w.heap.size 25 #[.int .i64 R, .int .i64 (E : Int), .int .u64 (F : Int), .int .i64 (b : Int)] := by rw [← hW1]; exact a.drewN _
  replace U : Up w W1 := by rw [← hW1]; exact U.drewN _
  rw [hW1]
  clear hW1 a0 a1 a2 a3
  go_wp2_with fail
  refine (CT.out _ (T'.out.up U)).mono ?_
  rintro _ _ ⟨rfl, rfl⟩
  have a0 := a.get 0
  have a1 := a.get 1
  have a2 := a.get 2
  have a3 := a.get 3
  simp only [List.getElem?_toArray, List.getElem?_cons_zero, List.getElem?_cons_succ] at a0 a1 a2 a3
  go_wp2_with fail
  go_quiet (fail)
  go_wp2_with fail
  go_ret2
  exact ⟨rfl, by first | exact U.drewN _ | exact U⟩
end Go.Proofs.YtngoglhjelcdgaaDoor
