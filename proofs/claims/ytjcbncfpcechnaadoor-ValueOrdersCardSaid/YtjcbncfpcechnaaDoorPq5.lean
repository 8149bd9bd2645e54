/-
  Package posit: join wholly; number.
-/
import Derived.Test.YtjcbncfpcechnaaDoorPq2
import Derived.BigQuiet
namespace Go.Proofs.YtjcbncfpcechnaaDoor
open Go.RowKit Go.Shelf

set_option maxHeartbeats 1000000 in
theorem split_out (w : World) (n k : Nat) (hn : n ≤ 64) (hk : k < 18446744073709551616) (h : k = 0 ∨ 2 ^ n ≤ k) : Calls Tryd.prog 76 #[.int .i64 (n : Int), u64 k] w (Pns w) := by
  by_cases k0 : k = 0
  · subst k0
    clear h
    go_enter Tryd.func76, Tryd.ntmps76
    go_wp2_with fail
    exact ⟨rfl, ⟨_, rfl⟩, (Up.refl _).alloc _⟩
  · have d0 : ((k : Int) == 0) = false := by rw [beq_eq_false_iff_ne]; omega
    obtain ⟨P, hP⟩ : ∃ P : Nat, 2 ^ n = P := ⟨_, rfl⟩
    have pz : (2 : Int) ^ n = (P : Int) := by rw [← hP]; push_cast; rfl
    have pp : 0 < P := by rw [← hP]; exact M.p2 n
    have hPk : P ≤ k := by omega
    obtain ⟨A, hA⟩ : ∃ A : Nat, k / P = A := ⟨_, rfl⟩
    have hA0 : 0 < A := by rw [← hA]; exact Nat.div_pos hPk pp
    have kz : (k : Int) / (P : Int) = (A : Int) := by rw [← hA]; push_cast; rfl
    have d1 : ((A : Int) != 0) = true := by rw [bne_iff_ne]; omega
    clear h hP hPk hA hA0 k0
    go_enter Tryd.func76, Tryd.ntmps76
    go_wp2_with fail
    exact ⟨rfl, ⟨_, rfl⟩, (Up.refl _).alloc _⟩
/-- The bits of a run, by the regime. -/
def M.rn (n : Nat) (R : Int) : Nat := if R < 0 then 2 ^ (R + n - 1).toNat else 2 ^ n - 2 ^ (n - 1 - R).toNat
end Go.Proofs.YtjcbncfpcechnaaDoor
namespace Go.Proofs.YtjcbncfpcechnaaDoor
open Go.RowKit Go.Shelf

theorem nat_join' (s x y : Nat) (hx : x % 2 ^ s = 0) (hy : y < 2 ^ s) : x ||| y = x + y := by
  have h := (Nat.shiftLeft_add_eq_or_of_lt hy (x / 2 ^ s)).symm
  rw [Nat.shiftLeft_eq] at h
  rwa [Nat.div_mul_cancel (Nat.dvd_of_mod_eq_zero hx)] at h
theorem or_n (s x y : Nat) (hx : x < 18446744073709551616) (hy : y < 18446744073709551616) (h1 : x % 2 ^ s = 0) (h2 : y < 2 ^ s) : bits BinOp.or IntKind.u64 (x : Int) (y : Int) = ((x + y : Nat) : Int) := by
  rw [bits_or_u64_nat x y hx hy, nat_join' s x y h1 h2]
theorem or_0 (x : Nat) (hx : x < 18446744073709551616) : bits BinOp.or IntKind.u64 (x : Int) 0 = (x : Int) := by
  have := or_n 0 x 0 hx (by decide) (Nat.mod_one _) (by decide)
  simpa using this
/-- What is left of a number's bits without those of a mask. -/
theorem left_nat (x m : Nat) (hx : x < 18446744073709551616) (hm : m ≤ 3) (h : x &&& (18446744073709551615 - m) = 0) : x < 4 := by
  have h1 : (x &&& (18446744073709551615 - m)) >>> 2 = 0 := by rw [h]; rfl
  rw [Nat.shiftRight_and_distrib, Nat.shiftRight_eq_div_pow, Nat.shiftRight_eq_div_pow] at h1
  have h2 : (18446744073709551615 - m) / 2 ^ 2 = 2 ^ 62 - 1 := by
    have : (2 : Nat) ^ 62 = 4611686018427387904 := by decide
    omega
  rw [h2, Nat.and_two_pow_sub_one_eq_mod] at h1
  have : (2 : Nat) ^ 62 = 4611686018427387904 := by decide
  have : x / 2 ^ 2 < 4611686018427387904 := by omega
  omega
theorem left_any (E : Int) (m : Nat) (hm : m ≤ 3) (h1 : -9223372036854775808 ≤ E) (h2 : E ≤ 9223372036854775807) (h : bits BinOp.andNot IntKind.i64 E (m : Int) = 0) : 0 ≤ E ∧ E ≤ 3 := by
  have e0 : ((BitVec.ofInt 64 E &&& ~~~BitVec.ofInt 64 (m : Int)).toNat : Int) = 0 := by
    have h' : IntKind.i64.wrap ((BitVec.ofInt 64 E &&& ~~~BitVec.ofInt 64 (m : Int)).toNat : Int) = 0 := h
    have lt := (BitVec.ofInt 64 E &&& ~~~BitVec.ofInt 64 (m : Int)).isLt
    revert h' lt
    generalize (BitVec.ofInt 64 E &&& ~~~BitVec.ofInt 64 (m : Int)).toNat = z
    intro h' lt
    simp [IntKind.wrap, IntKind.bits, IntKind.signed] at h'
    omega
  have e1 : (BitVec.ofInt 64 E).toNat &&& (18446744073709551615 - m) = 0 := by
    have h3 : (BitVec.ofInt 64 (m : Int)).toNat = m := by rw [BitVec.ofInt_natCast, BitVec.toNat_ofNat]; exact Nat.mod_eq_of_lt (by omega)
    have : (BitVec.ofInt 64 E &&& ~~~BitVec.ofInt 64 (m : Int)).toNat = 0 := by omega
    rw [BitVec.toNat_and, BitVec.toNat_not, h3] at this
    exact this
  have h4 := left_nat _ m (BitVec.ofInt 64 E).isLt hm e1
  have h5 : (BitVec.ofInt 64 E).toNat = (E % 18446744073709551616).toNat := by rw [BitVec.toNat_ofInt]; rfl
  omega
theorem left_3 (E : Int) (h : 0 ≤ E ∧ E ≤ 3) : bits BinOp.andNot IntKind.i64 E 3 = 0 := by
  rcases (show E = 0 ∨ E = 1 ∨ E = 2 ∨ E = 3 by omega) with rfl | rfl | rfl | rfl <;> decide
theorem left_2 (E : Int) (h1 : -9223372036854775808 ≤ E) (h2 : E ≤ 9223372036854775807) : bits BinOp.andNot IntKind.i64 E 2 = 0 ↔ (E = 0 ∨ E = 2) := by
  constructor
  · intro h
    have := left_any E 2 (by decide) h1 h2 h
    rcases (show E = 0 ∨ E = 1 ∨ E = 2 ∨ E = 3 by omega) with rfl | rfl | rfl | rfl
    · exact .inl rfl
    · exact absurd h (by decide)
    · exact .inr rfl
    · exact absurd h (by decide)
  · rintro (rfl | rfl) <;> decide
theorem left_0 (E : Int) (h1 : -9223372036854775808 ≤ E) (h2 : E ≤ 9223372036854775807) : bits BinOp.andNot IntKind.i64 E 0 = 0 ↔ E = 0 := by
  constructor
  · intro h
    have := left_any E 0 (by decide) h1 h2 h
    rcases (show E = 0 ∨ E = 1 ∨ E = 2 ∨ E = 3 by omega) with rfl | rfl | rfl | rfl
    · rfl
    · exact absurd h (by decide)
    · exact absurd h (by decide)
    · exact absurd h (by decide)
  · rintro rfl; decide
/-- A number is handed back; nothing that was there has turned. -/
def Wu (k : Nat) (w : World) (e : Ending) (w' : World) : Prop := e = .returned (u64 k) ∧ Up w w'
end Go.Proofs.YtjcbncfpcechnaaDoor
namespace Go.Proofs.YtjcbncfpcechnaaDoor
open Go.RowKit Go.Shelf

namespace M
theorem rn_of {n k r q : Nat} {R : Int} (hn : n ≤ 64) (h : Ps n k R r q) : k = rn n R + q ∧ rn n R % 2 ^ r = 0 ∧ rn n R < 18446744073709551616 := by
  have g := h.rng
  have h64 : 2 ^ n ≤ 18446744073709551616 := p2le (b := 64) hn
  obtain ⟨hq, h | h | h⟩ := h
  · obtain ⟨h0, h1, h2⟩ := h
    have e : rn n R = 2 ^ r := by unfold rn; rw [if_pos (by omega), show (R + n - 1).toNat = r by omega]
    rw [e]
    have l1 := p2le (a := r) (b := 62) (by omega)
    have l2 : (2 : Nat) ^ 62 = 4611686018427387904 := by decide
    exact ⟨h0, Nat.mod_self _, by omega⟩
  · obtain ⟨h0, h1, h2⟩ := h
    have e : rn n R = 2 ^ n - 2 ^ (r + 1) := by unfold rn; rw [if_neg (by omega), show ((n : Int) - 1 - R).toNat = r + 1 by omega]
    have e1 : 2 ^ (n - r) * 2 ^ r = 2 ^ n := by rw [← Nat.pow_add]; congr 1; omega
    have e2 := p2s r
    have e3 : 2 ^ n - 2 ^ (r + 1) = (2 ^ (n - r) - 2) * 2 ^ r := by rw [Nat.sub_mul, e1, e2]
    refine ⟨by rw [e]; have := p2le (a := r + 1) (b := n) (by omega); omega, by rw [e, e3]; exact Nat.mul_mod_left _ _, by rw [e]; have := p2 (r + 1); omega⟩
  · obtain ⟨h0, rfl, h1, h2⟩ := h
    have e : rn n R = 2 ^ n - 1 := by unfold rn; rw [if_neg (by omega), show ((n : Int) - 1 - R).toNat = 0 by omega]
    have hq' : q = 0 := by simpa using hq
    rw [e]
    exact ⟨by omega, Nat.mod_one _, by omega⟩
theorem ps_of_lf {n r q : Nat} {R : Int} (hn : 2 ≤ n) (h : Lf n R r) (hq : q < 2 ^ r) : ∃ k, Ps n k R r q := by
  rcases h with h | h | h
  · exact ⟨2 ^ r + q, hq, .inl ⟨rfl, by omega, by omega⟩⟩
  · have := p2le (a := r + 1) (b := n) (by omega)
    exact ⟨2 ^ n + q - 2 ^ (r + 1), hq, .inr (.inl ⟨by omega, by omega, by omega⟩)⟩
  · obtain ⟨h1, rfl⟩ := h
    have := p2 n
    exact ⟨2 ^ n - 1, hq, .inr (.inr ⟨by omega, rfl, hn, by omega⟩)⟩
end M
/-- What number comes to. -/
def Vm (m : Nat) (z : Int) (w : World) (e : Ending) (w' : World) : Prop := e = .returned (.tuple #[u64 m, .int .i64 z]) ∧ Up w w'
set_option maxHeartbeats 4000000 in
set_option maxRecDepth 100000 in
theorem number_any (w : World) (T : Tz w) (R : Int) (E F b m t : Nat) (z : Int) (hR : -64 ≤ R ∧ R ≤ 64) (hE : E ≤ 3) (hb : b ≤ 60) (hF : F < 2 ^ b) (hm : 2 ^ b + F = m * 2 ^ t) (ho : m % 2 = 1) (hz : 4 * R + E - b + t = z) :
    Calls Tryd.prog 75 #[fdv R (E : Int) F (b : Int)] w (Vm m z w) := by
  obtain ⟨p, hp⟩ : ∃ p : Nat, 2 ^ b = p := ⟨_, rfl⟩
  have pz : (2 : Int) ^ b = (p : Int) := by rw [← hp]; push_cast; rfl
  have pb : p ≤ 1152921504606846976 := by
    rw [← hp]
    have h1 := M.p2le hb
    have h2 : (2 : Nat) ^ 60 = 1152921504606846976 := by decide
    omega
  have o1 := or_n b p F (by omega) (by omega) (by rw [← hp]; exact Nat.mod_self _) hF
  rw [hp] at hm hF
  obtain ⟨x, hx⟩ : ∃ x, p + F = x := ⟨_, rfl⟩
  rw [hx] at o1 hm
  have xb : x < 18446744073709551616 := by omega
  have t60 : t ≤ 61 := by
    have h3 : 2 ^ t ≤ m * 2 ^ t := Nat.le_mul_of_pos_left _ (by omega)
    have h2 : (2 : Nat) ^ 62 = 4611686018427387904 := by decide
    rw [← hm] at h3
    have := M.p2inj (a := t) (b := 62) (by omega)
    omega
  have CT := Lib.hid (fun W (TW : Tz W) => tz_any W TW x m t xb hm ho)
  obtain ⟨y, hy⟩ : ∃ y : Nat, 2 ^ t = y := ⟨_, rfl⟩
  have yz : (2 : Int) ^ t = (y : Int) := by rw [← hy]; push_cast; rfl
  have xy : (x : Int) / (y : Int) = (m : Int) := by
    rw [hm, hy]
    have y0 : 0 < y := by rw [← hy]; exact M.p2 t
    push_cast
    exact Int.mul_ediv_cancel _ (by omega)
  obtain ⟨z1, hz1⟩ : ∃ z1, R * 4 + (E : Int) - (b : Int) + (t : Int) = z1 := ⟨_, rfl⟩
  obtain rfl : z1 = z := by omega
  have T' := Lib.hid T
  clear hm hp hx hy hz hF T
  go_enter Tryd.func75, Tryd.ntmps75
  go_wp2_with fail
  obtain ⟨V, hV⟩ : ∃ V, w.alloc (.cells #[.int .i64 R, .int .i64 (E : Int), u64 F, .int .i64 (b : Int)] 97) = V := ⟨_, rfl⟩
  have a : Ob V w.heap.size 97 #[.int .i64 R, .int .i64 (E : Int), .int .u64 (F : Int), .int .i64 (b : Int)] := by rw [← hV]; exact Ob.mk_ _ _ _
  have U : Up w V := by rw [← hV]; exact (Up.refl w).alloc _
  rw [hV]
  clear hV
  have a0 := a.get 0
  have a1 := a.get 1
  have a2 := a.get 2
  have a3 := a.get 3
  simp only [List.getElem?_toArray, List.getElem?_cons_zero, List.getElem?_cons_succ] at a0 a1 a2 a3
  go_quiet (fail)
  obtain ⟨W1, hW1⟩ : ∃ W1, V.drewN nq = W1 := ⟨_, rfl⟩
  replace a : Ob W1 w.heap.size 97 #[.int .i64 R, .int .i64 (E : Int), .int .u64 (F : Int), .int .i64 (b : Int)] := by rw [← hW1]; exact a.drewN _
  replace U : Up w W1 := by rw [← hW1]; exact U.drewN _
  rw [hW1]
  clear hW1 a0 a1 a2 a3
  go_wp2_with fail
  refine (CT.out _ (T'.out.up U)).mono ?_
  rintro _ _ ⟨rfl, rfl⟩
  have a0 := a.get 0
  have a1 := a.get 1
  have a2 := a.get 2
  have a3 := a.get 3
  simp only [List.getElem?_toArray, List.getElem?_cons_zero, List.getElem?_cons_succ] at a0 a1 a2 a3
  go_wp2_with fail
  go_quiet (fail)
  go_wp2_with fail
  go_ret2
  exact ⟨rfl, by first | exact U.drewN _ | exact U⟩
end Go.Proofs.YtjcbncfpcechnaaDoor
