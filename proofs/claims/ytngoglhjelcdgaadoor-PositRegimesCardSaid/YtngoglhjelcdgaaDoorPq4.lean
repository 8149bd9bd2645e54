/-
  Package posit: join.
-/
import Derived.Test.YtngoglhjelcdgaaDoorPq3
import Derived.BigQuiet
namespace Go.Proofs.YtngoglhjelcdgaaDoor
open Go.RowKit Go.Shelf

theorem nat_join' (s x y : Nat) (hx : x % 2 ^ s = 0) (hy : y < 2 ^ s) : x ||| y = x + y := by
  have h := (Nat.shiftLeft_add_eq_or_of_lt hy (x / 2 ^ s)).symm
  rw [Nat.shiftLeft_eq] at h
  rwa [Nat.div_mul_cancel (Nat.dvd_of_mod_eq_zero hx)] at h
theorem or_n (s x y : Nat) (hx : x < 18446744073709551616) (hy : y < 18446744073709551616) (h1 : x % 2 ^ s = 0) (h2 : y < 2 ^ s) : bits BinOp.or IntKind.u64 (x : Int) (y : Int) = ((x + y : Nat) : Int) := by
  rw [bits_or_u64_nat x y hx hy, nat_join' s x y h1 h2]
theorem or_0 (x : Nat) (hx : x < 18446744073709551616) : bits BinOp.or IntKind.u64 (x : Int) 0 = (x : Int) := by
  have := or_n 0 x 0 hx (by decide) (Nat.mod_one _) (by decide)
  simpa using this
/-- What is left of a number's bits without those of a mask. -/
theorem left_nat (x m : Nat) (hx : x < 18446744073709551616) (hm : m ≤ 3) (h : x &&& (18446744073709551615 - m) = 0) : x < 4 := by
  have h1 : (x &&& (18446744073709551615 - m)) >>> 2 = 0 := by rw [h]; rfl
  rw [Nat.shiftRight_and_distrib, Nat.shiftRight_eq_div_pow, Nat.shiftRight_eq_div_pow] at h1
  have h2 : (18446744073709551615 - m) / 2 ^ 2 = 2 ^ 62 - 1 := by
    have : (2 : Nat) ^ 62 = 4611686018427387904 := by decide
    omega
  rw [h2, Nat.and_two_pow_sub_one_eq_mod] at h1
  have : (2 : Nat) ^ 62 = 4611686018427387904 := by decide
  have : x / 2 ^ 2 < 4611686018427387904 := by omega
  omega
theorem left_any (E : Int) (m : Nat) (hm : m ≤ 3) (h1 : -9223372036854775808 ≤ E) (h2 : E ≤ 9223372036854775807) (h : bits BinOp.andNot IntKind.i64 E (m : Int) = 0) : 0 ≤ E ∧ E ≤ 3 := by
  have e0 : ((BitVec.ofInt 64 E &&& ~~~BitVec.ofInt 64 (m : Int)).toNat : Int) = 0 := by
    have h' : IntKind.i64.wrap ((BitVec.ofInt 64 E &&& ~~~BitVec.ofInt 64 (m : Int)).toNat : Int) = 0 := h
    have lt := (BitVec.ofInt 64 E &&& ~~~BitVec.ofInt 64 (m : Int)).isLt
    revert h' lt
    generalize (BitVec.ofInt 64 E &&& ~~~BitVec.ofInt 64 (m : Int)).toNat = z
    intro h' lt
    simp [IntKind.wrap, IntKind.bits, IntKind.signed] at h'
    omega
  have e1 : (BitVec.ofInt 64 E).toNat &&& (18446744073709551615 - m) = 0 := by
    have h3 : (BitVec.ofInt 64 (m : Int)).toNat = m := by rw [BitVec.ofInt_natCast, BitVec.toNat_ofNat]; exact Nat.mod_eq_of_lt (by omega)
    have : (BitVec.ofInt 64 E &&& ~~~BitVec.ofInt 64 (m : Int)).toNat = 0 := by omega
    rw [BitVec.toNat_and, BitVec.toNat_not, h3] at this
    exact this
  have h4 := left_nat _ m (BitVec.ofInt 64 E).isLt hm e1
  have h5 : (BitVec.ofInt 64 E).toNat = (E % 18446744073709551616).toNat := by rw [BitVec.toNat_ofInt]; rfl
  omega
theorem left_3 (E : Int) (h : 0 ≤ E ∧ E ≤ 3) : bits BinOp.andNot IntKind.i64 E 3 = 0 := by
  rcases (show E = 0 ∨ E = 1 ∨ E = 2 ∨ E = 3 by omega) with rfl | rfl | rfl | rfl <;> decide
theorem left_2 (E : Int) (h1 : -9223372036854775808 ≤ E) (h2 : E ≤ 9223372036854775807) : bits BinOp.andNot IntKind.i64 E 2 = 0 ↔ (E = 0 ∨ E = 2) := by
  constructor
  · intro h
    have := left_any E 2 (by decide) h1 h2 h
    rcases (show E = 0 ∨ E = 1 ∨ E = 2 ∨ E = 3 by omega) with rfl | rfl | rfl | rfl
    · exact .inl rfl
    · exact absurd h (by decide)
    · exact .inr rfl
    · exact absurd h (by decide)
  · rintro (rfl | rfl) <;> decide
theorem left_0 (E : Int) (h1 : -9223372036854775808 ≤ E) (h2 : E ≤ 9223372036854775807) : bits BinOp.andNot IntKind.i64 E 0 = 0 ↔ E = 0 := by
  constructor
  · intro h
    have := left_any E 0 (by decide) h1 h2 h
    rcases (show E = 0 ∨ E = 1 ∨ E = 2 ∨ E = 3 by omega) with rfl | rfl | rfl | rfl
    · rfl
    · exact absurd h (by decide)
    · exact absurd h (by decide)
    · exact absurd h (by decide)
  · rintro rfl; decide
/-- A number is handed back; nothing that was there has turned. -/
def Wu (k : Nat) (w : World) (e : Ending) (w' : World) : Prop := e = .returned (u64 k) ∧ Up w w'
set_option maxHeartbeats 2000000 in
set_option maxRecDepth 100000 in
theorem join_ok0 (w : World) (n : Nat) (R : Int) (hn2 : 2 ≤ n) (hn : n ≤ 64) (hL : M.Lf n R 0) (hvb : M.rn n R < 18446744073709551616) :
    Calls Tryd.prog 29 #[.int .i64 (n : Int), fdv R 0 0 0] w (Wu (M.rn n R) w) := by
  have CB := Lib.hid (fun W => behind_any W n 0 R hn2 hn hL)
  have rb : -64 ≤ R ∧ R ≤ 64 := by rcases hL with h | h | h <;> omega
  have an : bits BinOp.andNot IntKind.i64 0 0 = 0 := by decide
  have CV := Lib.hid (fun W => runOf_any W n R hn2 hn (by rcases hL with h | h | h <;> omega) (by rcases hL with h | h | h <;> omega))
  obtain ⟨v, hv⟩ : ∃ v, M.rn n R = v := ⟨_, rfl⟩
  rw [hv] at CV hvb ⊢
  clear hv hL
  have o1 := or_0 v hvb
  go_enter Tryd.func29, Tryd.ntmps29
  go_wp2_with fail
  obtain ⟨V, hV⟩ : ∃ V, w.alloc (.cells #[.int .i64 R, .int .i64 0, u64 0, .int .i64 0] 25) = V := ⟨_, rfl⟩
  have a : Ob V w.heap.size 25 #[.int .i64 R, .int .i64 0, .int .u64 0, .int .i64 0] := by rw [← hV]; exact Ob.mk_ _ _ _
  have U : Up w V := by rw [← hV]; exact (Up.refl w).alloc _
  rw [hV]
  clear hV
  have a0 := a.get 0
  have a1 := a.get 1
  have a2 := a.get 2
  have a3 := a.get 3
  simp only [List.getElem?_toArray, List.getElem?_cons_zero, List.getElem?_cons_succ] at a0 a1 a2 a3
  refine (CB.out _).mono ?_
  rintro _ _ ⟨rfl, rfl⟩
  go_wp2_with fail
  go_quiet (fail)
  obtain ⟨W1, hW1⟩ : ∃ W1, V.drewN nq = W1 := ⟨_, rfl⟩
  replace a : Ob W1 w.heap.size 25 #[.int .i64 R, .int .i64 0, .int .u64 0, .int .i64 0] := by rw [← hW1]; exact a.drewN _
  replace U : Up w W1 := by rw [← hW1]; exact U.drewN _
  rw [hW1]
  clear hW1 a0 a1 a2 a3
  have a0 := a.get 0
  have a1 := a.get 1
  have a2 := a.get 2
  have a3 := a.get 3
  simp only [List.getElem?_toArray, List.getElem?_cons_zero, List.getElem?_cons_succ] at a0 a1 a2 a3
  go_wp2_with fail
  go_quiet ((go_at_call 38; exact Val.quiet (CV.out _)))
  go_wp2_with fail
  go_ret
  exact ⟨rfl, by first | exact U.drewN _ | exact (U.drewN _).drewN _ | exact U⟩
set_option maxHeartbeats 2000000 in
set_option maxRecDepth 100000 in
theorem join_ok1 (w : World) (n h : Nat) (R : Int) (hn2 : 2 ≤ n) (hn : n ≤ 64) (hL : M.Lf n R 1) (hvb : M.rn n R < 18446744073709551616) (hh : h ≤ 1) (hm : M.rn n R % 2 = 0) :
    Calls Tryd.prog 29 #[.int .i64 (n : Int), fdv R (2 * (h : Int)) 0 0] w (Wu (M.rn n R + h) w) := by
  have CB := Lib.hid (fun W => behind_any W n 1 R hn2 hn hL)
  have rb : -64 ≤ R ∧ R ≤ 64 := by rcases hL with h | h | h <;> omega
  have an : bits BinOp.andNot IntKind.i64 (2 * (h : Int)) 2 = 0 := (left_2 _ (by omega) (by omega)).2 (by omega)
  have CV := Lib.hid (fun W => runOf_any W n R hn2 hn (by rcases hL with h | h | h <;> omega) (by rcases hL with h | h | h <;> omega))
  obtain ⟨v, hv⟩ : ∃ v, M.rn n R = v := ⟨_, rfl⟩
  rw [hv] at CV hvb hm ⊢
  clear hv hL
  obtain ⟨e, he⟩ : ∃ e : Int, 2 * (h : Int) = e := ⟨_, rfl⟩
  rw [he] at an ⊢
  have eb : 0 ≤ e ∧ e ≤ 3 := by omega
  have e2 : e / 2 = (h : Int) := by omega
  have o1 := or_n 1 v h hvb (by omega) (by simpa using hm) (by omega)
  obtain ⟨s, hs⟩ : ∃ s, v + h = s := ⟨_, rfl⟩
  have sb : s < 18446744073709551616 := by omega
  rw [hs] at o1 ⊢
  have o2 := or_0 s sb
  clear he hs hm
  go_enter Tryd.func29, Tryd.ntmps29
  go_wp2_with fail
  obtain ⟨V, hV⟩ : ∃ V, w.alloc (.cells #[.int .i64 R, .int .i64 e, u64 0, .int .i64 0] 25) = V := ⟨_, rfl⟩
  have a : Ob V w.heap.size 25 #[.int .i64 R, .int .i64 e, .int .u64 0, .int .i64 0] := by rw [← hV]; exact Ob.mk_ _ _ _
  have U : Up w V := by rw [← hV]; exact (Up.refl w).alloc _
  rw [hV]
  clear hV
  have a0 := a.get 0
  have a1 := a.get 1
  have a2 := a.get 2
  have a3 := a.get 3
  simp only [List.getElem?_toArray, List.getElem?_cons_zero, List.getElem?_cons_succ] at a0 a1 a2 a3
  refine (CB.out _).mono ?_
  rintro _ _ ⟨rfl, rfl⟩
  go_wp2_with fail
  go_quiet (fail)
  obtain ⟨W1, hW1⟩ : ∃ W1, V.drewN nq = W1 := ⟨_, rfl⟩
  replace a : Ob W1 w.heap.size 25 #[.int .i64 R, .int .i64 e, .int .u64 0, .int .i64 0] := by rw [← hW1]; exact a.drewN _
  replace U : Up w W1 := by rw [← hW1]; exact U.drewN _
  rw [hW1]
  clear hW1 a0 a1 a2 a3
  have a0 := a.get 0
  have a1 := a.get 1
  have a2 := a.get 2
  have a3 := a.get 3
  simp only [List.getElem?_toArray, List.getElem?_cons_zero, List.getElem?_cons_succ] at a0 a1 a2 a3
  go_wp2_with fail
  go_quiet ((go_at_call 38; exact Val.quiet (CV.out _)))
  go_wp2_with fail
  go_ret
  exact ⟨rfl, by first | exact U.drewN _ | exact (U.drewN _).drewN _ | exact U⟩
set_option maxHeartbeats 2000000 in
set_option maxRecDepth 100000 in
theorem join_ok2 (w : World) (n b E F : Nat) (R : Int) (hn2 : 2 ≤ n) (hn : n ≤ 64) (hL : M.Lf n R (b + 2)) (hvb : M.rn n R < 18446744073709551616) (hE : E ≤ 3) (hF : F < 2 ^ b) (hm : M.rn n R % 2 ^ (b + 2) = 0) :
    Calls Tryd.prog 29 #[.int .i64 (n : Int), fdv R (E : Int) F (b : Int)] w (Wu (M.rn n R + E * 2 ^ b + F) w) := by
  have CB := Lib.hid (fun W => behind_any W n (b + 2) R hn2 hn hL)
  have rb : -64 ≤ R ∧ R ≤ 64 := by rcases hL with h | h | h <;> omega
  have an := left_3 (E : Int) (by omega)
  have bb : b ≤ 60 := by rcases hL with h | h | h <;> omega
  have CV := Lib.hid (fun W => runOf_any W n R hn2 hn (by rcases hL with h | h | h <;> omega) (by rcases hL with h | h | h <;> omega))
  obtain ⟨v, hv⟩ : ∃ v, M.rn n R = v := ⟨_, rfl⟩
  rw [hv] at CV hvb hm ⊢
  clear hv hL
  obtain ⟨p, hp⟩ : ∃ p : Nat, 2 ^ b = p := ⟨_, rfl⟩
  have pz : (2 : Int) ^ b = (p : Int) := by rw [← hp]; push_cast; rfl
  have pb : p ≤ 1152921504606846976 := by
    rw [← hp]
    have h1 := M.p2le bb
    have h2 : (2 : Nat) ^ 60 = 1152921504606846976 := by decide
    omega
  have pp : 0 < p := by rw [← hp]; exact M.p2 b
  have p4 : 2 ^ (b + 2) = 4 * p := by rw [← hp, Nat.pow_add, Nat.mul_comm]
  obtain ⟨G, hG⟩ : ∃ G, E * p = G := ⟨_, rfl⟩
  have gz : (E : Int) * (p : Int) = (G : Int) := by rw [← hG]; push_cast; rfl
  have g1 : G ≤ 3 * p := by rw [← hG]; exact Nat.mul_le_mul_right _ hE
  rw [p4] at hm
  have o1 := or_n (b + 2) v G hvb (by omega) (by rw [p4]; exact hm) (by rw [p4]; omega)
  have vr : v + 4 * p ≤ 18446744073709551616 := by
    have d1 : 4 * p ∣ v := Nat.dvd_of_mod_eq_zero hm
    have d2 : 4 * p ∣ 18446744073709551616 := by
      rw [← p4, show (18446744073709551616 : Nat) = 2 ^ 64 by decide]
      exact Nat.pow_dvd_pow 2 (by omega)
    obtain ⟨c, hc⟩ := d1
    obtain ⟨d, hd⟩ := d2
    have hcd : c < d := by
      rcases Nat.lt_or_ge c d with h | h
      · exact h
      · have := Nat.mul_le_mul_left (4 * p) h
        omega
    have := Nat.mul_le_mul_left (4 * p) (show c + 1 ≤ d from hcd)
    rw [Nat.mul_add, Nat.mul_one, ← hc, ← hd] at this
    exact this
  have hmp : v % p = 0 := by
    have d1 : 4 * p ∣ v := Nat.dvd_of_mod_eq_zero hm
    exact Nat.mod_eq_zero_of_dvd (Nat.dvd_trans (Nat.dvd_mul_left p 4) d1)
  have hgp : (v + G) % p = 0 := by rw [← hG, Nat.add_mul_mod_self_right, hmp]
  rw [hp] at hF ⊢
  rw [hG]
  obtain ⟨s, hs⟩ : ∃ s, v + G = s := ⟨_, rfl⟩
  have sb : s < 18446744073709551616 := by omega
  rw [hs] at o1 hgp ⊢
  have o2 := or_n b s F sb (by omega) (by rw [hp]; exact hgp) (by rw [hp]; exact hF)
  obtain ⟨k, hk⟩ : ∃ k, s + F = k := ⟨_, rfl⟩
  have kb : k < 18446744073709551616 := by omega
  rw [hk] at o2 ⊢
  have fz : (F : Int) / (p : Int) = 0 := Int.ediv_eq_zero_of_lt (by omega) (by omega)
  clear hp p4 hG hm hmp hgp hs hk vr hF
  go_enter Tryd.func29, Tryd.ntmps29
  go_wp2_with fail
  obtain ⟨V, hV⟩ : ∃ V, w.alloc (.cells #[.int .i64 R, .int .i64 (E : Int), u64 F, .int .i64 (b : Int)] 25) = V := ⟨_, rfl⟩
  have a : Ob V w.heap.size 25 #[.int .i64 R, .int .i64 (E : Int), .int .u64 (F : Int), .int .i64 (b : Int)] := by rw [← hV]; exact Ob.mk_ _ _ _
  have U : Up w V := by rw [← hV]; exact (Up.refl w).alloc _
  rw [hV]
  clear hV
  have a0 := a.get 0
  have a1 := a.get 1
  have a2 := a.get 2
  have a3 := a.get 3
  simp only [List.getElem?_toArray, List.getElem?_cons_zero, List.getElem?_cons_succ] at a0 a1 a2 a3
  refine (CB.out _).mono ?_
  rintro _ _ ⟨rfl, rfl⟩
  go_wp2_with fail
  go_quiet (fail)
  obtain ⟨W1, hW1⟩ : ∃ W1, V.drewN nq = W1 := ⟨_, rfl⟩
  replace a : Ob W1 w.heap.size 25 #[.int .i64 R, .int .i64 (E : Int), .int .u64 (F : Int), .int .i64 (b : Int)] := by rw [← hW1]; exact a.drewN _
  replace U : Up w W1 := by rw [← hW1]; exact U.drewN _
  rw [hW1]
  clear hW1 a0 a1 a2 a3
  have a0 := a.get 0
  have a1 := a.get 1
  have a2 := a.get 2
  have a3 := a.get 3
  simp only [List.getElem?_toArray, List.getElem?_cons_zero, List.getElem?_cons_succ] at a0 a1 a2 a3
  go_wp2_with fail
  go_quiet ((go_at_call 38; exact Val.quiet (CV.out _)))
  go_wp2_with fail
  go_ret
  exact ⟨rfl, by first | exact U.drewN _ | exact (U.drewN _).drewN _ | exact U⟩
set_option maxHeartbeats 2000000 in
set_option maxRecDepth 100000 in
theorem join_e0 (w : World) (n F : Nat) (R : Int) (hn2 : 2 ≤ n) (hn : n ≤ 64) (hL : M.Lf n R 0) (E B : Int) (an : bits BinOp.andNot IntKind.i64 E 0 ≠ 0) :
    Calls Tryd.prog 29 #[.int .i64 (n : Int), fdv R E F B] w (Pnn w) := by
  have CB := Lib.hid (fun W => behind_any W n 0 R hn2 hn hL)
  have rb : -64 ≤ R ∧ R ≤ 64 := by rcases hL with h | h | h <;> omega
  obtain ⟨y, hy⟩ : ∃ y, bits BinOp.andNot IntKind.i64 E 0 = y := ⟨_, rfl⟩
  rw [hy] at an
  have d1 : (y != 0) = true := by rw [bne_iff_ne]; exact an
  clear an hL
  go_enter Tryd.func29, Tryd.ntmps29
  go_wp2_with fail
  obtain ⟨V, hV⟩ : ∃ V, w.alloc (.cells #[.int .i64 R, .int .i64 E, u64 F, .int .i64 B] 25) = V := ⟨_, rfl⟩
  have a : Ob V w.heap.size 25 #[.int .i64 R, .int .i64 E, .int .u64 (F : Int), .int .i64 B] := by rw [← hV]; exact Ob.mk_ _ _ _
  have U : Up w V := by rw [← hV]; exact (Up.refl w).alloc _
  rw [hV]
  clear hV
  have a0 := a.get 0
  have a1 := a.get 1
  have a2 := a.get 2
  have a3 := a.get 3
  simp only [List.getElem?_toArray, List.getElem?_cons_zero, List.getElem?_cons_succ] at a0 a1 a2 a3
  refine (CB.out _).mono ?_
  rintro _ _ ⟨rfl, rfl⟩
  go_wp2_with fail
  go_quiet (fail)
  obtain ⟨W1, hW1⟩ : ∃ W1, V.drewN nq = W1 := ⟨_, rfl⟩
  replace a : Ob W1 w.heap.size 25 #[.int .i64 R, .int .i64 E, .int .u64 (F : Int), .int .i64 B] := by rw [← hW1]; exact a.drewN _
  replace U : Up w W1 := by rw [← hW1]; exact U.drewN _
  rw [hW1]
  clear hW1 a0 a1 a2 a3
  have a0 := a.get 0
  have a1 := a.get 1
  have a2 := a.get 2
  have a3 := a.get 3
  simp only [List.getElem?_toArray, List.getElem?_cons_zero, List.getElem?_cons_succ] at a0 a1 a2 a3
  go_wp2_with fail
  exact ⟨rfl, ⟨_, rfl⟩, U⟩
set_option maxHeartbeats 2000000 in
set_option maxRecDepth 100000 in
theorem join_b0 (w : World) (n F : Nat) (R : Int) (hn2 : 2 ≤ n) (hn : n ≤ 64) (hL : M.Lf n R 0) (E B : Int) (an : bits BinOp.andNot IntKind.i64 E 0 = 0) (hB : B ≠ 0) :
    Calls Tryd.prog 29 #[.int .i64 (n : Int), fdv R E F B] w (Pnn w) := by
  have CB := Lib.hid (fun W => behind_any W n 0 R hn2 hn hL)
  have rb : -64 ≤ R ∧ R ≤ 64 := by rcases hL with h | h | h <;> omega
  have d1 : (B != 0) = true := by rw [bne_iff_ne]; exact hB
  clear hL hB
  go_enter Tryd.func29, Tryd.ntmps29
  go_wp2_with fail
  obtain ⟨V, hV⟩ : ∃ V, w.alloc (.cells #[.int .i64 R, .int .i64 E, u64 F, .int .i64 B] 25) = V := ⟨_, rfl⟩
  have a : Ob V w.heap.size 25 #[.int .i64 R, .int .i64 E, .int .u64 (F : Int), .int .i64 B] := by rw [← hV]; exact Ob.mk_ _ _ _
  have U : Up w V := by rw [← hV]; exact (Up.refl w).alloc _
  rw [hV]
  clear hV
  have a0 := a.get 0
  have a1 := a.get 1
  have a2 := a.get 2
  have a3 := a.get 3
  simp only [List.getElem?_toArray, List.getElem?_cons_zero, List.getElem?_cons_succ] at a0 a1 a2 a3
  refine (CB.out _).mono ?_
  rintro _ _ ⟨rfl, rfl⟩
  go_wp2_with fail
  go_quiet (fail)
  obtain ⟨W1, hW1⟩ : ∃ W1, V.drewN nq = W1 := ⟨_, rfl⟩
  replace a : Ob W1 w.heap.size 25 #[.int .i64 R, .int .i64 E, .int .u64 (F : Int), .int .i64 B] := by rw [← hW1]; exact a.drewN _
  replace U : Up w W1 := by rw [← hW1]; exact U.drewN _
  rw [hW1]
  clear hW1 a0 a1 a2 a3
  have a0 := a.get 0
  have a1 := a.get 1
  have a2 := a.get 2
  have a3 := a.get 3
  simp only [List.getElem?_toArray, List.getElem?_cons_zero, List.getElem?_cons_succ] at a0 a1 a2 a3
  go_wp2_with fail
  exact ⟨rfl, ⟨_, rfl⟩, U⟩
set_option maxHeartbeats 2000000 in
set_option maxRecDepth 100000 in
theorem join_f0 (w : World) (n F : Nat) (R : Int) (hn2 : 2 ≤ n) (hn : n ≤ 64) (hL : M.Lf n R 0) (E : Int) (an : bits BinOp.andNot IntKind.i64 E 0 = 0) (hF : F ≠ 0) (_hFb : F < 18446744073709551616) :
    Calls Tryd.prog 29 #[.int .i64 (n : Int), fdv R E F 0] w (Pnn w) := by
  have CB := Lib.hid (fun W => behind_any W n 0 R hn2 hn hL)
  have rb : -64 ≤ R ∧ R ≤ 64 := by rcases hL with h | h | h <;> omega
  have d1 : ((F : Int) != 0) = true := by rw [bne_iff_ne]; omega
  clear hL hF
  go_enter Tryd.func29, Tryd.ntmps29
  go_wp2_with fail
  obtain ⟨V, hV⟩ : ∃ V, w.alloc (.cells #[.int .i64 R, .int .i64 E, u64 F, .int .i64 0] 25) = V := ⟨_, rfl⟩
  have a : Ob V w.heap.size 25 #[.int .i64 R, .int .i64 E, .int .u64 (F : Int), .int .i64 0] := by rw [← hV]; exact Ob.mk_ _ _ _
  have U : Up w V := by rw [← hV]; exact (Up.refl w).alloc _
  rw [hV]
  clear hV
  have a0 := a.get 0
  have a1 := a.get 1
  have a2 := a.get 2
  have a3 := a.get 3
  simp only [List.getElem?_toArray, List.getElem?_cons_zero, List.getElem?_cons_succ] at a0 a1 a2 a3
  refine (CB.out _).mono ?_
  rintro _ _ ⟨rfl, rfl⟩
  go_wp2_with fail
  go_quiet (fail)
  obtain ⟨W1, hW1⟩ : ∃ W1, V.drewN nq = W1 := ⟨_, rfl⟩
  replace a : Ob W1 w.heap.size 25 #[.int .i64 R, .int .i64 E, .int .u64 (F : Int), .int .i64 0] := by rw [← hW1]; exact a.drewN _
  replace U : Up w W1 := by rw [← hW1]; exact U.drewN _
  rw [hW1]
  clear hW1 a0 a1 a2 a3
  have a0 := a.get 0
  have a1 := a.get 1
  have a2 := a.get 2
  have a3 := a.get 3
  simp only [List.getElem?_toArray, List.getElem?_cons_zero, List.getElem?_cons_succ] at a0 a1 a2 a3
  go_wp2_with fail
  exact ⟨rfl, ⟨_, rfl⟩, U⟩
set_option maxHeartbeats 2000000 in
set_option maxRecDepth 100000 in
theorem join_e1 (w : World) (n F : Nat) (R : Int) (hn2 : 2 ≤ n) (hn : n ≤ 64) (hL : M.Lf n R 1) (E B : Int) (an : bits BinOp.andNot IntKind.i64 E 2 ≠ 0) :
    Calls Tryd.prog 29 #[.int .i64 (n : Int), fdv R E F B] w (Pnn w) := by
  have CB := Lib.hid (fun W => behind_any W n 1 R hn2 hn hL)
  have rb : -64 ≤ R ∧ R ≤ 64 := by rcases hL with h | h | h <;> omega
  obtain ⟨y, hy⟩ : ∃ y, bits BinOp.andNot IntKind.i64 E 2 = y := ⟨_, rfl⟩
  rw [hy] at an
  have d1 : (y != 0) = true := by rw [bne_iff_ne]; exact an
  clear an hL
  go_enter Tryd.func29, Tryd.ntmps29
  go_wp2_with fail
  obtain ⟨V, hV⟩ : ∃ V, w.alloc (.cells #[.int .i64 R, .int .i64 E, u64 F, .int .i64 B] 25) = V := ⟨_, rfl⟩
  have a : Ob V w.heap.size 25 #[.int .i64 R, .int .i64 E, .int .u64 (F : Int), .int .i64 B] := by rw [← hV]; exact Ob.mk_ _ _ _
  have U : Up w V := by rw [← hV]; exact (Up.refl w).alloc _
  rw [hV]
  clear hV
  have a0 := a.get 0
  have a1 := a.get 1
  have a2 := a.get 2
  have a3 := a.get 3
  simp only [List.getElem?_toArray, List.getElem?_cons_zero, List.getElem?_cons_succ] at a0 a1 a2 a3
  refine (CB.out _).mono ?_
  rintro _ _ ⟨rfl, rfl⟩
  go_wp2_with fail
  go_quiet (fail)
  obtain ⟨W1, hW1⟩ : ∃ W1, V.drewN nq = W1 := ⟨_, rfl⟩
  replace a : Ob W1 w.heap.size 25 #[.int .i64 R, .int .i64 E, .int .u64 (F : Int), .int .i64 B] := by rw [← hW1]; exact a.drewN _
  replace U : Up w W1 := by rw [← hW1]; exact U.drewN _
  rw [hW1]
  clear hW1 a0 a1 a2 a3
  have a0 := a.get 0
  have a1 := a.get 1
  have a2 := a.get 2
  have a3 := a.get 3
  simp only [List.getElem?_toArray, List.getElem?_cons_zero, List.getElem?_cons_succ] at a0 a1 a2 a3
  go_wp2_with fail
  exact ⟨rfl, ⟨_, rfl⟩, U⟩
set_option maxHeartbeats 2000000 in
set_option maxRecDepth 100000 in
theorem join_b1 (w : World) (n F : Nat) (R : Int) (hn2 : 2 ≤ n) (hn : n ≤ 64) (hL : M.Lf n R 1) (E B : Int) (an : bits BinOp.andNot IntKind.i64 E 2 = 0) (hB : B ≠ 0) :
    Calls Tryd.prog 29 #[.int .i64 (n : Int), fdv R E F B] w (Pnn w) := by
  have CB := Lib.hid (fun W => behind_any W n 1 R hn2 hn hL)
  have rb : -64 ≤ R ∧ R ≤ 64 := by rcases hL with h | h | h <;> omega
  have d1 : (B != 0) = true := by rw [bne_iff_ne]; exact hB
  clear hL hB
  go_enter Tryd.func29, Tryd.ntmps29
  go_wp2_with fail
  obtain ⟨V, hV⟩ : ∃ V, w.alloc (.cells #[.int .i64 R, .int .i64 E, u64 F, .int .i64 B] 25) = V := ⟨_, rfl⟩
  have a : Ob V w.heap.size 25 #[.int .i64 R, .int .i64 E, .int .u64 (F : Int), .int .i64 B] := by rw [← hV]; exact Ob.mk_ _ _ _
  have U : Up w V := by rw [← hV]; exact (Up.refl w).alloc _
  rw [hV]
  clear hV
  have a0 := a.get 0
  have a1 := a.get 1
  have a2 := a.get 2
  have a3 := a.get 3
  simp only [List.getElem?_toArray, List.getElem?_cons_zero, List.getElem?_cons_succ] at a0 a1 a2 a3
  refine (CB.out _).mono ?_
  rintro _ _ ⟨rfl, rfl⟩
  go_wp2_with fail
  go_quiet (fail)
  obtain ⟨W1, hW1⟩ : ∃ W1, V.drewN nq = W1 := ⟨_, rfl⟩
  replace a : Ob W1 w.heap.size 25 #[.int .i64 R, .int .i64 E, .int .u64 (F : Int), .int .i64 B] := by rw [← hW1]; exact a.drewN _
  replace U : Up w W1 := by rw [← hW1]; exact U.drewN _
  rw [hW1]
  clear hW1 a0 a1 a2 a3
  have a0 := a.get 0
  have a1 := a.get 1
  have a2 := a.get 2
  have a3 := a.get 3
  simp only [List.getElem?_toArray, List.getElem?_cons_zero, List.getElem?_cons_succ] at a0 a1 a2 a3
  go_wp2_with fail
  exact ⟨rfl, ⟨_, rfl⟩, U⟩
set_option maxHeartbeats 2000000 in
set_option maxRecDepth 100000 in
theorem join_f1 (w : World) (n F : Nat) (R : Int) (hn2 : 2 ≤ n) (hn : n ≤ 64) (hL : M.Lf n R 1) (E : Int) (an : bits BinOp.andNot IntKind.i64 E 2 = 0) (hF : F ≠ 0) (_hFb : F < 18446744073709551616) :
    Calls Tryd.prog 29 #[.int .i64 (n : Int), fdv R E F 0] w (Pnn w) := by
  have CB := Lib.hid (fun W => behind_any W n 1 R hn2 hn hL)
  have rb : -64 ≤ R ∧ R ≤ 64 := by rcases hL with h | h | h <;> omega
  have d1 : ((F : Int) != 0) = true := by rw [bne_iff_ne]; omega
  clear hL hF
  go_enter Tryd.func29, Tryd.ntmps29
  go_wp2_with fail
  obtain ⟨V, hV⟩ : ∃ V, w.alloc (.cells #[.int .i64 R, .int .i64 E, u64 F, .int .i64 0] 25) = V := ⟨_, rfl⟩
  have a : Ob V w.heap.size 25 #[.int .i64 R, .int .i64 E, .int .u64 (F : Int), .int .i64 0] := by rw [← hV]; exact Ob.mk_ _ _ _
  have U : Up w V := by rw [← hV]; exact (Up.refl w).alloc _
  rw [hV]
  clear hV
  have a0 := a.get 0
  have a1 := a.get 1
  have a2 := a.get 2
  have a3 := a.get 3
  simp only [List.getElem?_toArray, List.getElem?_cons_zero, List.getElem?_cons_succ] at a0 a1 a2 a3
  refine (CB.out _).mono ?_
  rintro _ _ ⟨rfl, rfl⟩
  go_wp2_with fail
  go_quiet (fail)
  obtain ⟨W1, hW1⟩ : ∃ W1, V.drewN nq = W1 := ⟨_, rfl⟩
  replace a : Ob W1 w.heap.size 25 #[.int .i64 R, .int .i64 E, .int .u64 (F : Int), .int .i64 0] := by rw [← hW1]; exact a.drewN _
  replace U : Up w W1 := by rw [← hW1]; exact U.drewN _
  rw [hW1]
  clear hW1 a0 a1 a2 a3
  have a0 := a.get 0
  have a1 := a.get 1
  have a2 := a.get 2
  have a3 := a.get 3
  simp only [List.getElem?_toArray, List.getElem?_cons_zero, List.getElem?_cons_succ] at a0 a1 a2 a3
  go_wp2_with fail
  exact ⟨rfl, ⟨_, rfl⟩, U⟩
set_option maxHeartbeats 2000000 in
set_option maxRecDepth 100000 in
theorem join_e2 (w : World) (n b F : Nat) (R : Int) (hn2 : 2 ≤ n) (hn : n ≤ 64) (hL : M.Lf n R (b + 2)) (E B : Int) (an : bits BinOp.andNot IntKind.i64 E 3 ≠ 0) :
    Calls Tryd.prog 29 #[.int .i64 (n : Int), fdv R E F B] w (Pnn w) := by
  have CB := Lib.hid (fun W => behind_any W n (b + 2) R hn2 hn hL)
  have rb : -64 ≤ R ∧ R ≤ 64 := by rcases hL with h | h | h <;> omega
  obtain ⟨y, hy⟩ : ∃ y, bits BinOp.andNot IntKind.i64 E 3 = y := ⟨_, rfl⟩
  rw [hy] at an
  have d1 : (y != 0) = true := by rw [bne_iff_ne]; exact an
  clear an hL
  go_enter Tryd.func29, Tryd.ntmps29
  go_wp2_with fail
  obtain ⟨V, hV⟩ : ∃ V, w.alloc (.cells #[.int .i64 R, .int .i64 E, u64 F, .int .i64 B] 25) = V := ⟨_, rfl⟩
  have a : Ob V w.heap.size 25 #[.int .i64 R, .int .i64 E, .int .u64 (F : Int), .int .i64 B] := by rw [← hV]; exact Ob.mk_ _ _ _
  have U : Up w V := by rw [← hV]; exact (Up.refl w).alloc _
  rw [hV]
  clear hV
  have a0 := a.get 0
  have a1 := a.get 1
  have a2 := a.get 2
  have a3 := a.get 3
  simp only [List.getElem?_toArray, List.getElem?_cons_zero, List.getElem?_cons_succ] at a0 a1 a2 a3
  refine (CB.out _).mono ?_
  rintro _ _ ⟨rfl, rfl⟩
  go_wp2_with fail
  go_quiet (fail)
  obtain ⟨W1, hW1⟩ : ∃ W1, V.drewN nq = W1 := ⟨_, rfl⟩
  replace a : Ob W1 w.heap.size 25 #[.int .i64 R, .int .i64 E, .int .u64 (F : Int), .int .i64 B] := by rw [← hW1]; exact a.drewN _
  replace U : Up w W1 := by rw [← hW1]; exact U.drewN _
  rw [hW1]
  clear hW1 a0 a1 a2 a3
  have a0 := a.get 0
  have a1 := a.get 1
  have a2 := a.get 2
  have a3 := a.get 3
  simp only [List.getElem?_toArray, List.getElem?_cons_zero, List.getElem?_cons_succ] at a0 a1 a2 a3
  go_wp2_with fail
  exact ⟨rfl, ⟨_, rfl⟩, U⟩
set_option maxHeartbeats 2000000 in
set_option maxRecDepth 100000 in
theorem join_b2 (w : World) (n b F : Nat) (R : Int) (hn2 : 2 ≤ n) (hn : n ≤ 64) (hL : M.Lf n R (b + 2)) (E B : Int) (an : bits BinOp.andNot IntKind.i64 E 3 = 0) (hB : B ≠ (b : Int)) :
    Calls Tryd.prog 29 #[.int .i64 (n : Int), fdv R E F B] w (Pnn w) := by
  have CB := Lib.hid (fun W => behind_any W n (b + 2) R hn2 hn hL)
  have rb : -64 ≤ R ∧ R ≤ 64 := by rcases hL with h | h | h <;> omega
  have d1 : (B != (b : Int)) = true := by rw [bne_iff_ne]; exact hB
  clear hL hB
  go_enter Tryd.func29, Tryd.ntmps29
  go_wp2_with fail
  obtain ⟨V, hV⟩ : ∃ V, w.alloc (.cells #[.int .i64 R, .int .i64 E, u64 F, .int .i64 B] 25) = V := ⟨_, rfl⟩
  have a : Ob V w.heap.size 25 #[.int .i64 R, .int .i64 E, .int .u64 (F : Int), .int .i64 B] := by rw [← hV]; exact Ob.mk_ _ _ _
  have U : Up w V := by rw [← hV]; exact (Up.refl w).alloc _
  rw [hV]
  clear hV
  have a0 := a.get 0
  have a1 := a.get 1
  have a2 := a.get 2
  have a3 := a.get 3
  simp only [List.getElem?_toArray, List.getElem?_cons_zero, List.getElem?_cons_succ] at a0 a1 a2 a3
  refine (CB.out _).mono ?_
  rintro _ _ ⟨rfl, rfl⟩
  go_wp2_with fail
  go_quiet (fail)
  obtain ⟨W1, hW1⟩ : ∃ W1, V.drewN nq = W1 := ⟨_, rfl⟩
  replace a : Ob W1 w.heap.size 25 #[.int .i64 R, .int .i64 E, .int .u64 (F : Int), .int .i64 B] := by rw [← hW1]; exact a.drewN _
  replace U : Up w W1 := by rw [← hW1]; exact U.drewN _
  rw [hW1]
  clear hW1 a0 a1 a2 a3
  have a0 := a.get 0
  have a1 := a.get 1
  have a2 := a.get 2
  have a3 := a.get 3
  simp only [List.getElem?_toArray, List.getElem?_cons_zero, List.getElem?_cons_succ] at a0 a1 a2 a3
  go_wp2_with fail
  exact ⟨rfl, ⟨_, rfl⟩, U⟩
set_option maxHeartbeats 2000000 in
set_option maxRecDepth 100000 in
theorem join_f2 (w : World) (n b F : Nat) (R : Int) (hn2 : 2 ≤ n) (hn : n ≤ 64) (hL : M.Lf n R (b + 2)) (E : Int) (an : bits BinOp.andNot IntKind.i64 E 3 = 0) (hF : 2 ^ b ≤ F) (_hFb : F < 18446744073709551616) :
    Calls Tryd.prog 29 #[.int .i64 (n : Int), fdv R E F (b : Int)] w (Pnn w) := by
  have CB := Lib.hid (fun W => behind_any W n (b + 2) R hn2 hn hL)
  have rb : -64 ≤ R ∧ R ≤ 64 := by rcases hL with h | h | h <;> omega
  have bb : b ≤ 60 := by rcases hL with h | h | h <;> omega
  obtain ⟨p, hp⟩ : ∃ p : Nat, 2 ^ b = p := ⟨_, rfl⟩
  have pz : (2 : Int) ^ b = (p : Int) := by rw [← hp]; push_cast; rfl
  have pp : 0 < p := by rw [← hp]; exact M.p2 b
  rw [hp] at hF
  obtain ⟨A, hA⟩ : ∃ A, F / p = A := ⟨_, rfl⟩
  have fz : (F : Int) / (p : Int) = (A : Int) := by rw [← hA]; push_cast; rfl
  have A0 : 0 < A := by rw [← hA]; exact Nat.div_pos hF pp
  have d1 : ((A : Int) != 0) = true := by rw [bne_iff_ne]; omega
  clear hL hF hp hA A0
  go_enter Tryd.func29, Tryd.ntmps29
  go_wp2_with fail
  obtain ⟨V, hV⟩ : ∃ V, w.alloc (.cells #[.int .i64 R, .int .i64 E, u64 F, .int .i64 (b : Int)] 25) = V := ⟨_, rfl⟩
  have a : Ob V w.heap.size 25 #[.int .i64 R, .int .i64 E, .int .u64 (F : Int), .int .i64 (b : Int)] := by rw [← hV]; exact Ob.mk_ _ _ _
  have U : Up w V := by rw [← hV]; exact (Up.refl w).alloc _
  rw [hV]
  clear hV
  have a0 := a.get 0
  have a1 := a.get 1
  have a2 := a.get 2
  have a3 := a.get 3
  simp only [List.getElem?_toArray, List.getElem?_cons_zero, List.getElem?_cons_succ] at a0 a1 a2 a3
  refine (CB.out _).mono ?_
  rintro _ _ ⟨rfl, rfl⟩
  go_wp2_with fail
  go_quiet (fail)
  obtain ⟨W1, hW1⟩ : ∃ W1, V.drewN nq = W1 := ⟨_, rfl⟩
  replace a : Ob W1 w.heap.size 25 #[.int .i64 R, .int .i64 E, .int .u64 (F : Int), .int .i64 (b : Int)] := by rw [← hW1]; exact a.drewN _
  replace U : Up w W1 := by rw [← hW1]; exact U.drewN _
  rw [hW1]
  clear hW1 a0 a1 a2 a3
  have a0 := a.get 0
  have a1 := a.get 1
  have a2 := a.get 2
  have a3 := a.get 3
  simp only [List.getElem?_toArray, List.getElem?_cons_zero, List.getElem?_cons_succ] at a0 a1 a2 a3
  go_wp2_with fail
  exact ⟨rfl, ⟨_, rfl⟩, U⟩
end Go.Proofs.YtngoglhjelcdgaaDoor
