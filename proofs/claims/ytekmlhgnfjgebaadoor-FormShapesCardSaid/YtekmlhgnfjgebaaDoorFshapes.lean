/-
  FormShapes, FormAll.
-/
import Derived.Test.YtekmlhgnfjgebaaDoorFlaw
namespace Go.Proofs.YtekmlhgnfjgebaaDoor
open Go.RowKit
theorem id_in3 {x : Int} (h : ¬ (x < 1 ∨ 15 ≤ x)) : ∃ i : Nat, x = (i : Int) ∧ 1 ≤ i ∧ i ≤ 14 := ⟨x.toNat, by omega, by omega, by omega⟩
theorem and_63 (x : Int) : ∃ m : Nat, Go.bits BinOp.and IntKind.i64 x 63 = (m : Int) ∧ m ≤ 63 := by
  refine ⟨((BitVec.ofInt 64 x).toNat &&& 63), ?_, ?_⟩
  · show IntKind.i64.wrap ((BitVec.ofInt 64 x &&& BitVec.ofInt 64 63).toNat : Int) = _
    rw [BitVec.toNat_and, show (BitVec.ofInt 64 63).toNat = 63 from rfl]
    have : (BitVec.ofInt 64 x).toNat &&& 63 ≤ 63 := Nat.and_le_right
    exact IntWalk.i64_in _ (by omega)
  · exact Nat.and_le_right
namespace M
def odd_ (z : Int) (b : Nat) : Bool := Go.bits BinOp.and IntKind.u64 (z / 2 ^ b) 1 == 1
theorem shapes (i : Nat) (h1 : 1 ≤ i) (h2 : i ≤ 14) (b : Nat) (hb : b ≤ 63) : odd_ (msk (tb i)) b = decide ((b : Int) < (tb i).W) ∧ odd_ (sgn (tb i)) b = ((b : Int) == (tb i).W - 1 && (tb i).k != 4) := by
  have key : ∀ i, 1 ≤ i → i ≤ 14 → ∀ b : Fin 64, odd_ (msk (tb i)) b.1 = decide ((b.1 : Int) < (tb i).W) ∧ odd_ (sgn (tb i)) b.1 = ((b.1 : Int) == (tb i).W - 1 && (tb i).k != 4) := by
    refine all14 (p := fun i => ∀ b : Fin 64, odd_ (msk (tb i)) b.1 = decide ((b.1 : Int) < (tb i).W) ∧ odd_ (sgn (tb i)) b.1 = ((b.1 : Int) == (tb i).W - 1 && (tb i).k != 4)) ?_ ?_ ?_ ?_ ?_ ?_ ?_ ?_ ?_ ?_ ?_ ?_ ?_ ?_ <;> decide +kernel
  exact key i h1 h2 ⟨b, by omega⟩
end M
set_option maxHeartbeats 2000000 in
set_option maxRecDepth 100000 in
theorem shapes_walk (w : World) (hF : TabF w) (x0 : Int) (_wx0 : (Lit.int .i64 x0).wf = true) (x1 : Int) (_wx1 : (Lit.int .i64 x1).wf = true) : Calls Tryd.prog 7 #[.int .i64 x0, .int .i64 x1] w (True4 w) := by
  by_cases h : x0 < 1 ∨ 15 ≤ x0
  ·
    have U := Up.refl w
    go_enter Tryd.func7, Tryd.ntmps7
    go_wp2_with fail
    refine (fshown_any _ (hF.up U)).mono ?_
    rintro _ w1 ⟨rfl, h1⟩
    replace U := U.trans h1
    clear h1
    go_wp2_with fail
    refine (of_out _ x0 h).mono ?_
    rintro _ w2 ⟨rfl, h2⟩
    replace U := U.trans h2
    clear h2
    clear h
    go_wp2_with fail
    go_ret
    exact ⟨rfl, U.alloc _⟩
  ·
    obtain ⟨i, rfl, h1, h2⟩ := id_in3 h
    clear h
    obtain ⟨b, hb, b63⟩ := and_63 x1
    obtain ⟨s1, s2⟩ := M.shapes i h1 h2 b b63
    have ok := M.ok i h1 h2
    have e0 : ∀ p, p ≤ M.msk (M.tb i) → M.er i p = 0 := fun p hp => by rw [M.er, if_pos hp]
    have u64 : M.msk (M.tb i) < 18446744073709551616 := by have := ok.hm; omega
    have C1 := fun W hF => fits_in W hF i h1 h2 _ (Int.le_of_lt ok.t.1) (Int.lt_of_le_of_lt ok.t.2 u64)
    have C2 := fun W hF => fits_in W hF i h1 h2 _ ok.n.1 (Int.lt_of_le_of_lt ok.n.2 u64)
    have C3 := fun W hF => fits_in W hF i h1 h2 _ ok.x.1 (Int.lt_of_le_of_lt ok.x.2 u64)
    rw [e0 _ ok.t.2] at C1
    rw [e0 _ ok.n.2] at C2
    rw [e0 _ ok.x.2] at C3
    clear e0 u64
    obtain ⟨f, hf⟩ : ∃ f, M.tb i = f := ⟨_, rfl⟩
    rw [hf] at s1 s2 ok C1 C2 C3
    have t0 : decide (0 < f.t) = true := decide_eq_true ok.t.1
    have HF := Lib.hid hf
    have OK := Lib.hid ok
    have D1 := Lib.hid C1
    have D2 := Lib.hid C2
    have D3 := Lib.hid C3
    have wr : 1 ≤ f.W ∧ f.W ≤ 64 := by have := ok.W; omega
    obtain ⟨M', hM⟩ : ∃ z, M.msk f = z := ⟨_, rfl⟩
    obtain ⟨S, hS⟩ : ∃ z, M.sgn f = z := ⟨_, rfl⟩
    rw [hM] at s1
    rw [hS] at s2
    have HM := Lib.hid hM
    have HS := Lib.hid hS
    obtain ⟨A, hA⟩ : ∃ A, decide ((b : Int) < f.W) = A := ⟨_, rfl⟩
    rw [hA] at s1
    have aa : (A == A) = true := by simp
    unfold M.odd_ at s1 s2
    clear hf hM hS C1 C2 C3 ok
    obtain ⟨B, hB⟩ : ∃ B, ((b : Int) == f.W - 1) = B := ⟨_, rfl⟩
    obtain ⟨C, hC⟩ : ∃ C, (f.k != 4) = C := ⟨_, rfl⟩
    rw [hB, hC] at s2
    rcases B with _ | _ <;> rcases C with _ | _
    ·
      replace s2 : (Go.bits BinOp.and IntKind.u64 (S / 2 ^ b) 1 == 1) = false := s2
      have U := Up.refl w
      go_enter Tryd.func7, Tryd.ntmps7
      go_wp2_with fail
      refine (fshown_any _ (hF.up U)).mono ?_
      rintro _ w3 ⟨rfl, h3⟩
      replace U := U.trans h3
      clear h3
      go_wp2_with fail
      refine (of_in _ (hF.up U) i f HF h1 h2).mono ?_
      rintro _ w4 ⟨rfl, h4⟩
      replace U := U.trans h4
      clear h4
      clear HF h1 h2
      go_wp2_with fail
      obtain ⟨V5, hV5⟩ : ∃ V5, w4.alloc (.cells #[.int .i64 f.k, .int .i64 f.W, .int .i64 f.m, .int .i64 f.b, .int .u64 f.t, .int .u64 f.n, .int .u64 f.x] 25) = V5 := ⟨_, rfl⟩
      have uV5 : Up w4 V5 := by rw [← hV5]; first | exact (Up.refl _).alloc _ | exact ((Up.refl _).alloc _).alloc _ | exact (((Up.refl _).alloc _).alloc _).alloc _ | exact ((((Up.refl _).alloc _).alloc _).alloc _).alloc _ | ((repeat (refine Up.alloc ?_ _)); exact Up.refl _)
      have c : Bf V5 w4.heap.size 25 f := by rw [← hV5]; exact Bf.mk_ w4 f 25
      rw [hV5]
      clear hV5
      replace U := U.trans uV5
      clear uV5
      obtain ⟨c0, c1, c2, c3, c4, c5, c6⟩ := Bf.cs c
      have c7 := Bf.lt c
      simp only [Nat.zero_add] at c0 c1 c2 c3 c4 c5 c6 c7
      go_wp2_with fail
      clear c0 c1 c2 c3 c4 c5 c6 c7
      refine (mask_any _ f OK.out M' HM).mono ?_
      rintro _ w6 ⟨rfl, h6⟩
      replace c := c.up h6
      replace U := U.trans h6
      clear h6
      obtain ⟨c0, c1, c2, c3, c4, c5, c6⟩ := Bf.cs c
      have c7 := Bf.lt c
      simp only [Nat.zero_add] at c0 c1 c2 c3 c4 c5 c6 c7
      go_wp2_with fail
      clear c0 c1 c2 c3 c4 c5 c6 c7
      refine (sign_any _ f OK.out S HS).mono ?_
      rintro _ w7 ⟨rfl, h7⟩
      replace c := c.up h7
      replace U := U.trans h7
      clear h7
      obtain ⟨c0, c1, c2, c3, c4, c5, c6⟩ := Bf.cs c
      have c7 := Bf.lt c
      simp only [Nat.zero_add] at c0 c1 c2 c3 c4 c5 c6 c7
      go_wp2_with fail
      clear c0 c1 c2 c3 c4 c5 c6 c7
      refine (D1.out _ (hF.up U)).mono ?_
      rintro _ w8 ⟨rfl, h8⟩
      replace c := c.up h8
      replace U := U.trans h8
      clear h8
      obtain ⟨c0, c1, c2, c3, c4, c5, c6⟩ := Bf.cs c
      have c7 := Bf.lt c
      simp only [Nat.zero_add] at c0 c1 c2 c3 c4 c5 c6 c7
      go_wp2_with fail
      clear c0 c1 c2 c3 c4 c5 c6 c7
      refine (D2.out _ (hF.up U)).mono ?_
      rintro _ w9 ⟨rfl, h9⟩
      replace c := c.up h9
      replace U := U.trans h9
      clear h9
      obtain ⟨c0, c1, c2, c3, c4, c5, c6⟩ := Bf.cs c
      have c7 := Bf.lt c
      simp only [Nat.zero_add] at c0 c1 c2 c3 c4 c5 c6 c7
      go_wp2_with fail
      clear c0 c1 c2 c3 c4 c5 c6 c7
      refine (D3.out _ (hF.up U)).mono ?_
      rintro _ w10 ⟨rfl, h10⟩
      replace c := c.up h10
      replace U := U.trans h10
      clear h10
      obtain ⟨c0, c1, c2, c3, c4, c5, c6⟩ := Bf.cs c
      have c7 := Bf.lt c
      simp only [Nat.zero_add] at c0 c1 c2 c3 c4 c5 c6 c7
      go_wp2_with fail
      clear c0 c1 c2 c3 c4 c5 c6 c7
      go_ret
      exact ⟨rfl, U⟩
    ·
      replace s2 : (Go.bits BinOp.and IntKind.u64 (S / 2 ^ b) 1 == 1) = false := s2
      have U := Up.refl w
      go_enter Tryd.func7, Tryd.ntmps7
      go_wp2_with fail
      refine (fshown_any _ (hF.up U)).mono ?_
      rintro _ w11 ⟨rfl, h11⟩
      replace U := U.trans h11
      clear h11
      go_wp2_with fail
      refine (of_in _ (hF.up U) i f HF h1 h2).mono ?_
      rintro _ w12 ⟨rfl, h12⟩
      replace U := U.trans h12
      clear h12
      clear HF h1 h2
      go_wp2_with fail
      obtain ⟨V13, hV13⟩ : ∃ V13, w12.alloc (.cells #[.int .i64 f.k, .int .i64 f.W, .int .i64 f.m, .int .i64 f.b, .int .u64 f.t, .int .u64 f.n, .int .u64 f.x] 25) = V13 := ⟨_, rfl⟩
      have uV13 : Up w12 V13 := by rw [← hV13]; first | exact (Up.refl _).alloc _ | exact ((Up.refl _).alloc _).alloc _ | exact (((Up.refl _).alloc _).alloc _).alloc _ | exact ((((Up.refl _).alloc _).alloc _).alloc _).alloc _ | ((repeat (refine Up.alloc ?_ _)); exact Up.refl _)
      have c : Bf V13 w12.heap.size 25 f := by rw [← hV13]; exact Bf.mk_ w12 f 25
      rw [hV13]
      clear hV13
      replace U := U.trans uV13
      clear uV13
      obtain ⟨c0, c1, c2, c3, c4, c5, c6⟩ := Bf.cs c
      have c7 := Bf.lt c
      simp only [Nat.zero_add] at c0 c1 c2 c3 c4 c5 c6 c7
      go_wp2_with fail
      clear c0 c1 c2 c3 c4 c5 c6 c7
      refine (mask_any _ f OK.out M' HM).mono ?_
      rintro _ w14 ⟨rfl, h14⟩
      replace c := c.up h14
      replace U := U.trans h14
      clear h14
      obtain ⟨c0, c1, c2, c3, c4, c5, c6⟩ := Bf.cs c
      have c7 := Bf.lt c
      simp only [Nat.zero_add] at c0 c1 c2 c3 c4 c5 c6 c7
      go_wp2_with fail
      clear c0 c1 c2 c3 c4 c5 c6 c7
      refine (sign_any _ f OK.out S HS).mono ?_
      rintro _ w15 ⟨rfl, h15⟩
      replace c := c.up h15
      replace U := U.trans h15
      clear h15
      obtain ⟨c0, c1, c2, c3, c4, c5, c6⟩ := Bf.cs c
      have c7 := Bf.lt c
      simp only [Nat.zero_add] at c0 c1 c2 c3 c4 c5 c6 c7
      go_wp2_with fail
      clear c0 c1 c2 c3 c4 c5 c6 c7
      refine (D1.out _ (hF.up U)).mono ?_
      rintro _ w16 ⟨rfl, h16⟩
      replace c := c.up h16
      replace U := U.trans h16
      clear h16
      obtain ⟨c0, c1, c2, c3, c4, c5, c6⟩ := Bf.cs c
      have c7 := Bf.lt c
      simp only [Nat.zero_add] at c0 c1 c2 c3 c4 c5 c6 c7
      go_wp2_with fail
      clear c0 c1 c2 c3 c4 c5 c6 c7
      refine (D2.out _ (hF.up U)).mono ?_
      rintro _ w17 ⟨rfl, h17⟩
      replace c := c.up h17
      replace U := U.trans h17
      clear h17
      obtain ⟨c0, c1, c2, c3, c4, c5, c6⟩ := Bf.cs c
      have c7 := Bf.lt c
      simp only [Nat.zero_add] at c0 c1 c2 c3 c4 c5 c6 c7
      go_wp2_with fail
      clear c0 c1 c2 c3 c4 c5 c6 c7
      refine (D3.out _ (hF.up U)).mono ?_
      rintro _ w18 ⟨rfl, h18⟩
      replace c := c.up h18
      replace U := U.trans h18
      clear h18
      obtain ⟨c0, c1, c2, c3, c4, c5, c6⟩ := Bf.cs c
      have c7 := Bf.lt c
      simp only [Nat.zero_add] at c0 c1 c2 c3 c4 c5 c6 c7
      go_wp2_with fail
      clear c0 c1 c2 c3 c4 c5 c6 c7
      go_ret
      exact ⟨rfl, U⟩
    ·
      replace s2 : (Go.bits BinOp.and IntKind.u64 (S / 2 ^ b) 1 == 1) = false := s2
      have U := Up.refl w
      go_enter Tryd.func7, Tryd.ntmps7
      go_wp2_with fail
      refine (fshown_any _ (hF.up U)).mono ?_
      rintro _ w19 ⟨rfl, h19⟩
      replace U := U.trans h19
      clear h19
      go_wp2_with fail
      refine (of_in _ (hF.up U) i f HF h1 h2).mono ?_
      rintro _ w20 ⟨rfl, h20⟩
      replace U := U.trans h20
      clear h20
      clear HF h1 h2
      go_wp2_with fail
      obtain ⟨V21, hV21⟩ : ∃ V21, w20.alloc (.cells #[.int .i64 f.k, .int .i64 f.W, .int .i64 f.m, .int .i64 f.b, .int .u64 f.t, .int .u64 f.n, .int .u64 f.x] 25) = V21 := ⟨_, rfl⟩
      have uV21 : Up w20 V21 := by rw [← hV21]; first | exact (Up.refl _).alloc _ | exact ((Up.refl _).alloc _).alloc _ | exact (((Up.refl _).alloc _).alloc _).alloc _ | exact ((((Up.refl _).alloc _).alloc _).alloc _).alloc _ | ((repeat (refine Up.alloc ?_ _)); exact Up.refl _)
      have c : Bf V21 w20.heap.size 25 f := by rw [← hV21]; exact Bf.mk_ w20 f 25
      rw [hV21]
      clear hV21
      replace U := U.trans uV21
      clear uV21
      obtain ⟨c0, c1, c2, c3, c4, c5, c6⟩ := Bf.cs c
      have c7 := Bf.lt c
      simp only [Nat.zero_add] at c0 c1 c2 c3 c4 c5 c6 c7
      go_wp2_with fail
      clear c0 c1 c2 c3 c4 c5 c6 c7
      refine (mask_any _ f OK.out M' HM).mono ?_
      rintro _ w22 ⟨rfl, h22⟩
      replace c := c.up h22
      replace U := U.trans h22
      clear h22
      obtain ⟨c0, c1, c2, c3, c4, c5, c6⟩ := Bf.cs c
      have c7 := Bf.lt c
      simp only [Nat.zero_add] at c0 c1 c2 c3 c4 c5 c6 c7
      go_wp2_with fail
      clear c0 c1 c2 c3 c4 c5 c6 c7
      refine (sign_any _ f OK.out S HS).mono ?_
      rintro _ w23 ⟨rfl, h23⟩
      replace c := c.up h23
      replace U := U.trans h23
      clear h23
      obtain ⟨c0, c1, c2, c3, c4, c5, c6⟩ := Bf.cs c
      have c7 := Bf.lt c
      simp only [Nat.zero_add] at c0 c1 c2 c3 c4 c5 c6 c7
      go_wp2_with fail
      clear c0 c1 c2 c3 c4 c5 c6 c7
      refine (D1.out _ (hF.up U)).mono ?_
      rintro _ w24 ⟨rfl, h24⟩
      replace c := c.up h24
      replace U := U.trans h24
      clear h24
      obtain ⟨c0, c1, c2, c3, c4, c5, c6⟩ := Bf.cs c
      have c7 := Bf.lt c
      simp only [Nat.zero_add] at c0 c1 c2 c3 c4 c5 c6 c7
      go_wp2_with fail
      clear c0 c1 c2 c3 c4 c5 c6 c7
      refine (D2.out _ (hF.up U)).mono ?_
      rintro _ w25 ⟨rfl, h25⟩
      replace c := c.up h25
      replace U := U.trans h25
      clear h25
      obtain ⟨c0, c1, c2, c3, c4, c5, c6⟩ := Bf.cs c
      have c7 := Bf.lt c
      simp only [Nat.zero_add] at c0 c1 c2 c3 c4 c5 c6 c7
      go_wp2_with fail
      clear c0 c1 c2 c3 c4 c5 c6 c7
      refine (D3.out _ (hF.up U)).mono ?_
      rintro _ w26 ⟨rfl, h26⟩
      replace c := c.up h26
      replace U := U.trans h26
      clear h26
      obtain ⟨c0, c1, c2, c3, c4, c5, c6⟩ := Bf.cs c
      have c7 := Bf.lt c
      simp only [Nat.zero_add] at c0 c1 c2 c3 c4 c5 c6 c7
      go_wp2_with fail
      clear c0 c1 c2 c3 c4 c5 c6 c7
      go_ret
      exact ⟨rfl, U⟩
    ·
      replace s2 : (Go.bits BinOp.and IntKind.u64 (S / 2 ^ b) 1 == 1) = true := s2
      have U := Up.refl w
      go_enter Tryd.func7, Tryd.ntmps7
      go_wp2_with fail
      refine (fshown_any _ (hF.up U)).mono ?_
      rintro _ w27 ⟨rfl, h27⟩
      replace U := U.trans h27
      clear h27
      go_wp2_with fail
      refine (of_in _ (hF.up U) i f HF h1 h2).mono ?_
      rintro _ w28 ⟨rfl, h28⟩
      replace U := U.trans h28
      clear h28
      clear HF h1 h2
      go_wp2_with fail
      obtain ⟨V29, hV29⟩ : ∃ V29, w28.alloc (.cells #[.int .i64 f.k, .int .i64 f.W, .int .i64 f.m, .int .i64 f.b, .int .u64 f.t, .int .u64 f.n, .int .u64 f.x] 25) = V29 := ⟨_, rfl⟩
      have uV29 : Up w28 V29 := by rw [← hV29]; first | exact (Up.refl _).alloc _ | exact ((Up.refl _).alloc _).alloc _ | exact (((Up.refl _).alloc _).alloc _).alloc _ | exact ((((Up.refl _).alloc _).alloc _).alloc _).alloc _ | ((repeat (refine Up.alloc ?_ _)); exact Up.refl _)
      have c : Bf V29 w28.heap.size 25 f := by rw [← hV29]; exact Bf.mk_ w28 f 25
      rw [hV29]
      clear hV29
      replace U := U.trans uV29
      clear uV29
      obtain ⟨c0, c1, c2, c3, c4, c5, c6⟩ := Bf.cs c
      have c7 := Bf.lt c
      simp only [Nat.zero_add] at c0 c1 c2 c3 c4 c5 c6 c7
      go_wp2_with fail
      clear c0 c1 c2 c3 c4 c5 c6 c7
      refine (mask_any _ f OK.out M' HM).mono ?_
      rintro _ w30 ⟨rfl, h30⟩
      replace c := c.up h30
      replace U := U.trans h30
      clear h30
      obtain ⟨c0, c1, c2, c3, c4, c5, c6⟩ := Bf.cs c
      have c7 := Bf.lt c
      simp only [Nat.zero_add] at c0 c1 c2 c3 c4 c5 c6 c7
      go_wp2_with fail
      clear c0 c1 c2 c3 c4 c5 c6 c7
      refine (sign_any _ f OK.out S HS).mono ?_
      rintro _ w31 ⟨rfl, h31⟩
      replace c := c.up h31
      replace U := U.trans h31
      clear h31
      obtain ⟨c0, c1, c2, c3, c4, c5, c6⟩ := Bf.cs c
      have c7 := Bf.lt c
      simp only [Nat.zero_add] at c0 c1 c2 c3 c4 c5 c6 c7
      go_wp2_with fail
      clear c0 c1 c2 c3 c4 c5 c6 c7
      refine (D1.out _ (hF.up U)).mono ?_
      rintro _ w32 ⟨rfl, h32⟩
      replace c := c.up h32
      replace U := U.trans h32
      clear h32
      obtain ⟨c0, c1, c2, c3, c4, c5, c6⟩ := Bf.cs c
      have c7 := Bf.lt c
      simp only [Nat.zero_add] at c0 c1 c2 c3 c4 c5 c6 c7
      go_wp2_with fail
      clear c0 c1 c2 c3 c4 c5 c6 c7
      refine (D2.out _ (hF.up U)).mono ?_
      rintro _ w33 ⟨rfl, h33⟩
      replace c := c.up h33
      replace U := U.trans h33
      clear h33
      obtain ⟨c0, c1, c2, c3, c4, c5, c6⟩ := Bf.cs c
      have c7 := Bf.lt c
      simp only [Nat.zero_add] at c0 c1 c2 c3 c4 c5 c6 c7
      go_wp2_with fail
      clear c0 c1 c2 c3 c4 c5 c6 c7
      refine (D3.out _ (hF.up U)).mono ?_
      rintro _ w34 ⟨rfl, h34⟩
      replace c := c.up h34
      replace U := U.trans h34
      clear h34
      obtain ⟨c0, c1, c2, c3, c4, c5, c6⟩ := Bf.cs c
      have c7 := Bf.lt c
      simp only [Nat.zero_add] at c0 c1 c2 c3 c4 c5 c6 c7
      go_wp2_with fail
      clear c0 c1 c2 c3 c4 c5 c6 c7
      go_ret
      exact ⟨rfl, U⟩
end Go.Proofs.YtekmlhgnfjgebaaDoor
