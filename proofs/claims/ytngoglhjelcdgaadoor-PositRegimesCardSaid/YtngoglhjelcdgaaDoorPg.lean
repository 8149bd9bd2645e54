/-
  PositRegimes.
-/
import Derived.Test.YtngoglhjelcdgaaDoorPd
namespace Go.Proofs.YtngoglhjelcdgaaDoor
open Go.RowKit
theorem and_16' (x : Int) : ∃ m : Nat, Go.bits BinOp.and IntKind.i64 x 65535 = (m : Int) ∧ m ≤ 65535 := by
  refine ⟨((BitVec.ofInt 64 x).toNat &&& 65535), ?_, ?_⟩
  · show IntKind.i64.wrap ((BitVec.ofInt 64 x &&& BitVec.ofInt 64 65535).toNat : Int) = _
    rw [BitVec.toNat_and, show (BitVec.ofInt 64 65535).toNat = 65535 from rfl]
    have : (BitVec.ofInt 64 x).toNat &&& 65535 ≤ 65535 := Nat.and_le_right
    exact IntWalk.i64_in _ (by omega)
  · exact Nat.and_le_right
theorem and_3' (x : Int) : ∃ m : Nat, Go.bits BinOp.and IntKind.i64 x 3 = (m : Int) ∧ m ≤ 3 := by
  refine ⟨((BitVec.ofInt 64 x).toNat &&& 3), ?_, ?_⟩
  · show IntKind.i64.wrap ((BitVec.ofInt 64 x &&& BitVec.ofInt 64 3).toNat : Int) = _
    rw [BitVec.toNat_and, show (BitVec.ofInt 64 3).toNat = 3 from rfl]
    have : (BitVec.ofInt 64 x).toNat &&& 3 ≤ 3 := Nat.and_le_right
    exact IntWalk.i64_in _ (by omega)
  · exact Nat.and_le_right
theorem and_7' (x : Int) (h1 : 0 ≤ x) (h2 : x < 18446744073709551616) : ∃ m : Nat, Go.bits BinOp.and IntKind.u64 x 7 = (m : Int) ∧ m ≤ 7 := by
  rw [u64_and _ _ h1 h2 (by decide) (by decide)]
  exact ⟨x.toNat &&& (7 : Int).toNat, rfl, Nat.and_le_right⟩
namespace M
theorem made {n E F s : Nat} {R : Int} (hE : E ≤ 3) (hF : F ≤ 7) (h : (0 ≤ R ∧ R + 2 + (s + 5) = n) ∨ (R < 0 ∧ 1 - R + (s + 5) = n)) (m t : Nat) (hm : 8 + F = m * 2 ^ t) (ho : m % 2 = 1) :
    ∃ k, IsF n k R (E : Int) (F * 2 ^ s) ((s : Int) + 3) ∧ IsK n k m (4 * R + E - 3 + t) := by
  have ps := p2 s
  have e3 : 2 ^ (s + 3) = 8 * 2 ^ s := by rw [Nat.pow_add, Nat.mul_comm]
  have e5 : 2 ^ (s + 5) = 32 * 2 ^ s := by rw [Nat.pow_add, Nat.mul_comm]
  have e6 : 2 ^ (s + 5 + 1) = 64 * 2 ^ s := by rw [Nat.pow_add, Nat.pow_add, Nat.mul_comm]; omega
  obtain ⟨q, hq⟩ : ∃ q, E * 2 ^ (s + 3) + F * 2 ^ s = q := ⟨_, rfl⟩
  have hFs : F * 2 ^ s ≤ 7 * 2 ^ s := Nat.mul_le_mul_right _ hF
  have hEs : E * 2 ^ (s + 3) ≤ 3 * 2 ^ (s + 3) := Nat.mul_le_mul_right _ hE
  have hq5 : q < 2 ^ (s + 5) := by omega
  have h1 : ex (s + 5) q = E := by
    unfold ex
    rw [if_pos (by omega), show s + 5 - 2 = s + 3 by omega, ← hq, Nat.mul_comm E, Nat.mul_add_div (p2 _), Nat.div_eq_of_lt (by omega)]
    omega
  have h2 : fr (s + 5) q = F * 2 ^ s := by
    unfold fr
    rw [show s + 5 - 2 = s + 3 by omega, ← hq, Nat.mul_comm E, Nat.mul_add_mod, Nat.mod_eq_of_lt (by omega)]
  have hP : ∃ k, Ps n k R (s + 5) q := by
    rcases h with ⟨h0, hn⟩ | ⟨h0, hn⟩
    · have hn2 : 2 ^ (s + 5 + 1) ≤ 2 ^ n := p2le (by omega)
      exact ⟨2 ^ n + q - 2 ^ (s + 5 + 1), hq5, .inr (.inl ⟨by omega, by omega, by omega⟩)⟩
    · exact ⟨2 ^ (s + 5) + q, hq5, .inl ⟨rfl, by omega, by omega⟩⟩
  obtain ⟨k, hP⟩ := hP
  refine ⟨k, ⟨s + 5, q, hP, by rw [h1], h2, by omega⟩, ho, R, s + 5, q, t + s, hP, ?_, ?_⟩
  · rw [h2, show s + 5 - 2 = s + 3 by omega, e3, ← Nat.add_mul, hm, Nat.pow_add, Nat.mul_assoc]
  · rw [h1]
    omega
end M
set_option maxHeartbeats 4000000 in
set_option maxRecDepth 100000 in
theorem pregimes_walk (w : World) (TT : Hid (Tz w)) (x0 : Int) (_wx0 : (Lit.int .i64 x0).wf = true) (x1 : Int) (_wx1 : (Lit.int .i64 x1).wf = true) (x2 : Int) (_wx2 : (Lit.int .i64 x2).wf = true) (x3 : Int) (wx3 : (Lit.int .u64 x3).wf = true) : Calls Tryd.prog 10 #[.int .i64 x0, .int .i64 x1, .int .i64 x2, .int .u64 x3] w (True5 w) := by
  obtain ⟨m16, h16, b16⟩ := and_16' x0
  obtain ⟨a54, h54, h54', b54⟩ : ∃ a : Nat, (m16 : Int).tmod 54 = (a : Int) ∧ (m16 : Int) % 54 = (a : Int) ∧ a < 54 := ⟨m16 % 54, by rw [Int.tmod_eq_emod_of_nonneg (by omega)]; omega, by omega, by omega⟩
  obtain ⟨R, hR, R1, R2⟩ : ∃ R, x1.tmod 64 = R ∧ -63 ≤ R ∧ R ≤ 63 := ⟨_, rfl, by have := Int.lt_tmod_of_pos x1 (b := 64) (by decide); omega, by have := Int.tmod_lt_of_pos x1 (b := 64) (by decide); omega⟩
  obtain ⟨E, hE, E3⟩ := and_3' x2
  obtain ⟨k3, rfl, hk3⟩ := nat_u64 wx3
  obtain ⟨F, hF, F7⟩ := and_7' (k3 : Int) (by omega) (by omega)
  obtain ⟨n, hn⟩ : ∃ n : Nat, 12 + (a54 : Int) = (n : Int) + 1 := ⟨11 + a54, by omega⟩
  have n1 : 11 ≤ n ∧ n ≤ 64 := by omega
  clear wx3 b54
  rcases (show 0 ≤ R ∨ R = -1 ∨ R < -1 by omega) with hr | rfl | hr
  ·
    have hmx1 : max (R + 2) (1 - R) = R + 2 := by omega
    have hmx2 : max (R + 3) (-R) = R + 3 := by omega
    obtain ⟨Ba, hBa⟩ : ∃ Ba, (n : Int) - (R + 2) - 2 = Ba := ⟨_, rfl⟩
    obtain ⟨Bb, hBb⟩ : ∃ Bb, (n : Int) - (R + 3) - 2 = Bb := ⟨_, rfl⟩
    have bBa : -70 ≤ Ba ∧ Ba ≤ 60 := by omega
    have bBb : -70 ≤ Bb ∧ Bb ≤ 60 := by omega
    rcases (show Ba < 3 ∨ (3 ≤ Ba ∧ Bb < 3) ∨ (3 ≤ Ba ∧ 3 ≤ Bb) by omega) with c1 | ⟨c1, c2⟩ | ⟨c1, c2⟩
    ·
      have d1 : decide (Ba < 3) = true := decide_eq_true c1
      clear c1
      have U := Up.refl w
      go_enter Tryd.func10, Tryd.ntmps10
      go_wp2_with fail
      refine (pshown_any _ (Lib.hid (TT.out.up U))).mono ?_
      rintro _ w1 ⟨rfl, h1⟩
      replace U := U.trans h1
      clear h1
      go_wp2_with fail
      go_ret
      exact ⟨rfl, by first | exact U | exact (U.alloc _).alloc _⟩
    ·
      have d1 : decide (Ba < 3) = false := decide_eq_false (by omega)
      have d2 : decide (Bb < 3) = true := decide_eq_true c2
      clear c1 c2
      have U := Up.refl w
      go_enter Tryd.func10, Tryd.ntmps10
      go_wp2_with fail
      refine (pshown_any _ (Lib.hid (TT.out.up U))).mono ?_
      rintro _ w1 ⟨rfl, h1⟩
      replace U := U.trans h1
      clear h1
      go_wp2_with fail
      go_ret
      exact ⟨rfl, by first | exact U | exact (U.alloc _).alloc _⟩
    ·
      have d1 : decide (Ba < 3) = false := decide_eq_false (by omega)
      have d2 : decide (Bb < 3) = false := decide_eq_false (by omega)
      obtain ⟨s, hs⟩ : ∃ s : Nat, Ba - 3 = (s : Int) := ⟨(Ba - 3).toNat, by omega⟩
      obtain ⟨v, hv⟩ : ∃ v : Nat, Bb - 3 = (v : Int) := ⟨(Bb - 3).toNat, by omega⟩
      obtain ⟨m, t, hm, ho⟩ := M.odd_ex (8 + F) (by omega)
      obtain ⟨k1, f1, i1⟩ := M.made (n := n) (E := E) (F := F) (s := s) (R := R) E3 F7 (by omega) m t hm ho
      obtain ⟨k2, f2, i2⟩ := M.made (n := n) (E := E) (F := F) (s := v) (R := R + 1) E3 F7 (by omega) m t hm ho
      obtain ⟨z, hz⟩ : ∃ z, 4 * R + (E : Int) - 3 + t = z := ⟨_, rfl⟩
      have hz2 : 4 * (R + 1) + (E : Int) - 3 + t = z + 4 := by omega
      rw [hz] at i1
      rw [hz2] at i2
      have e1 : (s : Int) + 3 = Ba := by omega
      have e2 : (v : Int) + 3 = Bb := by omega
      rw [e1] at f1
      rw [e2] at f2
      obtain ⟨p, hp⟩ : ∃ p : Nat, 2 ^ s = p := ⟨_, rfl⟩
      obtain ⟨u, hu⟩ : ∃ u : Nat, 2 ^ v = u := ⟨_, rfl⟩
      have hpz : (2 : Int) ^ s = (p : Int) := by rw [← hp]; simp
      have huz : (2 : Int) ^ v = (u : Int) := by rw [← hu]; simp
      have s57 : s ≤ 57 ∧ v ≤ 57 := by omega
      have p57 : p ≤ 144115188075855872 := by
        rw [← hp]
        have h1 := M.p2le (a := s) (b := 57) s57.1
        have h2 : (2 : Nat) ^ 57 = 144115188075855872 := by decide
        omega
      have u57 : u ≤ 144115188075855872 := by
        rw [← hu]
        have h1 := M.p2le (a := v) (b := 57) s57.2
        have h2 : (2 : Nat) ^ 57 = 144115188075855872 := by decide
        omega
      rw [hp] at f1
      rw [hu] at f2
      obtain ⟨Fp, hFp⟩ : ∃ Fp : Nat, F * p = Fp := ⟨_, rfl⟩
      obtain ⟨Fu, hFu⟩ : ∃ Fu : Nat, F * u = Fu := ⟨_, rfl⟩
      have bp : Fp ≤ 7 * 144115188075855872 := by rw [← hFp]; exact Nat.mul_le_mul F7 p57
      have bu : Fu ≤ 7 * 144115188075855872 := by rw [← hFu]; exact Nat.mul_le_mul F7 u57
      have hFpz : (F : Int) * (p : Int) = (Fp : Int) := by rw [← hFp]; simp
      have hFuz : (F : Int) * (u : Int) = (Fu : Int) := by rw [← hFu]; simp
      rw [hFp] at f1
      rw [hFu] at f2
      have CJ := Lib.hid (fun W => pjoin_is W n k1 (by omega) n1.2 R (E : Int) Fp Ba (by omega) f1)
      have CJ2 := Lib.hid (fun W => pjoin_is W n k2 (by omega) n1.2 (R + 1) (E : Int) Fu Bb (by omega) f2)
      have CV := Lib.hid (fun W (TW : Tz W) => pvalue_is W TW n k1 m z n1.2 i1)
      have CV2 := Lib.hid (fun W (TW : Tz W) => pvalue_is W TW n k2 m (z + 4) n1.2 i2)
      have zr := (i1.rng n1.2).2.2.1
      have zr2 := (i1.rng n1.2).2.2.2.1
      have hlt : k1 < k2 := by
        have h1 := M.isk_same n1.2 i1 i2
        rw [decide_eq_true (M.vz_lt (i1.rng n1.2).2.2.2.2.1 zr (by omega))] at h1
        exact of_decide_eq_true h1.symm
      have q2 : ((m : Int) == (m : Int)) = true := by simp
      have q3 : (z + 4 == z + 4) = true := by simp
      clear f1 f2 i1 i2 hm hz hz2 e1 e2 hp hu hFp hFu s57 c1 c2
      have U := Up.refl w
      go_enter Tryd.func10, Tryd.ntmps10
      go_wp2_with fail
      refine (pshown_any _ (Lib.hid (TT.out.up U))).mono ?_
      rintro _ w1 ⟨rfl, h1⟩
      replace U := U.trans h1
      clear h1
      go_wp2_with fail
      obtain ⟨VB, hVB⟩ : ∃ VB, (w1.alloc (.cells #[.int .i64 R, .int .i64 (E : Int), .int .u64 (Fp : Int), .int .i64 Ba] 25)).alloc (.cells #[.int .i64 (R + 1), .int .i64 (E : Int), .int .u64 (Fu : Int), .int .i64 Bb] 25) = VB := ⟨_, rfl⟩
      have a : Ob VB w1.heap.size 25 #[.int .i64 R, .int .i64 (E : Int), .int .u64 (Fp : Int), .int .i64 Ba] := by rw [← hVB]; exact (Ob.mk_ _ _ _).up ((Up.refl _).alloc _)
      have b : Ob VB (w1.heap.size + 1) 25 #[.int .i64 (R + 1), .int .i64 (E : Int), .int .u64 (Fu : Int), .int .i64 Bb] := by rw [← hVB]; have := Ob.mk_ (w1.alloc (.cells #[.int .i64 R, .int .i64 (E : Int), .int .u64 (Fp : Int), .int .i64 Ba] 25)) 25 #[.int .i64 (R + 1), .int .i64 (E : Int), .int .u64 (Fu : Int), .int .i64 Bb]; rwa [show (w1.alloc (.cells #[.int .i64 R, .int .i64 (E : Int), .int .u64 (Fp : Int), .int .i64 Ba] 25)).heap.size = w1.heap.size + 1 from Array.size_push _] at this
      replace U : Up w VB := by rw [← hVB]; exact (U.alloc _).alloc _
      rw [hVB]
      clear hVB
      refine (CJ.out _).mono ?_
      rintro _ w2 ⟨rfl, h2⟩
      replace U := U.trans h2
      replace a := a.up h2
      replace b := b.up h2
      clear h2
      have a0 := a.get 0
      have a1 := a.get 1
      have a2 := a.get 2
      have a3 := a.get 3
      have a9 := a.lt
      simp only [List.getElem?_toArray, List.getElem?_cons_zero, List.getElem?_cons_succ] at a0 a1 a2 a3
      have b0 := b.get 0
      have b1 := b.get 1
      have b2 := b.get 2
      have b3 := b.get 3
      have b9 := b.lt
      simp only [List.getElem?_toArray, List.getElem?_cons_zero, List.getElem?_cons_succ] at b0 b1 b2 b3
      go_wp2_with fail
      clear a0 a1 a2 a3 a9
      clear b0 b1 b2 b3 b9
      refine (CJ2.out _).mono ?_
      rintro _ w3 ⟨rfl, h3⟩
      replace U := U.trans h3
      replace a := a.up h3
      replace b := b.up h3
      clear h3
      have a0 := a.get 0
      have a1 := a.get 1
      have a2 := a.get 2
      have a3 := a.get 3
      have a9 := a.lt
      simp only [List.getElem?_toArray, List.getElem?_cons_zero, List.getElem?_cons_succ] at a0 a1 a2 a3
      have b0 := b.get 0
      have b1 := b.get 1
      have b2 := b.get 2
      have b3 := b.get 3
      have b9 := b.lt
      simp only [List.getElem?_toArray, List.getElem?_cons_zero, List.getElem?_cons_succ] at b0 b1 b2 b3
      go_wp2_with fail
      clear a0 a1 a2 a3 a9
      clear b0 b1 b2 b3 b9
      refine (CV.out _ (TT.out.up U)).mono ?_
      rintro _ w4 ⟨rfl, h4⟩
      replace U := U.trans h4
      replace a := a.up h4
      replace b := b.up h4
      clear h4
      have a0 := a.get 0
      have a1 := a.get 1
      have a2 := a.get 2
      have a3 := a.get 3
      have a9 := a.lt
      simp only [List.getElem?_toArray, List.getElem?_cons_zero, List.getElem?_cons_succ] at a0 a1 a2 a3
      have b0 := b.get 0
      have b1 := b.get 1
      have b2 := b.get 2
      have b3 := b.get 3
      have b9 := b.lt
      simp only [List.getElem?_toArray, List.getElem?_cons_zero, List.getElem?_cons_succ] at b0 b1 b2 b3
      go_wp2_with fail
      clear a0 a1 a2 a3 a9
      clear b0 b1 b2 b3 b9
      refine (CV2.out _ (TT.out.up U)).mono ?_
      rintro _ w5 ⟨rfl, h5⟩
      replace U := U.trans h5
      replace a := a.up h5
      replace b := b.up h5
      clear h5
      have a0 := a.get 0
      have a1 := a.get 1
      have a2 := a.get 2
      have a3 := a.get 3
      have a9 := a.lt
      simp only [List.getElem?_toArray, List.getElem?_cons_zero, List.getElem?_cons_succ] at a0 a1 a2 a3
      have b0 := b.get 0
      have b1 := b.get 1
      have b2 := b.get 2
      have b3 := b.get 3
      have b9 := b.lt
      simp only [List.getElem?_toArray, List.getElem?_cons_zero, List.getElem?_cons_succ] at b0 b1 b2 b3
      go_wp2_with fail
      clear a0 a1 a2 a3 a9
      clear b0 b1 b2 b3 b9
      go_ret
      exact ⟨rfl, U⟩
  ·
    have hmx1 : max (1 : Int) 2 = 2 := by decide
    have hmx2 : max (2 : Int) 1 = 2 := by decide
    obtain ⟨Ba, hBa⟩ : ∃ Ba, (n : Int) - 2 - 2 = Ba := ⟨_, rfl⟩
    obtain ⟨Bb, hBb⟩ : ∃ Bb, (n : Int) - 2 - 2 = Bb := ⟨_, rfl⟩
    have bBa : -70 ≤ Ba ∧ Ba ≤ 60 := by omega
    have bBb : -70 ≤ Bb ∧ Bb ≤ 60 := by omega
    rcases (show Ba < 3 ∨ (3 ≤ Ba ∧ Bb < 3) ∨ (3 ≤ Ba ∧ 3 ≤ Bb) by omega) with c1 | ⟨c1, c2⟩ | ⟨c1, c2⟩
    ·
      have d1 : decide (Ba < 3) = true := decide_eq_true c1
      clear c1
      have U := Up.refl w
      go_enter Tryd.func10, Tryd.ntmps10
      go_wp2_with fail
      refine (pshown_any _ (Lib.hid (TT.out.up U))).mono ?_
      rintro _ w1 ⟨rfl, h1⟩
      replace U := U.trans h1
      clear h1
      go_wp2_with fail
      go_ret
      exact ⟨rfl, by first | exact U | exact (U.alloc _).alloc _⟩
    ·
      omega
    ·
      have d1 : decide (Ba < 3) = false := decide_eq_false (by omega)
      have d2 : decide (Bb < 3) = false := decide_eq_false (by omega)
      obtain ⟨s, hs⟩ : ∃ s : Nat, Ba - 3 = (s : Int) := ⟨(Ba - 3).toNat, by omega⟩
      obtain ⟨v, hv⟩ : ∃ v : Nat, Bb - 3 = (v : Int) := ⟨(Bb - 3).toNat, by omega⟩
      obtain ⟨m, t, hm, ho⟩ := M.odd_ex (8 + F) (by omega)
      obtain ⟨k1, f1, i1⟩ := M.made (n := n) (E := E) (F := F) (s := s) (R := (-1)) E3 F7 (by omega) m t hm ho
      obtain ⟨k2, f2, i2⟩ := M.made (n := n) (E := E) (F := F) (s := v) (R := (-1) + 1) E3 F7 (by omega) m t hm ho
      obtain ⟨z, hz⟩ : ∃ z, 4 * (-1) + (E : Int) - 3 + t = z := ⟨_, rfl⟩
      have hz2 : 4 * ((-1) + 1) + (E : Int) - 3 + t = z + 4 := by omega
      rw [hz] at i1
      rw [hz2] at i2
      have e1 : (s : Int) + 3 = Ba := by omega
      have e2 : (v : Int) + 3 = Bb := by omega
      rw [e1] at f1
      rw [e2] at f2
      obtain ⟨p, hp⟩ : ∃ p : Nat, 2 ^ s = p := ⟨_, rfl⟩
      obtain ⟨u, hu⟩ : ∃ u : Nat, 2 ^ v = u := ⟨_, rfl⟩
      have hpz : (2 : Int) ^ s = (p : Int) := by rw [← hp]; simp
      have huz : (2 : Int) ^ v = (u : Int) := by rw [← hu]; simp
      have s57 : s ≤ 57 ∧ v ≤ 57 := by omega
      have p57 : p ≤ 144115188075855872 := by
        rw [← hp]
        have h1 := M.p2le (a := s) (b := 57) s57.1
        have h2 : (2 : Nat) ^ 57 = 144115188075855872 := by decide
        omega
      have u57 : u ≤ 144115188075855872 := by
        rw [← hu]
        have h1 := M.p2le (a := v) (b := 57) s57.2
        have h2 : (2 : Nat) ^ 57 = 144115188075855872 := by decide
        omega
      rw [hp] at f1
      rw [hu] at f2
      obtain ⟨Fp, hFp⟩ : ∃ Fp : Nat, F * p = Fp := ⟨_, rfl⟩
      obtain ⟨Fu, hFu⟩ : ∃ Fu : Nat, F * u = Fu := ⟨_, rfl⟩
      have bp : Fp ≤ 7 * 144115188075855872 := by rw [← hFp]; exact Nat.mul_le_mul F7 p57
      have bu : Fu ≤ 7 * 144115188075855872 := by rw [← hFu]; exact Nat.mul_le_mul F7 u57
      have hFpz : (F : Int) * (p : Int) = (Fp : Int) := by rw [← hFp]; simp
      have hFuz : (F : Int) * (u : Int) = (Fu : Int) := by rw [← hFu]; simp
      rw [hFp] at f1
      rw [hFu] at f2
      have CJ := Lib.hid (fun W => pjoin_is W n k1 (by omega) n1.2 (-1) (E : Int) Fp Ba (by omega) f1)
      have CJ2 := Lib.hid (fun W => pjoin_is W n k2 (by omega) n1.2 ((-1) + 1) (E : Int) Fu Bb (by omega) f2)
      have CV := Lib.hid (fun W (TW : Tz W) => pvalue_is W TW n k1 m z n1.2 i1)
      have CV2 := Lib.hid (fun W (TW : Tz W) => pvalue_is W TW n k2 m (z + 4) n1.2 i2)
      have zr := (i1.rng n1.2).2.2.1
      have zr2 := (i1.rng n1.2).2.2.2.1
      have hlt : k1 < k2 := by
        have h1 := M.isk_same n1.2 i1 i2
        rw [decide_eq_true (M.vz_lt (i1.rng n1.2).2.2.2.2.1 zr (by omega))] at h1
        exact of_decide_eq_true h1.symm
      have q2 : ((m : Int) == (m : Int)) = true := by simp
      have q3 : (z + 4 == z + 4) = true := by simp
      clear f1 f2 i1 i2 hm hz hz2 e1 e2 hp hu hFp hFu s57 c1 c2
      have U := Up.refl w
      go_enter Tryd.func10, Tryd.ntmps10
      go_wp2_with fail
      refine (pshown_any _ (Lib.hid (TT.out.up U))).mono ?_
      rintro _ w1 ⟨rfl, h1⟩
      replace U := U.trans h1
      clear h1
      go_wp2_with fail
      obtain rfl : Ba = Bb := by omega
      obtain rfl : s = v := by omega
      obtain rfl : p = u := by omega
      obtain rfl : Fp = Fu := by have := hFpz.symm.trans hFuz; omega
      obtain ⟨VB, hVB⟩ : ∃ VB, (w1.alloc (.cells #[.int .i64 (-1), .int .i64 (E : Int), .int .u64 (Fp : Int), .int .i64 Ba] 25)).alloc (.cells #[.int .i64 0, .int .i64 (E : Int), .int .u64 (Fp : Int), .int .i64 Ba] 25) = VB := ⟨_, rfl⟩
      have a : Ob VB w1.heap.size 25 #[.int .i64 (-1), .int .i64 (E : Int), .int .u64 (Fp : Int), .int .i64 Ba] := by rw [← hVB]; exact (Ob.mk_ _ _ _).up ((Up.refl _).alloc _)
      have b : Ob VB (w1.heap.size + 1) 25 #[.int .i64 0, .int .i64 (E : Int), .int .u64 (Fp : Int), .int .i64 Ba] := by rw [← hVB]; have := Ob.mk_ (w1.alloc (.cells #[.int .i64 (-1), .int .i64 (E : Int), .int .u64 (Fp : Int), .int .i64 Ba] 25)) 25 #[.int .i64 0, .int .i64 (E : Int), .int .u64 (Fp : Int), .int .i64 Ba]; rwa [show (w1.alloc (.cells #[.int .i64 (-1), .int .i64 (E : Int), .int .u64 (Fp : Int), .int .i64 Ba] 25)).heap.size = w1.heap.size + 1 from Array.size_push _] at this
      replace U : Up w VB := by rw [← hVB]; exact (U.alloc _).alloc _
      rw [hVB]
      clear hVB
      refine (CJ.out _).mono ?_
      rintro _ w2 ⟨rfl, h2⟩
      replace U := U.trans h2
      replace a := a.up h2
      replace b := b.up h2
      clear h2
      have a0 := a.get 0
      have a1 := a.get 1
      have a2 := a.get 2
      have a3 := a.get 3
      have a9 := a.lt
      simp only [List.getElem?_toArray, List.getElem?_cons_zero, List.getElem?_cons_succ] at a0 a1 a2 a3
      have b0 := b.get 0
      have b1 := b.get 1
      have b2 := b.get 2
      have b3 := b.get 3
      have b9 := b.lt
      simp only [List.getElem?_toArray, List.getElem?_cons_zero, List.getElem?_cons_succ] at b0 b1 b2 b3
      go_wp2_with fail
      clear a0 a1 a2 a3 a9
      clear b0 b1 b2 b3 b9
      refine (CJ2.out _).mono ?_
      rintro _ w3 ⟨rfl, h3⟩
      replace U := U.trans h3
      replace a := a.up h3
      replace b := b.up h3
      clear h3
      have a0 := a.get 0
      have a1 := a.get 1
      have a2 := a.get 2
      have a3 := a.get 3
      have a9 := a.lt
      simp only [List.getElem?_toArray, List.getElem?_cons_zero, List.getElem?_cons_succ] at a0 a1 a2 a3
      have b0 := b.get 0
      have b1 := b.get 1
      have b2 := b.get 2
      have b3 := b.get 3
      have b9 := b.lt
      simp only [List.getElem?_toArray, List.getElem?_cons_zero, List.getElem?_cons_succ] at b0 b1 b2 b3
      go_wp2_with fail
      clear a0 a1 a2 a3 a9
      clear b0 b1 b2 b3 b9
      refine (CV.out _ (TT.out.up U)).mono ?_
      rintro _ w4 ⟨rfl, h4⟩
      replace U := U.trans h4
      replace a := a.up h4
      replace b := b.up h4
      clear h4
      have a0 := a.get 0
      have a1 := a.get 1
      have a2 := a.get 2
      have a3 := a.get 3
      have a9 := a.lt
      simp only [List.getElem?_toArray, List.getElem?_cons_zero, List.getElem?_cons_succ] at a0 a1 a2 a3
      have b0 := b.get 0
      have b1 := b.get 1
      have b2 := b.get 2
      have b3 := b.get 3
      have b9 := b.lt
      simp only [List.getElem?_toArray, List.getElem?_cons_zero, List.getElem?_cons_succ] at b0 b1 b2 b3
      go_wp2_with fail
      clear a0 a1 a2 a3 a9
      clear b0 b1 b2 b3 b9
      refine (CV2.out _ (TT.out.up U)).mono ?_
      rintro _ w5 ⟨rfl, h5⟩
      replace U := U.trans h5
      replace a := a.up h5
      replace b := b.up h5
      clear h5
      have a0 := a.get 0
      have a1 := a.get 1
      have a2 := a.get 2
      have a3 := a.get 3
      have a9 := a.lt
      simp only [List.getElem?_toArray, List.getElem?_cons_zero, List.getElem?_cons_succ] at a0 a1 a2 a3
      have b0 := b.get 0
      have b1 := b.get 1
      have b2 := b.get 2
      have b3 := b.get 3
      have b9 := b.lt
      simp only [List.getElem?_toArray, List.getElem?_cons_zero, List.getElem?_cons_succ] at b0 b1 b2 b3
      go_wp2_with fail
      clear a0 a1 a2 a3 a9
      clear b0 b1 b2 b3 b9
      go_ret
      exact ⟨rfl, U⟩
  ·
    have hmx1 : max (R + 2) (1 - R) = 1 - R := by omega
    have hmx2 : max (R + 3) (-R) = -R := by omega
    obtain ⟨Ba, hBa⟩ : ∃ Ba, (n : Int) - (1 - R) - 2 = Ba := ⟨_, rfl⟩
    obtain ⟨Bb, hBb⟩ : ∃ Bb, (n : Int) + R - 2 = Bb := ⟨_, rfl⟩
    have bBa : -70 ≤ Ba ∧ Ba ≤ 60 := by omega
    have bBb : -70 ≤ Bb ∧ Bb ≤ 60 := by omega
    rcases (show Ba < 3 ∨ (3 ≤ Ba ∧ Bb < 3) ∨ (3 ≤ Ba ∧ 3 ≤ Bb) by omega) with c1 | ⟨c1, c2⟩ | ⟨c1, c2⟩
    ·
      have d1 : decide (Ba < 3) = true := decide_eq_true c1
      clear c1
      have U := Up.refl w
      go_enter Tryd.func10, Tryd.ntmps10
      go_wp2_with fail
      refine (pshown_any _ (Lib.hid (TT.out.up U))).mono ?_
      rintro _ w1 ⟨rfl, h1⟩
      replace U := U.trans h1
      clear h1
      go_wp2_with fail
      go_ret
      exact ⟨rfl, by first | exact U | exact (U.alloc _).alloc _⟩
    ·
      have d1 : decide (Ba < 3) = false := decide_eq_false (by omega)
      have d2 : decide (Bb < 3) = true := decide_eq_true c2
      clear c1 c2
      have U := Up.refl w
      go_enter Tryd.func10, Tryd.ntmps10
      go_wp2_with fail
      refine (pshown_any _ (Lib.hid (TT.out.up U))).mono ?_
      rintro _ w1 ⟨rfl, h1⟩
      replace U := U.trans h1
      clear h1
      go_wp2_with fail
      go_ret
      exact ⟨rfl, by first | exact U | exact (U.alloc _).alloc _⟩
    ·
      have d1 : decide (Ba < 3) = false := decide_eq_false (by omega)
      have d2 : decide (Bb < 3) = false := decide_eq_false (by omega)
      obtain ⟨s, hs⟩ : ∃ s : Nat, Ba - 3 = (s : Int) := ⟨(Ba - 3).toNat, by omega⟩
      obtain ⟨v, hv⟩ : ∃ v : Nat, Bb - 3 = (v : Int) := ⟨(Bb - 3).toNat, by omega⟩
      obtain ⟨m, t, hm, ho⟩ := M.odd_ex (8 + F) (by omega)
      obtain ⟨k1, f1, i1⟩ := M.made (n := n) (E := E) (F := F) (s := s) (R := R) E3 F7 (by omega) m t hm ho
      obtain ⟨k2, f2, i2⟩ := M.made (n := n) (E := E) (F := F) (s := v) (R := R + 1) E3 F7 (by omega) m t hm ho
      obtain ⟨z, hz⟩ : ∃ z, 4 * R + (E : Int) - 3 + t = z := ⟨_, rfl⟩
      have hz2 : 4 * (R + 1) + (E : Int) - 3 + t = z + 4 := by omega
      rw [hz] at i1
      rw [hz2] at i2
      have e1 : (s : Int) + 3 = Ba := by omega
      have e2 : (v : Int) + 3 = Bb := by omega
      rw [e1] at f1
      rw [e2] at f2
      obtain ⟨p, hp⟩ : ∃ p : Nat, 2 ^ s = p := ⟨_, rfl⟩
      obtain ⟨u, hu⟩ : ∃ u : Nat, 2 ^ v = u := ⟨_, rfl⟩
      have hpz : (2 : Int) ^ s = (p : Int) := by rw [← hp]; simp
      have huz : (2 : Int) ^ v = (u : Int) := by rw [← hu]; simp
      have s57 : s ≤ 57 ∧ v ≤ 57 := by omega
      have p57 : p ≤ 144115188075855872 := by
        rw [← hp]
        have h1 := M.p2le (a := s) (b := 57) s57.1
        have h2 : (2 : Nat) ^ 57 = 144115188075855872 := by decide
        omega
      have u57 : u ≤ 144115188075855872 := by
        rw [← hu]
        have h1 := M.p2le (a := v) (b := 57) s57.2
        have h2 : (2 : Nat) ^ 57 = 144115188075855872 := by decide
        omega
      rw [hp] at f1
      rw [hu] at f2
      obtain ⟨Fp, hFp⟩ : ∃ Fp : Nat, F * p = Fp := ⟨_, rfl⟩
      obtain ⟨Fu, hFu⟩ : ∃ Fu : Nat, F * u = Fu := ⟨_, rfl⟩
      have bp : Fp ≤ 7 * 144115188075855872 := by rw [← hFp]; exact Nat.mul_le_mul F7 p57
      have bu : Fu ≤ 7 * 144115188075855872 := by rw [← hFu]; exact Nat.mul_le_mul F7 u57
      have hFpz : (F : Int) * (p : Int) = (Fp : Int) := by rw [← hFp]; simp
      have hFuz : (F : Int) * (u : Int) = (Fu : Int) := by rw [← hFu]; simp
      rw [hFp] at f1
      rw [hFu] at f2
      have CJ := Lib.hid (fun W => pjoin_is W n k1 (by omega) n1.2 R (E : Int) Fp Ba (by omega) f1)
      have CJ2 := Lib.hid (fun W => pjoin_is W n k2 (by omega) n1.2 (R + 1) (E : Int) Fu Bb (by omega) f2)
      have CV := Lib.hid (fun W (TW : Tz W) => pvalue_is W TW n k1 m z n1.2 i1)
      have CV2 := Lib.hid (fun W (TW : Tz W) => pvalue_is W TW n k2 m (z + 4) n1.2 i2)
      have zr := (i1.rng n1.2).2.2.1
      have zr2 := (i1.rng n1.2).2.2.2.1
      have hlt : k1 < k2 := by
        have h1 := M.isk_same n1.2 i1 i2
        rw [decide_eq_true (M.vz_lt (i1.rng n1.2).2.2.2.2.1 zr (by omega))] at h1
        exact of_decide_eq_true h1.symm
      have q2 : ((m : Int) == (m : Int)) = true := by simp
      have q3 : (z + 4 == z + 4) = true := by simp
      clear f1 f2 i1 i2 hm hz hz2 e1 e2 hp hu hFp hFu s57 c1 c2
      have U := Up.refl w
      go_enter Tryd.func10, Tryd.ntmps10
      go_wp2_with fail
      refine (pshown_any _ (Lib.hid (TT.out.up U))).mono ?_
      rintro _ w1 ⟨rfl, h1⟩
      replace U := U.trans h1
      clear h1
      go_wp2_with fail
      obtain ⟨VB, hVB⟩ : ∃ VB, (w1.alloc (.cells #[.int .i64 R, .int .i64 (E : Int), .int .u64 (Fp : Int), .int .i64 Ba] 25)).alloc (.cells #[.int .i64 (R + 1), .int .i64 (E : Int), .int .u64 (Fu : Int), .int .i64 Bb] 25) = VB := ⟨_, rfl⟩
      have a : Ob VB w1.heap.size 25 #[.int .i64 R, .int .i64 (E : Int), .int .u64 (Fp : Int), .int .i64 Ba] := by rw [← hVB]; exact (Ob.mk_ _ _ _).up ((Up.refl _).alloc _)
      have b : Ob VB (w1.heap.size + 1) 25 #[.int .i64 (R + 1), .int .i64 (E : Int), .int .u64 (Fu : Int), .int .i64 Bb] := by rw [← hVB]; have := Ob.mk_ (w1.alloc (.cells #[.int .i64 R, .int .i64 (E : Int), .int .u64 (Fp : Int), .int .i64 Ba] 25)) 25 #[.int .i64 (R + 1), .int .i64 (E : Int), .int .u64 (Fu : Int), .int .i64 Bb]; rwa [show (w1.alloc (.cells #[.int .i64 R, .int .i64 (E : Int), .int .u64 (Fp : Int), .int .i64 Ba] 25)).heap.size = w1.heap.size + 1 from Array.size_push _] at this
      replace U : Up w VB := by rw [← hVB]; exact (U.alloc _).alloc _
      rw [hVB]
      clear hVB
      refine (CJ.out _).mono ?_
      rintro _ w2 ⟨rfl, h2⟩
      replace U := U.trans h2
      replace a := a.up h2
      replace b := b.up h2
      clear h2
      have a0 := a.get 0
      have a1 := a.get 1
      have a2 := a.get 2
      have a3 := a.get 3
      have a9 := a.lt
      simp only [List.getElem?_toArray, List.getElem?_cons_zero, List.getElem?_cons_succ] at a0 a1 a2 a3
      have b0 := b.get 0
      have b1 := b.get 1
      have b2 := b.get 2
      have b3 := b.get 3
      have b9 := b.lt
      simp only [List.getElem?_toArray, List.getElem?_cons_zero, List.getElem?_cons_succ] at b0 b1 b2 b3
      go_wp2_with fail
      clear a0 a1 a2 a3 a9
      clear b0 b1 b2 b3 b9
      refine (CJ2.out _).mono ?_
      rintro _ w3 ⟨rfl, h3⟩
      replace U := U.trans h3
      replace a := a.up h3
      replace b := b.up h3
      clear h3
      have a0 := a.get 0
      have a1 := a.get 1
      have a2 := a.get 2
      have a3 := a.get 3
      have a9 := a.lt
      simp only [List.getElem?_toArray, List.getElem?_cons_zero, List.getElem?_cons_succ] at a0 a1 a2 a3
      have b0 := b.get 0
      have b1 := b.get 1
      have b2 := b.get 2
      have b3 := b.get 3
      have b9 := b.lt
      simp only [List.getElem?_toArray, List.getElem?_cons_zero, List.getElem?_cons_succ] at b0 b1 b2 b3
      go_wp2_with fail
      clear a0 a1 a2 a3 a9
      clear b0 b1 b2 b3 b9
      refine (CV.out _ (TT.out.up U)).mono ?_
      rintro _ w4 ⟨rfl, h4⟩
      replace U := U.trans h4
      replace a := a.up h4
      replace b := b.up h4
      clear h4
      have a0 := a.get 0
      have a1 := a.get 1
      have a2 := a.get 2
      have a3 := a.get 3
      have a9 := a.lt
      simp only [List.getElem?_toArray, List.getElem?_cons_zero, List.getElem?_cons_succ] at a0 a1 a2 a3
      have b0 := b.get 0
      have b1 := b.get 1
      have b2 := b.get 2
      have b3 := b.get 3
      have b9 := b.lt
      simp only [List.getElem?_toArray, List.getElem?_cons_zero, List.getElem?_cons_succ] at b0 b1 b2 b3
      go_wp2_with fail
      clear a0 a1 a2 a3 a9
      clear b0 b1 b2 b3 b9
      refine (CV2.out _ (TT.out.up U)).mono ?_
      rintro _ w5 ⟨rfl, h5⟩
      replace U := U.trans h5
      replace a := a.up h5
      replace b := b.up h5
      clear h5
      have a0 := a.get 0
      have a1 := a.get 1
      have a2 := a.get 2
      have a3 := a.get 3
      have a9 := a.lt
      simp only [List.getElem?_toArray, List.getElem?_cons_zero, List.getElem?_cons_succ] at a0 a1 a2 a3
      have b0 := b.get 0
      have b1 := b.get 1
      have b2 := b.get 2
      have b3 := b.get 3
      have b9 := b.lt
      simp only [List.getElem?_toArray, List.getElem?_cons_zero, List.getElem?_cons_succ] at b0 b1 b2 b3
      go_wp2_with fail
      clear a0 a1 a2 a3 a9
      clear b0 b1 b2 b3 b9
      go_ret
      exact ⟨rfl, U⟩
end Go.Proofs.YtngoglhjelcdgaaDoor
