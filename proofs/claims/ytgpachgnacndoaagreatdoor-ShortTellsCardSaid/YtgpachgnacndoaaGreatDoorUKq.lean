/-
  The reference of layer 11: Full.
-/
import Derived.Test.YtgpachgnacndoaaGreatDoorUKo
import Derived.OwnWalk
import Derived.LoopTactic
namespace Go.Proofs.YtgpachgnacndoaaGreatDoor
open Go.RowKit
set_option linter.unusedSimpArgs false
set_option linter.unusedVariables false

namespace M
theorem full_fit {m : Nat} {z : Int} (hm : m < 18446744073709551616) (hz : -3000 ≤ z ∧ z ≤ 3000) : m * 2 ^ z.toNat * 5 ^ (-z).toNat < 18446744073709551616 ^ 128 := by
  have cf := c_fit
  have cf5 := c_fit5
  have c3 := c_3064
  obtain ⟨N, hN⟩ : ∃ N, N = 3000 := ⟨_, rfl⟩
  obtain ⟨L, hL⟩ : ∃ L, L = 3064 := ⟨_, rfl⟩
  obtain ⟨F, hF⟩ : ∃ F, 18446744073709551616 ^ 128 = F := ⟨_, rfl⟩
  rw [← hN] at c3 cf5
  rw [← hL] at c3 cf
  rw [hF] at cf cf5 ⊢
  rcases Int.le_total 0 z with c | c
  · rw [show (-z).toNat = 0 by omega, Nat.pow_zero, Nat.mul_one]
    have a : m * 2 ^ z.toNat ≤ m * 2 ^ N := Nat.mul_le_mul_left m (p2le (by omega))
    have b : m * 2 ^ N < 18446744073709551616 * 2 ^ N := Nat.mul_lt_mul_of_pos_right hm (p2 N)
    omega
  · rw [show z.toNat = 0 by omega, Nat.pow_zero, Nat.mul_one]
    have a : m * 5 ^ (-z).toNat ≤ m * 5 ^ N := Nat.mul_le_mul_left m (Nat.pow_le_pow_right (by decide) (by omega))
    have b : m * 5 ^ N < 18446744073709551616 * 5 ^ N := Nat.mul_lt_mul_of_pos_right hm (Nat.pow_pos (by decide))
    omega
theorem full_sz {m : Nat} {z : Int} (hz : -3000 ≤ z ∧ z ≤ 3000) : sz (m * 2 ^ z.toNat * 5 ^ (-z).toNat) (-((-z).toNat : Int)) (-((-z).toNat : Int)) = sz m z 0 := by
  rcases Int.le_total 0 z with c | c
  · rw [show (-z).toNat = 0 by omega, Nat.pow_zero, Nat.mul_one]
    have := sz_two_ m z.toNat 0 (by decide)
    rw [show (0 : Int) + (z.toNat : Int) = z by omega] at this
    exact this
  · rw [show z.toNat = 0 by omega, Nat.pow_zero, Nat.mul_one]
    have := sz_five_ m (-z).toNat (by omega)
    rw [show -((-z).toNat : Int) = z by omega] at *
    exact this
end M
set_option maxHeartbeats 16000000 in
set_option maxRecDepth 100000 in
theorem rfull11_any (w : World) (i : Nat) (i1 : 1 ≤ i) (i2 : i ≤ 14) (p : Nat) (pb : p < 18446744073709551616) (hp : (p : Int) ≤ M.msk (M.tb i)) (gg : Bool) (m : Nat) (z : Int) (hd : M.Dv (M.tb i) p 2 gg m z) (D : Nat) (K : Int) (hg : M.Dgs (M.sz m z 0) D K) : Calls Tryz.prog 10 #[.int .i64 (i : Int), u64 p] w (Dz w.heap.size gg D K w) := by
  obtain ⟨m0, mb, zb⟩ := M.pt_rng (M.ok i i1 i2) (M.ok2 i i1 i2) (M.ok3 i i1 i2) hp hd
  have CV := Lib.hid (fun W => rdecode_any W (i : Int) p pb 2 gg m z 0 (.inr ⟨i, rfl, i1, i2, .inr ⟨hp, hd, rfl⟩⟩))
  obtain ⟨Z, hZ⟩ : ∃ Z, z.toNat = Z := ⟨_, rfl⟩
  obtain ⟨Y, hY⟩ : ∃ Y, (-z).toNat = Y := ⟨_, rfl⟩
  have hfit := M.full_fit mb zb
  have hsz := M.full_sz (m := m) zb
  rw [hZ, hY] at hfit hsz
  have y0 : 0 < m * 2 ^ Z * 5 ^ Y := Nat.mul_pos (Nat.mul_pos (by omega) (M.p2 Z)) (Nat.pow_pos (by decide))
  obtain ⟨j, hj, hK⟩ := M.strip_dgs (hsz ▸ hg) y0 (by omega)
  have fit1 : Hid (∀ c, c ≤ Z → m * 2 ^ c < 18446744073709551616 ^ 128) := Lib.hid (fun c hc => by
    have a : m * 2 ^ c ≤ m * 2 ^ Z := Nat.mul_le_mul_left m (M.p2le hc)
    have b : m * 2 ^ Z ≤ m * 2 ^ Z * 5 ^ Y := Nat.le_mul_of_pos_right _ (Nat.pow_pos (by decide))
    omega)
  have fit2 : Hid (∀ c, c ≤ Y → m * 2 ^ Z * 5 ^ c < 18446744073709551616 ^ 128) := Lib.hid (fun c hc => by
    have a : m * 2 ^ Z * 5 ^ c ≤ m * 2 ^ Z * 5 ^ Y := Nat.mul_le_mul_left _ (Nat.pow_le_pow_right (by decide) hc)
    omega)
  have CM := Lib.hid (fun W lo1 lo2 v1 v2 (a b : Nat) (N1 : Nt W lo1 128 v1 a) (N2 : Nt W lo2 1 v2 b) => rmul_any W lo1 lo2 128 v1 v2 a b N1.nw (N2.more (by omega)).nw (by omega))
  have CN := Lib.hid (fun W => lit1n W m (m : Int) rfl mb m0)
  have CS := Lib.hid (fun W lo A n c (N : Nt W lo 128 (.slice A n c) (m * 2 ^ Z * 5 ^ Y)) (hlo : lo ≤ W.heap.size) => rstrip_any W lo gg A n c (-(Y : Int)) (m * 2 ^ Z * 5 ^ Y) N hlo D j hj hg.ten (by have := hg.hi; omega) (by omega))
  have HK := Lib.hid hK
  have D0 := Lib.hid (show 0 < D by have := hg.ten; omega)
  have wm : IntKind.u64.wrap (m : Int) = (m : Int) := wrap_u64 rfl mb
  have HZ := Lib.hid hZ
  have HY := Lib.hid hY
  have ZB := Lib.hid zb
  clear hp hd hg i1 i2 pb zb mb m0 hfit hsz y0 hj hK hZ hY
  have U := Up.refl w
  go_enter Tryz.func10, Tryz.ntmps10
  go_wp2_with fail
  obtain ⟨V1, hV1⟩ : ∃ V1, w.alloc (.cells #[.bool false, .slice none 0 0, .int .i64 0] 27) = V1 := ⟨_, rfl⟩
  have R : Ob V1 (w.heap.size) 27 #[.bool false, .slice none 0 0, .int .i64 0] := by rw [← hV1]; exact Ob.mk_ _ _ _
  have sV1 : V1.heap.size = w.heap.size + 1 := by rw [← hV1]; exact (Array.size_push _)
  have uV1 : Up w V1 := by rw [← hV1]; exact (Up.refl _).alloc _
  have ltR : w.heap.size ≤ w.heap.size := by have := U.size; omega
  rw [hV1]
  clear hV1
  replace U := U.trans uV1
  clear uV1
  clear sV1
  have glR := R.lt
  refine (CV.out _).mono ?_
  rintro _ w2 ⟨rfl, h2⟩
  replace U := U.trans h2
  replace R := R.up h2
  clear h2
  clear CV
  go_upto_region 2 with fail
  have gVR := R.lt
  obtain ⟨V3, hV3⟩ : ∃ V3, w2.alloc (.cells #[.int .i64 2, .bool gg, u64 m, .int .i64 z] 32) = V3 := ⟨_, rfl⟩
  have V : Ob V3 (w2.heap.size) 32 #[.int .i64 2, .bool gg, u64 m, .int .i64 z] := by rw [← hV3]; exact Ob.mk_ _ _ _
  have sV3 : V3.heap.size = w2.heap.size + 1 := by rw [← hV3]; exact (Array.size_push _)
  have uV3 : Up w2 V3 := by rw [← hV3]; exact (Up.refl _).alloc _
  have ltV : w.heap.size ≤ w2.heap.size := by have := U.size; omega
  rw [hV3]
  clear hV3
  replace U := U.trans uV3
  replace R := R.up uV3
  clear uV3
  clear sV3
  have glV := V.lt
  obtain ⟨V0, V1, V2, V3, Vf0, Vf1, Vf2, Vf3, Vl⟩ := V.c4
  go_wp2_with fail
  clear V0 Vf0 V1 Vf1 V2 Vf2 V3 Vf3 Vl
  obtain ⟨V9, hV9⟩ : ∃ V, V3.alloc (.cells #[.int .u64 (m : Int)] 22) = V := ⟨_, rfl⟩
  have NL : Nt V9 V3.heap.size 128 (.slice (some ⟨V3.heap.size, 0, none⟩) 1 1) (m * 2 ^ 0) := by rw [← hV9, Nat.pow_zero, Nat.mul_one]; exact (CN.out V3).more (by omega)
  have lR := R.lt
  have uV9 : Up V3 V9 := by rw [← hV9]; exact (Up.refl _).alloc _
  rw [hV9]
  clear hV9 CN
  replace U := U.trans uV9
  replace R := R.up uV9
  replace V := V.up uV9
  clear uV9
  replace NL := NL.lower (lo' := w.heap.size + 1) (by omega)
  have lV := V.lt
  go_loopw [7, 9] (fun dv iv wr => ∃ (c : Nat) (I : Int) (A9 : Option Addr) (n9 c9 : Nat), c ≤ Z ∧ I + c = z ∧ dv = .slice A9 n9 c9 ∧ iv = .int .i64 I ∧ Nt wr (w.heap.size + 1) 128 (.slice A9 n9 c9) (m * 2 ^ c) ∧ Ob wr w.heap.size 27 #[.bool false, .slice none 0 0, .int .i64 0] ∧ Ob wr (w2.heap.size) 32 #[.int .i64 2, .bool gg, u64 m, .int .i64 z] ∧ Up w wr) (fun _ iv _ => (intOf iv).toNat)
  case atStart => exact ⟨0, z, _, _, _, Nat.zero_le _, by omega, rfl, rfl, NL, R, V, U⟩
  case round =>
    clear NL R V U lV lR
    obtain ⟨c, I, A9, n9, c9, hc, hI, rfl, rfl, N9, R, V, U⟩ := hrel
    by_cases e : c < Z
    ·
      have zb := ZB.out
      have hz := HZ.out
      have f1 : decide (I > 0) = true := decide_eq_true (by omega)
      have f2 : decide (0 < I) = true := decide_eq_true (by omega)
      have w1 : IntKind.i64.wrap (I - 1) = I - 1 := by simp [IntKind.wrap, IntKind.bits, IntKind.signed]; omega
      have hm : Hid (0 ≤ I - 1) := by show _ ≤ _; omega
      have HI := Lib.hid hI
      clear zb hz hI
      go_wp2_with fail
      obtain ⟨V4, hV4⟩ : ∃ V, wr.alloc (.cells #[.int .u64 2] 22) = V := ⟨_, rfl⟩
      have NL : Nt V4 wr.heap.size 1 (.slice (some ⟨wr.heap.size, 0, none⟩) 1 1) 2 := by rw [← hV4]; exact lit1n wr 2 2 rfl (by decide) (by decide)
      have uV4 : Up wr V4 := by rw [← hV4]; exact (Up.refl _).alloc _
      rw [hV4]
      clear hV4
      replace U := U.trans uV4
      replace R := R.up uV4
      replace V := V.up uV4
      replace N9 := N9.up uV4
      clear uV4
      have lR := R.lt
      refine (CM.out _ _ _ _ _ _ _ N9 NL).mono ?_
      rintro _ w5 ⟨vq, rfl, NQ, h5⟩
      replace U := U.trans h5
      replace R := R.up h5
      replace V := V.up h5
      replace N9 := N9.up h5
      replace NL := NL.up h5
      clear h5
      clear NL N9
      replace NQ := (NQ.fit (by rw [Nat.mul_assoc, ← Nat.pow_succ]; exact fit1.out (c + 1) e)).lower (lo' := w.heap.size + 1) lR
      rw [Nat.mul_assoc, ← Nat.pow_succ] at NQ
      obtain ⟨Aq, nq, cq, rfl, NQ⟩ := NQ.sl
      have HE := Lib.hid e
      clear e hc
      go_wp2_with fail
      go_roundw
      case rel => exact ⟨c + 1, I - 1, _, _, _, HE.out, by have := HI.out; omega, rfl, rfl, NQ, R, V, U⟩
      case measure => have := hm.out; simp [intOf]; omega
    ·
      have ec : c = Z := by omega
      have EC := Lib.hid ec
      have zb := ZB.out
      have hz := HZ.out
      have f1 : decide (I > 0) = false := decide_eq_false (by omega)
      have f2 : decide (0 < I) = false := decide_eq_false (by omega)
      rw [ec] at N9
      clear ec e hc zb hz hI
      obtain ⟨V0, V1, V2, V3, Vf0, Vf1, Vf2, Vf3, Vl⟩ := V.c4
      go_wp2_with fail
      clear V0 Vf0 V1 Vf1 V2 Vf2 V3 Vf3 Vl
      have N8 : Nt wr (w.heap.size + 1) 128 (.slice A9 n9 c9) (m * 2 ^ Z * 5 ^ 0) := by rw [Nat.pow_zero, Nat.mul_one]; exact N9
      clear N9 f1 f2
      go_loopw [7, 8, 10] (fun dv kv iv wr => ∃ (c : Nat) (I J : Int) (A9 : Option Addr) (n9 c9 : Nat), c ≤ Y ∧ I = z + c ∧ J + c = 0 ∧ dv = .slice A9 n9 c9 ∧ kv = .int .i64 J ∧ iv = .int .i64 I ∧ Nt wr (w.heap.size + 1) 128 (.slice A9 n9 c9) (m * 2 ^ Z * 5 ^ c) ∧ Ob wr w.heap.size 27 #[.bool false, .slice none 0 0, .int .i64 0] ∧ Ob wr (w2.heap.size) 32 #[.int .i64 2, .bool gg, u64 m, .int .i64 z] ∧ Up w wr) (fun _ _ iv _ => (-intOf iv).toNat)
      case atStart => exact ⟨0, z, 0, _, _, _, Nat.zero_le _, by omega, by omega, rfl, rfl, rfl, N8, R, V, U⟩
      case round =>
        clear N8 R V U EC
        obtain ⟨c, I, J, A9, n9, c9, hc, hI, hJ, rfl, rfl, rfl, N9, R, V, U⟩ := hrel
        by_cases e : c < Y
        ·
          have zb := ZB.out
          have hy := HY.out
          have f1 : decide (I < 0) = true := decide_eq_true (by omega)
          have w1 : IntKind.i64.wrap (I + 1) = I + 1 := by simp [IntKind.wrap, IntKind.bits, IntKind.signed]; omega
          have w2 : IntKind.i64.wrap (J - 1) = J - 1 := by simp [IntKind.wrap, IntKind.bits, IntKind.signed]; omega
          have hm : Hid (I + 1 ≤ 0) := by show _ ≤ _; omega
          have HI := Lib.hid hI
          have HJ := Lib.hid hJ
          clear zb hy hI hJ
          go_wp2_with fail
          obtain ⟨V6, hV6⟩ : ∃ V, wr.alloc (.cells #[.int .u64 5] 22) = V := ⟨_, rfl⟩
          have NL : Nt V6 wr.heap.size 1 (.slice (some ⟨wr.heap.size, 0, none⟩) 1 1) 5 := by rw [← hV6]; exact lit1n wr 5 5 rfl (by decide) (by decide)
          have uV6 : Up wr V6 := by rw [← hV6]; exact (Up.refl _).alloc _
          rw [hV6]
          clear hV6
          replace U := U.trans uV6
          replace R := R.up uV6
          replace V := V.up uV6
          replace N9 := N9.up uV6
          clear uV6
          have lR := R.lt
          refine (CM.out _ _ _ _ _ _ _ N9 NL).mono ?_
          rintro _ w7 ⟨vq, rfl, NQ, h7⟩
          replace U := U.trans h7
          replace R := R.up h7
          replace V := V.up h7
          replace N9 := N9.up h7
          replace NL := NL.up h7
          clear h7
          clear NL N9
          replace NQ := (NQ.fit (by rw [Nat.mul_assoc, ← Nat.pow_succ]; exact fit2.out (c + 1) e)).lower (lo' := w.heap.size + 1) lR
          rw [Nat.mul_assoc, ← Nat.pow_succ] at NQ
          obtain ⟨Aq, nq, cq, rfl, NQ⟩ := NQ.sl
          have HE := Lib.hid e
          clear e hc
          go_wp2_with fail
          go_roundw
          case rel => exact ⟨c + 1, I + 1, J - 1, _, _, _, HE.out, by have := HI.out; omega, by have := HJ.out; omega, rfl, rfl, rfl, NQ, R, V, U⟩
          case measure => have := hm.out; simp [intOf]; omega
        ·
          have ec : c = Y := by omega
          have zb := ZB.out
          have hy := HY.out
          have f1 : decide (I < 0) = false := decide_eq_false (by omega)
          have eJ : J = -(Y : Int) := by omega
          subst eJ
          rw [ec] at N9
          clear ec e hc zb hy hI hJ
          have lZ := R.lt
          obtain ⟨V0, V1, V2, V3, Vf0, Vf1, Vf2, Vf3, Vl⟩ := V.c4
          go_wp2_with fail
          clear V0 Vf0 V1 Vf1 V2 Vf2 V3 Vf3 Vl
          refine (CS.out _ _ _ _ _ N9 (by omega)).mono ?_
          rintro _ w8 ⟨AS, nS, cS, rfl, NS, h9⟩
          replace U := U.trans h9
          replace R := R.up h9
          replace V := V.up h9
          clear h9 N9
          go_wp2_with (refine store_ob2 rfl 27 (.tmp 4) (.tmp 44) rfl _ #[.bool false, .slice none 0 0, .int .i64 0] #[.bool gg, .slice AS nS cS, .int .i64 (-(Y : Int) + j)] rfl rfl 3 (by kernel_rfl) rfl rfl (by simp [Value.oneCell']) w U (Nat.le_refl _) 27 R ?_; clear U; intro V9 Z9 U ho; replace NS := Nt.other NS ho (Nat.lt_succ_self _); clear ho R; have R := Z9; clear Z9)
          obtain ⟨R0, R1, R2⟩ := R.g3
          refine bodyPost_ret (v := .agg #[.bool gg, .slice AS nS cS, .int .i64 (-(Y : Int) + j)]) (by simp [results, Tryz.results10, go_sem, R0, R1, R2]) rfl ?_
          exact ⟨_, _, _, by rw [HK.out], NS.lower (Nat.le_succ _), U⟩
end Go.Proofs.YtgpachgnacndoaaGreatDoor
