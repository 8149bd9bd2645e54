/-
  PositDoubles.
-/
import Derived.Test.YtngoglhjelcdgaaDoorPb
namespace Go.Proofs.YtngoglhjelcdgaaDoor
open Go.RowKit
namespace M
theorem isf_next {n k E F : Nat} {R B : Int} (h : IsF n k R (E : Int) F B) (hE : E < 3) (hB : 0 < B) : ∃ k', IsF n k' R ((E : Int) + 1) F B := by
  obtain ⟨r, q, h1, h2, h3, h4⟩ := h
  obtain ⟨b, rfl⟩ : ∃ b, r = b + 2 := ⟨r - 2, by omega⟩
  have pb := p2 b
  have p2b : 2 ^ (b + 2) = 4 * 2 ^ b := by rw [p2s, p2s]; omega
  have e1 : q / 2 ^ b = E := by
    have : ex (b + 2) q = q / 2 ^ b := by unfold ex; rw [if_pos (by omega), Nat.add_sub_cancel]
    omega
  have hq : q < 3 * 2 ^ b := by
    have : q / 2 ^ b < 3 := by omega
    rwa [Nat.div_lt_iff_lt_mul pb] at this
  have e2 : ex (b + 2) (q + 2 ^ b) = E + 1 := by
    unfold ex
    rw [if_pos (by omega), Nat.add_sub_cancel, Nat.add_div_right _ pb, e1]
  have e3 : fr (b + 2) (q + 2 ^ b) = F := by
    have : fr (b + 2) (q + 2 ^ b) = fr (b + 2) q := by unfold fr; rw [Nat.add_sub_cancel, Nat.add_mod_right]
    rw [this, h3]
  obtain ⟨_, g | g | g⟩ := h1
  · obtain ⟨rfl, g1, rfl⟩ := g
    exact ⟨2 ^ (b + 2) + (q + 2 ^ b), b + 2, q + 2 ^ b, ⟨by omega, .inl ⟨rfl, g1, rfl⟩⟩, by omega, e3, h4⟩
  · obtain ⟨g0, g1, rfl⟩ := g
    exact ⟨k + 2 ^ b, b + 2, q + 2 ^ b, ⟨by omega, .inr (.inl ⟨by omega, g1, rfl⟩)⟩, by omega, e3, h4⟩
  · omega
theorem isk_double {n k k' F m : Nat} {R E B z : Int} (h : IsF n k R E F B) (h' : IsF n k' R (E + 1) F B) (hk : IsK n k m z) : IsK n k' m (z + 1) := by
  obtain ⟨r, q, a1, a2, a3, a4⟩ := h
  obtain ⟨r', q', b1, b2, b3, b4⟩ := h'
  obtain ⟨rfl, _⟩ := (ps_cmp a1 b1).2 rfl
  obtain ⟨ho, R2, r2, q2, t, c1, c2, c3⟩ := hk
  obtain ⟨rfl, rfl, rfl⟩ := ps_uniq a1 c1
  exact ⟨ho, R, r, q', t, b1, by rw [b3, ← a3, c2], by omega⟩
theorem vz_lt {m : Nat} {z z' : Int} (hm : 0 < m) (h : -1000 ≤ z) (hz : z < z') : vz m z < vz m z' := by
  unfold vz
  exact Nat.mul_lt_mul_of_pos_left (Nat.pow_lt_pow_right (by decide) (by omega)) hm
end M
set_option maxHeartbeats 4000000 in
set_option maxRecDepth 100000 in
theorem pdoubles_walk (w : World) (TT : Hid (Tz w)) (x0 : Int) (_wx0 : (Lit.int .i64 x0).wf = true) (x1 : Int) (wx1 : (Lit.int .u64 x1).wf = true) : Calls Tryd.prog 9 #[.int .i64 x0, .int .u64 x1] w (True5 w) := by
  obtain ⟨k, rfl, hk⟩ := nat_u64 wx1
  clear wx1
  by_cases h : bad x0 k
  ·
    have C1 := Lib.hid (fun W => psplit_out W x0 k hk h)
    clear h
    have U := Up.refl w
    go_enter Tryd.func9, Tryd.ntmps9
    go_wp2_with fail
    refine (pshown_any _ (Lib.hid (TT.out.up U))).mono ?_
    rintro _ w1 ⟨rfl, h1⟩
    replace U := U.trans h1
    clear h1
    go_wp2_with fail
    refine (C1.out _).mono ?_
    rintro _ w2 ⟨rfl, h2⟩
    replace U := U.trans h2
    clear h2
    go_wp2_with fail
    go_ret
    exact ⟨rfl, by first | exact U | exact U.alloc _⟩
  ·
    obtain ⟨n, rfl, hn2, hn, k0, kn⟩ := of_bad h
    clear h
    obtain ⟨R, r, q, hP⟩ := M.ps_ex hn2 k0 kn
    obtain ⟨E, hE⟩ : ∃ x, M.ex r q = x := ⟨_, rfl⟩
    obtain ⟨F, hF⟩ : ∃ x, M.fr r q = x := ⟨_, rfl⟩
    obtain ⟨B, hB⟩ : ∃ x : Int, ((r - 2 : Nat) : Int) = x := ⟨_, rfl⟩
    have C1 := Lib.hid (fun W => psplit_in W n k r q R hn hP E F B (Lib.hid hE) (Lib.hid hF) (Lib.hid hB))
    have hf : M.IsF n k R E F B := ⟨r, q, hP, by rw [hE], hF, hB⟩
    have E3 : E ≤ 3 := by rw [← hE]; exact M.ex_le hP.1
    have F64 : F < 18446744073709551616 := by
      have := (hf.rng hn)
      have h1 : 2 ^ B.toNat ≤ 2 ^ 64 := M.p2le (by omega)
      have h2 : (2 : Nat) ^ 64 = 18446744073709551616 := by decide
      omega
    by_cases e3 : E = 3
    ·
      subst e3
      clear hP hE hF hB hf kn
      have U := Up.refl w
      go_enter Tryd.func9, Tryd.ntmps9
      go_wp2_with fail
      refine (pshown_any _ (Lib.hid (TT.out.up U))).mono ?_
      rintro _ w1 ⟨rfl, h1⟩
      replace U := U.trans h1
      clear h1
      go_wp2_with fail
      refine (C1.out _).mono ?_
      rintro _ w2 ⟨rfl, h2⟩
      replace U := U.trans h2
      clear h2
      go_wp2_with fail
      go_ret
      exact ⟨rfl, by first | exact U | exact U.alloc _⟩
    ·
      have e30 : ((E : Int) == 3) = false := by rw [beq_eq_false_iff_ne]; omega
      obtain ⟨m, z, hm⟩ := M.isk_ex hn2 k0 kn
      have gm := hm.rng hn
      have CV := Lib.hid (fun W (TW : Tz W) => pvalue_is W TW n k m z hn hm)
      have q2 : ((m : Int) == (m : Int)) = true := by simp
      have m64 : m < 18446744073709551616 := by omega
      have z1 : -1000 ≤ z ∧ z ≤ 1000 := by omega
      by_cases hx : ∃ k', M.IsF n k' R ((E : Int) + 1) F B
      ·
        obtain ⟨k', hk'⟩ := hx
        have hm' := M.isk_double hf hk' hm
        have CJ := Lib.hid (fun W => pjoin_is W n k' hn2 hn R ((E : Int) + 1) F B F64 hk')
        have CW := Lib.hid (fun W (TW : Tz W) => pvalue_is W TW n k' m (z + 1) hn hm')
        have hlt : k < k' := by
          have h1 := M.isk_same hn hm hm'
          rw [decide_eq_true (M.vz_lt (by omega) (by omega) (by omega))] at h1
          exact of_decide_eq_true h1.symm
        have q3 : (z + 1 == z + 1) = true := by simp
        clear hP hE hF hB hf kn hk' hm hm' gm
        have U := Up.refl w
        go_enter Tryd.func9, Tryd.ntmps9
        go_wp2_with fail
        refine (pshown_any _ (Lib.hid (TT.out.up U))).mono ?_
        rintro _ w1 ⟨rfl, h1⟩
        replace U := U.trans h1
        clear h1
        go_wp2_with fail
        refine (C1.out _).mono ?_
        rintro _ w2 ⟨rfl, h2⟩
        replace U := U.trans h2
        clear h2
        go_wp2_with fail
        have US := U
        obtain ⟨V3, hV3⟩ : ∃ V3, w2.alloc (.cells #[.int .i64 R, .int .i64 (E : Int), .int .u64 (F : Int), .int .i64 B] 25) = V3 := ⟨_, rfl⟩
        have a : Ob V3 w2.heap.size 25 #[.int .i64 R, .int .i64 (E : Int), .int .u64 (F : Int), .int .i64 B] := by rw [← hV3]; exact Ob.mk_ _ _ _
        have uV3 : Up w2 V3 := by rw [← hV3]; exact (Up.refl _).alloc _
        rw [hV3]
        clear hV3
        replace U := U.trans uV3
        clear uV3
        have a0 := a.get 0
        have a1 := a.get 1
        have a2 := a.get 2
        have a3 := a.get 3
        have a9 := a.lt
        simp only [List.getElem?_toArray, List.getElem?_cons_zero, List.getElem?_cons_succ] at a0 a1 a2 a3
        go_wp2_with fail
        clear a0 a1 a2 a3 a9
        refine (CV.out _ (TT.out.up U)).mono ?_
        rintro _ w4 ⟨rfl, h4⟩
        replace U := U.trans h4
        replace a := a.up h4
        clear h4
        have af1 := a.fr 1
        have a0 := a.get 0
        have a1 := a.get 1
        have a2 := a.get 2
        have a3 := a.get 3
        have a9 := a.lt
        simp only [List.getElem?_toArray, List.getElem?_cons_zero, List.getElem?_cons_succ] at a0 a1 a2 a3
        go_wp2_with fail
        clear a0 a1 a2 a3 a9
        clear af1
        obtain ⟨V5, hV5⟩ : ∃ V5, w4.setCell ⟨w2.heap.size, 1, none⟩ (.int .i64 ((E : Int) + 1)) = V5 := ⟨_, rfl⟩
        replace a : Ob V5 w2.heap.size 25 #[.int .i64 R, .int .i64 ((E : Int) + 1), .int .u64 (F : Int), .int .i64 B] := by rw [← hV5]; exact a.put 1 _
        replace U : Up w V5 := by rw [← hV5]; exact U.setCell (p := ⟨w2.heap.size, 1, none⟩) (Up.size US) _
        rw [hV5]
        clear hV5
        refine (CJ.out _).mono ?_
        rintro _ w6 ⟨rfl, h6⟩
        replace U := U.trans h6
        replace a := a.up h6
        clear h6
        have a0 := a.get 0
        have a1 := a.get 1
        have a2 := a.get 2
        have a3 := a.get 3
        have a9 := a.lt
        simp only [List.getElem?_toArray, List.getElem?_cons_zero, List.getElem?_cons_succ] at a0 a1 a2 a3
        go_wp2_with fail
        clear a0 a1 a2 a3 a9
        refine (CW.out _ (TT.out.up U)).mono ?_
        rintro _ w7 ⟨rfl, h7⟩
        replace U := U.trans h7
        replace a := a.up h7
        clear h7
        have a0 := a.get 0
        have a1 := a.get 1
        have a2 := a.get 2
        have a3 := a.get 3
        have a9 := a.lt
        simp only [List.getElem?_toArray, List.getElem?_cons_zero, List.getElem?_cons_succ] at a0 a1 a2 a3
        go_wp2_with fail
        clear a0 a1 a2 a3 a9
        go_ret
        exact ⟨rfl, U⟩
      ·
        have hx2 : ∀ k', ¬ M.IsF n k' R ((E : Int) + 1) F B := fun k' h => hx ⟨k', h⟩
        have CJ := Lib.hid (fun W => pjoin_none W n hn2 hn R ((E : Int) + 1) F B F64 (by omega) hx2)
        obtain rfl : B = 0 := by
          have := (hf.rng hn).2.2.2.2.2.2.1
          rcases (show B = 0 ∨ 0 < B by omega) with h | h
          · exact h
          · obtain ⟨k', h'⟩ := M.isf_next hf (by omega) h
            exact absurd h' (hx2 k')
        clear hP hE hF hB hf kn hm gm hx hx2
        have U := Up.refl w
        go_enter Tryd.func9, Tryd.ntmps9
        go_wp2_with fail
        refine (pshown_any _ (Lib.hid (TT.out.up U))).mono ?_
        rintro _ w1 ⟨rfl, h1⟩
        replace U := U.trans h1
        clear h1
        go_wp2_with fail
        refine (C1.out _).mono ?_
        rintro _ w2 ⟨rfl, h2⟩
        replace U := U.trans h2
        clear h2
        go_wp2_with fail
        have US := U
        obtain ⟨V3, hV3⟩ : ∃ V3, w2.alloc (.cells #[.int .i64 R, .int .i64 (E : Int), .int .u64 (F : Int), .int .i64 0] 25) = V3 := ⟨_, rfl⟩
        have a : Ob V3 w2.heap.size 25 #[.int .i64 R, .int .i64 (E : Int), .int .u64 (F : Int), .int .i64 0] := by rw [← hV3]; exact Ob.mk_ _ _ _
        have uV3 : Up w2 V3 := by rw [← hV3]; exact (Up.refl _).alloc _
        rw [hV3]
        clear hV3
        replace U := U.trans uV3
        clear uV3
        have a0 := a.get 0
        have a1 := a.get 1
        have a2 := a.get 2
        have a3 := a.get 3
        have a9 := a.lt
        simp only [List.getElem?_toArray, List.getElem?_cons_zero, List.getElem?_cons_succ] at a0 a1 a2 a3
        go_wp2_with fail
        clear a0 a1 a2 a3 a9
        refine (CV.out _ (TT.out.up U)).mono ?_
        rintro _ w4 ⟨rfl, h4⟩
        replace U := U.trans h4
        replace a := a.up h4
        clear h4
        have af1 := a.fr 1
        have a0 := a.get 0
        have a1 := a.get 1
        have a2 := a.get 2
        have a3 := a.get 3
        have a9 := a.lt
        simp only [List.getElem?_toArray, List.getElem?_cons_zero, List.getElem?_cons_succ] at a0 a1 a2 a3
        go_wp2_with fail
        clear a0 a1 a2 a3 a9
        clear af1
        obtain ⟨V5, hV5⟩ : ∃ V5, w4.setCell ⟨w2.heap.size, 1, none⟩ (.int .i64 ((E : Int) + 1)) = V5 := ⟨_, rfl⟩
        replace a : Ob V5 w2.heap.size 25 #[.int .i64 R, .int .i64 ((E : Int) + 1), .int .u64 (F : Int), .int .i64 0] := by rw [← hV5]; exact a.put 1 _
        replace U : Up w V5 := by rw [← hV5]; exact U.setCell (p := ⟨w2.heap.size, 1, none⟩) (Up.size US) _
        rw [hV5]
        clear hV5
        refine (CJ.out _).mono ?_
        rintro _ w6 ⟨rfl, h6⟩
        replace U := U.trans h6
        replace a := a.up h6
        clear h6
        have a0 := a.get 0
        have a1 := a.get 1
        have a2 := a.get 2
        have a3 := a.get 3
        have a9 := a.lt
        simp only [List.getElem?_toArray, List.getElem?_cons_zero, List.getElem?_cons_succ] at a0 a1 a2 a3
        go_wp2_with fail
        clear a0 a1 a2 a3 a9
        go_ret
        exact ⟨rfl, U⟩
end Go.Proofs.YtngoglhjelcdgaaDoor
