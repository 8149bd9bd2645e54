/-
  ValueOrders.
-/
import Derived.Test.YtjcbncfpcechnaaDoorVh
import Derived.Test.YtjcbncfpcechnaaDoorVo
import Derived.Deep.RegionHeld3
namespace Go.Proofs.YtjcbncfpcechnaaDoor
open Go.RowKit
set_option linter.unusedSimpArgs false
set_option linter.unusedVariables false

theorem and3 (x : Int) : ∃ j : Nat, j < 4 ∧ bits BinOp.and IntKind.i64 x 3 = (j : Int) := by
  refine ⟨(BitVec.ofInt 64 x).toNat % 4, Nat.mod_lt _ (by decide), ?_⟩
  show IntKind.i64.wrap ((BitVec.ofInt 64 x &&& BitVec.ofInt 64 3).toNat : Int) = _
  rw [BitVec.toNat_and, show (BitVec.ofInt 64 3).toNat = 2 ^ 2 - 1 from rfl, Nat.and_two_pow_sub_one_eq_mod]
  have h := Nat.mod_lt (BitVec.ofInt 64 x).toNat (show 0 < 2 ^ 2 by decide)
  have e : (BitVec.ofInt 64 x).toNat % 2 ^ 2 = (BitVec.ofInt 64 x).toNat % 4 := rfl
  rw [e] at h ⊢
  generalize (BitVec.ofInt 64 x).toNat % 4 = n at h ⊢
  have : n = 0 ∨ n = 1 ∨ n = 2 ∨ n = 3 := by omega
  rcases this with rfl | rfl | rfl | rfl <;> decide
namespace M
theorem posit_form (i : Nat) (a : 1 ≤ i) (b : i ≤ 4) : (tb i).k = 1 := by
  rcases (show i = 1 ∨ i = 2 ∨ i = 3 ∨ i = 4 by omega) with rfl | rfl | rfl | rfl <;> rfl
theorem and_mask {f : Fm} (h : Ok f) {p : Nat} (hp : p < 18446744073709551616) : ∃ q : Nat, Go.bits BinOp.and IntKind.u64 (p : Int) (msk f) = (q : Int) ∧ (q : Int) ≤ msk f := by
  obtain ⟨n, hn, _, hh, hm⟩ := ok_pow h
  obtain ⟨a, b⟩ := pow_le64 hn
  have pp := p2 (n + 1)
  have e : msk f = ((2 ^ (n + 1) - 1 : Nat) : Int) := by rw [hm]; omega
  refine ⟨p % 2 ^ (n + 1), ?_, ?_⟩
  · rw [e, bits_and_u64_nat p _ hp (by omega), Nat.and_two_pow_sub_one_eq_mod]
  · have := Nat.mod_lt p pp
    rw [e]; omega
/-- A posit's key, or none. -/
theorem posit_kv {f : Fm} (ok : Ok f) (ok2 : Ok2 f) (hk : f.k = 1) {p : Int} (p1 : 0 ≤ p) (p2' : p ≤ msk f) :
    (p = f.x ∧ Kv f p false 0 5) ∨ (p ≠ f.x ∧ p < half f ∧ ∃ k : Nat, (k : Int) = p ∧ Kv f p false k 0) ∨ (p ≠ f.x ∧ half f ≤ p ∧ ∃ k : Nat, (k : Int) = msk f + 1 - p ∧ Kv f p true k 0) := by
  have hm := ok.hm
  have o1 := ok2.one hk
  have hg := ngs_is ok (by omega) p
  have hcl := cls_trn_ (f := f) (.inl hk) (p := p)
  by_cases hx : p = f.x
  · refine .inl ⟨hx, .inl ⟨.inr ?_, rfl, rfl, rfl⟩⟩
    rw [hcl, if_pos ⟨by omega, hx⟩]
  · rw [if_neg (fun e => hx e.2)] at hcl
    by_cases c : half f ≤ p
    · have hg' : ngs f p = true := by rw [hg]; exact decide_eq_true c
      have hky := kyf_trn (by omega) hg'
      refine .inr (.inr ⟨hx, c, (msk f + 1 - p).toNat, by omega, .inr (.inr ⟨?_, hg'.symm, by omega, rfl⟩)⟩)
      rw [hcl, if_neg (by omega)]
    · have hg' : ngs f p = false := by rw [hg]; exact decide_eq_false c
      have hky := kyf_pos hg'
      refine .inr (.inl ⟨hx, by omega, p.toNat, by omega, ?_⟩)
      by_cases c0 : p = 0
      · exact .inr (.inl ⟨by rw [hcl, if_pos (by omega)], by rw [hg']; rfl, by omega, rfl⟩)
      · exact .inr (.inr ⟨by rw [hcl, if_neg (by omega)], hg'.symm, by omega, rfl⟩)
end M
set_option maxHeartbeats 4000000 in
set_option maxRecDepth 100000 in
theorem vorders_walk (w : World) (TT : Hid (Tz w)) (TF : Hid (TabF w)) (x0 : Int) (_wx0 : (Lit.int .i64 x0).wf = true) (x1 : Int) (wx1 : (Lit.int .u64 x1).wf = true) (x2 : Int) (wx2 : (Lit.int .u64 x2).wf = true) : Calls Tryd.prog 10 #[.int .i64 x0, .int .u64 x1, .int .u64 x2] w (True7 w) := by
  obtain ⟨p0, rfl, hp0⟩ := nat_u6 wx1
  obtain ⟨q0, rfl, hq0⟩ := nat_u6 wx2
  clear wx1 wx2
  obtain ⟨j, hj, hjj⟩ := and3 x0
  have a : 1 ≤ j + 1 := by omega
  have b : j + 1 ≤ 14 := by omega
  have hk := M.posit_form (j + 1) a (by omega)
  have ok := M.ok (j + 1) a b
  have ok2 := M.ok2 (j + 1) a b
  obtain ⟨f, hf⟩ : ∃ f, M.tb (j + 1) = f := ⟨_, rfl⟩
  have CO : Hid (∀ W, TabF W → Calls Tryd.prog 25 #[.int .i64 (1 + (j : Int))] W (Fn f 0 W)) := fun W F => by
    have h := of_in W F (j + 1) f (Lib.hid hf) a b
    rw [show ((j + 1 : Nat) : Int) = 1 + (j : Int) by omega] at h
    exact h
  have CKx : ∀ (p : Nat) (hp : p < 18446744073709551616) (g : Bool) (k : Nat) (x : Int), (p : Int) ≤ M.msk f → M.Kv f p g k x → Hid (∀ W, Tz W → TabF W → Calls Tryd.prog 14 #[.int .i64 (1 + (j : Int)), u64 p] W (Bkx g k x W)) := fun p hp g k x h1 h W T F => by
    have h := vkey_any W (Lib.hid T) (Lib.hid F) ((j + 1 : Nat) : Int) p hp g k x (.inr ⟨j + 1, rfl, a, b, .inr ⟨by rw [hf]; exact h1, by rw [hf]; exact h⟩⟩)
    rw [show ((j + 1 : Nat) : Int) = 1 + (j : Int) by omega] at h
    exact h
  rw [hf] at hk ok ok2
  have hm := ok.hm
  obtain ⟨p, hpe, hpm⟩ := M.and_mask ok hp0
  obtain ⟨q, hqe, hqm⟩ := M.and_mask ok hq0
  have KP := M.posit_kv ok ok2 hk (p := p) (by omega) hpm
  have KQ := M.posit_kv ok ok2 hk (p := q) (by omega) hqm
  have xp := M.xor_half ok (p := p) (by omega) hpm
  have xq := M.xor_half ok (p := q) (by omega) hqm
  have hs := ((M.sgn_ok ok).2 (by omega)).1
  obtain ⟨S, hS⟩ : ∃ z, M.sgn f = z := ⟨_, rfl⟩
  obtain ⟨M', hM⟩ : ∃ z, M.msk f = z := ⟨_, rfl⟩
  have CS := Lib.hid (fun W => sign_any W f ok S (Lib.hid hS))
  have CM := Lib.hid (fun W => mask_any W f ok M' (Lib.hid hM))
  have hh : M.half f = S := by rw [← hs, hS]
  rw [hh] at xp xq hm KP KQ
  have pb : p < 18446744073709551616 := by omega
  have qb : q < 18446744073709551616 := by omega
  have J1 : ∀ {g k x}, M.Kv f p g k x → _ := fun {g k x} h => CKx p pb g k x hpm h
  have J2 : ∀ {g k x}, M.Kv f q g k x → _ := fun {g k x} h => CKx q qb g k x hqm h
  rw [hM] at hpe hqe hm hpm hqm KP KQ
  have HM := Lib.hid hm
  clear CKx hf hk ok ok2 hs hS hM hh a b hm
  rcases KP with ⟨px, kp⟩ | ⟨px, hp, k, hkp, kp⟩ | ⟨px, hp, k, hkp, kp⟩
  ·
    have C1 := J1 kp
    have d1 : ((p : Int) == f.x) = true := by simpa using px
    clear px kp xp xq
    rcases KQ with ⟨qx, kq⟩ | ⟨qx, hq, l, hkq, kq⟩ | ⟨qx, hq, l, hkq, kq⟩
    ·
      have C2 := J2 kq
      clear J1 J2 kq qx
      have U := Up.refl w
      go_enter Tryd.func10, Tryd.ntmps10
      go_wp2_with fail
      refine (vshown_any _ (Lib.hid (TT.out.up U)) (Lib.hid (TF.out.up U))).mono ?_
      rintro _ w1 ⟨rfl, h1⟩
      replace U := U.trans h1
      clear h1
      go_wp2_with fail
      refine (CO.out _ (TF.out.up U)).mono ?_
      rintro _ w2 ⟨rfl, h2⟩
      replace U := U.trans h2
      clear h2
      go_wp2_with fail
      obtain ⟨V3, hV3⟩ : ∃ V3, w2.alloc (.cells #[.int .i64 f.k, .int .i64 f.W, .int .i64 f.m, .int .i64 f.b, .int .u64 f.t, .int .u64 f.n, .int .u64 f.x] 40) = V3 := ⟨_, rfl⟩
      have C : Bf V3 w2.heap.size 40 f := by rw [← hV3]; exact Bf.mk_ w2 f 40
      have ltC : w.heap.size ≤ w2.heap.size := U.size
      have uV3 : Up w2 V3 := by rw [← hV3]; exact (Up.refl _).alloc _
      rw [hV3]
      clear hV3
      replace U := U.trans uV3
      clear uV3
      refine (CM.out _).mono ?_
      rintro _ w4 ⟨rfl, h4⟩
      replace U := U.trans h4
      replace C := C.up h4
      clear h4
      obtain ⟨C0, C1, C2, C3, C4, C5, C6⟩ := Bf.cs C
      have C7 := Bf.lt C
      simp only [Nat.zero_add] at C0 C1 C2 C3 C4 C5 C6 C7
      go_wp2_with fail
      clear C0 C1 C2 C3 C4 C5 C6 C7
      refine (CM.out _).mono ?_
      rintro _ w5 ⟨rfl, h5⟩
      replace U := U.trans h5
      replace C := C.up h5
      clear h5
      go_wp2_with fail
      refine (C1.out _ (TT.out.up U) (TF.out.up U)).mono ?_
      rintro _ w6 ⟨rfl, h6⟩
      replace U := U.trans h6
      replace C := C.up h6
      clear h6
      go_wp2_with fail
      refine (C2.out _ (TT.out.up U) (TF.out.up U)).mono ?_
      rintro _ w7 ⟨rfl, h7⟩
      replace U := U.trans h7
      replace C := C.up h7
      clear h7
      obtain ⟨C0, C1, C2, C3, C4, C5, C6⟩ := Bf.cs C
      have C7 := Bf.lt C
      simp only [Nat.zero_add] at C0 C1 C2 C3 C4 C5 C6 C7
      go_wp2_with fail
      go_ret
      exact ⟨by first | rfl | simp, by first | exact U | exact U.alloc _⟩
    ·
      have C2 := J2 kq
      clear J1 J2 kq qx hkq hq
      have U := Up.refl w
      go_enter Tryd.func10, Tryd.ntmps10
      go_wp2_with fail
      refine (vshown_any _ (Lib.hid (TT.out.up U)) (Lib.hid (TF.out.up U))).mono ?_
      rintro _ w1 ⟨rfl, h1⟩
      replace U := U.trans h1
      clear h1
      go_wp2_with fail
      refine (CO.out _ (TF.out.up U)).mono ?_
      rintro _ w2 ⟨rfl, h2⟩
      replace U := U.trans h2
      clear h2
      go_wp2_with fail
      obtain ⟨V3, hV3⟩ : ∃ V3, w2.alloc (.cells #[.int .i64 f.k, .int .i64 f.W, .int .i64 f.m, .int .i64 f.b, .int .u64 f.t, .int .u64 f.n, .int .u64 f.x] 40) = V3 := ⟨_, rfl⟩
      have C : Bf V3 w2.heap.size 40 f := by rw [← hV3]; exact Bf.mk_ w2 f 40
      have ltC : w.heap.size ≤ w2.heap.size := U.size
      have uV3 : Up w2 V3 := by rw [← hV3]; exact (Up.refl _).alloc _
      rw [hV3]
      clear hV3
      replace U := U.trans uV3
      clear uV3
      refine (CM.out _).mono ?_
      rintro _ w4 ⟨rfl, h4⟩
      replace U := U.trans h4
      replace C := C.up h4
      clear h4
      obtain ⟨C0, C1, C2, C3, C4, C5, C6⟩ := Bf.cs C
      have C7 := Bf.lt C
      simp only [Nat.zero_add] at C0 C1 C2 C3 C4 C5 C6 C7
      go_wp2_with fail
      clear C0 C1 C2 C3 C4 C5 C6 C7
      refine (CM.out _).mono ?_
      rintro _ w5 ⟨rfl, h5⟩
      replace U := U.trans h5
      replace C := C.up h5
      clear h5
      go_wp2_with fail
      refine (C1.out _ (TT.out.up U) (TF.out.up U)).mono ?_
      rintro _ w6 ⟨rfl, h6⟩
      replace U := U.trans h6
      replace C := C.up h6
      clear h6
      go_wp2_with fail
      refine (C2.out _ (TT.out.up U) (TF.out.up U)).mono ?_
      rintro _ w7 ⟨rfl, h7⟩
      replace U := U.trans h7
      replace C := C.up h7
      clear h7
      obtain ⟨C0, C1, C2, C3, C4, C5, C6⟩ := Bf.cs C
      have C7 := Bf.lt C
      simp only [Nat.zero_add] at C0 C1 C2 C3 C4 C5 C6 C7
      go_wp2_with fail
      go_ret
      exact ⟨by first | rfl | simp, by first | exact U | exact U.alloc _⟩
    ·
      have C2 := J2 kq
      clear J1 J2 kq qx hkq hq
      have U := Up.refl w
      go_enter Tryd.func10, Tryd.ntmps10
      go_wp2_with fail
      refine (vshown_any _ (Lib.hid (TT.out.up U)) (Lib.hid (TF.out.up U))).mono ?_
      rintro _ w1 ⟨rfl, h1⟩
      replace U := U.trans h1
      clear h1
      go_wp2_with fail
      refine (CO.out _ (TF.out.up U)).mono ?_
      rintro _ w2 ⟨rfl, h2⟩
      replace U := U.trans h2
      clear h2
      go_wp2_with fail
      obtain ⟨V3, hV3⟩ : ∃ V3, w2.alloc (.cells #[.int .i64 f.k, .int .i64 f.W, .int .i64 f.m, .int .i64 f.b, .int .u64 f.t, .int .u64 f.n, .int .u64 f.x] 40) = V3 := ⟨_, rfl⟩
      have C : Bf V3 w2.heap.size 40 f := by rw [← hV3]; exact Bf.mk_ w2 f 40
      have ltC : w.heap.size ≤ w2.heap.size := U.size
      have uV3 : Up w2 V3 := by rw [← hV3]; exact (Up.refl _).alloc _
      rw [hV3]
      clear hV3
      replace U := U.trans uV3
      clear uV3
      refine (CM.out _).mono ?_
      rintro _ w4 ⟨rfl, h4⟩
      replace U := U.trans h4
      replace C := C.up h4
      clear h4
      obtain ⟨C0, C1, C2, C3, C4, C5, C6⟩ := Bf.cs C
      have C7 := Bf.lt C
      simp only [Nat.zero_add] at C0 C1 C2 C3 C4 C5 C6 C7
      go_wp2_with fail
      clear C0 C1 C2 C3 C4 C5 C6 C7
      refine (CM.out _).mono ?_
      rintro _ w5 ⟨rfl, h5⟩
      replace U := U.trans h5
      replace C := C.up h5
      clear h5
      go_wp2_with fail
      refine (C1.out _ (TT.out.up U) (TF.out.up U)).mono ?_
      rintro _ w6 ⟨rfl, h6⟩
      replace U := U.trans h6
      replace C := C.up h6
      clear h6
      go_wp2_with fail
      refine (C2.out _ (TT.out.up U) (TF.out.up U)).mono ?_
      rintro _ w7 ⟨rfl, h7⟩
      replace U := U.trans h7
      replace C := C.up h7
      clear h7
      obtain ⟨C0, C1, C2, C3, C4, C5, C6⟩ := Bf.cs C
      have C7 := Bf.lt C
      simp only [Nat.zero_add] at C0 C1 C2 C3 C4 C5 C6 C7
      go_wp2_with fail
      go_ret
      exact ⟨by first | rfl | simp, by first | exact U | exact U.alloc _⟩
  ·
    have C1 := J1 kp
    rw [if_neg (by omega)] at xp
    have d1 : ((p : Int) == f.x) = false := by simpa using px
    clear kp px
    rcases KQ with ⟨qx, kq⟩ | ⟨qx, hq, l, hkq, kq⟩ | ⟨qx, hq, l, hkq, kq⟩
    ·
      have C2 := J2 kq
      have d2 : ((q : Int) == f.x) = true := by simpa using qx
      clear J1 J2 kq qx xp xq hkp hp
      have U := Up.refl w
      go_enter Tryd.func10, Tryd.ntmps10
      go_wp2_with fail
      refine (vshown_any _ (Lib.hid (TT.out.up U)) (Lib.hid (TF.out.up U))).mono ?_
      rintro _ w1 ⟨rfl, h1⟩
      replace U := U.trans h1
      clear h1
      go_wp2_with fail
      refine (CO.out _ (TF.out.up U)).mono ?_
      rintro _ w2 ⟨rfl, h2⟩
      replace U := U.trans h2
      clear h2
      go_wp2_with fail
      obtain ⟨V3, hV3⟩ : ∃ V3, w2.alloc (.cells #[.int .i64 f.k, .int .i64 f.W, .int .i64 f.m, .int .i64 f.b, .int .u64 f.t, .int .u64 f.n, .int .u64 f.x] 40) = V3 := ⟨_, rfl⟩
      have C : Bf V3 w2.heap.size 40 f := by rw [← hV3]; exact Bf.mk_ w2 f 40
      have ltC : w.heap.size ≤ w2.heap.size := U.size
      have uV3 : Up w2 V3 := by rw [← hV3]; exact (Up.refl _).alloc _
      rw [hV3]
      clear hV3
      replace U := U.trans uV3
      clear uV3
      refine (CM.out _).mono ?_
      rintro _ w4 ⟨rfl, h4⟩
      replace U := U.trans h4
      replace C := C.up h4
      clear h4
      obtain ⟨C0, C1, C2, C3, C4, C5, C6⟩ := Bf.cs C
      have C7 := Bf.lt C
      simp only [Nat.zero_add] at C0 C1 C2 C3 C4 C5 C6 C7
      go_wp2_with fail
      clear C0 C1 C2 C3 C4 C5 C6 C7
      refine (CM.out _).mono ?_
      rintro _ w5 ⟨rfl, h5⟩
      replace U := U.trans h5
      replace C := C.up h5
      clear h5
      go_wp2_with fail
      refine (C1.out _ (TT.out.up U) (TF.out.up U)).mono ?_
      rintro _ w6 ⟨rfl, h6⟩
      replace U := U.trans h6
      replace C := C.up h6
      clear h6
      go_wp2_with fail
      refine (C2.out _ (TT.out.up U) (TF.out.up U)).mono ?_
      rintro _ w7 ⟨rfl, h7⟩
      replace U := U.trans h7
      replace C := C.up h7
      clear h7
      obtain ⟨C0, C1, C2, C3, C4, C5, C6⟩ := Bf.cs C
      have C7 := Bf.lt C
      simp only [Nat.zero_add] at C0 C1 C2 C3 C4 C5 C6 C7
      go_wp2_with fail
      go_ret
      exact ⟨by first | rfl | simp, by first | exact U | exact U.alloc _⟩
    ·
      have C2 := J2 kq
      have hm := HM.out
      rw [if_neg (by omega)] at xq
      have kl : k < l ↔ p < q := by omega
      have e1 : decide ((k : Int) < (l : Int)) = decide ((p : Int) + S < (q : Int) + S) := by rw [hkp, hkq]; exact decide_eq_decide.2 (by omega)
      have d2 : ((q : Int) == f.x) = false := by simpa using qx
      clear J1 J2 kq qx hm HM hkp hkq
      have U := Up.refl w
      go_enter Tryd.func10, Tryd.ntmps10
      go_wp2_with fail
      refine (vshown_any _ (Lib.hid (TT.out.up U)) (Lib.hid (TF.out.up U))).mono ?_
      rintro _ w1 ⟨rfl, h1⟩
      replace U := U.trans h1
      clear h1
      go_wp2_with fail
      refine (CO.out _ (TF.out.up U)).mono ?_
      rintro _ w2 ⟨rfl, h2⟩
      replace U := U.trans h2
      clear h2
      go_wp2_with fail
      obtain ⟨V3, hV3⟩ : ∃ V3, w2.alloc (.cells #[.int .i64 f.k, .int .i64 f.W, .int .i64 f.m, .int .i64 f.b, .int .u64 f.t, .int .u64 f.n, .int .u64 f.x] 40) = V3 := ⟨_, rfl⟩
      have C : Bf V3 w2.heap.size 40 f := by rw [← hV3]; exact Bf.mk_ w2 f 40
      have ltC : w.heap.size ≤ w2.heap.size := U.size
      have uV3 : Up w2 V3 := by rw [← hV3]; exact (Up.refl _).alloc _
      rw [hV3]
      clear hV3
      replace U := U.trans uV3
      clear uV3
      refine (CM.out _).mono ?_
      rintro _ w4 ⟨rfl, h4⟩
      replace U := U.trans h4
      replace C := C.up h4
      clear h4
      obtain ⟨C0, C1, C2, C3, C4, C5, C6⟩ := Bf.cs C
      have C7 := Bf.lt C
      simp only [Nat.zero_add] at C0 C1 C2 C3 C4 C5 C6 C7
      go_wp2_with fail
      clear C0 C1 C2 C3 C4 C5 C6 C7
      refine (CM.out _).mono ?_
      rintro _ w5 ⟨rfl, h5⟩
      replace U := U.trans h5
      replace C := C.up h5
      clear h5
      go_wp2_with fail
      refine (C1.out _ (TT.out.up U) (TF.out.up U)).mono ?_
      rintro _ w6 ⟨rfl, h6⟩
      replace U := U.trans h6
      replace C := C.up h6
      clear h6
      go_wp2_with fail
      refine (C2.out _ (TT.out.up U) (TF.out.up U)).mono ?_
      rintro _ w7 ⟨rfl, h7⟩
      replace U := U.trans h7
      replace C := C.up h7
      clear h7
      obtain ⟨C0, C1, C2, C3, C4, C5, C6⟩ := Bf.cs C
      have C7 := Bf.lt C
      simp only [Nat.zero_add] at C0 C1 C2 C3 C4 C5 C6 C7
      go_upto_region 17 with fail
      go_region_held3 (fun w' => w'.cell? ⟨w2.heap.size, 0, none⟩ = some (.int .i64 f.k) ∧ w'.cell? ⟨w2.heap.size, 1, none⟩ = some (.int .i64 f.W) ∧ w'.cell? ⟨w2.heap.size, 2, none⟩ = some (.int .i64 f.m) ∧ w'.cell? ⟨w2.heap.size, 3, none⟩ = some (.int .i64 f.b) ∧ w'.cell? ⟨w2.heap.size, 4, none⟩ = some (.int .u64 f.t) ∧ w'.cell? ⟨w2.heap.size, 5, none⟩ = some (.int .u64 f.n) ∧ w'.cell? ⟨w2.heap.size, 6, none⟩ = some (.int .u64 f.x)) (go_keep) ((go_at_call 27; (with_reducible refine (CS.out _).mono ?_); rintro _ w30 ⟨rfl, h30⟩; have uw30 : Up w7 w30 := Up.trans (by first | with_reducible assumption | exact (Up.refl w7).drewN 1) h30; have cc0 := cell_up_ uw30 C0; have cc1 := cell_up_ uw30 C1; have cc2 := cell_up_ uw30 C2; have cc3 := cell_up_ uw30 C3; have cc4 := cell_up_ uw30 C4; have cc5 := cell_up_ uw30 C5; have cc6 := cell_up_ uw30 C6))
      go_wp2_with fail
      go_ret
      exact ⟨by first | rfl | (simp; done) | (simp; exact kl), U.trans uw30⟩
    ·
      have C2 := J2 kq
      have hm := HM.out
      rw [if_pos hq] at xq
      have e1 : decide ((p : Int) + S < (q : Int) - S) = false := decide_eq_false (by omega)
      have d2 : ((q : Int) == f.x) = false := by simpa using qx
      clear J1 J2 kq qx hm HM hkp hkq
      have U := Up.refl w
      go_enter Tryd.func10, Tryd.ntmps10
      go_wp2_with fail
      refine (vshown_any _ (Lib.hid (TT.out.up U)) (Lib.hid (TF.out.up U))).mono ?_
      rintro _ w1 ⟨rfl, h1⟩
      replace U := U.trans h1
      clear h1
      go_wp2_with fail
      refine (CO.out _ (TF.out.up U)).mono ?_
      rintro _ w2 ⟨rfl, h2⟩
      replace U := U.trans h2
      clear h2
      go_wp2_with fail
      obtain ⟨V3, hV3⟩ : ∃ V3, w2.alloc (.cells #[.int .i64 f.k, .int .i64 f.W, .int .i64 f.m, .int .i64 f.b, .int .u64 f.t, .int .u64 f.n, .int .u64 f.x] 40) = V3 := ⟨_, rfl⟩
      have C : Bf V3 w2.heap.size 40 f := by rw [← hV3]; exact Bf.mk_ w2 f 40
      have ltC : w.heap.size ≤ w2.heap.size := U.size
      have uV3 : Up w2 V3 := by rw [← hV3]; exact (Up.refl _).alloc _
      rw [hV3]
      clear hV3
      replace U := U.trans uV3
      clear uV3
      refine (CM.out _).mono ?_
      rintro _ w4 ⟨rfl, h4⟩
      replace U := U.trans h4
      replace C := C.up h4
      clear h4
      obtain ⟨C0, C1, C2, C3, C4, C5, C6⟩ := Bf.cs C
      have C7 := Bf.lt C
      simp only [Nat.zero_add] at C0 C1 C2 C3 C4 C5 C6 C7
      go_wp2_with fail
      clear C0 C1 C2 C3 C4 C5 C6 C7
      refine (CM.out _).mono ?_
      rintro _ w5 ⟨rfl, h5⟩
      replace U := U.trans h5
      replace C := C.up h5
      clear h5
      go_wp2_with fail
      refine (C1.out _ (TT.out.up U) (TF.out.up U)).mono ?_
      rintro _ w6 ⟨rfl, h6⟩
      replace U := U.trans h6
      replace C := C.up h6
      clear h6
      go_wp2_with fail
      refine (C2.out _ (TT.out.up U) (TF.out.up U)).mono ?_
      rintro _ w7 ⟨rfl, h7⟩
      replace U := U.trans h7
      replace C := C.up h7
      clear h7
      obtain ⟨C0, C1, C2, C3, C4, C5, C6⟩ := Bf.cs C
      have C7 := Bf.lt C
      simp only [Nat.zero_add] at C0 C1 C2 C3 C4 C5 C6 C7
      go_upto_region 17 with fail
      go_region_held3 (fun w' => w'.cell? ⟨w2.heap.size, 0, none⟩ = some (.int .i64 f.k) ∧ w'.cell? ⟨w2.heap.size, 1, none⟩ = some (.int .i64 f.W) ∧ w'.cell? ⟨w2.heap.size, 2, none⟩ = some (.int .i64 f.m) ∧ w'.cell? ⟨w2.heap.size, 3, none⟩ = some (.int .i64 f.b) ∧ w'.cell? ⟨w2.heap.size, 4, none⟩ = some (.int .u64 f.t) ∧ w'.cell? ⟨w2.heap.size, 5, none⟩ = some (.int .u64 f.n) ∧ w'.cell? ⟨w2.heap.size, 6, none⟩ = some (.int .u64 f.x)) (go_keep) ((go_at_call 27; (with_reducible refine (CS.out _).mono ?_); rintro _ w30 ⟨rfl, h30⟩; have uw30 : Up w7 w30 := Up.trans (by first | with_reducible assumption | exact (Up.refl w7).drewN 1) h30; have cc0 := cell_up_ uw30 C0; have cc1 := cell_up_ uw30 C1; have cc2 := cell_up_ uw30 C2; have cc3 := cell_up_ uw30 C3; have cc4 := cell_up_ uw30 C4; have cc5 := cell_up_ uw30 C5; have cc6 := cell_up_ uw30 C6))
      go_wp2_with fail
      go_ret
      exact ⟨by first | rfl | (simp; done) | (simp; exact kl), U.trans uw30⟩
  ·
    have C1 := J1 kp
    rw [if_pos hp] at xp
    have d1 : ((p : Int) == f.x) = false := by simpa using px
    clear kp px
    rcases KQ with ⟨qx, kq⟩ | ⟨qx, hq, l, hkq, kq⟩ | ⟨qx, hq, l, hkq, kq⟩
    ·
      have C2 := J2 kq
      have d2 : ((q : Int) == f.x) = true := by simpa using qx
      clear J1 J2 kq qx xp xq hkp hp
      have U := Up.refl w
      go_enter Tryd.func10, Tryd.ntmps10
      go_wp2_with fail
      refine (vshown_any _ (Lib.hid (TT.out.up U)) (Lib.hid (TF.out.up U))).mono ?_
      rintro _ w1 ⟨rfl, h1⟩
      replace U := U.trans h1
      clear h1
      go_wp2_with fail
      refine (CO.out _ (TF.out.up U)).mono ?_
      rintro _ w2 ⟨rfl, h2⟩
      replace U := U.trans h2
      clear h2
      go_wp2_with fail
      obtain ⟨V3, hV3⟩ : ∃ V3, w2.alloc (.cells #[.int .i64 f.k, .int .i64 f.W, .int .i64 f.m, .int .i64 f.b, .int .u64 f.t, .int .u64 f.n, .int .u64 f.x] 40) = V3 := ⟨_, rfl⟩
      have C : Bf V3 w2.heap.size 40 f := by rw [← hV3]; exact Bf.mk_ w2 f 40
      have ltC : w.heap.size ≤ w2.heap.size := U.size
      have uV3 : Up w2 V3 := by rw [← hV3]; exact (Up.refl _).alloc _
      rw [hV3]
      clear hV3
      replace U := U.trans uV3
      clear uV3
      refine (CM.out _).mono ?_
      rintro _ w4 ⟨rfl, h4⟩
      replace U := U.trans h4
      replace C := C.up h4
      clear h4
      obtain ⟨C0, C1, C2, C3, C4, C5, C6⟩ := Bf.cs C
      have C7 := Bf.lt C
      simp only [Nat.zero_add] at C0 C1 C2 C3 C4 C5 C6 C7
      go_wp2_with fail
      clear C0 C1 C2 C3 C4 C5 C6 C7
      refine (CM.out _).mono ?_
      rintro _ w5 ⟨rfl, h5⟩
      replace U := U.trans h5
      replace C := C.up h5
      clear h5
      go_wp2_with fail
      refine (C1.out _ (TT.out.up U) (TF.out.up U)).mono ?_
      rintro _ w6 ⟨rfl, h6⟩
      replace U := U.trans h6
      replace C := C.up h6
      clear h6
      go_wp2_with fail
      refine (C2.out _ (TT.out.up U) (TF.out.up U)).mono ?_
      rintro _ w7 ⟨rfl, h7⟩
      replace U := U.trans h7
      replace C := C.up h7
      clear h7
      obtain ⟨C0, C1, C2, C3, C4, C5, C6⟩ := Bf.cs C
      have C7 := Bf.lt C
      simp only [Nat.zero_add] at C0 C1 C2 C3 C4 C5 C6 C7
      go_wp2_with fail
      go_ret
      exact ⟨by first | rfl | simp, by first | exact U | exact U.alloc _⟩
    ·
      have C2 := J2 kq
      have hm := HM.out
      rw [if_neg (by omega)] at xq
      have e1 : decide ((p : Int) - S < (q : Int) + S) = true := decide_eq_true (by omega)
      have d2 : ((q : Int) == f.x) = false := by simpa using qx
      clear J1 J2 kq qx hm HM hkp hkq
      have U := Up.refl w
      go_enter Tryd.func10, Tryd.ntmps10
      go_wp2_with fail
      refine (vshown_any _ (Lib.hid (TT.out.up U)) (Lib.hid (TF.out.up U))).mono ?_
      rintro _ w1 ⟨rfl, h1⟩
      replace U := U.trans h1
      clear h1
      go_wp2_with fail
      refine (CO.out _ (TF.out.up U)).mono ?_
      rintro _ w2 ⟨rfl, h2⟩
      replace U := U.trans h2
      clear h2
      go_wp2_with fail
      obtain ⟨V3, hV3⟩ : ∃ V3, w2.alloc (.cells #[.int .i64 f.k, .int .i64 f.W, .int .i64 f.m, .int .i64 f.b, .int .u64 f.t, .int .u64 f.n, .int .u64 f.x] 40) = V3 := ⟨_, rfl⟩
      have C : Bf V3 w2.heap.size 40 f := by rw [← hV3]; exact Bf.mk_ w2 f 40
      have ltC : w.heap.size ≤ w2.heap.size := U.size
      have uV3 : Up w2 V3 := by rw [← hV3]; exact (Up.refl _).alloc _
      rw [hV3]
      clear hV3
      replace U := U.trans uV3
      clear uV3
      refine (CM.out _).mono ?_
      rintro _ w4 ⟨rfl, h4⟩
      replace U := U.trans h4
      replace C := C.up h4
      clear h4
      obtain ⟨C0, C1, C2, C3, C4, C5, C6⟩ := Bf.cs C
      have C7 := Bf.lt C
      simp only [Nat.zero_add] at C0 C1 C2 C3 C4 C5 C6 C7
      go_wp2_with fail
      clear C0 C1 C2 C3 C4 C5 C6 C7
      refine (CM.out _).mono ?_
      rintro _ w5 ⟨rfl, h5⟩
      replace U := U.trans h5
      replace C := C.up h5
      clear h5
      go_wp2_with fail
      refine (C1.out _ (TT.out.up U) (TF.out.up U)).mono ?_
      rintro _ w6 ⟨rfl, h6⟩
      replace U := U.trans h6
      replace C := C.up h6
      clear h6
      go_wp2_with fail
      refine (C2.out _ (TT.out.up U) (TF.out.up U)).mono ?_
      rintro _ w7 ⟨rfl, h7⟩
      replace U := U.trans h7
      replace C := C.up h7
      clear h7
      obtain ⟨C0, C1, C2, C3, C4, C5, C6⟩ := Bf.cs C
      have C7 := Bf.lt C
      simp only [Nat.zero_add] at C0 C1 C2 C3 C4 C5 C6 C7
      go_upto_region 17 with fail
      go_region_held3 (fun w' => w'.cell? ⟨w2.heap.size, 0, none⟩ = some (.int .i64 f.k) ∧ w'.cell? ⟨w2.heap.size, 1, none⟩ = some (.int .i64 f.W) ∧ w'.cell? ⟨w2.heap.size, 2, none⟩ = some (.int .i64 f.m) ∧ w'.cell? ⟨w2.heap.size, 3, none⟩ = some (.int .i64 f.b) ∧ w'.cell? ⟨w2.heap.size, 4, none⟩ = some (.int .u64 f.t) ∧ w'.cell? ⟨w2.heap.size, 5, none⟩ = some (.int .u64 f.n) ∧ w'.cell? ⟨w2.heap.size, 6, none⟩ = some (.int .u64 f.x)) (go_keep) ((go_at_call 27; (with_reducible refine (CS.out _).mono ?_); rintro _ w30 ⟨rfl, h30⟩; have uw30 : Up w7 w30 := Up.trans (by first | with_reducible assumption | exact (Up.refl w7).drewN 1) h30; have cc0 := cell_up_ uw30 C0; have cc1 := cell_up_ uw30 C1; have cc2 := cell_up_ uw30 C2; have cc3 := cell_up_ uw30 C3; have cc4 := cell_up_ uw30 C4; have cc5 := cell_up_ uw30 C5; have cc6 := cell_up_ uw30 C6))
      go_wp2_with fail
      go_ret
      exact ⟨by first | rfl | (simp; done) | (simp; exact kl), U.trans uw30⟩
    ·
      have C2 := J2 kq
      have hm := HM.out
      rw [if_pos hq] at xq
      have kl : l < k ↔ p < q := by omega
      have e1 : decide ((l : Int) < (k : Int)) = decide ((p : Int) - S < (q : Int) - S) := by rw [hkp, hkq]; exact decide_eq_decide.2 (by omega)
      have d2 : ((q : Int) == f.x) = false := by simpa using qx
      clear J1 J2 kq qx hm HM hkp hkq
      have U := Up.refl w
      go_enter Tryd.func10, Tryd.ntmps10
      go_wp2_with fail
      refine (vshown_any _ (Lib.hid (TT.out.up U)) (Lib.hid (TF.out.up U))).mono ?_
      rintro _ w1 ⟨rfl, h1⟩
      replace U := U.trans h1
      clear h1
      go_wp2_with fail
      refine (CO.out _ (TF.out.up U)).mono ?_
      rintro _ w2 ⟨rfl, h2⟩
      replace U := U.trans h2
      clear h2
      go_wp2_with fail
      obtain ⟨V3, hV3⟩ : ∃ V3, w2.alloc (.cells #[.int .i64 f.k, .int .i64 f.W, .int .i64 f.m, .int .i64 f.b, .int .u64 f.t, .int .u64 f.n, .int .u64 f.x] 40) = V3 := ⟨_, rfl⟩
      have C : Bf V3 w2.heap.size 40 f := by rw [← hV3]; exact Bf.mk_ w2 f 40
      have ltC : w.heap.size ≤ w2.heap.size := U.size
      have uV3 : Up w2 V3 := by rw [← hV3]; exact (Up.refl _).alloc _
      rw [hV3]
      clear hV3
      replace U := U.trans uV3
      clear uV3
      refine (CM.out _).mono ?_
      rintro _ w4 ⟨rfl, h4⟩
      replace U := U.trans h4
      replace C := C.up h4
      clear h4
      obtain ⟨C0, C1, C2, C3, C4, C5, C6⟩ := Bf.cs C
      have C7 := Bf.lt C
      simp only [Nat.zero_add] at C0 C1 C2 C3 C4 C5 C6 C7
      go_wp2_with fail
      clear C0 C1 C2 C3 C4 C5 C6 C7
      refine (CM.out _).mono ?_
      rintro _ w5 ⟨rfl, h5⟩
      replace U := U.trans h5
      replace C := C.up h5
      clear h5
      go_wp2_with fail
      refine (C1.out _ (TT.out.up U) (TF.out.up U)).mono ?_
      rintro _ w6 ⟨rfl, h6⟩
      replace U := U.trans h6
      replace C := C.up h6
      clear h6
      go_wp2_with fail
      refine (C2.out _ (TT.out.up U) (TF.out.up U)).mono ?_
      rintro _ w7 ⟨rfl, h7⟩
      replace U := U.trans h7
      replace C := C.up h7
      clear h7
      obtain ⟨C0, C1, C2, C3, C4, C5, C6⟩ := Bf.cs C
      have C7 := Bf.lt C
      simp only [Nat.zero_add] at C0 C1 C2 C3 C4 C5 C6 C7
      go_upto_region 17 with fail
      go_region_held3 (fun w' => w'.cell? ⟨w2.heap.size, 0, none⟩ = some (.int .i64 f.k) ∧ w'.cell? ⟨w2.heap.size, 1, none⟩ = some (.int .i64 f.W) ∧ w'.cell? ⟨w2.heap.size, 2, none⟩ = some (.int .i64 f.m) ∧ w'.cell? ⟨w2.heap.size, 3, none⟩ = some (.int .i64 f.b) ∧ w'.cell? ⟨w2.heap.size, 4, none⟩ = some (.int .u64 f.t) ∧ w'.cell? ⟨w2.heap.size, 5, none⟩ = some (.int .u64 f.n) ∧ w'.cell? ⟨w2.heap.size, 6, none⟩ = some (.int .u64 f.x)) (go_keep) ((go_at_call 27; (with_reducible refine (CS.out _).mono ?_); rintro _ w30 ⟨rfl, h30⟩; have uw30 : Up w7 w30 := Up.trans (by first | with_reducible assumption | exact (Up.refl w7).drewN 1) h30; have cc0 := cell_up_ uw30 C0; have cc1 := cell_up_ uw30 C1; have cc2 := cell_up_ uw30 C2; have cc3 := cell_up_ uw30 C3; have cc4 := cell_up_ uw30 C4; have cc5 := cell_up_ uw30 C5; have cc6 := cell_up_ uw30 C6))
      go_wp2_with fail
      go_ret
      exact ⟨by first | rfl | (simp; done) | (simp; exact kl), U.trans uw30⟩
end Go.Proofs.YtjcbncfpcechnaaDoor
