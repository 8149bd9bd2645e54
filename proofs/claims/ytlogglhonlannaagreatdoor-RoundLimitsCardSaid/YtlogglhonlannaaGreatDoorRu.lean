/-
  Package round: a pattern that is a number; what has no end.
-/
import Derived.Test.YtlogglhonlannaaGreatDoorRs
namespace Go.Proofs.YtlogglhonlannaaGreatDoor
open Go.RowKit
set_option linter.unusedSimpArgs false
set_option linter.unusedVariables false

namespace M
/-- The sign and the key of a pattern that is a number other than nought. -/
def Fc (ii : Int) (p : Nat) (g : Bool) (k : Nat) (x : Int) : Prop :=
  ((ii < 1 ∨ 15 ≤ ii) ∧ g = false ∧ k = 0 ∧ x = 3) ∨
  ∃ i : Nat, ii = i ∧ 1 ≤ i ∧ i ≤ 14 ∧ ((msk (tb i) < p ∧ g = false ∧ k = 0 ∧ x = 1) ∨ ((p : Int) ≤ msk (tb i) ∧ ((cls (tb i) p ≠ 2 ∧ g = false ∧ k = 0 ∧ x = 5) ∨ (cls (tb i) p = 2 ∧ g = ngs (tb i) p ∧ kyf (tb i) p = k ∧ x = 0))))
/-- The least key of what is not nought. -/
def lst (f : Fm) : Nat := if f.k = 1 then 1 else 0
/-- The limits of a key, of a sign. -/
def Lm (f : Fm) (g : Bool) (k m1 : Nat) (z1 : Int) (m2 : Nat) (z2 : Int) : Prop :=
  ((k ≤ lst f ∧ m1 = 0 ∧ z1 = 0) ∨ (lst f < k ∧ Bd f (k - 1) m1 z1)) ∧
  (((mst f g = k ∧ st f 2) ∧ m2 = 0 ∧ z2 = 0) ∨ (¬ (mst f g = k ∧ st f 2) ∧ Bd f k m2 z2))
/-- Limits. -/
def Lc (ii : Int) (p m1 : Nat) (z1 : Int) (m2 : Nat) (z2 : Int) (e : Bool) (x : Int) : Prop :=
  ∃ g k, Fc ii p g k x ∧ ((x ≠ 0 ∧ m1 = 0 ∧ z1 = 0 ∧ m2 = 0 ∧ z2 = 0 ∧ e = false) ∨ (x = 0 ∧ (∀ i : Nat, ii = i → Lm (tb i) g k m1 z1 m2 z2) ∧ e = decide (k % 2 = 0)))
theorem fc_ex (ii : Int) (p : Nat) : ∃ g k x, Fc ii p g k x := by
  rcases in_or_out ii with h | ⟨i, h, a, b⟩
  · exact ⟨_, _, _, .inl ⟨h, rfl, rfl, rfl⟩⟩
  · by_cases c : msk (tb i) < p
    · exact ⟨_, _, _, .inr ⟨i, h, a, b, .inl ⟨c, rfl, rfl, rfl⟩⟩⟩
    · by_cases d : cls (tb i) p = 2
      · have hr := kyf_rng (ok i a b) (p := p) (by omega) (by omega)
        exact ⟨_, (kyf (tb i) p).toNat, _, .inr ⟨i, h, a, b, .inr ⟨by omega, .inr ⟨d, rfl, by omega, rfl⟩⟩⟩⟩
      · exact ⟨_, _, _, .inr ⟨i, h, a, b, .inr ⟨by omega, .inl ⟨d, rfl, rfl, rfl⟩⟩⟩⟩
theorem lm_ex {f : Fm} (ok : Ok f) (ok2 : Ok2 f) (ok3 : Ok3 f) (g : Bool) {k : Nat} (hk : (k : Int) ≤ tp f) : ∃ m1 z1 m2 z2, Lm f g k m1 z1 m2 z2 := by
  classical
  obtain ⟨m2, z2, h2⟩ := bd_ex ok ok2 hk
  obtain ⟨m1, z1, h1⟩ := bd_ex ok ok2 (k := k - 1) (by omega)
  by_cases a : k ≤ lst f <;> by_cases b : mst f g = k ∧ st f 2
  · exact ⟨_, _, _, _, .inl ⟨a, rfl, rfl⟩, .inl ⟨b, rfl, rfl⟩⟩
  · exact ⟨_, _, _, _, .inl ⟨a, rfl, rfl⟩, .inr ⟨b, h2⟩⟩
  · exact ⟨_, _, _, _, .inr ⟨by omega, h1⟩, .inl ⟨b, rfl, rfl⟩⟩
  · exact ⟨_, _, _, _, .inr ⟨by omega, h1⟩, .inr ⟨b, h2⟩⟩
/-- The key of a number is none beyond its sign's greatest. -/
theorem fc_in {ii : Int} {p : Nat} {g : Bool} {k : Nat} (h : Fc ii p g k 0) : ∃ i : Nat, ii = i ∧ 1 ≤ i ∧ i ≤ 14 ∧ (p : Int) ≤ msk (tb i) ∧ cls (tb i) p = 2 ∧ g = ngs (tb i) p ∧ kyf (tb i) p = k ∧ (k : Int) ≤ mst (tb i) g ∧ (k : Int) ≤ tp (tb i) ∧ (k ≠ 0 ∨ (tb i).k = 4) := by
  rcases h with ⟨_, _, _, h⟩ | ⟨i, e, a, b, ⟨_, _, _, h⟩ | ⟨hp, ⟨_, _, _, h⟩ | ⟨hc, hg, hk, _⟩⟩⟩
  · omega
  · omega
  · omega
  · obtain ⟨c1, c2, c3, c4⟩ := cls_key (ok i a b) (ok2 i a b) (p := p) (by omega) hp (.inr hc)
    refine ⟨i, e, a, b, hp, hc, hg, hk, ?_, by omega, by have := c4 hc; omega⟩
    unfold mst
    cases g with
    | false =>
      have := c3 hg.symm
      rw [if_neg (by simp)]
      omega
    | true =>
      unfold tp at c2
      by_cases d : (tb i).k = 3
      · rw [if_pos d] at c2
        rw [if_pos ⟨d, rfl⟩]
        omega
      · rw [if_neg d] at c2
        rw [if_neg (fun e => d e.1)]
        omega
theorem lc_ex (ii : Int) (p : Nat) : ∃ m1 z1 m2 z2 e x, Lc ii p m1 z1 m2 z2 e x := by
  obtain ⟨g, k, x, h⟩ := fc_ex ii p
  by_cases hx : x = 0
  · subst hx
    obtain ⟨i, e, a, b, _, _, _, _, _, ht, _⟩ := fc_in h
    obtain ⟨m1, z1, m2, z2, hl⟩ := lm_ex (ok i a b) (ok2 i a b) (ok3 i a b) g ht
    refine ⟨m1, z1, m2, z2, _, 0, g, k, h, .inr ⟨rfl, fun j hj => ?_, rfl⟩⟩
    obtain rfl : i = j := by omega
    exact hl
  · exact ⟨0, 0, 0, 0, false, x, g, k, h, .inl ⟨hx, rfl, rfl, rfl, rfl, rfl⟩⟩
end M
/-- What Limits comes to. -/
def Lx (m1 : Nat) (z1 : Int) (m2 : Nat) (z2 : Int) (ev : Bool) (x : Int) (w : World) (e : Ending) (w' : World) : Prop :=
  ∃ v1 v2, e = .returned (.tuple #[xv false v1 z1 0, xv false v2 z2 0, .bool ev, .int .i64 x]) ∧ Nt w' w.heap.size 1 v1 m1 ∧ Nt w' w.heap.size 1 v2 m2 ∧ Up w w'
set_option maxHeartbeats 1000000 in
set_option maxRecDepth 100000 in
theorem rnd_finite (w : World) (TT : Hid (Tz w)) (TF : Hid (TabF w)) (ii : Int) (p : Nat) (pb : p < 18446744073709551616) (g : Bool) (k : Nat) (x : Int) (h : M.Fc ii p g k x) : Calls Tryz.prog 34 #[.int .i64 ii, u64 p] w (Bkx g k x w) := by
  rcases h with ⟨e, rfl, rfl, rfl⟩ | ⟨i, rfl, i1, i2, ⟨e, rfl, rfl, rfl⟩ | ⟨hp, ⟨hc, rfl, rfl, rfl⟩ | ⟨hc, rfl, hk, rfl⟩⟩⟩
  ·
    have CD := Lib.hid (fun W (T : Tz W) (F : TabF W) => vdecode_any W (Lib.hid T) (Lib.hid F) ii p pb 0 false 0 0 3 (.inl ⟨e, rfl, rfl, rfl, rfl, rfl⟩))
    clear e
    have U := Up.refl w
    go_enter Tryz.func34, Tryz.ntmps34
    go_wp2_with fail
    refine (CD.out _ (TT.out.up U) (TF.out.up U)).mono ?_
    rintro _ w1 ⟨rfl, h1⟩
    replace U := U.trans h1
    clear h1
    go_wp2_with fail
    obtain ⟨V2, hV2⟩ : ∃ V2, w1.alloc (.cells #[.int .i64 0, .bool false, .int .u64 0, .int .i64 0] 46) = V2 := ⟨_, rfl⟩
    have Y : Ob V2 w1.heap.size 46 #[.int .i64 0, .bool false, .int .u64 0, .int .i64 0] := by rw [← hV2]; exact Ob.mk_ _ _ _
    have uV2 : Up w1 V2 := by rw [← hV2]; exact (Up.refl _).alloc _
    have ltY : w.heap.size ≤ w1.heap.size := U.size
    rw [hV2]
    clear hV2
    replace U := U.trans uV2
    clear uV2
    have Y0 := Y.get 0
    have Y1 := Y.get 1
    have Y2 := Y.get 2
    have Y3 := Y.get 3
    have Yf0 := Y.fr 0
    have Yf1 := Y.fr 1
    have Yf2 := Y.fr 2
    have Yf3 := Y.fr 3
    have Yl := Y.lt
    simp only [List.getElem?_toArray, List.getElem?_cons_zero, List.getElem?_cons_succ] at Y0 Y1 Y2 Y3
    go_wp2_with fail
    clear Y0 Yf0 Y1 Yf1 Y2 Yf2 Y3 Yf3 Yl
    go_ret3
    exact ⟨rfl, U⟩
  ·
    have CD := Lib.hid (fun W (T : Tz W) (F : TabF W) => vdecode_any W (Lib.hid T) (Lib.hid F) (i : Int) p pb 0 false 0 0 1 (.inr ⟨i, rfl, i1, i2, .inl ⟨e, rfl, rfl, rfl, rfl, rfl⟩⟩))
    clear e
    have U := Up.refl w
    go_enter Tryz.func34, Tryz.ntmps34
    go_wp2_with fail
    refine (CD.out _ (TT.out.up U) (TF.out.up U)).mono ?_
    rintro _ w1 ⟨rfl, h1⟩
    replace U := U.trans h1
    clear h1
    go_wp2_with fail
    obtain ⟨V2, hV2⟩ : ∃ V2, w1.alloc (.cells #[.int .i64 0, .bool false, .int .u64 0, .int .i64 0] 46) = V2 := ⟨_, rfl⟩
    have Y : Ob V2 w1.heap.size 46 #[.int .i64 0, .bool false, .int .u64 0, .int .i64 0] := by rw [← hV2]; exact Ob.mk_ _ _ _
    have uV2 : Up w1 V2 := by rw [← hV2]; exact (Up.refl _).alloc _
    have ltY : w.heap.size ≤ w1.heap.size := U.size
    rw [hV2]
    clear hV2
    replace U := U.trans uV2
    clear uV2
    have Y0 := Y.get 0
    have Y1 := Y.get 1
    have Y2 := Y.get 2
    have Y3 := Y.get 3
    have Yf0 := Y.fr 0
    have Yf1 := Y.fr 1
    have Yf2 := Y.fr 2
    have Yf3 := Y.fr 3
    have Yl := Y.lt
    simp only [List.getElem?_toArray, List.getElem?_cons_zero, List.getElem?_cons_succ] at Y0 Y1 Y2 Y3
    go_wp2_with fail
    clear Y0 Yf0 Y1 Yf1 Y2 Yf2 Y3 Yf3 Yl
    go_ret3
    exact ⟨rfl, U⟩
  ·
    obtain ⟨c, g', m, z, hd⟩ := M.dv_ex (M.ok i i1 i2) (M.ok2 i i1 i2) (p := p) (by omega) hp
    have CD := Lib.hid (fun W (T : Tz W) (F : TabF W) => vdecode_any W (Lib.hid T) (Lib.hid F) (i : Int) p pb c g' m z 0 (.inr ⟨i, rfl, i1, i2, .inr ⟨hp, hd, rfl⟩⟩))
    have c2 : c ≠ 2 := by
      rcases hd with ⟨_, rfl, _⟩ | ⟨_, rfl, _⟩ | ⟨_, rfl, _⟩ | ⟨h, _⟩
      · decide
      · decide
      · decide
      · exact absurd h hc
    have d1 : (c != 2) = true := by simpa using c2
    clear hd hp hc c2
    have U := Up.refl w
    go_enter Tryz.func34, Tryz.ntmps34
    go_wp2_with fail
    refine (CD.out _ (TT.out.up U) (TF.out.up U)).mono ?_
    rintro _ w1 ⟨rfl, h1⟩
    replace U := U.trans h1
    clear h1
    go_wp2_with fail
    obtain ⟨V2, hV2⟩ : ∃ V2, w1.alloc (.cells #[.int .i64 c, .bool g', .int .u64 (m : Int), .int .i64 z] 46) = V2 := ⟨_, rfl⟩
    have Y : Ob V2 w1.heap.size 46 #[.int .i64 c, .bool g', .int .u64 (m : Int), .int .i64 z] := by rw [← hV2]; exact Ob.mk_ _ _ _
    have uV2 : Up w1 V2 := by rw [← hV2]; exact (Up.refl _).alloc _
    have ltY : w.heap.size ≤ w1.heap.size := U.size
    rw [hV2]
    clear hV2
    replace U := U.trans uV2
    clear uV2
    have Y0 := Y.get 0
    have Y1 := Y.get 1
    have Y2 := Y.get 2
    have Y3 := Y.get 3
    have Yf0 := Y.fr 0
    have Yf1 := Y.fr 1
    have Yf2 := Y.fr 2
    have Yf3 := Y.fr 3
    have Yl := Y.lt
    simp only [List.getElem?_toArray, List.getElem?_cons_zero, List.getElem?_cons_succ] at Y0 Y1 Y2 Y3
    go_wp2_with fail
    clear Y0 Yf0 Y1 Yf1 Y2 Yf2 Y3 Yf3 Yl
    go_ret3
    exact ⟨rfl, U⟩
  ·
    obtain ⟨c, g', m, z, hd⟩ := M.dv_ex (M.ok i i1 i2) (M.ok2 i i1 i2) (p := p) (by omega) hp
    have CD := Lib.hid (fun W (T : Tz W) (F : TabF W) => vdecode_any W (Lib.hid T) (Lib.hid F) (i : Int) p pb c g' m z 0 (.inr ⟨i, rfl, i1, i2, .inr ⟨hp, hd, rfl⟩⟩))
    have CK := Lib.hid (fun W (T : Tz W) (F : TabF W) => vkey_any W (Lib.hid T) (Lib.hid F) (i : Int) p pb _ k 0 (.inr ⟨i, rfl, i1, i2, .inr ⟨hp, .inr (.inr ⟨hc, rfl, hk, rfl⟩)⟩⟩))
    obtain rfl : c = 2 := by
      rcases hd with ⟨h, _⟩ | ⟨h, _⟩ | ⟨h, _⟩ | ⟨_, h, _⟩ <;> omega
    obtain ⟨gg, hgg⟩ : ∃ gg, M.ngs (M.tb i) p = gg := ⟨_, rfl⟩
    rw [hgg] at CK ⊢
    clear hd hp hc hk hgg
    have U := Up.refl w
    go_enter Tryz.func34, Tryz.ntmps34
    go_wp2_with fail
    refine (CD.out _ (TT.out.up U) (TF.out.up U)).mono ?_
    rintro _ w1 ⟨rfl, h1⟩
    replace U := U.trans h1
    clear h1
    go_wp2_with fail
    obtain ⟨V2, hV2⟩ : ∃ V2, w1.alloc (.cells #[.int .i64 2, .bool g', .int .u64 (m : Int), .int .i64 z] 46) = V2 := ⟨_, rfl⟩
    have Y : Ob V2 w1.heap.size 46 #[.int .i64 2, .bool g', .int .u64 (m : Int), .int .i64 z] := by rw [← hV2]; exact Ob.mk_ _ _ _
    have uV2 : Up w1 V2 := by rw [← hV2]; exact (Up.refl _).alloc _
    have ltY : w.heap.size ≤ w1.heap.size := U.size
    rw [hV2]
    clear hV2
    replace U := U.trans uV2
    clear uV2
    have Y0 := Y.get 0
    have Y1 := Y.get 1
    have Y2 := Y.get 2
    have Y3 := Y.get 3
    have Yf0 := Y.fr 0
    have Yf1 := Y.fr 1
    have Yf2 := Y.fr 2
    have Yf3 := Y.fr 3
    have Yl := Y.lt
    simp only [List.getElem?_toArray, List.getElem?_cons_zero, List.getElem?_cons_succ] at Y0 Y1 Y2 Y3
    go_wp2_with fail
    clear Y0 Yf0 Y1 Yf1 Y2 Yf2 Y3 Yf3 Yl
    refine (CK.out _ (TT.out.up U) (TF.out.up U)).mono ?_
    rintro _ w3 ⟨rfl, h3⟩
    replace U := U.trans h3
    replace Y := Y.up h3
    clear h3
    have Y0 := Y.get 0
    have Y1 := Y.get 1
    have Y2 := Y.get 2
    have Y3 := Y.get 3
    have Yf0 := Y.fr 0
    have Yf1 := Y.fr 1
    have Yf2 := Y.fr 2
    have Yf3 := Y.fr 3
    have Yl := Y.lt
    simp only [List.getElem?_toArray, List.getElem?_cons_zero, List.getElem?_cons_succ] at Y0 Y1 Y2 Y3
    go_wp2_with fail
    clear Y0 Yf0 Y1 Yf1 Y2 Yf2 Y3 Yf3 Yl
    go_ret3
    exact ⟨rfl, U⟩
set_option maxHeartbeats 1000000 in
set_option maxRecDepth 100000 in
theorem rnd_endless (w : World) (TF : Hid (TabF w)) (i : Nat) (f : M.Fm) (hf : Hid (M.tb i = f)) (i1 : 1 ≤ i) (i2 : i ≤ 14) (neg : Bool) (h4 : ¬ (f.k = 4 ∧ neg = true)) (k : Nat) (kb : k < 18446744073709551616) (r : Bool) (hr : Hid (r = true ↔ (M.mst f neg = k ∧ M.st f 2))) : Calls Tryz.prog 37 #[.int .i64 (i : Int), .bool neg, u64 k] w (Bz r w) := by
  have CO := Lib.hid (fun W (F : TabF W) => of_in W F i f hf i1 i2)
  have CM := Lib.hid (fun W (F : TabF W) => vmost_any W (Lib.hid F) (i : Int) neg _ 0 (.inr ⟨i, rfl, i1, i2, .inr ⟨by rw [hf.out]; exact h4, rfl, rfl⟩⟩))
  rw [hf.out] at CM
  obtain ⟨q, hq⟩ : ∃ q, M.mst f neg = q := ⟨_, rfl⟩
  have e := hr.out
  rw [hq] at CM e
  clear hr hq h4 hf
  by_cases c : q = k
  ·
    subst c
    have d1 : ((k : Int) == (k : Int)) = true := by simp
    have CS := Lib.hid (fun W => rnd_stays W f 2 r (by show _ ↔ _; rw [e]; simp))
    clear e
    have U := Up.refl w
    go_enter Tryz.func37, Tryz.ntmps37
    go_wp2_with fail
    refine (CO.out _ (TF.out.up U)).mono ?_
    rintro _ w1 ⟨rfl, h1⟩
    replace U := U.trans h1
    clear h1
    go_wp2_with fail
    obtain ⟨V2, hV2⟩ : ∃ V2, w1.alloc (.cells #[.int .i64 f.k, .int .i64 f.W, .int .i64 f.m, .int .i64 f.b, .int .u64 f.t, .int .u64 f.n, .int .u64 f.x] 54) = V2 := ⟨_, rfl⟩
    have C : Bf V2 w1.heap.size 54 f := by rw [← hV2]; exact Bf.mk_ w1 f 54
    have ltC : w.heap.size ≤ w1.heap.size := U.size
    have uV2 : Up w1 V2 := by rw [← hV2]; exact (Up.refl _).alloc _
    rw [hV2]
    clear hV2
    replace U := U.trans uV2
    clear uV2
    refine (CM.out _ (TF.out.up U)).mono ?_
    rintro _ w3 ⟨rfl, h3⟩
    replace U := U.trans h3
    replace C := C.up h3
    clear h3
    obtain ⟨C0, C1, C2, C3, C4, C5, C6⟩ := Bf.cs C
    have C7 := Bf.lt C
    simp only [Nat.zero_add] at C0 C1 C2 C3 C4 C5 C6 C7
    go_wp2_with fail
    clear C0 C1 C2 C3 C4 C5 C6 C7
    refine (CS.out _).mono ?_
    rintro _ w4 ⟨rfl, h4⟩
    replace U := U.trans h4
    replace C := C.up h4
    clear h4
    obtain ⟨C0, C1, C2, C3, C4, C5, C6⟩ := Bf.cs C
    have C7 := Bf.lt C
    simp only [Nat.zero_add] at C0 C1 C2 C3 C4 C5 C6 C7
    go_wp2_with fail
    clear C0 C1 C2 C3 C4 C5 C6 C7
    go_ret
    exact ⟨by first | rfl | simp, U⟩
  ·
    obtain rfl : r = false := by
      cases r
      · rfl
      · exact absurd (e.1 rfl).1 c
    have d1 : ((k : Int) == q) = false := by simpa using fun h : (k : Int) = q => c h.symm
    clear e c
    have U := Up.refl w
    go_enter Tryz.func37, Tryz.ntmps37
    go_wp2_with fail
    refine (CO.out _ (TF.out.up U)).mono ?_
    rintro _ w1 ⟨rfl, h1⟩
    replace U := U.trans h1
    clear h1
    go_wp2_with fail
    obtain ⟨V2, hV2⟩ : ∃ V2, w1.alloc (.cells #[.int .i64 f.k, .int .i64 f.W, .int .i64 f.m, .int .i64 f.b, .int .u64 f.t, .int .u64 f.n, .int .u64 f.x] 54) = V2 := ⟨_, rfl⟩
    have C : Bf V2 w1.heap.size 54 f := by rw [← hV2]; exact Bf.mk_ w1 f 54
    have ltC : w.heap.size ≤ w1.heap.size := U.size
    have uV2 : Up w1 V2 := by rw [← hV2]; exact (Up.refl _).alloc _
    rw [hV2]
    clear hV2
    replace U := U.trans uV2
    clear uV2
    refine (CM.out _ (TF.out.up U)).mono ?_
    rintro _ w3 ⟨rfl, h3⟩
    replace U := U.trans h3
    replace C := C.up h3
    clear h3
    obtain ⟨C0, C1, C2, C3, C4, C5, C6⟩ := Bf.cs C
    have C7 := Bf.lt C
    simp only [Nat.zero_add] at C0 C1 C2 C3 C4 C5 C6 C7
    go_wp2_with fail
    clear C0 C1 C2 C3 C4 C5 C6 C7
    go_ret
    exact ⟨by first | rfl | simp, U⟩
end Go.Proofs.YtlogglhonlannaaGreatDoor
