/-
  Package round: the search.
-/
import Derived.Test.YtlogglhonlannaaGreatDoorRp
namespace Go.Proofs.YtlogglhonlannaaGreatDoor
open Go.RowKit
set_option linter.unusedSimpArgs false
set_option linter.unusedVariables false

set_option maxHeartbeats 800000 in
set_option maxRecDepth 100000 in
theorem rnd_search (w : World) (TT : Hid (Tz w)) (TF : Hid (TabF w)) (i : Nat) (f : M.Fm) (hf : Hid (M.tb i = f)) (i1 : 1 ≤ i) (i2 : i ≤ 14) (lo s : Nat) (neg : Bool) (v : Value) (t g : Int) (a : Nat) (h : Nt w lo s v a) (hs : s ≤ 1000000) (bt : -5000 ≤ t ∧ t ≤ 5000) (bg : -5000 ≤ g ∧ g ≤ 5000) (a0 : a ≠ 0) (q : Nat) (qb : q < 18446744073709551616) (hq : (q : Int) ≤ M.tp f) (k : Nat) (hk : M.Nr f q (M.sz a t g) k false) : Calls Tryz.prog 27 #[.int .i64 (i : Int), u64 q, xv neg v t g] w (Wz k w) := by
  have ok := M.ok i i1 i2
  have ok2 := M.ok2 i i1 i2
  have ok3 := M.ok3 i i1 i2
  rw [hf.out] at ok ok2 ok3
  have X0 : M.sz a t g ≠ 0 := fun e => a0 (M.sz_zero.1 e)
  obtain ⟨l, hl⟩ : ∃ l : Nat, (if f.k = 1 then 1 else 0) = l := ⟨_, rfl⟩
  obtain ⟨kq, nb, kn, lb⟩ : k ≤ q ∧ ¬ M.Byd f (M.sz a t g) k ∧ (f.k = 1 → M.sz a t g ≠ 0 → k ≠ 0) ∧ ∀ j, j < k → M.Byd f (M.sz a t g) j ∨ (f.k = 1 ∧ M.sz a t g ≠ 0 ∧ j = 0) := by
    rcases hk with ⟨h, _⟩ | ⟨_, h⟩
    · cases h
    · exact h
  have lk : l ≤ k := by
    rw [← hl]
    split
    · rename_i e
      have := kn e X0
      omega
    · omega
  have HB : Hid (∀ j, l ≤ j → j ≤ q → (M.Byd f (M.sz a t g) j ↔ j < k)) := fun j h1 h2 => by
    constructor
    · intro h3
      rcases Nat.lt_or_ge j k with e | e
      · exact e
      · exact absurd (M.byd_down ok ok2 ok3 (by omega) e h3) nb
    · intro h3
      rcases lb j h3 with e | ⟨e1, _, e3⟩
      · exact e
      · rw [if_pos e1] at hl
        omega
  have CL := Lib.hid (fun W (F : TabF W) => least_any W (Lib.hid F) i f hf i1 i2 l (Lib.hid hl))
  have CB := Lib.hid (fun W (T : Tz W) (F : TabF W) (U : Up w W) (j : Nat) (hj : j ≤ q) (r : Bool) (hr : Hid (r = true ↔ M.Byd f (M.sz a t g) j)) => rnd_beyond W (Lib.hid T) (Lib.hid F) i f hf i1 i2 j (by omega) (by omega) lo s neg v t g a (h.up U) hs bt bg r hr)
  clear hf i1 i2 h hs bt bg a0 hq hk X0 hl nb kn lb ok ok2 ok3
  have U := Up.refl w
  go_enter Tryz.func27, Tryz.ntmps27
  go_wp2_with fail
  obtain ⟨V1, hV1⟩ : ∃ V1, w.alloc (.cells #[.bool neg, v, .int .i64 t, .int .i64 g] 25) = V1 := ⟨_, rfl⟩
  have B : Ob V1 w.heap.size 25 #[.bool neg, v, .int .i64 t, .int .i64 g] := by rw [← hV1]; exact Ob.mk_ _ _ _
  have uV1 : Up w V1 := by rw [← hV1]; exact (Up.refl _).alloc _
  have ltB : w.heap.size ≤ w.heap.size := U.size
  rw [hV1]
  clear hV1
  replace U := U.trans uV1
  clear uV1
  refine (CL.out _ (TF.out.up U)).mono ?_
  rintro _ w2 ⟨rfl, h2⟩
  replace U := U.trans h2
  replace B := B.up h2
  clear h2
  go_wp2_with fail
  go_loopw [7, 8] (fun lv hv wr => ∃ l1 h1 : Nat, lv = u64 l1 ∧ hv = u64 h1 ∧ l ≤ l1 ∧ l1 ≤ k ∧ k ≤ h1 ∧ h1 ≤ q ∧ Up w wr ∧ Ob wr w.heap.size 25 #[.bool neg, v, .int .i64 t, .int .i64 g]) (fun lv hv _ => (intOf hv).toNat - (intOf lv).toNat)
  case atStart => exact ⟨l, q, rfl, rfl, Nat.le_refl _, lk, kq, Nat.le_refl _, U, B⟩
  case round =>
    obtain ⟨l1, h1, rfl, rfl, b1, b2, b3, b4, U, B⟩ := hrel
    by_cases c : l1 = h1
    · subst c
      obtain rfl : k = l1 := by omega
      clear HB b1 b2 b3 b4
      go_wp2_with fail
      go_ret
      exact ⟨rfl, U⟩
    · have hlt : l1 < h1 := by omega
      have d1 : decide ((l1 : Int) < (h1 : Int)) = true := decide_eq_true (by omega)
      obtain ⟨D, hD⟩ : ∃ D, h1 - l1 = D := ⟨_, rfl⟩
      obtain ⟨E, hE⟩ : ∃ E, D / 2 = E := ⟨_, rfl⟩
      obtain ⟨md, hmd⟩ : ∃ md, l1 + E = md := ⟨_, rfl⟩
      have e1 : IntKind.u64.wrap ((h1 : Int) - (l1 : Int)) = (D : Int) := wrap_u64 (by omega) (by omega)
      have e2 : (D : Int).tdiv 2 = (E : Int) := by rw [Int.tdiv_eq_ediv_of_nonneg (by omega)]; omega
      have e5 : IntKind.u64.wrap (E : Int) = (E : Int) := wrap_u64 rfl (by omega)
      have e3 : IntKind.u64.wrap ((l1 : Int) + (E : Int)) = (md : Int) := wrap_u64 (by omega) (by omega)
      have e4 : IntKind.u64.wrap ((md : Int) + 1) = ((md + 1 : Nat) : Int) := wrap_u64 (by omega) (by omega)
      have m1 : l1 ≤ md ∧ md < h1 := by omega
      have mb : md < 18446744073709551616 := by omega
      obtain ⟨r, hr⟩ : ∃ r, decide (md < k) = r := ⟨_, rfl⟩
      have CB1 := Lib.hid (fun W (T : Tz W) (F : TabF W) (U : Up w W) => CB.out W T F U md (by omega) r (by show _ ↔ _; rw [HB.out md (by omega) (by omega), ← hr, decide_eq_true_iff]))
      have b1' : l ≤ md := by omega
      clear hD hE hmd c
      have B0 := B.get 0
      have B1 := B.get 1
      have B2 := B.get 2
      have B3 := B.get 3
      have Bf0 := B.fr 0
      have Bf1 := B.fr 1
      have Bf2 := B.fr 2
      have Bf3 := B.fr 3
      have Bl := B.lt
      simp only [List.getElem?_toArray, List.getElem?_cons_zero, List.getElem?_cons_succ] at B0 B1 B2 B3
      go_wp2_with fail
      clear B0 Bf0 B1 Bf1 B2 Bf2 B3 Bf3 Bl
      refine (CB1.out _ (TT.out.up U) (TF.out.up U) U).mono ?_
      rintro _ w3 ⟨rfl, h3⟩
      replace U := U.trans h3
      replace B := B.up h3
      clear h3
      cases r
      ·
        have hr2 : ¬ md < k := of_decide_eq_false hr
        clear hr CB1
        go_wp2_with fail
        go_roundw
        case rel => exact ⟨l1, md, rfl, rfl, by omega, by omega, by omega, by omega, U, B⟩
        case measure => simp [intOf]; omega
      ·
        have hr2 : md < k := of_decide_eq_true hr
        clear hr CB1
        go_wp2_with fail
        go_roundw
        case rel => exact ⟨md + 1, h1, by first | rfl | (rw [e4]), rfl, by omega, by omega, by omega, by omega, U, B⟩
        case measure => simp [intOf]; omega
end Go.Proofs.YtlogglhonlannaaGreatDoor
