/-
  Whether two digits are the same.
-/
import Derived.Test.YtgpachgnacndoaaGreatDoorUKg
import Derived.OwnWalk
import Derived.LoopTactic
import Derived.BigQuiet
namespace Go.Proofs.YtgpachgnacndoaaGreatDoor
open Go.RowKit
set_option linter.unusedSimpArgs false
set_option linter.unusedVariables false

set_option maxHeartbeats 4000000 in
set_option maxRecDepth 100000 in
theorem same11_any (w : World) (lo lo' s s' : Nat) (ng : Bool) (A A' : Option Addr) (n c n' c' : Nat) (K : Int) (a : Nat) (N : Nt w lo s (.slice A n c) a) (N' : Nt w lo' s' (.slice A' n' c') a) (hs : s ≤ 1000000) : Calls Tryz.prog 8 #[.agg #[.bool ng, .slice A n c, .int .i64 K], .agg #[.bool ng, .slice A' n' c', .int .i64 K]] w (Bz true w) := by
  obtain ⟨A9, n9, c9, xs, e9, h1, h2, h3, h4⟩ := N
  cases e9
  obtain ⟨A9, n9, c9, xs', e9, g1, g2, g3, g4⟩ := N'
  cases e9
  have e : xs = xs' := M.val_inj h1.wds g1.wds h4 g4 (h2.trans g2.symm)
  subst e
  have en : n = n' := h1.num.symm.trans g1.num
  subst en
  have nb : n ≤ 1000000 := by omega
  have d1 : (K != K) = false := by simp
  have d2 : ((n : Int) != (n : Int)) = false := by simp
  have d0 : (ng != ng) = false := by simp
  have K1 := Lib.hid h1.at_
  have K2 := Lib.hid g1.at_
  clear h1 g1 h2 g2 h4 g4 g3 h3 hs
  have U := Up.refl w
  go_enter Tryz.func8, Tryz.ntmps8
  go_wp2_with fail
  obtain ⟨V1, hV1⟩ : ∃ V1, w.alloc (.cells #[.bool ng, .slice A n c, .int .i64 K] 27) = V1 := ⟨_, rfl⟩
  have B1 : Ob V1 (w.heap.size) 27 #[.bool ng, .slice A n c, .int .i64 K] := by rw [← hV1]; exact Ob.mk_ _ _ _
  have sV1 : V1.heap.size = w.heap.size + 1 := by rw [← hV1]; exact (Array.size_push _)
  have uV1 : Up w V1 := by rw [← hV1]; exact (Up.refl _).alloc _
  have ltB1 : w.heap.size ≤ w.heap.size := by have := U.size; omega
  rw [hV1]
  clear hV1
  replace U := U.trans uV1
  clear uV1
  obtain ⟨V2, hV2⟩ : ∃ V2, V1.alloc (.cells #[.bool ng, .slice A' n c', .int .i64 K] 27) = V2 := ⟨_, rfl⟩
  have B2 : Ob V2 (w.heap.size + 1) 27 #[.bool ng, .slice A' n c', .int .i64 K] := by rw [← sV1, ← hV2]; exact Ob.mk_ _ _ _
  have sV2 : V2.heap.size = w.heap.size + 1 + 1 := by rw [← hV2]; exact (Array.size_push _).trans (congrArg (· + 1) sV1)
  have uV2 : Up V1 V2 := by rw [← hV2]; exact (Up.refl _).alloc _
  have ltB2 : w.heap.size ≤ w.heap.size + 1 := Nat.le_succ_of_le ltB1
  rw [hV2]
  clear hV2
  replace B1 := B1.up uV2
  replace U := U.trans uV2
  clear uV2
  clear sV2 sV1
  have glB1 := B1.lt
  have glB2 := B2.lt
  obtain ⟨B10, B11, B12, B1f0, B1f1, B1f2, B1l⟩ := B1.c3
  obtain ⟨B20, B21, B22, B2f0, B2f1, B2f2, B2l⟩ := B2.c3
  go_wp2_with fail
  clear B10 B1f0 B11 B1f1 B12 B1f2 B1l
  clear B20 B2f0 B21 B2f1 B22 B2f2 B2l
  go_loopw [5] (fun iv wr => ∃ j : Nat, iv = .int .i64 (j : Int) ∧ j ≤ n ∧ Up w wr ∧ Ob wr (w.heap.size) 27 #[.bool ng, .slice A n c, .int .i64 K] ∧ Ob wr (w.heap.size + 1) 27 #[.bool ng, .slice A' n c', .int .i64 K]) (fun iv _ => ((n : Int) - intOf iv).toNat)
  case atStart => exact ⟨0, rfl, Nat.zero_le _, U, B1, B2⟩
  case round =>
    clear U B1 B2
    obtain ⟨j, rfl, hj, U, B1, B2⟩ := hrel
    by_cases hjn : j = n
    ·
      have e1 : decide ((j : Int) < (n : Int)) = false := decide_eq_false (by omega)
      have e2 : decide (j < n) = false := decide_eq_false (by omega)
      clear hjn
      obtain ⟨B10, B11, B12, B1f0, B1f1, B1f2, B1l⟩ := B1.c3
      obtain ⟨B20, B21, B22, B2f0, B2f1, B2f2, B2l⟩ := B2.c3
      go_wp2_with fail
      clear B10 B1f0 B11 B1f1 B12 B1f2 B1l
      clear B20 B2f0 B21 B2f1 B22 B2f2 B2l
      go_ret
      exact ⟨rfl, U⟩
    ·
      have hlt : j < n := by omega
      have hli : (j : Int) < (n : Int) := by omega
      have e1 : decide ((j : Int) < (n : Int)) = true := decide_eq_true hli
      have e2 : decide (j < n) = true := decide_eq_true hlt
      obtain ⟨b, o, rfl, _, hc⟩ := K1.out (by omega)
      obtain ⟨b', o', rfl, _, hc'⟩ := K2.out (by omega)
      obtain ⟨x, hx⟩ : ∃ x, xs.getD j 0 = x := ⟨_, rfl⟩
      have w1 := cell_up_ U (hc j hlt).1
      have w2 := cell_up_ U (hc' j hlt).1
      rw [hx] at w1 w2
      have d3 : ((x : Int) != (x : Int)) = false := by simp
      have wj : IntKind.i64.wrap ((j : Int) + 1) = (j : Int) + 1 := by simp [IntKind.wrap, IntKind.bits, IntKind.signed]; omega
      clear hx hc hc' hjn K1 K2
      obtain ⟨B10, B11, B12, B1f0, B1f1, B1f2, B1l⟩ := B1.c3
      obtain ⟨B20, B21, B22, B2f0, B2f1, B2f2, B2l⟩ := B2.c3
      go_wp2_with fail
      go_quiet (fail)
      go_wp2_with fail
      go_roundw
      case rel => exact ⟨j + 1, by go_num, by omega, U.drewN _, B1.up ((Up.refl _).drewN _), B2.up ((Up.refl _).drewN _)⟩
      case measure => simp [intOf]; omega
end Go.Proofs.YtgpachgnacndoaaGreatDoor
