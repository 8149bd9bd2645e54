/-
  LayoutTells: its walk; digits that came in.
-/
import Derived.Test.YtkhnobogaiaogaaGreatDoorHe
namespace Go.Proofs.YtkhnobogaiaogaaGreatDoor
open Go.RowKit Go.Shelf
set_option linter.unusedVariables false
set_option linter.unusedSimpArgs false

/-- Digits that came in may be written. -/
theorem dr_src {w : World} {A : Option Addr} {n c : Nat} {xs : List Nat} (h : Src w A n c xs) (hz : ∀ ad, A = some ad → ∀ j, j < n → w.frozen? (ad.add j) = false) (mx : c ≤ maxLen) (hsz : n ≤ 17592186044416) : Dr w A n c xs := by
  have hlen := h.len
  have hmax : c ≤ 9223372036854775807 := mx
  refine ⟨h.num, fun hn => ⟨h.num, h.len, by omega, h.wds, fun h0 => ?_⟩, fun _ => h, by omega⟩
  rcases A with _ | ⟨b, o, sp⟩
  · have := h.none_ rfl
    omega
  · have c0 := h.at_ _ rfl 0 h0
    have e : sp = none := by
      rcases sp with _ | sp
      · rfl
      · exfalso
        simp only [Addr.add, if_pos rfl, World.cell?] at c0
        split at c0 <;> simp at c0
    subst e
    refine ⟨b, o, rfl, Nat.zero_le _, fun j hj => ?_⟩
    have e : (Addr.mk b o none).add j = ⟨b, o + j, none⟩ := by
      unfold Addr.add
      split
      · rename_i e; subst e; rfl
      · rfl
    rw [← e]
    exact ⟨h.at_ _ rfl j hj, hz _ rfl j hj⟩

theorem wf_int {z : Int} (h : (Lit.int .i64 z).wf = true) : -9223372036854775808 ≤ z ∧ z ≤ 9223372036854775807 := by simpa [Lit.wf, IntKind.min, IntKind.max, IntKind.signed, IntKind.bits] using h

set_option maxHeartbeats 8000000 in
set_option maxRecDepth 100000 in
theorem ltells_walk (w : World) (TW : TabW w) (EW : ErrB w) (F : Lay) (ng : Bool) (A : Option Addr) (n c : Nat) (xs : List Nat) (D : Dr w A n c xs) (k : Int) (hk : -9223372036854775808 ≤ k ∧ k ≤ 9223372036854775807) :
    Calls Tryz.prog 3 #[dv ng (.slice A n c) k] w (True12 w) := by
  obtain ⟨r, hr⟩ : ∃ r, decide (M.rt xs k) = r := ⟨_, rfl⟩
  obtain ⟨l, hl⟩ : ∃ l, M.lyr ng xs k = l := ⟨_, rfl⟩
  have C1 : Hid (∀ W, Up w W → Calls Tryz.prog 10 #[dv ng (.slice A n c) k] W (Boo r W)) := fun W u => F.right W ng A n c xs k r (TW.up u) (EW.up u) (D.up u) hk (Lib.hid hr)
  have C2 : Hid (∀ W, Up w W → Calls Tryz.prog 11 #[dv ng (.slice A n c) k] W (Boo r W)) := fun W u => rright12_any W ng A n c xs k (D.up u) r (Lib.hid hr)
  have C3 : Hid (∀ W, Up w W → Calls Tryz.prog 12 #[dv ng (.slice A n c) k] W (Tex l W)) := fun W u => by rw [← hl]; exact F.layout W ng A n c xs k (TW.up u) (EW.up u) (D.up u) hk
  have C4 : Hid (∀ W, Up w W → Calls Tryz.prog 13 #[dv ng (.slice A n c) k] W (Tex l W)) := fun W u => by rw [← hl]; exact rlayout12_any W ng A n c xs k (D.up u)
  have U := (Up.refl w).alloc (.cells #[.bool ng, .slice A n c, .int .i64 k] 25)
  have CS := Lib.hid (shown12_any F _ (TW.up U) (EW.up U))
  have d0 : (r == r) = true := by simp
  clear hr hl D hk F TW EW
  go_enter Tryz.func3, Tryz.ntmps3
  go_wp2_with fail
  refine CS.out.mono ?_
  rintro _ w1 ⟨rfl, u1⟩
  have B := (Ob.mk_ w 25 #[.bool ng, .slice A n c, .int .i64 k]).up u1
  have b0 := B.get 0
  have b1 := B.get 1
  have b2 := B.get 2
  simp only [List.getElem?_toArray, List.getElem?_cons_zero, List.getElem?_cons_succ] at b0 b1 b2
  replace U := U.trans u1
  clear u1 B CS
  go_wp2_with fail
  go_region_held3 (fun w' => w'.cell? ⟨w.heap.size, 0, none⟩ = some (.bool ng) ∧ w'.cell? ⟨w.heap.size, 1, none⟩ = some (.slice A n c) ∧ w'.cell? ⟨w.heap.size, 2, none⟩ = some (.int .i64 k)) (go_keep) (first
    | (go_at_call 10; (with_reducible refine (C1.out _ ?_).mono ?_); (first | with_reducible assumption | exact U.drewN _); rintro _ wA ⟨rfl, hua⟩; have uA : Up w wA := Up.trans (by first | with_reducible assumption | exact U.drewN _) hua; have vA : Up w1 wA := Up.trans (by first | with_reducible assumption | exact (Up.refl w1).drewN _) hua; have a0 := cell_up vA b0; have a1 := cell_up vA b1; have a2 := cell_up vA b2)
    | (go_at_call 11; (with_reducible refine (C2.out _ ?_).mono ?_); (first | with_reducible assumption | exact uA.drewN _); rintro _ wB ⟨rfl, hub⟩; have uB : Up w wB := Up.trans (by first | with_reducible assumption | exact uA.drewN _) hub; have vB : Up w1 wB := Up.trans (by first | with_reducible assumption | exact vA.drewN _) hub; have e0 := cell_up vB b0; have e1 := cell_up vB b1; have e2 := cell_up vB b2)
    | (go_at_call 12; (with_reducible refine (C3.out _ ?_).mono ?_); (first | with_reducible assumption | exact uB.drewN _); rintro _ wC ⟨R, rfl, HR, huc⟩; have uC : Up w wC := Up.trans (by first | with_reducible assumption | exact uB.drewN _) huc; have vC : Up w1 wC := Up.trans (by first | with_reducible assumption | exact vB.drewN _) huc; have f0 := cell_up vC b0; have f1 := cell_up vC b1; have f2 := cell_up vC b2)
    | (go_at_call 13; (with_reducible refine (C4.out _ ?_).mono ?_); (first | with_reducible assumption | exact uC.drewN _); rintro _ wD ⟨R', rfl, HR', hud⟩; have uD : Up w wD := Up.trans (by first | with_reducible assumption | exact uC.drewN _) hud; obtain rfl := Tx.uniq HR HR'; have vD : Up w1 wD := Up.trans (by first | with_reducible assumption | exact vC.drewN _) hud; have g0 := cell_up vD b0; have g1 := cell_up vD b1; have g2 := cell_up vD b2))
  go_wp2_with fail
  go_ret
  exact ⟨rfl, by first | exact uD | exact uD.drewN _⟩
end Go.Proofs.YtkhnobogaiaogaaGreatDoor
