/-
  LayoutApart: its walk.
-/
import Derived.Test.YtkhnobogaiaogaaGreatDoorHf
namespace Go.Proofs.YtkhnobogaiaogaaGreatDoor
open Go.RowKit Go.Shelf
set_option linter.unusedVariables false
set_option linter.unusedSimpArgs false

/-- Layout's text, chosen ahead. -/
theorem Lay.text (F : Lay) (w : World) (TW : TabW w) (EW : ErrB w) (ng : Bool) (A : Option Addr) (n c : Nat) (xs : List Nat) (k : Int) (D : Dr w A n c xs) (hk : -9223372036854775808 ≤ k ∧ k ≤ 9223372036854775807) (S : ByteArray) (hS : Tx S (M.lyr ng xs k)) :
    Calls Tryz.prog 12 #[dv ng (.slice A n c) k] w (Str S w) :=
  (F.layout w ng A n c xs k TW EW D hk).mono fun _ _ ⟨s, e, h, u⟩ => ⟨by rw [e, Tx.uniq h hS], u⟩
theorem Dr.nw {w : World} {A : Option Addr} {n c : Nat} {xs : List Nat} (h : Dr w A n c xs) (hn : n ≤ 128) : Nw w 0 128 (.slice A n c) (M.val xs) := ⟨_, _, _, _, rfl, h.wd (by omega), rfl, hn⟩
theorem M.lyr_same {xs ys : List Nat} {ng g : Bool} {k j : Int} (h1 : M.rt xs k) (h2 : M.rt ys j) : M.lyr ng xs k = M.lyr g ys j ↔ ng = g ∧ k = j ∧ M.val xs = M.val ys := by
  unfold M.lyr
  rw [if_pos h1, if_pos h2]
  constructor
  · intro e
    obtain ⟨i1, i2, i3⟩ := M.ly_inj h1.2.lok h2.2.lok e
    exact ⟨i1, i3, i2⟩
  · rintro ⟨rfl, rfl, e⟩
    rw [e]

set_option maxHeartbeats 8000000 in
set_option maxRecDepth 100000 in
theorem lapart_walk (w : World) (TW : TabW w) (EW : ErrB w) (F : Lay) (ng : Bool) (A : Option Addr) (n c : Nat) (xs : List Nat) (D : Dr w A n c xs) (k : Int) (hk : -9223372036854775808 ≤ k ∧ k ≤ 9223372036854775807)
    (g : Bool) (B : Option Addr) (m d : Nat) (ys : List Nat) (E : Dr w B m d ys) (j : Int) (hj : -9223372036854775808 ≤ j ∧ j ≤ 9223372036854775807) :
    Calls Tryz.prog 7 #[dv ng (.slice A n c) k, dv g (.slice B m d) j] w (True12 w) := by
  obtain ⟨r, hr⟩ : ∃ r, decide (M.rt xs k) = r := ⟨_, rfl⟩
  obtain ⟨q, hq⟩ : ∃ q, decide (M.rt ys j) = q := ⟨_, rfl⟩
  have C1 : Hid (∀ W, Up w W → Calls Tryz.prog 10 #[dv ng (.slice A n c) k] W (Boo r W)) := fun W u => F.right W ng A n c xs k r (TW.up u) (EW.up u) (D.up u) hk (Lib.hid hr)
  have C2 : Hid (∀ W, Up w W → Calls Tryz.prog 10 #[dv g (.slice B m d) j] W (Boo q W)) := fun W u => F.right W g B m d ys j q (TW.up u) (EW.up u) (E.up u) hj (Lib.hid hq)
  have U := ((Up.refl w).alloc (.cells #[.bool ng, .slice A n c, .int .i64 k] 25)).alloc (.cells #[.bool g, .slice B m d, .int .i64 j] 25)
  have CS := Lib.hid (shown12_any F _ (TW.up U) (EW.up U))
  have BX := Ob.mk_ w 25 #[.bool ng, .slice A n c, .int .i64 k]
  have BY := Ob.mk_ (w.alloc (.cells #[.bool ng, .slice A n c, .int .i64 k] 25)) 25 #[.bool g, .slice B m d, .int .i64 j]
  rw [show (w.alloc (.cells #[.bool ng, .slice A n c, .int .i64 k] 25)).heap.size = w.heap.size + 1 from Array.size_push _] at BY
  replace BX := BX.up ((Up.refl _).alloc (.cells #[.bool g, .slice B m d, .int .i64 j] 25))
  rcases r with _ | _
  · clear hr hq D E hk hj F TW EW
    go_enter Tryz.func7, Tryz.ntmps7
    go_wp2_with fail
    refine CS.out.mono ?_
    rintro _ w1 ⟨rfl, u1⟩
    replace BX := BX.up u1
    have b0 := BX.get 0
    have b1 := BX.get 1
    have b2 := BX.get 2
    simp only [List.getElem?_toArray, List.getElem?_cons_zero, List.getElem?_cons_succ] at b0 b1 b2
    replace U := U.trans u1
    clear u1 BX BY CS
    go_wp2_with fail
    refine (C1.out _ U).mono ?_
    rintro _ w2 ⟨rfl, u2⟩
    go_wp2_with fail
    go_ret
    exact ⟨rfl, U.trans u2⟩
  · rcases q with _ | _
    · clear hr hq D E hk hj F TW EW
      go_enter Tryz.func7, Tryz.ntmps7
      go_wp2_with fail
      refine CS.out.mono ?_
      rintro _ w1 ⟨rfl, u1⟩
      replace BX := BX.up u1
      replace BY := BY.up u1
      have b0 := BX.get 0
      have b1 := BX.get 1
      have b2 := BX.get 2
      simp only [List.getElem?_toArray, List.getElem?_cons_zero, List.getElem?_cons_succ] at b0 b1 b2
      replace U := U.trans u1
      clear u1 CS
      go_wp2_with fail
      refine (C1.out _ U).mono ?_
      rintro _ w2 ⟨rfl, u2⟩
      replace BY := BY.up u2
      have y0 := BY.get 0
      have y1 := BY.get 1
      have y2 := BY.get 2
      simp only [List.getElem?_toArray, List.getElem?_cons_zero, List.getElem?_cons_succ] at y0 y1 y2
      replace U := U.trans u2
      clear u2 b0 b1 b2 BX BY C1
      go_wp2_with fail
      refine (C2.out _ U).mono ?_
      rintro _ w3 ⟨rfl, u3⟩
      go_wp2_with fail
      go_ret
      exact ⟨rfl, U.trans u3⟩
    · have hr2 : M.rt xs k := of_decide_eq_true hr
      have hq2 : M.rt ys j := of_decide_eq_true hq
      have hn : n ≤ 128 := by have := M.rt_len hr2; rw [D.num] at this; exact this
      have hm : m ≤ 128 := by have := M.rt_len hq2; rw [E.num] at this; exact this
      have hiff := M.lyr_same (ng := ng) (g := g) hr2 hq2
      obtain ⟨SA, hSA⟩ := tx_ex (M.lyr ng xs k)
      obtain ⟨SB, hSB⟩ := tx_ex (M.lyr g ys j)
      obtain ⟨e, he⟩ : ∃ e, decide (ng = g ∧ k = j ∧ M.val xs = M.val ys) = e := ⟨_, rfl⟩
      have hSS : (SA = SB ↔ e = true) := by
        rw [← he, decide_eq_true_iff, ← hiff]
        constructor
        · intro e1
          rw [← e1] at hSB
          exact (show SA.data.toList = _ from hSA).symm.trans hSB
        · intro e1
          exact Tx.uniq hSA (e1 ▸ hSB)
      have C3 : Hid (∀ W, Up w W → Calls Tryz.prog 12 #[dv ng (.slice A n c) k] W (Str SA W)) := fun W u => F.text W (TW.up u) (EW.up u) ng A n c xs k (D.up u) hk SA hSA
      have C4 : Hid (∀ W, Up w W → Calls Tryz.prog 12 #[dv g (.slice B m d) j] W (Str SB W)) := fun W u => F.text W (TW.up u) (EW.up u) g B m d ys j (E.up u) hj SB hSB
      have C5 : Hid (∀ W, Up w W → Calls Tryz.prog 15 #[dv ng (.slice A n c) k, dv g (.slice B m d) j] W (Boo e W)) := fun W u => same12_any W 0 0 128 128 ng g _ _ k j _ _ ((D.up u).nw hn) ((E.up u).nw hm) e (Lib.hid he)
      have C6 : Hid (∀ W, Up w W → Calls Tryz.prog 19 #[.slice A n c] W (fun e W' => ∃ A' n' c', e = .returned (.slice A' n' c') ∧ Up W W' ∧ ∀ W2, Up W' W2 → Calls Tryz.prog 12 #[dv ng (.slice A' n' c') k] W2 (Str SA W2))) := by
        intro W u
        refine (norm_any W _ _ _ _ ((D.up u).nw hn)).mono ?_
        rintro _ W' ⟨v, rfl, N, u'⟩
        obtain ⟨A', n', c', zs, rfl, h1, h2, h3, h4⟩ := N
        refine ⟨A', n', c', rfl, u', fun W2 u2 => ?_⟩
        refine F.text W2 (TW.up ((u.trans u').trans u2)) (EW.up ((u.trans u').trans u2)) ng A' n' c' zs k ((h1.up u2).dr (by omega)) hk SA ?_
        rw [M.lyr_nrm h4, h2, ← M.lyr_nrm hr2.1]
        exact hSA
      have d0 : (e == e) = true := by simp
      have HSS : Hid (SA = SB ↔ e = true) := hSS
      clear hr hq D E hk hj F TW EW hr2 hq2 hn hm hiff hSA hSB he hSS
      go_enter Tryz.func7, Tryz.ntmps7
      go_wp2_with fail
      refine CS.out.mono ?_
      rintro _ w1 ⟨rfl, u1⟩
      replace BX := BX.up u1
      replace BY := BY.up u1
      have b0 := BX.get 0
      have b1 := BX.get 1
      have b2 := BX.get 2
      simp only [List.getElem?_toArray, List.getElem?_cons_zero, List.getElem?_cons_succ] at b0 b1 b2
      replace U := U.trans u1
      clear u1 CS
      go_wp2_with fail
      refine (C1.out _ U).mono ?_
      rintro _ w2 ⟨rfl, u2⟩
      replace BX := BX.up u2
      replace BY := BY.up u2
      have y0 := BY.get 0
      have y1 := BY.get 1
      have y2 := BY.get 2
      simp only [List.getElem?_toArray, List.getElem?_cons_zero, List.getElem?_cons_succ] at y0 y1 y2
      replace U := U.trans u2
      clear u2 b0 b1 b2 C1
      go_wp2_with fail
      refine (C2.out _ U).mono ?_
      rintro _ w3 ⟨rfl, u3⟩
      replace BX := BX.up u3
      replace BY := BY.up u3
      replace U := U.trans u3
      clear u3 y0 y1 y2 C2
      have b0 := BX.get 0
      have b1 := BX.get 1
      have b2 := BX.get 2
      have y0 := BY.get 0
      have y1 := BY.get 1
      have y2 := BY.get 2
      simp only [List.getElem?_toArray, List.getElem?_cons_zero, List.getElem?_cons_succ] at b0 b1 b2 y0 y1 y2
      clear BX BY
      have V := Up.refl w3
      rcases e with _ | _
      · have hne : SA ≠ SB := fun h => absurd (HSS.out.1 h) (by simp)
        have hbe : (SA.toList == SB.toList) = false := by
          rw [beq_eq_false_iff_ne, Lib.toList_data, Lib.toList_data]
          exact fun h => hne (ByteArray.ext (Array.toList_inj.1 h))
        clear HSS
        go_wp2_with fail
        go_region_held3 (fun w' => w'.cell? ⟨w.heap.size, 0, none⟩ = some (.bool ng) ∧ w'.cell? ⟨w.heap.size, 1, none⟩ = some (.slice A n c) ∧ w'.cell? ⟨w.heap.size, 2, none⟩ = some (.int .i64 k) ∧ w'.cell? ⟨w.heap.size + 1, 0, none⟩ = some (.bool g) ∧ w'.cell? ⟨w.heap.size + 1, 1, none⟩ = some (.slice B m d) ∧ w'.cell? ⟨w.heap.size + 1, 2, none⟩ = some (.int .i64 j)) (go_keep) (first
          | (go_at_call 12; (with_reducible refine (C3.out _ ?_).mono ?_); (first | with_reducible assumption | exact U.drewN _ | exact uA.drewN _ | exact uB.drewN _ | exact uC.drewN _ | exact uE.drewN _ | exact uF.drewN _); rintro _ wA ⟨rfl, hua⟩; have uA : Up w wA := Up.trans (by first | with_reducible assumption | exact U.drewN _ | exact uA.drewN _ | exact uB.drewN _ | exact uC.drewN _ | exact uE.drewN _ | exact uF.drewN _) hua; have vA : Up w3 wA := Up.trans (by first | with_reducible assumption | exact V.drewN _ | exact vA.drewN _ | exact vB.drewN _ | exact vC.drewN _ | exact vE.drewN _ | exact vF.drewN _) hua; have b0A := cell_up vA b0; have b1A := cell_up vA b1; have b2A := cell_up vA b2; have y0A := cell_up vA y0; have y1A := cell_up vA y1; have y2A := cell_up vA y2)
          | (go_at_call 12; (with_reducible refine (C4.out _ ?_).mono ?_); (first | with_reducible assumption | exact U.drewN _ | exact uA.drewN _ | exact uB.drewN _ | exact uC.drewN _ | exact uE.drewN _ | exact uF.drewN _); rintro _ wB ⟨rfl, hub⟩; have uB : Up w wB := Up.trans (by first | with_reducible assumption | exact U.drewN _ | exact uA.drewN _ | exact uB.drewN _ | exact uC.drewN _ | exact uE.drewN _ | exact uF.drewN _) hub; have vB : Up w3 wB := Up.trans (by first | with_reducible assumption | exact V.drewN _ | exact vA.drewN _ | exact vB.drewN _ | exact vC.drewN _ | exact vE.drewN _ | exact vF.drewN _) hub; have b0B := cell_up vB b0; have b1B := cell_up vB b1; have b2B := cell_up vB b2; have y0B := cell_up vB y0; have y1B := cell_up vB y1; have y2B := cell_up vB y2)
          | (go_at_call 15; (with_reducible refine (C5.out _ ?_).mono ?_); (first | with_reducible assumption | exact U.drewN _ | exact uA.drewN _ | exact uB.drewN _ | exact uC.drewN _ | exact uE.drewN _ | exact uF.drewN _); rintro _ wC ⟨rfl, huc⟩; have uC : Up w wC := Up.trans (by first | with_reducible assumption | exact U.drewN _ | exact uA.drewN _ | exact uB.drewN _ | exact uC.drewN _ | exact uE.drewN _ | exact uF.drewN _) huc; have vC : Up w3 wC := Up.trans (by first | with_reducible assumption | exact V.drewN _ | exact vA.drewN _ | exact vB.drewN _ | exact vC.drewN _ | exact vE.drewN _ | exact vF.drewN _) huc; have b0C := cell_up vC b0; have b1C := cell_up vC b1; have b2C := cell_up vC b2; have y0C := cell_up vC y0; have y1C := cell_up vC y1; have y2C := cell_up vC y2)
          | (go_at_call 19; (with_reducible refine (C6.out _ ?_).mono ?_); (first | with_reducible assumption | exact U.drewN _ | exact uA.drewN _ | exact uB.drewN _ | exact uC.drewN _ | exact uE.drewN _ | exact uF.drewN _); rintro _ wE ⟨nA, nn, nc, rfl, hue, CN0⟩; have uE : Up w wE := Up.trans (by first | with_reducible assumption | exact U.drewN _ | exact uA.drewN _ | exact uB.drewN _ | exact uC.drewN _ | exact uE.drewN _ | exact uF.drewN _) hue; have vE : Up w3 wE := Up.trans (by first | with_reducible assumption | exact V.drewN _ | exact vA.drewN _ | exact vB.drewN _ | exact vC.drewN _ | exact vE.drewN _ | exact vF.drewN _) hue; have b0E := cell_up vE b0; have b1E := cell_up vE b1; have b2E := cell_up vE b2; have y0E := cell_up vE y0; have y1E := cell_up vE y1; have y2E := cell_up vE y2; have CN := Lib.hid CN0; clear CN0)
          | (go_at_call 12; (with_reducible refine (CN.out _ ?_).mono ?_); (first | with_reducible assumption | exact Up.refl _ | exact (Up.refl _).drewN _); rintro _ wF ⟨rfl, huf⟩; have uF : Up w wF := Up.trans (by first | with_reducible assumption | exact U.drewN _ | exact uA.drewN _ | exact uB.drewN _ | exact uC.drewN _ | exact uE.drewN _ | exact uF.drewN _) huf; have vF : Up w3 wF := Up.trans (by first | with_reducible assumption | exact V.drewN _ | exact vA.drewN _ | exact vB.drewN _ | exact vC.drewN _ | exact vE.drewN _ | exact vF.drewN _) huf; have b0F := cell_up vF b0; have b1F := cell_up vF b1; have b2F := cell_up vF b2; have y0F := cell_up vF y0; have y1F := cell_up vF y1; have y2F := cell_up vF y2))
        go_wp2_with fail
        go_ret
        exact ⟨rfl, by first | exact uF | exact uF.drewN _⟩
      · obtain rfl := HSS.out.2 rfl
        clear HSS
        go_wp2_with fail
        go_region_held3 (fun w' => w'.cell? ⟨w.heap.size, 0, none⟩ = some (.bool ng) ∧ w'.cell? ⟨w.heap.size, 1, none⟩ = some (.slice A n c) ∧ w'.cell? ⟨w.heap.size, 2, none⟩ = some (.int .i64 k) ∧ w'.cell? ⟨w.heap.size + 1, 0, none⟩ = some (.bool g) ∧ w'.cell? ⟨w.heap.size + 1, 1, none⟩ = some (.slice B m d) ∧ w'.cell? ⟨w.heap.size + 1, 2, none⟩ = some (.int .i64 j)) (go_keep) (first
          | (go_at_call 12; (with_reducible refine (C3.out _ ?_).mono ?_); (first | with_reducible assumption | exact U.drewN _ | exact uA.drewN _ | exact uB.drewN _ | exact uC.drewN _ | exact uE.drewN _ | exact uF.drewN _); rintro _ wA ⟨rfl, hua⟩; have uA : Up w wA := Up.trans (by first | with_reducible assumption | exact U.drewN _ | exact uA.drewN _ | exact uB.drewN _ | exact uC.drewN _ | exact uE.drewN _ | exact uF.drewN _) hua; have vA : Up w3 wA := Up.trans (by first | with_reducible assumption | exact V.drewN _ | exact vA.drewN _ | exact vB.drewN _ | exact vC.drewN _ | exact vE.drewN _ | exact vF.drewN _) hua; have b0A := cell_up vA b0; have b1A := cell_up vA b1; have b2A := cell_up vA b2; have y0A := cell_up vA y0; have y1A := cell_up vA y1; have y2A := cell_up vA y2)
          | (go_at_call 12; (with_reducible refine (C4.out _ ?_).mono ?_); (first | with_reducible assumption | exact U.drewN _ | exact uA.drewN _ | exact uB.drewN _ | exact uC.drewN _ | exact uE.drewN _ | exact uF.drewN _); rintro _ wB ⟨rfl, hub⟩; have uB : Up w wB := Up.trans (by first | with_reducible assumption | exact U.drewN _ | exact uA.drewN _ | exact uB.drewN _ | exact uC.drewN _ | exact uE.drewN _ | exact uF.drewN _) hub; have vB : Up w3 wB := Up.trans (by first | with_reducible assumption | exact V.drewN _ | exact vA.drewN _ | exact vB.drewN _ | exact vC.drewN _ | exact vE.drewN _ | exact vF.drewN _) hub; have b0B := cell_up vB b0; have b1B := cell_up vB b1; have b2B := cell_up vB b2; have y0B := cell_up vB y0; have y1B := cell_up vB y1; have y2B := cell_up vB y2)
          | (go_at_call 15; (with_reducible refine (C5.out _ ?_).mono ?_); (first | with_reducible assumption | exact U.drewN _ | exact uA.drewN _ | exact uB.drewN _ | exact uC.drewN _ | exact uE.drewN _ | exact uF.drewN _); rintro _ wC ⟨rfl, huc⟩; have uC : Up w wC := Up.trans (by first | with_reducible assumption | exact U.drewN _ | exact uA.drewN _ | exact uB.drewN _ | exact uC.drewN _ | exact uE.drewN _ | exact uF.drewN _) huc; have vC : Up w3 wC := Up.trans (by first | with_reducible assumption | exact V.drewN _ | exact vA.drewN _ | exact vB.drewN _ | exact vC.drewN _ | exact vE.drewN _ | exact vF.drewN _) huc; have b0C := cell_up vC b0; have b1C := cell_up vC b1; have b2C := cell_up vC b2; have y0C := cell_up vC y0; have y1C := cell_up vC y1; have y2C := cell_up vC y2)
          | (go_at_call 19; (with_reducible refine (C6.out _ ?_).mono ?_); (first | with_reducible assumption | exact U.drewN _ | exact uA.drewN _ | exact uB.drewN _ | exact uC.drewN _ | exact uE.drewN _ | exact uF.drewN _); rintro _ wE ⟨nA, nn, nc, rfl, hue, CN0⟩; have uE : Up w wE := Up.trans (by first | with_reducible assumption | exact U.drewN _ | exact uA.drewN _ | exact uB.drewN _ | exact uC.drewN _ | exact uE.drewN _ | exact uF.drewN _) hue; have vE : Up w3 wE := Up.trans (by first | with_reducible assumption | exact V.drewN _ | exact vA.drewN _ | exact vB.drewN _ | exact vC.drewN _ | exact vE.drewN _ | exact vF.drewN _) hue; have b0E := cell_up vE b0; have b1E := cell_up vE b1; have b2E := cell_up vE b2; have y0E := cell_up vE y0; have y1E := cell_up vE y1; have y2E := cell_up vE y2; have CN := Lib.hid CN0; clear CN0)
          | (go_at_call 12; (with_reducible refine (CN.out _ ?_).mono ?_); (first | with_reducible assumption | exact Up.refl _ | exact (Up.refl _).drewN _); rintro _ wF ⟨rfl, huf⟩; have uF : Up w wF := Up.trans (by first | with_reducible assumption | exact U.drewN _ | exact uA.drewN _ | exact uB.drewN _ | exact uC.drewN _ | exact uE.drewN _ | exact uF.drewN _) huf; have vF : Up w3 wF := Up.trans (by first | with_reducible assumption | exact V.drewN _ | exact vA.drewN _ | exact vB.drewN _ | exact vC.drewN _ | exact vE.drewN _ | exact vF.drewN _) huf; have b0F := cell_up vF b0; have b1F := cell_up vF b1; have b2F := cell_up vF b2; have y0F := cell_up vF y0; have y1F := cell_up vF y1; have y2F := cell_up vF y2))
        go_wp2_with fail
        go_ret
        exact ⟨rfl, by first | exact uF | exact uF.drewN _⟩
end Go.Proofs.YtkhnobogaiaogaaGreatDoor
