/-
  QuireOrder: its walk.
-/
import Derived.Test.YtijpffgocookaaaGreatDoorYf
import Derived.Deep.RegionHeld3
import Derived.Deep.DeepCutAuto
namespace Go.Proofs.YtijpffgocookaaaGreatDoor
open Go.RowKit Go.Shelf
set_option linter.unusedVariables false
set_option linter.unusedSimpArgs false

section
variable {Is : Nat → Nat → Nat → Thg}
set_option maxHeartbeats 4000000 in
set_option maxRecDepth 100000 in
theorem qorder_walk (Q : Qui Is) (w : World) (TT : Hid (Tz w)) (TF : Hid (TabF w)) (x0 : Int) (_wx0 : (Lit.int .i64 x0).wf = true) (A : Option Addr) (n c : Nat) (K : Nat → Int) (P R : Nat → Nat) (h : Stps w A n c K P R) : Calls Tryz.prog 4 #[.int .i64 x0, .slice A n c] w (True15 w) := by
  have CH := Lib.hid (fun W (u : Up w W) => shown15_any Q W (Lib.hid (TT.out.up u)) (Lib.hid (TF.out.up u)))
  have U := Up.refl w
  by_cases hi : 1 ≤ x0 ∧ x0 ≤ 4
  · obtain ⟨i, rfl⟩ : ∃ i : Nat, x0 = (i : Int) := ⟨x0.toNat, by omega⟩
    have i1 : Hid (1 ≤ i) := Lib.hid (show 1 ≤ i by omega)
    have i2 : Hid (i ≤ 4) := Lib.hid (show i ≤ 4 by omega)
    clear hi
    have hnc := h.len
    have HM := Lib.hid h.at_
    clear h
    have hq := fun j => M.qa_ex i1.out i2.out (P j) (R j)
    obtain ⟨o, ho⟩ : ∃ o : Nat → Option Nat, ∀ j, ∃ y, M.Qa i (P j) (R j) (o j) y := ⟨fun j => Classical.choose (hq j), fun j => Classical.choose_spec (hq j)⟩
    have HQ := Lib.hid ho
    clear hq ho
    obtain ⟨f, hf⟩ : ∃ f : Nat → Nat, (fun j => M.dlt (o j)) = f := ⟨_, rfl⟩
    have HF : Hid (∀ j, M.dlt (o j) = f j) := Lib.hid (fun j => by rw [← hf])
    clear hf
    obtain ⟨N, hN⟩ : ∃ N : Nat, min (n : Int) 60 = (N : Int) := ⟨min n 60, by omega⟩
    have hNn : N ≤ n := by omega
    have hN6 : N ≤ 60 := by omega
    obtain ⟨g, hg⟩ : ∃ g : Nat → Nat, (fun j => f (N - 1 - j)) = g := ⟨_, rfl⟩
    have HG : Hid (∀ j, f (N - 1 - j) = g j) := Lib.hid (fun j => by rw [← hg])
    have HE : Hid (M.Sm g N = M.Sm f N) := by show _ = _; rw [← hg]; exact M.sm_rev f N
    clear hg
    have H0 : Hid (0 ≠ M.qn i) := Lib.hid (show 0 ≠ M.qn i by have := M.qn_pos i; omega)
    go_enter Tryz.func4, Tryz.ntmps4
    go_wp2_with fail
    refine (CH.out _ (by first | exact U | exact U.drew | exact U.drewN _)).mono ?_
    rintro _ w1 ⟨rfl, h1⟩
    replace U := Up.trans (by first | exact U | exact U.drew | exact U.drewN _) h1
    have S := Sd3.start U
    clear CH h1 U
    go_wp2_with fail
    refine (Q.fresh_ TF.out (by first | exact S | exact S.pure ((Up.refl _).drew) | exact S.pure ((Up.refl _).drewN _)) i1.out i2.out).mono ?_
    clear S
    rintro _ w2 ⟨p1, rfl, S⟩
    replace S := S.swap2
    go_wp2_with fail
    refine (Q.fresh_ TF.out (by first | exact S | exact S.pure ((Up.refl _).drew) | exact S.pure ((Up.refl _).drewN _)) i1.out i2.out).mono ?_
    clear S
    rintro _ w3 ⟨p2, rfl, S⟩
    replace S := S.swap2
    go_wp2_with fail
    go_loopw [11, 12] (fun nv iv wr => ∃ (j ba bb : Nat) (nr : Bool), iv = .int .i64 (j : Int) ∧ nv = .bool nr ∧ j ≤ N ∧ Sd3 w wr (Is p1 i ba) (Is p2 i bb) Non ∧ Hid (nr = false → (ba ≠ M.qn i ∧ ba = M.Sm f j % 2 ^ M.qS i) ∧ (bb ≠ M.qn i ∧ bb = M.Sm g j % 2 ^ M.qS i))) (fun _ iv _ => N - (intOf iv).toNat)
    case atStart => exact ⟨0, 0, 0, false, rfl, rfl, Nat.zero_le _, (by first | exact S | exact S.pure ((Up.refl _).drew) | exact S.pure ((Up.refl _).drewN _)), fun _ => ⟨⟨H0.out, (Nat.zero_mod _).symm⟩, ⟨H0.out, (Nat.zero_mod _).symm⟩⟩⟩
    case round =>
      clear S
      obtain ⟨j, ba, bb, nr, rfl, rfl, hj, S, HI⟩ := hrel
      by_cases jn : j < N
      · have e1 : (j : Int) < (N : Int) := by omega
        obtain ⟨b, oo, rfl, hc⟩ := HM.out (by omega)
        obtain ⟨r, hr⟩ : ∃ r, N - 1 - j = r := ⟨_, rfl⟩
        obtain ⟨N1, hN1⟩ : ∃ N1, N - 1 = N1 := ⟨_, rfl⟩
        have q1 : (N : Int) - 1 = (N1 : Int) := by omega
        have q2 : (N1 : Int) - (j : Int) = (r : Int) := by omega
        have rn : r < n := by omega
        have w1 : IntKind.i64.wrap ((N : Int) - 1) = (N1 : Int) := by rw [q1]; exact IntWalk.i64_in _ (by omega)
        have w2 : IntKind.i64.wrap ((N1 : Int) - (j : Int)) = (r : Int) := by rw [q2]; exact IntWalk.i64_in _ (by omega)
        have w3 : IntKind.i64.wrap (N1 : Int) = (N1 : Int) := IntWalk.i64_in _ (by omega)
        have w4 : IntKind.i64.wrap (r : Int) = (r : Int) := IntWalk.i64_in _ (by omega)
        have w5 : (r : Int) < (n : Int) := by omega
        have w6 : (0 : Int) ≤ (r : Int) := by omega
        have jn' : j < n := by omega
        obtain ⟨_, hc1, hc2, hP, hR⟩ := hc j (by omega)
        obtain ⟨_, hd1, hd2, gP, gR⟩ := hc r (by omega)
        obtain ⟨a, ha⟩ : ∃ a, P j = a := ⟨_, rfl⟩
        obtain ⟨d, hd⟩ : ∃ d, R j = d := ⟨_, rfl⟩
        obtain ⟨a', ha'⟩ : ∃ a', P r = a' := ⟨_, rfl⟩
        obtain ⟨d', hd'⟩ : ∃ d', R r = d' := ⟨_, rfl⟩
        obtain ⟨y1, h1⟩ := HQ.out j
        obtain ⟨y2, h2⟩ := HQ.out r
        rw [ha] at hc1 hP h1
        rw [hd] at hc2 hR h1
        rw [ha'] at hd1 gP h2
        rw [hd'] at hd2 gR h2
        have HA := Lib.hid h1
        have HB := Lib.hid h2
        have hs1 : nr = false → M.qst i ba (o j) ≠ M.qn i → M.qst i ba (o j) = M.Sm f (j + 1) % 2 ^ M.qS i := fun e k => by
          obtain ⟨⟨u1, u2⟩, _⟩ := HI.out e
          exact M.sm_step u2 u1 (HF.out j) k
        have hs2 : nr = false → M.qst i bb (o r) ≠ M.qn i → M.qst i bb (o r) = M.Sm g (j + 1) % 2 ^ M.qS i := fun e k => by
          obtain ⟨_, u1, u2⟩ := HI.out e
          exact M.sm_step u2 u1 (by rw [HF.out r, ← HG.out j, hr]) k
        have H1 := Lib.hid hs1
        have H2 := Lib.hid hs2
        have HR := Lib.hid hr
        clear h1 h2 hs1 hs2 hr hN1 ha hd ha' hd' hc HM HQ HI
        have f1 := cell_up S.up hc1
        have f2 := cell_up S.up hc2
        have f3 := cell_up S.up hd1
        have f4 := cell_up S.up hd2
        go_wp2_with fail
        go_region_held3 (fun w' => w'.cell? ⟨b, oo + j * 8 + 1, none⟩ = some (.int .u64 (a : Int)) ∧ w'.cell? ⟨b, oo + j * 8 + 2, none⟩ = some (.int .u64 (d : Int))) (go_keep) (first
          | (go_at_call 16; (with_reducible refine (Q.add_ TT.out TF.out (by first | exact S | exact S.pure ((Up.refl _).drew) | exact S.pure ((Up.refl _).drewN _)) a d hP hR _ _ HA.out).mono ?_); rintro _ w4 ⟨rfl, S⟩; have t1 := cell_up S.up hc1; have t2 := cell_up S.up hc2; have t3 := cell_up S.up hd1; have t4 := cell_up S.up hd2))
        go_wp2_with fail
        replace S := S.swap2
        go_region_held3 (fun w' => w'.cell? ⟨b, oo + r * 8 + 1, none⟩ = some (.int .u64 (a' : Int)) ∧ w'.cell? ⟨b, oo + r * 8 + 2, none⟩ = some (.int .u64 (d' : Int))) (go_keep) (first
          | (go_at_call 16; (with_reducible refine (Q.add_ TT.out TF.out (by first | exact S | exact S.pure ((Up.refl _).drew) | exact S.pure ((Up.refl _).drewN _)) a' d' gP gR _ _ HB.out).mono ?_); rintro _ w5 ⟨rfl, S⟩; have t1 := cell_up S.up hc1; have t2 := cell_up S.up hc2; have t3 := cell_up S.up hd1; have t4 := cell_up S.up hd2))
        replace S := S.swap2
        rcases (show nr = true ∨ nr = false by cases nr <;> simp) with rfl | rfl
        · go_wp2_with fail
          go_roundw
          case rel => exact ⟨j + 1, _, _, true, by go_num, rfl, by omega, (by first | exact S | exact S.pure ((Up.refl _).drew) | exact S.pure ((Up.refl _).drewN _)), fun e => by cases e⟩
          case measure => simp [intOf]; omega
        · by_cases k1 : M.qst i ba (o j) = M.qn i
          · have K1 := Lib.hid k1
            clear k1
            go_wp2_with fail
            refine (Q.nar_ TT.out TF.out (by first | exact S | exact S.pure ((Up.refl _).drew) | exact S.pure ((Up.refl _).drewN _)) true (decide_eq_true K1.out)).mono ?_
            clear S
            rintro _ w11 ⟨rfl, S⟩
            go_wp2_with fail
            go_roundw
            case rel => exact ⟨j + 1, _, _, true, by go_num, rfl, by omega, (by first | exact S | exact S.pure ((Up.refl _).drew) | exact S.pure ((Up.refl _).drewN _)), fun e => by cases e⟩
            case measure => simp [intOf]; omega
          · by_cases k2 : M.qst i bb (o r) = M.qn i
            · have K1 := Lib.hid k1
              have K2 := Lib.hid k2
              clear k1 k2
              go_wp2_with fail
              refine (Q.nar_ TT.out TF.out (by first | exact S | exact S.pure ((Up.refl _).drew) | exact S.pure ((Up.refl _).drewN _)) false (decide_eq_false K1.out)).mono ?_
              clear S
              rintro _ w11 ⟨rfl, S⟩
              replace S := S.swap2
              go_wp2_with fail
              refine (Q.nar_ TT.out TF.out (by first | exact S | exact S.pure ((Up.refl _).drew) | exact S.pure ((Up.refl _).drewN _)) true (decide_eq_true K2.out)).mono ?_
              clear S
              rintro _ w12 ⟨rfl, S⟩
              replace S := S.swap2
              go_wp2_with fail
              go_roundw
              case rel => exact ⟨j + 1, _, _, true, by go_num, rfl, by omega, (by first | exact S | exact S.pure ((Up.refl _).drew) | exact S.pure ((Up.refl _).drewN _)), fun e => by cases e⟩
              case measure => simp [intOf]; omega
            · have K1 := Lib.hid k1
              have K2 := Lib.hid k2
              clear k1 k2
              go_wp2_with fail
              refine (Q.nar_ TT.out TF.out (by first | exact S | exact S.pure ((Up.refl _).drew) | exact S.pure ((Up.refl _).drewN _)) false (decide_eq_false K1.out)).mono ?_
              clear S
              rintro _ w11 ⟨rfl, S⟩
              replace S := S.swap2
              go_wp2_with fail
              refine (Q.nar_ TT.out TF.out (by first | exact S | exact S.pure ((Up.refl _).drew) | exact S.pure ((Up.refl _).drewN _)) false (decide_eq_false K2.out)).mono ?_
              clear S
              rintro _ w12 ⟨rfl, S⟩
              replace S := S.swap2
              go_wp2_with fail
              go_roundw
              case rel => exact ⟨j + 1, _, _, false, by go_num, rfl, by omega, (by first | exact S | exact S.pure ((Up.refl _).drew) | exact S.pure ((Up.refl _).drewN _)), fun _ => ⟨⟨K1.out, H1.out (by first | rfl | trivial) K1.out⟩, K2.out, H2.out (by first | rfl | trivial) K2.out⟩⟩
              case measure => simp [intOf]; omega
      · obtain rfl : j = N := by omega
        rcases (show nr = true ∨ nr = false by cases nr <;> simp) with rfl | rfl
        · go_wp2_with fail
          go_ret
          exact ⟨by first | rfl | simp, by first | exact S.up | exact S.up.drew | exact S.up.drewN _⟩
        · have EE : Hid (ba = bb) := by
            obtain ⟨⟨_, u1⟩, _, u2⟩ := HI.out rfl
            show _ = _
            rw [u1, u2, HE.out]
          go_wp2_with fail
          refine (Q.bits_ TT.out TF.out (by first | exact S | exact S.pure ((Up.refl _).drew) | exact S.pure ((Up.refl _).drewN _))).mono ?_
          clear S
          rintro _ w26 ⟨v1, rfl, hn1, u1, S⟩
          obtain ⟨A1, m1, d1_, rfl⟩ := hn1.sl
          clear u1
          replace S := S.swap2
          go_wp2_with fail
          refine (Q.bits_ TT.out TF.out (by first | exact S | exact S.pure ((Up.refl _).drew) | exact S.pure ((Up.refl _).drewN _))).mono ?_
          clear S
          rintro _ w27 ⟨v2, rfl, hn2, u2, S⟩
          replace hn1 := hn1.up (Up.trans (by first | exact Up.refl _ | exact (Up.refl _).drew | exact (Up.refl _).drewN _) u2)
          obtain ⟨A2, m2, d2_, rfl⟩ := hn2.sl
          clear u2
          go_wp2_with fail
          refine (bits15_any _ _ _ _ _ _ _ _ _ _ _ _ _ (by first | exact hn1 | exact hn1.up ((Up.refl _).drew) | exact hn1.up ((Up.refl _).drewN _)) (by first | exact hn2 | exact hn2.up ((Up.refl _).drew) | exact hn2.up ((Up.refl _).drewN _)) (by decide) (by decide) true (decide_eq_true EE.out)).mono ?_
          rintro _ w28 ⟨rfl, u28⟩
          replace S := S.pure (Up.trans (by first | exact Up.refl _ | exact (Up.refl _).drew | exact (Up.refl _).drewN _) u28)
          clear u28 hn1
          clear hn2
          go_wp2_with fail
          go_ret
          exact ⟨by first | rfl | simp, by first | exact S.up | exact S.up.drew | exact S.up.drewN _⟩
  · clear h
    have HI := Lib.hid hi
    clear hi
    go_enter Tryz.func4, Tryz.ntmps4
    go_wp2_with fail
    refine (CH.out _ (by first | exact U | exact U.drew | exact U.drewN _)).mono ?_
    rintro _ w1 ⟨rfl, h1⟩
    replace U := Up.trans (by first | exact U | exact U.drew | exact U.drewN _) h1
    have S := Sd3.start U
    clear CH h1 U
    go_wp2_with fail
    refine (Q.none_ _ (TF.out.up (by first | exact S.up | exact S.up.drew | exact S.up.drewN _)) x0 HI.out).mono ?_
    rintro _ w2 ⟨rfl, u⟩
    replace S := S.pure (Up.trans (by first | exact Up.refl _ | exact (Up.refl _).drew | exact (Up.refl _).drewN _) u)
    clear u
    go_wp2_with fail
    refine (Q.none_ _ (TF.out.up (by first | exact S.up | exact S.up.drew | exact S.up.drewN _)) x0 HI.out).mono ?_
    rintro _ w3 ⟨rfl, u⟩
    replace S := S.pure (Up.trans (by first | exact Up.refl _ | exact (Up.refl _).drew | exact (Up.refl _).drewN _) u)
    clear u
    go_wp2_with fail
    go_ret
    exact ⟨by first | rfl | simp, by first | exact S.up | exact S.up.drew | exact S.up.drewN _⟩
end
end Go.Proofs.YtijpffgocookaaaGreatDoor
