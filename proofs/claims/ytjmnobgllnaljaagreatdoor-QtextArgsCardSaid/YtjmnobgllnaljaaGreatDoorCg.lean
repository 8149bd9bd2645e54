/-
  QtextArgs: its walk.
-/
import Derived.Test.YtjmnobgllnaljaaGreatDoorCe
namespace Go.Proofs.YtjmnobgllnaljaaGreatDoor
open Go.RowKit Go.Shelf
set_option linter.unusedVariables false
set_option linter.unusedSimpArgs false

theorem M.qr_nought {e : Int} (he : -1200 ≤ e ∧ e ≤ 1200) : M.Qr [48] e false 0 0 :=
  .inr ⟨he, .inr ⟨false, 0, 0, 0, false, ⟨_, rfl, by rfl⟩, .inr ⟨0, rfl, rfl, by rw [M.ys_zero.2 rfl, M.ys_zero.2 rfl], .inr ⟨M.lt_2048 (k := 1) (by decide) (by decide), rfl, rfl, rfl⟩⟩⟩⟩
theorem M.qp_ne (neg : Bool) {n : Nat} {k : Int} (h : M.Lok n k) : M.qp neg n k ≠ [] := by
  unfold M.qp
  rcases h with ⟨h1, _⟩ | ⟨h1, h2⟩
  · rw [if_pos h1]; simp
  · rw [if_neg h1]
    have hc := (M.cl_dec h1 h2).ne
    unfold M.qpb
    split
    · simp
    · split
      · simp [hc]
      · simp
set_option maxHeartbeats 8000000 in
set_option maxRecDepth 100000 in
theorem qtargs_walk (F : Qtx) (w : World) (L : Lt w) (x0 : Bool) (A : Option Addr) (n c : Nat) (xs : List Nat) (h : Src w A n c xs) (hz : Fz w A n) (x2 : Int) (_wx2 : (Lit.int .i64 x2).wf = true) : Calls Tryz.prog 6 #[.bool x0, .slice A n c, .int .i64 x2] w (True16 w) := by
  have CH := Lib.hid (fun W (u : Up w W) => shown16_any F W (L.up u))
  have U := Up.refl w
  obtain ⟨a, ha, CF⟩ := few16_ex w A n c xs h hz 34 (by decide)
  have hx := wf_i64 _wx2
  obtain ⟨B, hB⟩ : ∃ B : Nat, M.bits a = B := ⟨_, rfl⟩
  have CB := Lib.hid (fun W lo v (N : Nt W lo 34 v a) => bits_at2 W lo 34 v a (B : Int) N.nw (Lib.hid (by rw [hB])))
  have hBT : a < 2 ^ 2048 ↔ B ≤ 2048 := by
    rw [← hB]
    exact ⟨fun h => M.bits_le_of_lt h, fun h => M.lt_2048 (M.bits_lt a) h⟩
  clear h hz ha hB
  rcases (show x2 < -1200 ∨ (¬ x2 < -1200 ∧ 1200 < x2) ∨ (¬ x2 < -1200 ∧ ¬ 1200 < x2) by omega) with f1 | ⟨f1, f2⟩ | ⟨f1, f2⟩
  · have d1 : decide (x2 < -1200) = true := decide_eq_true f1
    have C1 := Lib.hid (fun W (u : Up w W) lo v (N : Nt W lo 34 v a) => (F.text W (L.up u) x0 lo v a x2 (N.more (by decide)) _wx2 [] 1 (.inl ⟨fun h => by omega, rfl, rfl⟩)).mono fun _ _ h => h.lit)
    have C2 := Lib.hid (fun W (u : Up w W) => show Calls Tryz.prog 13 #[.string ⟨#[48]⟩, .int .i64 x2] W (Prq false 0 1 W) from F.parse W (L.up u) ⟨#[48]⟩ [48] x2 rfl (by decide) _wx2 false 0 1 (.inl ⟨fun h => by omega, rfl, rfl, rfl⟩))
    clear f1
    clear hBT _wx2 hx F L
    go_enter Tryz.func6, Tryz.ntmps6
    go_wp2_with fail
    refine (CH.out _ (by first | exact U | exact U.drew | exact U.drewN _)).mono ?_
    rintro _ w1 ⟨rfl, h1⟩
    replace U := Up.trans (by first | exact U | exact U.drew | exact U.drewN _) h1
    clear h1
    go_wp2_with fail
    refine (CF.out _ (by first | exact U | exact U.drew | exact U.drewN _)).mono ?_
    rintro _ w2 ⟨vN, rfl, N, h2⟩
    replace U := Up.trans (by first | exact U | exact U.drew | exact U.drewN _) h2
    clear h2
    obtain ⟨AN, nN, cN, rfl, N⟩ := N.slr
    go_wp2_with fail
    refine (C1.out _ (by first | exact U | exact U.drew | exact U.drewN _) _ _ (by first | exact N | exact N.up ((Up.refl _).drew) | exact N.up ((Up.refl _).drewN _))).mono ?_
    rintro _ w3 ⟨rfl, h3⟩
    replace U := Up.trans (by first | exact U | exact U.drew | exact U.drewN _) h3
    replace N := N.up (Up.trans (by first | exact Up.refl _ | exact (Up.refl _).drew | exact (Up.refl _).drewN _) h3)
    clear h3
    go_wp2_with fail
    refine (C2.out _ (by first | exact U | exact U.drew | exact U.drewN _)).mono ?_
    rintro _ w4 ⟨vM_, rfl, M_, h4⟩
    replace U := Up.trans (by first | exact U | exact U.drew | exact U.drewN _) h4
    replace N := N.up (Up.trans (by first | exact Up.refl _ | exact (Up.refl _).drew | exact (Up.refl _).drewN _) h4)
    clear h4
    obtain ⟨AM_, nM_, cM_, rfl, M_⟩ := M_.slr
    go_wp2_with fail
    go_ret
    exact ⟨by first | rfl | (simp; done) | (simp; assumption) | (simp; omega), by first | exact U | exact U.drew | exact U.drewN _⟩
  · have d1 : decide (x2 < -1200) = false := decide_eq_false f1
    have d2 : decide (1200 < x2) = true := decide_eq_true f2
    have C1 := Lib.hid (fun W (u : Up w W) lo v (N : Nt W lo 34 v a) => (F.text W (L.up u) x0 lo v a x2 (N.more (by decide)) _wx2 [] 1 (.inl ⟨fun h => by omega, rfl, rfl⟩)).mono fun _ _ h => h.lit)
    have C2 := Lib.hid (fun W (u : Up w W) => show Calls Tryz.prog 13 #[.string ⟨#[48]⟩, .int .i64 x2] W (Prq false 0 1 W) from F.parse W (L.up u) ⟨#[48]⟩ [48] x2 rfl (by decide) _wx2 false 0 1 (.inl ⟨fun h => by omega, rfl, rfl, rfl⟩))
    clear f1 f2
    clear hBT _wx2 hx F L
    go_enter Tryz.func6, Tryz.ntmps6
    go_wp2_with fail
    refine (CH.out _ (by first | exact U | exact U.drew | exact U.drewN _)).mono ?_
    rintro _ w1 ⟨rfl, h1⟩
    replace U := Up.trans (by first | exact U | exact U.drew | exact U.drewN _) h1
    clear h1
    go_wp2_with fail
    refine (CF.out _ (by first | exact U | exact U.drew | exact U.drewN _)).mono ?_
    rintro _ w2 ⟨vN, rfl, N, h2⟩
    replace U := Up.trans (by first | exact U | exact U.drew | exact U.drewN _) h2
    clear h2
    obtain ⟨AN, nN, cN, rfl, N⟩ := N.slr
    go_wp2_with fail
    refine (C1.out _ (by first | exact U | exact U.drew | exact U.drewN _) _ _ (by first | exact N | exact N.up ((Up.refl _).drew) | exact N.up ((Up.refl _).drewN _))).mono ?_
    rintro _ w3 ⟨rfl, h3⟩
    replace U := Up.trans (by first | exact U | exact U.drew | exact U.drewN _) h3
    replace N := N.up (Up.trans (by first | exact Up.refl _ | exact (Up.refl _).drew | exact (Up.refl _).drewN _) h3)
    clear h3
    go_wp2_with fail
    refine (C2.out _ (by first | exact U | exact U.drew | exact U.drewN _)).mono ?_
    rintro _ w4 ⟨vM_, rfl, M_, h4⟩
    replace U := Up.trans (by first | exact U | exact U.drew | exact U.drewN _) h4
    replace N := N.up (Up.trans (by first | exact Up.refl _ | exact (Up.refl _).drew | exact (Up.refl _).drewN _) h4)
    clear h4
    obtain ⟨AM_, nM_, cM_, rfl, M_⟩ := M_.slr
    go_wp2_with fail
    go_ret
    exact ⟨by first | rfl | (simp; done) | (simp; assumption) | (simp; omega), by first | exact U | exact U.drew | exact U.drewN _⟩
  · have d1 : decide (x2 < -1200) = false := decide_eq_false f1
    have d2 : decide (1200 < x2) = false := decide_eq_false f2
    have C2 := Lib.hid (fun W (u : Up w W) => show Calls Tryz.prog 13 #[.string ⟨#[48]⟩, .int .i64 x2] W (Prq false 0 0 W) from F.parse W (L.up u) ⟨#[48]⟩ [48] x2 rfl (by decide) _wx2 false 0 0 (M.qr_nought (by omega)))
    by_cases hb : B ≤ 2048
    · have ha := hBT.2 hb
      obtain ⟨nn, k, hq⟩ := M.qd_ex ha (show -1200 ≤ x2 ∧ x2 ≤ 1200 by omega)
      obtain ⟨l, hl⟩ : ∃ l, M.qp (x0 && decide (a ≠ 0)) nn k = l := ⟨_, rfl⟩
      have hl0 : l ≠ [] := by rw [← hl]; exact M.qp_ne _ hq.lok
      have C1 := Lib.hid (fun W (u : Up w W) lo v (N : Nt W lo 34 v a) => (F.text W (L.up u) x0 lo v a x2 (N.more (by decide)) _wx2 l 0 (.inr ⟨⟨ha, by omega, by omega⟩, rfl, nn, k, hq, hl.symm⟩)).mono fun _ _ h => h.lit)
      obtain ⟨ST, hST⟩ : ∃ ST : ByteArray, ⟨l.toArray⟩ = ST := ⟨_, rfl⟩
      rw [hST] at C1
      have hTL : ST.toList = l := by rw [← hST, Lib.toList_data]
      have s1 : ST.toList.isEmpty = false := by rw [hTL]; cases l; exact absurd rfl hl0; rfl
      have s2 : (ST.toList == []) = false := by rw [hTL]; cases l; exact absurd rfl hl0; rfl
      have s3 : ¬ ST.toList = [] := by rw [hTL]; exact hl0
      have d3 : ¬ 2048 < B := by omega
      clear hTL hST hl hl0 hq ha hb f1 f2
      clear hBT _wx2 hx F L
      go_enter Tryz.func6, Tryz.ntmps6
      go_wp2_with fail
      refine (CH.out _ (by first | exact U | exact U.drew | exact U.drewN _)).mono ?_
      rintro _ w1 ⟨rfl, h1⟩
      replace U := Up.trans (by first | exact U | exact U.drew | exact U.drewN _) h1
      clear h1
      go_wp2_with fail
      refine (CF.out _ (by first | exact U | exact U.drew | exact U.drewN _)).mono ?_
      rintro _ w2 ⟨vN, rfl, N, h2⟩
      replace U := Up.trans (by first | exact U | exact U.drew | exact U.drewN _) h2
      clear h2
      obtain ⟨AN, nN, cN, rfl, N⟩ := N.slr
      go_wp2_with fail
      refine (C1.out _ (by first | exact U | exact U.drew | exact U.drewN _) _ _ (by first | exact N | exact N.up ((Up.refl _).drew) | exact N.up ((Up.refl _).drewN _))).mono ?_
      rintro _ w3 ⟨rfl, h3⟩
      replace U := Up.trans (by first | exact U | exact U.drew | exact U.drewN _) h3
      replace N := N.up (Up.trans (by first | exact Up.refl _ | exact (Up.refl _).drew | exact (Up.refl _).drewN _) h3)
      clear h3
      go_wp2_with fail
      refine (C2.out _ (by first | exact U | exact U.drew | exact U.drewN _)).mono ?_
      rintro _ w4 ⟨vM_, rfl, M_, h4⟩
      replace U := Up.trans (by first | exact U | exact U.drew | exact U.drewN _) h4
      replace N := N.up (Up.trans (by first | exact Up.refl _ | exact (Up.refl _).drew | exact (Up.refl _).drewN _) h4)
      clear h4
      obtain ⟨AM_, nM_, cM_, rfl, M_⟩ := M_.slr
      go_wp2_with fail
      refine (CB.out _ _ _ (by first | exact N | exact N.up ((Up.refl _).drew) | exact N.up ((Up.refl _).drewN _))).mono ?_
      rintro _ _ ⟨rfl, rfl⟩
      go_wp2_with fail
      go_ret
      exact ⟨by first | rfl | (simp; done) | (simp; assumption) | (simp; omega), by first | exact U | exact U.drew | exact U.drewN _⟩
    · have d3 : 2048 < B := by omega
      have C1 := Lib.hid (fun W (u : Up w W) lo v (N : Nt W lo 34 v a) => (F.text W (L.up u) x0 lo v a x2 (N.more (by decide)) _wx2 [] 1 (.inl ⟨fun h => hb (hBT.1 h.1), rfl, rfl⟩)).mono fun _ _ h => h.lit)
      clear hb f1 f2
      clear hBT _wx2 hx F L
      go_enter Tryz.func6, Tryz.ntmps6
      go_wp2_with fail
      refine (CH.out _ (by first | exact U | exact U.drew | exact U.drewN _)).mono ?_
      rintro _ w1 ⟨rfl, h1⟩
      replace U := Up.trans (by first | exact U | exact U.drew | exact U.drewN _) h1
      clear h1
      go_wp2_with fail
      refine (CF.out _ (by first | exact U | exact U.drew | exact U.drewN _)).mono ?_
      rintro _ w2 ⟨vN, rfl, N, h2⟩
      replace U := Up.trans (by first | exact U | exact U.drew | exact U.drewN _) h2
      clear h2
      obtain ⟨AN, nN, cN, rfl, N⟩ := N.slr
      go_wp2_with fail
      refine (C1.out _ (by first | exact U | exact U.drew | exact U.drewN _) _ _ (by first | exact N | exact N.up ((Up.refl _).drew) | exact N.up ((Up.refl _).drewN _))).mono ?_
      rintro _ w3 ⟨rfl, h3⟩
      replace U := Up.trans (by first | exact U | exact U.drew | exact U.drewN _) h3
      replace N := N.up (Up.trans (by first | exact Up.refl _ | exact (Up.refl _).drew | exact (Up.refl _).drewN _) h3)
      clear h3
      go_wp2_with fail
      refine (C2.out _ (by first | exact U | exact U.drew | exact U.drewN _)).mono ?_
      rintro _ w4 ⟨vM_, rfl, M_, h4⟩
      replace U := Up.trans (by first | exact U | exact U.drew | exact U.drewN _) h4
      replace N := N.up (Up.trans (by first | exact Up.refl _ | exact (Up.refl _).drew | exact (Up.refl _).drewN _) h4)
      clear h4
      obtain ⟨AM_, nM_, cM_, rfl, M_⟩ := M_.slr
      go_wp2_with fail
      refine (CB.out _ _ _ (by first | exact N | exact N.up ((Up.refl _).drew) | exact N.up ((Up.refl _).drewN _))).mono ?_
      rintro _ _ ⟨rfl, rfl⟩
      go_wp2_with fail
      go_ret
      exact ⟨by first | rfl | (simp; done) | (simp; assumption) | (simp; omega), by first | exact U | exact U.drew | exact U.drewN _⟩
end Go.Proofs.YtjmnobgllnaljaaGreatDoor
