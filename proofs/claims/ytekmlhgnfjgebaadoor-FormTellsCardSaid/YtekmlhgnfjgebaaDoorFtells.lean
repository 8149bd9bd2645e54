/-
  FormTells.
-/
import Derived.Test.YtekmlhgnfjgebaaDoorFlaw
namespace Go.Proofs.YtekmlhgnfjgebaaDoor
open Go.RowKit
theorem id_in {x : Int} (h : ¬ (x < 1 ∨ 15 ≤ x)) : ∃ i : Nat, x = (i : Int) ∧ 1 ≤ i ∧ i ≤ 14 := ⟨x.toNat, by omega, by omega, by omega⟩
theorem u64_rng {x : Int} (h : (Lit.int .u64 x).wf = true) : 0 ≤ x ∧ x < 18446744073709551616 := by
  have h6 : (0 : Int) ≤ x ∧ x ≤ 18446744073709551615 := by simpa [Lit.wf, IntKind.min, IntKind.max, IntKind.signed, IntKind.bits] using h
  omega
set_option maxHeartbeats 2000000 in
set_option maxRecDepth 100000 in
theorem tells4_walk (w : World) (hF : TabF w) (x0 : Int) (_wx0 : (Lit.int .i64 x0).wf = true) : Calls Tryd.prog 3 #[.int .i64 x0] w (True4 w) := by
  by_cases h : x0 < 1 ∨ 15 ≤ x0
  ·
    have U := Up.refl w
    go_enter Tryd.func3, Tryd.ntmps3
    go_wp2_with fail
    refine (fshown_any _ (hF.up U)).mono ?_
    rintro _ w1 ⟨rfl, h1⟩
    replace U := U.trans h1
    clear h1
    go_wp2_with fail
    refine (of_out _ x0 h).mono ?_
    rintro _ w2 ⟨rfl, h2⟩
    replace U := U.trans h2
    clear h2
    go_wp2_with fail
    obtain ⟨V3, hV3⟩ : ∃ V3, w2.alloc (.cells #[.int .i64 0, .int .i64 0, .int .i64 0, .int .i64 0, .int .u64 0, .int .u64 0, .int .u64 0] 25) = V3 := ⟨_, rfl⟩
    have uV3 : Up w2 V3 := by rw [← hV3]; first | exact (Up.refl _).alloc _ | exact ((Up.refl _).alloc _).alloc _ | exact (((Up.refl _).alloc _).alloc _).alloc _ | exact ((((Up.refl _).alloc _).alloc _).alloc _).alloc _ | ((repeat (refine Up.alloc ?_ _)); exact Up.refl _)
    have c : Bf V3 w2.heap.size 25 ⟨0, 0, 0, 0, 0, 0, 0⟩ := by rw [← hV3]; exact Bf.mk_ w2 ⟨0, 0, 0, 0, 0, 0, 0⟩ 25
    rw [hV3]
    clear hV3
    replace U := U.trans uV3
    clear uV3
    obtain ⟨c0, c1, c2, c3, c4, c5, c6⟩ := Bf.cs c
    have c7 := Bf.lt c
    simp only [Nat.zero_add] at c0 c1 c2 c3 c4 c5 c6 c7
    go_wp2_with fail
    clear c0 c1 c2 c3 c4 c5 c6 c7
    refine (rof_out _ x0 h).mono ?_
    rintro _ w4 ⟨rfl, h4⟩
    replace c := c.up h4
    replace U := U.trans h4
    clear h4
    clear h
    obtain ⟨c0, c1, c2, c3, c4, c5, c6⟩ := Bf.cs c
    have c7 := Bf.lt c
    simp only [Nat.zero_add] at c0 c1 c2 c3 c4 c5 c6 c7
    go_wp2_with fail
    clear c0 c1 c2 c3 c4 c5 c6 c7
    go_ret
    exact ⟨rfl, U.alloc _⟩
  ·
    obtain ⟨i, rfl, h1, h2⟩ := id_in h
    have OK := Lib.hid (M.ok i h1 h2)
    obtain ⟨f, hf⟩ : ∃ f, M.tb i = f := ⟨_, rfl⟩
    rw [hf] at OK
    have HF := Lib.hid hf
    obtain ⟨M', hM⟩ : ∃ z, M.msk f = z := ⟨_, rfl⟩
    have HM := Lib.hid hM
    obtain ⟨S, hS⟩ : ∃ z, M.sgn f = z := ⟨_, rfl⟩
    have HS := Lib.hid hS
    clear hf hM hS h
    have U := Up.refl w
    go_enter Tryd.func3, Tryd.ntmps3
    go_wp2_with fail
    refine (fshown_any _ (hF.up U)).mono ?_
    rintro _ w5 ⟨rfl, h5⟩
    replace U := U.trans h5
    clear h5
    go_wp2_with fail
    refine (of_in _ (hF.up U) i f HF h1 h2).mono ?_
    rintro _ w6 ⟨rfl, h6⟩
    replace U := U.trans h6
    clear h6
    go_wp2_with fail
    obtain ⟨V7, hV7⟩ : ∃ V7, w6.alloc (.cells #[.int .i64 f.k, .int .i64 f.W, .int .i64 f.m, .int .i64 f.b, .int .u64 f.t, .int .u64 f.n, .int .u64 f.x] 25) = V7 := ⟨_, rfl⟩
    have uV7 : Up w6 V7 := by rw [← hV7]; first | exact (Up.refl _).alloc _ | exact ((Up.refl _).alloc _).alloc _ | exact (((Up.refl _).alloc _).alloc _).alloc _ | exact ((((Up.refl _).alloc _).alloc _).alloc _).alloc _ | ((repeat (refine Up.alloc ?_ _)); exact Up.refl _)
    have c : Bf V7 w6.heap.size 25 f := by rw [← hV7]; exact Bf.mk_ w6 f 25
    rw [hV7]
    clear hV7
    replace U := U.trans uV7
    clear uV7
    obtain ⟨c0, c1, c2, c3, c4, c5, c6⟩ := Bf.cs c
    have c7 := Bf.lt c
    simp only [Nat.zero_add] at c0 c1 c2 c3 c4 c5 c6 c7
    go_wp2_with fail
    clear c0 c1 c2 c3 c4 c5 c6 c7
    refine (rof_in _ i f HF h1 h2).mono ?_
    rintro _ w8 ⟨rfl, h8⟩
    replace c := c.up h8
    replace U := U.trans h8
    clear h8
    clear HF h1 h2
    obtain ⟨c0, c1, c2, c3, c4, c5, c6⟩ := Bf.cs c
    have c7 := Bf.lt c
    simp only [Nat.zero_add] at c0 c1 c2 c3 c4 c5 c6 c7
    go_wp2_with fail
    clear c0 c1 c2 c3 c4 c5 c6 c7
    obtain ⟨V9, hV9⟩ : ∃ V9, w8.alloc (.cells #[.int .i64 f.k, .int .i64 f.W, .int .i64 f.m, .int .i64 f.b, .int .u64 f.t, .int .u64 f.n, .int .u64 f.x] 29) = V9 := ⟨_, rfl⟩
    have uV9 : Up w8 V9 := by rw [← hV9]; first | exact (Up.refl _).alloc _ | exact ((Up.refl _).alloc _).alloc _ | exact (((Up.refl _).alloc _).alloc _).alloc _ | exact ((((Up.refl _).alloc _).alloc _).alloc _).alloc _ | ((repeat (refine Up.alloc ?_ _)); exact Up.refl _)
    have d : Bf V9 w8.heap.size 29 f := by rw [← hV9]; exact Bf.mk_ w8 f 29
    rw [hV9]
    clear hV9
    replace c := c.up uV9
    replace U := U.trans uV9
    clear uV9
    have qk : (f.k == f.k) = true := by simp
    have qW : (f.W == f.W) = true := by simp
    have qm : (f.m == f.m) = true := by simp
    have qb : (f.b == f.b) = true := by simp
    have qt : (f.t == f.t) = true := by simp
    have qn : (f.n == f.n) = true := by simp
    have qx : (f.x == f.x) = true := by simp
    have qM : (M' == M') = true := by simp
    have qS : (S == S) = true := by simp
    have CA := Lib.hid (fun W (_ : Up V9 W) => mask_any W f OK.out M' HM)
    have CB := Lib.hid (fun W (_ : Up V9 W) => rmask_any W f OK.out M' HM)
    have CC := Lib.hid (fun W (_ : Up V9 W) => sign_any W f OK.out S HS)
    have CD := Lib.hid (fun W (_ : Up V9 W) => rsign_any W f OK.out S HS)
    skip
    obtain ⟨c0, c1, c2, c3, c4, c5, c6⟩ := Bf.cs c
    have c7 := Bf.lt c
    simp only [Nat.zero_add] at c0 c1 c2 c3 c4 c5 c6 c7
    obtain ⟨d0, d1, d2, d3, d4, d5, d6⟩ := Bf.cs d
    have d7 := Bf.lt d
    simp only [Nat.zero_add] at d0 d1 d2 d3 d4 d5 d6 d7
    go_region_held3 (fun w' => w'.cell? ⟨w6.heap.size, 0, none⟩ = some (.int .i64 f.k) ∧ w'.cell? ⟨w6.heap.size, 1, none⟩ = some (.int .i64 f.W) ∧ w'.cell? ⟨w6.heap.size, 2, none⟩ = some (.int .i64 f.m) ∧ w'.cell? ⟨w6.heap.size, 3, none⟩ = some (.int .i64 f.b) ∧ w'.cell? ⟨w6.heap.size, 4, none⟩ = some (.int .u64 f.t) ∧ w'.cell? ⟨w6.heap.size, 5, none⟩ = some (.int .u64 f.n) ∧ w'.cell? ⟨w6.heap.size, 6, none⟩ = some (.int .u64 f.x) ∧ w'.cell? ⟨w8.heap.size, 0, none⟩ = some (.int .i64 f.k) ∧ w'.cell? ⟨w8.heap.size, 1, none⟩ = some (.int .i64 f.W) ∧ w'.cell? ⟨w8.heap.size, 2, none⟩ = some (.int .i64 f.m) ∧ w'.cell? ⟨w8.heap.size, 3, none⟩ = some (.int .i64 f.b) ∧ w'.cell? ⟨w8.heap.size, 4, none⟩ = some (.int .u64 f.t) ∧ w'.cell? ⟨w8.heap.size, 5, none⟩ = some (.int .u64 f.n) ∧ w'.cell? ⟨w8.heap.size, 6, none⟩ = some (.int .u64 f.x)) (go_keep) (first
        | (go_at_call 11; (with_reducible refine (CA.out _ ?_).mono ?_); (first | with_reducible assumption | exact (Up.refl _).drewN 1); rintro _ w10 ⟨rfl, h10⟩; have uw10 : Up V9 w10 := Up.trans (by first | with_reducible assumption | exact (Up.refl V9).drewN 1) h10; have cc00 := cell_up_ uw10 c0; have cc01 := cell_up_ uw10 c1; have cc02 := cell_up_ uw10 c2; have cc03 := cell_up_ uw10 c3; have cc04 := cell_up_ uw10 c4; have cc05 := cell_up_ uw10 c5; have cc06 := cell_up_ uw10 c6; have dc00 := cell_up_ uw10 d0; have dc01 := cell_up_ uw10 d1; have dc02 := cell_up_ uw10 d2; have dc03 := cell_up_ uw10 d3; have dc04 := cell_up_ uw10 d4; have dc05 := cell_up_ uw10 d5; have dc06 := cell_up_ uw10 d6)
        | (go_at_call 12; (with_reducible refine (CB.out _ ?_).mono ?_); (first | with_reducible assumption | exact (Up.refl _).drewN 1); rintro _ w11 ⟨rfl, h11⟩; have uw11 : Up V9 w11 := Up.trans (by first | with_reducible assumption | exact (Up.refl V9).drewN 1) h11; have cc10 := cell_up_ uw11 c0; have cc11 := cell_up_ uw11 c1; have cc12 := cell_up_ uw11 c2; have cc13 := cell_up_ uw11 c3; have cc14 := cell_up_ uw11 c4; have cc15 := cell_up_ uw11 c5; have cc16 := cell_up_ uw11 c6; have dc10 := cell_up_ uw11 d0; have dc11 := cell_up_ uw11 d1; have dc12 := cell_up_ uw11 d2; have dc13 := cell_up_ uw11 d3; have dc14 := cell_up_ uw11 d4; have dc15 := cell_up_ uw11 d5; have dc16 := cell_up_ uw11 d6)
        | (go_at_call 13; (with_reducible refine (CC.out _ ?_).mono ?_); (first | with_reducible assumption | exact (Up.refl _).drewN 1); rintro _ w12 ⟨rfl, h12⟩; have uw12 : Up V9 w12 := Up.trans (by first | with_reducible assumption | exact (Up.refl V9).drewN 1) h12; have cc20 := cell_up_ uw12 c0; have cc21 := cell_up_ uw12 c1; have cc22 := cell_up_ uw12 c2; have cc23 := cell_up_ uw12 c3; have cc24 := cell_up_ uw12 c4; have cc25 := cell_up_ uw12 c5; have cc26 := cell_up_ uw12 c6; have dc20 := cell_up_ uw12 d0; have dc21 := cell_up_ uw12 d1; have dc22 := cell_up_ uw12 d2; have dc23 := cell_up_ uw12 d3; have dc24 := cell_up_ uw12 d4; have dc25 := cell_up_ uw12 d5; have dc26 := cell_up_ uw12 d6)
        | (go_at_call 14; (with_reducible refine (CD.out _ ?_).mono ?_); (first | with_reducible assumption | exact (Up.refl _).drewN 1); rintro _ w13 ⟨rfl, h13⟩; have uw13 : Up V9 w13 := Up.trans (by first | with_reducible assumption | exact (Up.refl V9).drewN 1) h13; have cc30 := cell_up_ uw13 c0; have cc31 := cell_up_ uw13 c1; have cc32 := cell_up_ uw13 c2; have cc33 := cell_up_ uw13 c3; have cc34 := cell_up_ uw13 c4; have cc35 := cell_up_ uw13 c5; have cc36 := cell_up_ uw13 c6; have dc30 := cell_up_ uw13 d0; have dc31 := cell_up_ uw13 d1; have dc32 := cell_up_ uw13 d2; have dc33 := cell_up_ uw13 d3; have dc34 := cell_up_ uw13 d4; have dc35 := cell_up_ uw13 d5; have dc36 := cell_up_ uw13 d6))
    clear cc00
    clear cc01
    clear cc02
    clear cc03
    clear cc04
    clear cc05
    clear cc06
    clear dc00
    clear dc01
    clear dc02
    clear dc03
    clear dc04
    clear dc05
    clear dc06
    clear cc10
    clear cc11
    clear cc12
    clear cc13
    clear cc14
    clear cc15
    clear cc16
    clear dc10
    clear dc11
    clear dc12
    clear dc13
    clear dc14
    clear dc15
    clear dc16
    clear cc20
    clear cc21
    clear cc22
    clear cc23
    clear cc24
    clear cc25
    clear cc26
    clear dc20
    clear dc21
    clear dc22
    clear dc23
    clear dc24
    clear dc25
    clear dc26
    clear cc30
    clear cc31
    clear cc32
    clear cc33
    clear cc34
    clear cc35
    clear cc36
    clear dc30
    clear dc31
    clear dc32
    clear dc33
    clear dc34
    clear dc35
    clear dc36
    clear h10
    clear h11
    clear h12
    clear h13
    clear c0 c1 c2 c3 c4 c5 c6 c7
    clear d0 d1 d2 d3 d4 d5 d6 d7
    replace c := c.up uw13
    replace d := d.up uw13
    replace U := U.trans uw13
    clear uw10
    clear uw11
    clear uw12
    clear uw13
    go_wp2_with fail
    go_ret
    exact ⟨rfl, U⟩
end Go.Proofs.YtekmlhgnfjgebaaDoor
