/-
  Forms: Fits, Canon.
-/
import Derived.Test.YtjcbncfpcechnaaDoorForm4
import Derived.Deep.RegionHeld3
namespace Go.Proofs.YtjcbncfpcechnaaDoor
open Go.RowKit

theorem cell_up_ {w w' : World} (h : Up w w') {p : Addr} {v : Value} (hc : w.cell? p = some v) : w'.cell? p = some v := by
  rw [Below.cell h (World.block_lt_of_cell? _ _ hc)]; exact hc
set_option maxHeartbeats 2000000 in
set_option maxRecDepth 100000 in
theorem fits_out (w : World) (ii p : Int) (h : ii < 1 ∨ 15 ≤ ii) : Calls Tryd.prog 45 #[.int .i64 ii, .int .u64 p] w (Nz 3 w) := by
  have U := Up.refl w
  go_enter Tryd.func45, Tryd.ntmps45
  go_wp2_with fail
  refine (fitting_out _ ii p h).mono ?_
  rintro _ w1 ⟨rfl, h1⟩
  replace U := U.trans h1
  clear h1
  clear h
  go_wp2_with fail
  go_ret
  exact ⟨rfl, U.alloc _⟩
set_option maxHeartbeats 2000000 in
set_option maxRecDepth 100000 in
theorem fits_in (w : World) (hF : TabF w) (i : Nat) (h1 : 1 ≤ i) (h2 : i ≤ 14) (p : Int) (p1 : 0 ≤ p) (p2 : p < 18446744073709551616) : Calls Tryd.prog 45 #[.int .i64 (i : Int), .int .u64 p] w (Nz (M.er i p) w) := by
  obtain ⟨e, he⟩ : ∃ e, M.er i p = e := ⟨_, rfl⟩
  obtain ⟨f, hf⟩ : ∃ f : M.Fm, (if p ≤ M.msk (M.tb i) then M.tb i else ⟨0, 0, 0, 0, 0, 0, 0⟩) = f := ⟨_, rfl⟩
  have C := fun W (hF : TabF W) => fitting_in W hF i h1 h2 p p1 p2
  rw [hf, he] at C
  rw [he]
  have CC := Lib.hid C
  clear hf he C p1 p2 h1 h2
  have U := Up.refl w
  go_enter Tryd.func45, Tryd.ntmps45
  go_wp2_with fail
  refine (CC.out _ (hF.up U)).mono ?_
  rintro _ w1 ⟨rfl, h1⟩
  replace U := U.trans h1
  clear h1
  go_wp2_with fail
  go_ret
  exact ⟨rfl, U.alloc _⟩
set_option maxHeartbeats 2000000 in
set_option maxRecDepth 100000 in
theorem canon_out (w : World) (ii p : Int) (h : ii < 1 ∨ 15 ≤ ii) : Calls Tryd.prog 26 #[.int .i64 ii, .int .u64 p] w (Wn 0 3 w) := by
  have U := Up.refl w
  go_enter Tryd.func26, Tryd.ntmps26
  go_wp2_with fail
  refine (fitting_out _ ii p h).mono ?_
  rintro _ w1 ⟨rfl, h1⟩
  replace U := U.trans h1
  clear h1
  clear h
  go_wp2_with fail
  go_ret2
  exact ⟨rfl, U.alloc _⟩
set_option maxHeartbeats 2000000 in
set_option maxRecDepth 100000 in
theorem canon_big (w : World) (hF : TabF w) (i : Nat) (h1 : 1 ≤ i) (h2 : i ≤ 14) (p : Int) (p1 : 0 ≤ p) (p2 : p < 18446744073709551616) (hp : ¬ p ≤ M.msk (M.tb i)) : Calls Tryd.prog 26 #[.int .i64 (i : Int), .int .u64 p] w (Wn 0 1 w) := by
  have C := fun W (hF : TabF W) => fitting_in W hF i h1 h2 p p1 p2
  rw [if_neg hp, M.er, if_neg hp] at C
  have CC := Lib.hid C
  clear C hp p1 p2 h1 h2
  have U := Up.refl w
  go_enter Tryd.func26, Tryd.ntmps26
  go_wp2_with fail
  refine (CC.out _ (hF.up U)).mono ?_
  rintro _ w1 ⟨rfl, h1⟩
  replace U := U.trans h1
  clear h1
  go_wp2_with fail
  go_ret2
  exact ⟨rfl, U.alloc _⟩
set_option maxHeartbeats 2000000 in
set_option maxRecDepth 100000 in
theorem canon_in (w : World) (hF : TabF w) (i : Nat) (h1 : 1 ≤ i) (h2 : i ≤ 14) (p : Int) (p1 : 0 ≤ p) (p2 : p < 18446744073709551616) (hp : p ≤ M.msk (M.tb i)) (c : Int) (hc : Hid (M.cn i p = c)) : Calls Tryd.prog 26 #[.int .i64 (i : Int), .int .u64 p] w (Wn c 0 w) := by
  have C := fun W (hF : TabF W) => fitting_in W hF i h1 h2 p p1 p2
  rw [if_pos hp, M.er, if_pos hp] at C
  have CC := Lib.hid C
  have mg := M.mag_bit i h1 h2
  have ok := M.ok i h1 h2
  have hcn := hc.out
  unfold M.cn at hcn
  clear C hc
  obtain ⟨f, hf⟩ : ∃ f, M.tb i = f := ⟨_, rfl⟩
  rw [hf] at CC ok hcn mg hp
  clear hf
  have OK := Lib.hid ok
  obtain ⟨S, hS⟩ : ∃ S, M.sgn f = S := ⟨_, rfl⟩
  obtain ⟨q, hq⟩ : ∃ q, p % M.half f = q := ⟨_, rfl⟩
  obtain ⟨z, hz⟩ : ∃ z, M.bey f q = z := ⟨_, rfl⟩
  rw [hq, hz] at hcn
  by_cases hk : f.k = 2
  ·
    have e : Go.bits BinOp.andNot IntKind.u64 p S = q := by rw [← hS, ← hq]; exact mg (by omega) p p1 hp
    have d : (f.k == 2) = true := by simp [hk]
    have HS := Lib.hid hS
    have HZ := Lib.hid hz
    have fin : Hid ((if z = true then f.x else p) = c) := by show _ = _; rw [← hcn]; simp [hk]
    clear hS hz hq mg hcn hk ok p1 p2 hp
    have U := Up.refl w
    go_enter Tryd.func26, Tryd.ntmps26
    go_wp2_with fail
    refine (CC.out _ (hF.up U)).mono ?_
    rintro _ w1 ⟨rfl, h1⟩
    replace U := U.trans h1
    clear h1
    clear CC
    go_wp2_with fail
    obtain ⟨V2, hV2⟩ : ∃ V2, w1.alloc (.cells #[.int .i64 f.k, .int .i64 f.W, .int .i64 f.m, .int .i64 f.b, .int .u64 f.t, .int .u64 f.n, .int .u64 f.x] 40) = V2 := ⟨_, rfl⟩
    have uV2 : Up w1 V2 := by rw [← hV2]; first | exact (Up.refl _).alloc _ | exact ((Up.refl _).alloc _).alloc _ | exact (((Up.refl _).alloc _).alloc _).alloc _ | exact ((((Up.refl _).alloc _).alloc _).alloc _).alloc _ | ((repeat (refine Up.alloc ?_ _)); exact Up.refl _)
    have c : Bf V2 w1.heap.size 40 f := by rw [← hV2]; exact Bf.mk_ w1 f 40
    rw [hV2]
    clear hV2
    replace U := U.trans uV2
    clear uV2
    have CS := Lib.hid (fun W (_ : Up V2 W) => sign_any W f OK.out S HS)
    have CB := Lib.hid (fun W (_ : Up V2 W) => bey_any W f q z HZ)
    obtain ⟨c0, c1, c2, c3, c4, c5, c6⟩ := Bf.cs c
    have c7 := Bf.lt c
    simp only [Nat.zero_add] at c0 c1 c2 c3 c4 c5 c6 c7
    go_region_held3 (fun w' => w'.cell? ⟨w1.heap.size, 0, none⟩ = some (.int .i64 f.k) ∧ w'.cell? ⟨w1.heap.size, 1, none⟩ = some (.int .i64 f.W) ∧ w'.cell? ⟨w1.heap.size, 2, none⟩ = some (.int .i64 f.m) ∧ w'.cell? ⟨w1.heap.size, 3, none⟩ = some (.int .i64 f.b) ∧ w'.cell? ⟨w1.heap.size, 4, none⟩ = some (.int .u64 f.t) ∧ w'.cell? ⟨w1.heap.size, 5, none⟩ = some (.int .u64 f.n) ∧ w'.cell? ⟨w1.heap.size, 6, none⟩ = some (.int .u64 f.x)) (go_keep) (first
        | (go_at_call 27; (with_reducible refine (CS.out _ ?_).mono ?_); (first | with_reducible assumption | exact (Up.refl _).drewN 1); rintro _ w3 ⟨rfl, h3⟩; have uw3 : Up V2 w3 := Up.trans (by first | with_reducible assumption | exact (Up.refl V2).drewN 1) h3; have cc00 := cell_up_ uw3 c0; have cc01 := cell_up_ uw3 c1; have cc02 := cell_up_ uw3 c2; have cc03 := cell_up_ uw3 c3; have cc04 := cell_up_ uw3 c4; have cc05 := cell_up_ uw3 c5; have cc06 := cell_up_ uw3 c6)
        | (go_at_call 44; (with_reducible refine (CB.out _ ?_).mono ?_); (first | with_reducible assumption | exact (Up.refl _).drewN 1); rintro _ w4 ⟨rfl, h4⟩; have uw4 : Up V2 w4 := Up.trans (by first | with_reducible assumption | exact (Up.refl V2).drewN 1) h4; have cc10 := cell_up_ uw4 c0; have cc11 := cell_up_ uw4 c1; have cc12 := cell_up_ uw4 c2; have cc13 := cell_up_ uw4 c3; have cc14 := cell_up_ uw4 c4; have cc15 := cell_up_ uw4 c5; have cc16 := cell_up_ uw4 c6))
    clear cc00
    clear cc01
    clear cc02
    clear cc03
    clear cc04
    clear cc05
    clear cc06
    clear cc10
    clear cc11
    clear cc12
    clear cc13
    clear cc14
    clear cc15
    clear cc16
    clear h3
    clear h4
    clear c0 c1 c2 c3 c4 c5 c6 c7
    replace c := c.up uw4
    replace U := U.trans uw4
    clear uw3
    clear uw4
    cases z
    ·
      have fin2 := fin.out
      rw [if_neg (by decide)] at fin2
      subst fin2
      obtain ⟨c0, c1, c2, c3, c4, c5, c6⟩ := Bf.cs c
      have c7 := Bf.lt c
      simp only [Nat.zero_add] at c0 c1 c2 c3 c4 c5 c6 c7
      go_wp2_with fail
      clear c0 c1 c2 c3 c4 c5 c6 c7
      go_ret2
      exact ⟨rfl, U⟩
    ·
      have fin2 := fin.out
      rw [if_pos rfl] at fin2
      subst fin2
      obtain ⟨c0, c1, c2, c3, c4, c5, c6⟩ := Bf.cs c
      have c7 := Bf.lt c
      simp only [Nat.zero_add] at c0 c1 c2 c3 c4 c5 c6 c7
      go_wp2_with fail
      clear c0 c1 c2 c3 c4 c5 c6 c7
      go_ret2
      exact ⟨rfl, U⟩
  ·
    have d : (f.k == 2) = false := by simp [hk]
    rw [if_neg (by simp [hk])] at hcn
    subst hcn
    clear hS hz hq mg hk ok p1 p2 hp
    have U := Up.refl w
    go_enter Tryd.func26, Tryd.ntmps26
    go_wp2_with fail
    refine (CC.out _ (hF.up U)).mono ?_
    rintro _ w5 ⟨rfl, h5⟩
    replace U := U.trans h5
    clear h5
    clear CC
    go_wp2_with fail
    obtain ⟨V6, hV6⟩ : ∃ V6, w5.alloc (.cells #[.int .i64 f.k, .int .i64 f.W, .int .i64 f.m, .int .i64 f.b, .int .u64 f.t, .int .u64 f.n, .int .u64 f.x] 40) = V6 := ⟨_, rfl⟩
    have uV6 : Up w5 V6 := by rw [← hV6]; first | exact (Up.refl _).alloc _ | exact ((Up.refl _).alloc _).alloc _ | exact (((Up.refl _).alloc _).alloc _).alloc _ | exact ((((Up.refl _).alloc _).alloc _).alloc _).alloc _ | ((repeat (refine Up.alloc ?_ _)); exact Up.refl _)
    have c : Bf V6 w5.heap.size 40 f := by rw [← hV6]; exact Bf.mk_ w5 f 40
    rw [hV6]
    clear hV6
    replace U := U.trans uV6
    clear uV6
    obtain ⟨c0, c1, c2, c3, c4, c5, c6⟩ := Bf.cs c
    have c7 := Bf.lt c
    simp only [Nat.zero_add] at c0 c1 c2 c3 c4 c5 c6 c7
    refine wp_region_held_drew (S := fun w' => w'.cell? ⟨w5.heap.size, 0, none⟩ = some (.int .i64 f.k) ∧ w'.cell? ⟨w5.heap.size, 1, none⟩ = some (.int .i64 f.W) ∧ w'.cell? ⟨w5.heap.size, 2, none⟩ = some (.int .i64 f.m) ∧ w'.cell? ⟨w5.heap.size, 3, none⟩ = some (.int .i64 f.b) ∧ w'.cell? ⟨w5.heap.size, 4, none⟩ = some (.int .u64 f.t) ∧ w'.cell? ⟨w5.heap.size, 5, none⟩ = some (.int .u64 f.n) ∧ w'.cell? ⟨w5.heap.size, 6, none⟩ = some (.int .u64 f.x)) (by kernel_rfl) ?_ (fun hHeld => ?_)
    · try dsimp only
      go_keep
    refine wpAnyH_take (i := 0) (v := ?_) rfl (by kernel_rfl) (by kernel_rfl) (by kernel_rfl) (fun _ _ _ h => h) (Or.inl ⟨by rfl, ?_⟩) (by assumption) ?_
    rotate_left
    · intro w hSw
      (try dsimp only at hSw)
      go_simp
      all_goals with_reducible rfl
    try simp only [Act.put, List.setIfInBounds_toArray, List.set_cons_zero, List.set_cons_succ, List.getElem_toArray, List.getElem_cons_zero]
    refine wpAnyH_take (i := 1) (v := ?_) rfl (by kernel_rfl) (by kernel_rfl) (by kernel_rfl) (fun _ _ _ h => h) (Or.inl ⟨by rfl, ?_⟩) (by assumption) ?_
    rotate_left
    · intro w hSw
      (try dsimp only at hSw)
      go_simp
      all_goals with_reducible rfl
    try simp only [Act.put, List.setIfInBounds_toArray, List.set_cons_zero, List.set_cons_succ, List.getElem_toArray, List.getElem_cons_zero, List.getElem_cons_succ]
    refine wpAnyH_take (i := 2) (v := ?_) rfl (by kernel_rfl) (by kernel_rfl) (by kernel_rfl) (fun _ _ _ h => h) (Or.inl ⟨by rfl, ?_⟩) (by assumption) ?_
    rotate_left
    · intro w hSw
      (try dsimp only at hSw)
      go_simp
      all_goals with_reducible rfl
    try simp only [Act.put, List.setIfInBounds_toArray, List.set_cons_zero, List.set_cons_succ, List.getElem_toArray, List.getElem_cons_zero, List.getElem_cons_succ]
    refine wpAnyH_take (i := 3) (v := ?_) rfl (by kernel_rfl) (by kernel_rfl) (by kernel_rfl) (fun _ _ _ h => h) (Or.inl ⟨by rfl, ?_⟩) (by assumption) ?_
    rotate_left
    · intro w hSw
      (try dsimp only at hSw)
      go_simp
      all_goals with_reducible rfl
    try simp only [Act.put, List.setIfInBounds_toArray, List.set_cons_zero, List.set_cons_succ, List.getElem_toArray, List.getElem_cons_zero, List.getElem_cons_succ]
    refine wpAnyH_take (i := 4) (v := undef) rfl (by kernel_rfl) (by kernel_rfl) (by kernel_rfl) (fun _ _ _ h => h) (Or.inr ⟨by rfl, rfl⟩) (by assumption) ?_
    try simp only [Act.put, List.setIfInBounds_toArray, List.set_cons_zero, List.set_cons_succ, List.getElem_toArray, List.getElem_cons_zero, List.getElem_cons_succ]
    refine wpAnyH_take (i := 5) (v := undef) rfl (by kernel_rfl) (by kernel_rfl) (by kernel_rfl) (fun _ _ _ h => h) (Or.inr ⟨by rfl, rfl⟩) (by assumption) ?_
    try simp only [Act.put, List.setIfInBounds_toArray, List.set_cons_zero, List.set_cons_succ, List.getElem_toArray, List.getElem_cons_zero, List.getElem_cons_succ]
    refine wpAnyH_take (i := 6) (v := undef) rfl (by kernel_rfl) (by kernel_rfl) (by kernel_rfl) (fun _ _ _ h => h) (Or.inr ⟨by rfl, rfl⟩) (by assumption) ?_
    try simp only [Act.put, List.setIfInBounds_toArray, List.set_cons_zero, List.set_cons_succ, List.getElem_toArray, List.getElem_cons_zero, List.getElem_cons_succ]
    refine wpAnyH_take (i := 7) (v := undef) rfl (by kernel_rfl) (by kernel_rfl) (by kernel_rfl) (fun _ _ _ h => h) (Or.inr ⟨by rfl, rfl⟩) (by assumption) ?_
    try simp only [Act.put, List.setIfInBounds_toArray, List.set_cons_zero, List.set_cons_succ, List.getElem_toArray, List.getElem_cons_zero, List.getElem_cons_succ]
    refine wpAnyH_take (i := 8) (v := undef) rfl (by kernel_rfl) (by kernel_rfl) (by kernel_rfl) (fun _ _ _ h => h) (Or.inr ⟨by rfl, rfl⟩) (by assumption) ?_
    try simp only [Act.put, List.setIfInBounds_toArray, List.set_cons_zero, List.set_cons_succ, List.getElem_toArray, List.getElem_cons_zero, List.getElem_cons_succ]
    refine wpAnyH_take (i := 9) (v := undef) rfl (by kernel_rfl) (by kernel_rfl) (by kernel_rfl) (fun _ _ _ h => h) (Or.inr ⟨by rfl, rfl⟩) (by assumption) ?_
    try simp only [Act.put, List.setIfInBounds_toArray, List.set_cons_zero, List.set_cons_succ, List.getElem_toArray, List.getElem_cons_zero, List.getElem_cons_succ]
    refine wpAnyH_take (i := 10) (v := ?_) rfl (by kernel_rfl) (by kernel_rfl) (by kernel_rfl) (fun _ _ _ h => h) (Or.inl ⟨by rfl, ?_⟩) (by assumption) ?_
    rotate_left
    · intro w hSw
      (try dsimp only at hSw)
      go_simp
      all_goals with_reducible rfl
    try simp only [Act.put, List.setIfInBounds_toArray, List.set_cons_zero, List.set_cons_succ, List.getElem_toArray, List.getElem_cons_zero, List.getElem_cons_succ]
    refine wpAnyH_done (by kernel_rfl) ?_ _
    clear hHeld
    clear c0 c1 c2 c3 c4 c5 c6 c7
    obtain ⟨c0, c1, c2, c3, c4, c5, c6⟩ := Bf.cs c
    have c7 := Bf.lt c
    simp only [Nat.zero_add] at c0 c1 c2 c3 c4 c5 c6 c7
    go_wp2_with fail
    clear c0 c1 c2 c3 c4 c5 c6 c7
    go_ret2
    exact ⟨rfl, by first | exact U | exact U.drewN _ | exact U.drew⟩
end Go.Proofs.YtjcbncfpcechnaaDoor
