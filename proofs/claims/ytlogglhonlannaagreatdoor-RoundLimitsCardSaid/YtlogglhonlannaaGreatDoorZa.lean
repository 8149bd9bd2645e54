/-
  The reference of layer 8: Size, what is ahead of a boundary, Nearest.
-/
import Derived.Test.YtlogglhonlannaaGreatDoorLa
import Derived.Test.YtlogglhonlannaaGreatDoorVca
import Derived.Test.YtlogglhonlannaaGreatDoorRfa
import Derived.Deep.RegionHeld3
import Derived.Deep.DrawnRows
namespace Go.Proofs.YtlogglhonlannaaGreatDoor
open Go.RowKit
set_option linter.unusedSimpArgs false
set_option linter.unusedVariables false

/-- What a call comes to that tells a key, and whether it is too great. -/
def Kx (k : Nat) (o : Bool) (w : World) (e : Ending) (w' : World) : Prop := e = .returned (.tuple #[u64 k, .bool o]) ∧ Up w w'
namespace M
/-- The least key that a size is not beyond. -/
theorem least {f : Fm} {X q : Nat} (hb : ¬ Byd f X q) : ∃ j, j ≤ q ∧ ¬ Byd f X j ∧ ∀ i, i < j → Byd f X i := by
  classical
  have : ∀ n j : Nat, j + n = q → (∀ i, i < j → Byd f X i) → ∃ j, j ≤ q ∧ ¬ Byd f X j ∧ ∀ i, i < j → Byd f X i := by
    intro n
    induction n with
    | zero =>
      intro j hj hi
      obtain rfl : j = q := by omega
      exact ⟨j, Nat.le_refl _, hb, hi⟩
    | succ n ih =>
      intro j hj hi
      by_cases h : Byd f X j
      · refine ih (j + 1) (by omega) (fun i h2 => ?_)
        rcases Nat.eq_or_lt_of_le (Nat.le_of_lt_succ h2) with rfl | h2
        · exact h
        · exact hi i h2
      · exact ⟨j, by omega, h, hi⟩
  exact this q 0 (by omega) (fun i h => absurd h (Nat.not_lt_zero i))
theorem least_nr {f : Fm} {X q j : Nat} (q1 : 1 ≤ q) (ok : Ok f) (ok2 : Ok2 f) (ok3 : Ok3 f) (qt : (q : Int) ≤ tp f) (h1 : j ≤ q) (h2 : ¬ Byd f X j) (h3 : ∀ i, i < j → Byd f X i) : Nr f q X (if f.k = 1 ∧ j = 0 ∧ X ≠ 0 then 1 else j) false := by
  by_cases c : f.k = 1 ∧ j = 0 ∧ X ≠ 0
  · rw [if_pos c]
    obtain ⟨c1, rfl, c3⟩ := c
    exact .inr ⟨rfl, q1, fun e => h2 (byd_down ok ok2 ok3 (by omega) (Nat.zero_le _) e), fun _ _ => by decide, fun i hi => .inr ⟨c1, c3, by omega⟩⟩
  · rw [if_neg c]
    exact .inr ⟨rfl, h1, h2, fun a b e => c ⟨a, e, b⟩, fun i hi => .inl (h3 i hi)⟩
end M
set_option maxHeartbeats 1000000 in
set_option maxRecDepth 100000 in
theorem rsize_any (w : World) (m : Nat) (mb : m < 18446744073709551616) (m0 : m ≠ 0) (z : Int) : Calls Tryz.prog 45 #[u64 m, .int .i64 z] w (Xr false 1 m z 0 w) := by
  have d1 : ((m : Int) == 0) = false := by rw [beq_eq_false_iff_ne]; omega
  have U := Up.refl w
  go_enter Tryz.func45, Tryz.ntmps45
  go_wp2_with fail
  exact bodyPost_ret (v := xv false (.slice (some ⟨w.heap.size + 1, 0, none⟩) 1 1) z 0) (by simp [results, Tryz.results45, go_sem]) rfl ⟨_, rfl, (lit1_at (.cells #[.bool false, .slice (some ⟨w.heap.size + 1, 0, none⟩) 1 1, .int .i64 z, .int .i64 0] 25) w m (m : Int) rfl mb m0).lower (Nat.le_succ _), ((Up.refl w).alloc _).alloc _⟩
set_option maxHeartbeats 1000000 in
set_option maxRecDepth 100000 in
theorem rnone_any (w : World) (lo s : Nat) (neg : Bool) (v : Value) (t g : Int) (a : Nat) (h : Nt w lo s v a) (r : Bool) (hr : Hid (decide (a = 0) = r)) : Calls Tryz.prog 31 #[xv neg v t g] w (Bz r w) := by
  obtain ⟨A, n, c, xs, rfl, h1⟩ := h
  have hi := Nt.nil_iff (w := w) (lo := lo) (s := s) ⟨A, n, c, xs, rfl, h1⟩
  have e : ((n : Int) == 0) = r := by
    rw [← hr.out]
    by_cases h : a = 0
    · rw [decide_eq_true h, beq_iff_eq]; omega
    · rw [decide_eq_false h, beq_eq_false_iff_ne]; omega
  clear hr hi h1
  have U := Up.refl w
  go_enter Tryz.func31, Tryz.ntmps31
  go_wp2_with fail
  obtain ⟨V1, hV1⟩ : ∃ V1, w.alloc (.cells #[.bool neg, .slice A n c, .int .i64 t, .int .i64 g] 25) = V1 := ⟨_, rfl⟩
  have B : Ob V1 w.heap.size 25 #[.bool neg, .slice A n c, .int .i64 t, .int .i64 g] := by rw [← hV1]; exact Ob.mk_ _ _ _
  have uV1 : Up w V1 := by rw [← hV1]; exact (Up.refl _).alloc _
  have ltB : w.heap.size ≤ w.heap.size := U.size
  rw [hV1]
  clear hV1
  replace U := U.trans uV1
  clear uV1
  have B0 := B.get 0
  have B1 := B.get 1
  have B2 := B.get 2
  have B3 := B.get 3
  have Bf0 := B.fr 0
  have Bf1 := B.fr 1
  have Bf2 := B.fr 2
  have Bf3 := B.fr 3
  have Bl := B.lt
  simp only [List.getElem?_toArray, List.getElem?_cons_zero, List.getElem?_cons_succ] at B0 B1 B2 B3
  go_wp2_with fail
  clear B0 Bf0 B1 Bf1 B2 Bf2 B3 Bf3 Bl
  go_ret
  exact ⟨by first | rfl | exact ret_bool e, U⟩
set_option maxHeartbeats 1000000 in
set_option maxRecDepth 100000 in
theorem rahead_any (w : World) (i : Nat) (f : M.Fm) (hf : Hid (M.tb i = f)) (i1 : 1 ≤ i) (i2 : i ≤ 14) (k : Nat) (kb : k < 18446744073709551616) (hk : (k : Int) ≤ M.tp f) (lo s : Nat) (neg : Bool) (v : Value) (t g : Int) (a : Nat) (h : Nt w lo s v a) (hs : s ≤ 100000) (bt : -5000 ≤ t ∧ t ≤ 5000) (bg : -5000 ≤ g ∧ g ≤ 5000) (r : Bool) (hr : Hid (r = true ↔ ¬ M.Byd f (M.sz a t g) k)) : Calls Tryz.prog 30 #[.int .i64 (i : Int), xv neg v t g, u64 k] w (Bz r w) := by
  have ok := M.ok i i1 i2
  have ok2 := M.ok2 i i1 i2
  have ok3 := M.ok3 i i1 i2
  rw [hf.out] at ok ok2 ok3
  obtain ⟨m, z, hbd⟩ := M.bd_ex ok ok2 hk
  obtain ⟨m0, mb, zb⟩ := M.bd_z ok ok2 ok3 hk hbd
  obtain ⟨c, hc⟩ : ∃ c, M.cmp (M.sz a t g) (M.sz m z 0) = c := ⟨_, rfl⟩
  have CB := Lib.hid (fun W => rbetween_any W (i : Int) k kb m z 0 (.inr ⟨i, rfl, i1, i2, .inr ⟨by rw [hf.out]; exact hk, by rw [hf.out]; exact hbd, rfl⟩⟩))
  have CS := Lib.hid (fun W => rsize_any W m mb (by omega) z)
  have CC := Lib.hid (fun W (U : Up w W) (lo' : Nat) (v' : Value) (n' : Nt W lo' 1 v' m) => rxcmp_any (-5000) W lo lo' s 1 neg false v v' t g z 0 a m (h.nw.up U) n'.nw hs (by omega) ⟨by omega, by omega, by omega⟩ ⟨by omega, by omega, by omega⟩ ⟨by omega, by omega, by omega⟩ ⟨by omega, by omega, by omega⟩ c (by rw [M.sz_ov, M.sz_ov]; exact hc))
  obtain ⟨ev, hev⟩ : ∃ ev, decide (k % 2 = 0) = ev := ⟨_, rfl⟩
  have em : ((k : Int).tmod 2 == 0) = ev := by
    rw [← hev, Int.tmod_eq_emod_of_nonneg (by omega)]
    by_cases h : k % 2 = 0
    · rw [decide_eq_true h, beq_iff_eq]; omega
    · rw [decide_eq_false h, beq_eq_false_iff_ne]; omega
  have hb : M.Byd f (M.sz a t g) k ↔ (c = 1 ∨ (c = 0 ∧ ev = false)) := by
    rw [M.byd_iff ⟨m, z, hbd, rfl⟩, ← hev, ← hc]
    rcases Nat.lt_trichotomy (M.sz a t g) (M.sz m z 0) with e | e | e
    · rw [M.cmp_lt e]; simp; omega
    · rw [M.cmp_eq e]; simp [e]
    · rw [M.cmp_gt e]; simp; omega
  have hr2 := hr.out
  rw [hb] at hr2
  have rc : c = -1 ∨ c = 0 ∨ c = 1 := by
    have := M.cmp_rng (M.sz a t g) (M.sz m z 0)
    omega
  clear hr hb hc hbd hev ok ok2 ok3 hf i1 i2 hk h bt bg zb mb m0 hs
  have U := Up.refl w
  go_enter Tryz.func30, Tryz.ntmps30
  go_wp2_with fail
  obtain ⟨V1, hV1⟩ : ∃ V1, w.alloc (.cells #[.bool neg, v, .int .i64 t, .int .i64 g] 25) = V1 := ⟨_, rfl⟩
  have B : Ob V1 w.heap.size 25 #[.bool neg, v, .int .i64 t, .int .i64 g] := by rw [← hV1]; exact Ob.mk_ _ _ _
  have uV1 : Up w V1 := by rw [← hV1]; exact (Up.refl _).alloc _
  have ltB : w.heap.size ≤ w.heap.size := U.size
  rw [hV1]
  clear hV1
  replace U := U.trans uV1
  clear uV1
  refine (CB.out _).mono ?_
  rintro _ w2 ⟨rfl, h2⟩
  replace U := U.trans h2
  replace B := B.up h2
  clear h2
  obtain ⟨W, hW⟩ : ∃ W, w2 = W := ⟨_, rfl⟩
  rw [hW] at B U ⊢
  clear hW
  go_upto_region 2 with fail
  have B0 := B.get 0
  have B1 := B.get 1
  have B2 := B.get 2
  have B3 := B.get 3
  have Bf0 := B.fr 0
  have Bf1 := B.fr 1
  have Bf2 := B.fr 2
  have Bf3 := B.fr 3
  have Bl := B.lt
  simp only [List.getElem?_toArray, List.getElem?_cons_zero, List.getElem?_cons_succ] at B0 B1 B2 B3
  go_region_held3 (fun w' => w'.cell? ⟨w.heap.size, 0, none⟩ = some (.bool neg) ∧ w'.cell? ⟨w.heap.size, 1, none⟩ = some (v) ∧ w'.cell? ⟨w.heap.size, 2, none⟩ = some (.int .i64 t) ∧ w'.cell? ⟨w.heap.size, 3, none⟩ = some (.int .i64 g)) (go_keep) (first
    | (go_at_call 45; (with_reducible refine (CS.out _).mono ?_); rintro _ wA ⟨vA, rfl, nA, hua⟩; have uA : Up W wA := Up.trans (by first | with_reducible assumption | exact Up.refl _ | exact (Up.refl W).drewN 1) hua; have A0 := cell_up_ uA B0; have A1 := cell_up_ uA B1; have A2 := cell_up_ uA B2; have A3 := cell_up_ uA B3)
    | (go_at_call 51; (with_reducible refine (CC.out _ (U.trans uA) _ _ nA).mono ?_); rintro _ wC ⟨rfl, huc⟩; have uC : Up W wC := uA.trans huc; have C0 := cell_up_ uC B0; have C1 := cell_up_ uC B1; have C2 := cell_up_ uC B2; have C3 := cell_up_ uC B3))
  replace U := U.trans uC
  clear CB CC CS A0 C0 B0 A1 C1 B1 A2 C2 B2 A3 C3 B3 nA uA uC hua huc
  rcases rc with rfl | rfl | rfl
  ·
    obtain rfl : r = true := hr2.2 (by omega)
    clear hr2
    go_wp2_with fail
    go_ret
    exact ⟨by first | rfl | exact ret_bool em | simp, by first | exact U | exact U.drewN _ | exact U.drew⟩
  ·
    obtain rfl : r = ev := by
      cases ev
      · cases r
        · rfl
        · exact absurd (.inr ⟨rfl, rfl⟩) (hr2.1 rfl)
      · exact hr2.2 (by simp)
    clear hr2
    go_wp2_with fail
    go_ret
    exact ⟨by first | rfl | exact ret_bool em | simp, by first | exact U | exact U.drewN _ | exact U.drew⟩
  ·
    obtain rfl : r = false := by
      cases r
      · rfl
      · exact absurd (.inl rfl) (hr2.1 rfl)
    clear hr2
    go_wp2_with fail
    go_ret
    exact ⟨by first | rfl | exact ret_bool em | simp, by first | exact U | exact U.drewN _ | exact U.drew⟩
end Go.Proofs.YtlogglhonlannaaGreatDoor
