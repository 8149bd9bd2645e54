/-
  Package qtext: Parse's contract; what is asked of the package holds.
-/
import Derived.Test.YtjmnobgllnaljaaGreatDoorCu1
namespace Go.Proofs.YtjmnobgllnaljaaGreatDoor
open Go.RowKit Go.Shelf
set_option linter.unusedVariables false
set_option linter.unusedSimpArgs false

set_option maxHeartbeats 4000000 in
set_option maxRecDepth 100000 in
theorem qwhole_no (w : World) (lo : Nat) (K : Int) (ng : Bool) (A : Option Addr) (n c d : Nat) (k bg : Int) (ct : Bool) (e : Int) (h : Nt w lo 2001 (.slice A n c) d) (hbg : bg = 0) (hct : ct = false) (hk : -3000 ≤ k ∧ k ≤ 1000) (he : -1200 ≤ e ∧ e ≤ 1200) (hno : ∀ b, M.ys b e 0 ≠ M.ys d k k) : Calls Tryz.prog 30 #[itv K ng (.slice A n c) k bg ct, .int .i64 e] w (Pn16 8 w) := by
  have U := Up.refl w
  subst hbg hct
  have hw1 : IntKind.i64.wrap (k - e) = k - e := wrap_small (by omega)
  by_cases h5 : ∃ a, M.Tms d 5 k a
  · obtain ⟨a, ha⟩ := h5
    have hn2 : ∀ b, ¬ M.Tms a 2 (k - e) b := fun b hb => hno b ((M.ys_five_two (by omega) (by omega) ha).2 hb)
    have C1 := Lib.hid (fun W (u : Up w W) => show Calls Tryz.prog 53 #[.slice A n c, .int .u64 5, .int .i64 k] W (Res (2001 + 5002) a W) from qtms_ok W lo 2001 _ d 5 k (h.up u) (by omega) (by omega) (by omega) (by omega) a ha)
    have C2 := Lib.hid (fun W lo' v' (N : Nt W lo' (2001 + 5002) v' a) => show Calls Tryz.prog 53 #[v', .int .u64 2, .int .i64 (k - e)] W (Pn16 8 W) from qtms_bad W lo' (2001 + 5002) v' a 2 (k - e) N (by omega) (by omega) (by omega) (by omega) hn2)
    clear h ha hn2 hk he hno
    go_enter Tryz.func30, Tryz.ntmps30
    go_upto_region 1 with fail
    obtain ⟨V, hV⟩ : ∃ V, w.alloc (.cells #[.int .i64 K, .bool ng, .slice A n c, .int .i64 k, .int .i64 0, .bool false] 51) = V := ⟨_, rfl⟩
    have R : Ob V w.heap.size 51 #[.int .i64 K, .bool ng, .slice A n c, .int .i64 k, .int .i64 0, .bool false] := by rw [← hV]; exact Ob.mk_ _ _ _
    replace U : Up w V := by rw [← hV]; exact U.alloc _
    rw [hV]
    clear hV
    obtain ⟨p0, p1, p2, p3, p4, p5⟩ := R.six
    go_wp2_with fail
    refine (qmust_ok _ _).mono ?_
    rintro _ w1 ⟨rfl, hw1⟩
    have u1 : Up V w1 := by rw [← hw1]; first | exact Up.refl _ | exact (Up.refl _).drew | exact (Up.refl _).drewN _
    replace U := U.trans u1
    replace R := R.up u1
    clear u1 hw1 p0 p1 p2 p3 p4 p5
    have p2 := R.get 2
    have p3 := R.get 3
    simp only [List.getElem?_toArray, List.getElem?_cons_zero, List.getElem?_cons_succ] at p2 p3
    obtain ⟨b, hb⟩ : ∃ b, w.heap.size = b := ⟨_, rfl⟩
    rw [hb] at p2 p3
    go_wp2_with fail
    have hH : (w1.drew).cell? ⟨b, 2, none⟩ = some (.slice A n c) ∧ (w1.drew).cell? ⟨b, 3, none⟩ = some (.int .i64 k) := ⟨p2, p3⟩
    refine wp_region_held_drew (S := fun w' => w'.cell? ⟨b, 2, none⟩ = some (.slice A n c) ∧ w'.cell? ⟨b, 3, none⟩ = some (.int .i64 k)) (by kernel_rfl) hH (fun hHeld => ?_)
    refine wpAnyH_take (i := 0) (v := ?_) rfl ?_ ?_ ?_ ?_ ?_ ?_ ?_
    rotate_left
    · kernel_rfl
    · kernel_rfl
    · kernel_rfl
    · exact fun c a w h => h
    · refine Or.inl ⟨by rfl, ?_⟩
      intro wq hSq
      obtain ⟨q2, q3⟩ := hSq
      go_simp
      all_goals with_reducible rfl
    · assumption
    try simp only [Act.put, List.setIfInBounds_toArray, List.set_cons_zero, List.set_cons_succ, List.getElem_toArray, List.getElem_cons_zero, List.getElem_cons_succ]
    refine wpAnyH_take (i := 1) (v := ?_) rfl ?_ ?_ ?_ ?_ ?_ ?_ ?_
    rotate_left
    · kernel_rfl
    · kernel_rfl
    · kernel_rfl
    · exact fun c a w h => h
    · refine Or.inl ⟨by rfl, ?_⟩
      intro wq hSq
      obtain ⟨q2, q3⟩ := hSq
      go_simp
      all_goals with_reducible rfl
    · assumption
    try simp only [Act.put, List.setIfInBounds_toArray, List.set_cons_zero, List.set_cons_succ, List.getElem_toArray, List.getElem_cons_zero, List.getElem_cons_succ]
    refine wpAnyH_take (i := 2) (v := ?_) rfl ?_ ?_ ?_ ?_ ?_ ?_ ?_
    rotate_left
    · kernel_rfl
    · kernel_rfl
    · kernel_rfl
    · exact fun c a w h => h
    · refine Or.inl ⟨by rfl, ?_⟩
      intro wq hSq
      obtain ⟨q2, q3⟩ := hSq
      go_simp
      all_goals with_reducible rfl
    · assumption
    try simp only [Act.put, List.setIfInBounds_toArray, List.set_cons_zero, List.set_cons_succ, List.getElem_toArray, List.getElem_cons_zero, List.getElem_cons_succ]
    refine wpAnyH_take (i := 3) (v := ?_) rfl ?_ ?_ ?_ ?_ ?_ ?_ ?_
    rotate_left
    · kernel_rfl
    · kernel_rfl
    · kernel_rfl
    · exact fun c a w h => h
    · refine Or.inl ⟨by rfl, ?_⟩
      intro wq hSq
      obtain ⟨q2, q3⟩ := hSq
      go_simp
      all_goals with_reducible rfl
    · assumption
    try simp only [Act.put, List.setIfInBounds_toArray, List.set_cons_zero, List.set_cons_succ, List.getElem_toArray, List.getElem_cons_zero, List.getElem_cons_succ]
    refine wpAnyH_take (i := 5) (v := ?_) rfl ?_ ?_ ?_ ?_ ?_ ?_ ?_
    rotate_left
    · kernel_rfl
    · kernel_rfl
    · kernel_rfl
    · exact fun c a w h => h
    · refine Or.inl ⟨by rfl, ?_⟩
      intro wq hSq
      obtain ⟨q2, q3⟩ := hSq
      go_simp
      all_goals with_reducible rfl
    · assumption
    try simp only [Act.put, List.setIfInBounds_toArray, List.set_cons_zero, List.set_cons_succ, List.getElem_toArray, List.getElem_cons_zero, List.getElem_cons_succ]
    refine wpAnyH_take (i := 6) (v := ?_) rfl ?_ ?_ ?_ ?_ ?_ ?_ ?_
    rotate_left
    · kernel_rfl
    · kernel_rfl
    · kernel_rfl
    · exact fun c a w h => h
    · refine Or.inl ⟨by rfl, ?_⟩
      intro wq hSq
      obtain ⟨q2, q3⟩ := hSq
      go_simp
      all_goals with_reducible rfl
    · assumption
    try simp only [Act.put, List.setIfInBounds_toArray, List.set_cons_zero, List.set_cons_succ, List.getElem_toArray, List.getElem_cons_zero, List.getElem_cons_succ]
    refine wpAnyH_take (i := 7) (v := ?_) rfl ?_ ?_ ?_ ?_ ?_ ?_ ?_
    rotate_left
    · kernel_rfl
    · kernel_rfl
    · kernel_rfl
    · exact fun c a w h => h
    · refine Or.inl ⟨by rfl, ?_⟩
      intro wq hSq
      obtain ⟨q2, q3⟩ := hSq
      go_simp
      all_goals with_reducible rfl
    · assumption
    try simp only [Act.put, List.setIfInBounds_toArray, List.set_cons_zero, List.set_cons_succ, List.getElem_toArray, List.getElem_cons_zero, List.getElem_cons_succ]
    refine wpAnyH_take (i := 8) (v := ?_) rfl ?_ ?_ ?_ ?_ ?_ ?_ ?_
    rotate_left
    · kernel_rfl
    · kernel_rfl
    · kernel_rfl
    · exact fun c a w h => h
    · refine Or.inl ⟨by rfl, ?_⟩
      intro wq hSq
      obtain ⟨q2, q3⟩ := hSq
      go_simp
      all_goals with_reducible rfl
    · assumption
    try simp only [Act.put, List.setIfInBounds_toArray, List.set_cons_zero, List.set_cons_succ, List.getElem_toArray, List.getElem_cons_zero, List.getElem_cons_succ]
    refine wpAnyH_ready (rs := [4]) ?_ ?_ ?_
    · kernel_rfl
    · simp
    refine AllReadyH.cons rfl (fun KQ hK => ?_) AllReadyH.nil
    go_simp
    refine (C1.out _ U.drew).mono ?_
    rintro _ wA ⟨vA, rfl, NA, hA⟩
    obtain ⟨A3, n3, c3, rfl, NA⟩ := NA.slr
    have uA : Up w wA := Up.trans U.drew hA
    have hA2 : Up w1 wA := Up.trans (Up.refl _).drew hA
    refine hK.out _ _ ⟨cell_up hA2 p2, cell_up hA2 p3⟩ (fun _ => ?_)
    try simp only [Act.put, List.setIfInBounds_toArray, List.set_cons_zero, List.set_cons_succ, List.getElem_toArray, List.getElem_cons_zero, List.getElem_cons_succ]
    clear hK
    refine wpAnyH_ready (rs := [9]) ?_ ?_ ?_
    · kernel_rfl
    · simp
    refine AllReadyH.cons rfl (fun KQ hK => ?_) AllReadyH.nil
    go_simp
    refine (C2.out _ _ _ NA).mono ?_
    rintro _ wB ⟨rfl, hB⟩
    exact ⟨rfl, rfl, Up.trans uA hB⟩
  · have hn5 : ∀ c, ¬ M.Tms d 5 k c := fun c hc => h5 ⟨c, hc⟩
    have C1 := Lib.hid (fun W (u : Up w W) => show Calls Tryz.prog 53 #[.slice A n c, .int .u64 5, .int .i64 k] W (Pn16 8 W) from qtms_bad W lo 2001 _ d 5 k (h.up u) (by omega) (by omega) (by omega) (by omega) hn5)
    clear h hn5 hk he hno h5
    go_enter Tryz.func30, Tryz.ntmps30
    go_upto_region 1 with fail
    obtain ⟨V, hV⟩ : ∃ V, w.alloc (.cells #[.int .i64 K, .bool ng, .slice A n c, .int .i64 k, .int .i64 0, .bool false] 51) = V := ⟨_, rfl⟩
    have R : Ob V w.heap.size 51 #[.int .i64 K, .bool ng, .slice A n c, .int .i64 k, .int .i64 0, .bool false] := by rw [← hV]; exact Ob.mk_ _ _ _
    replace U : Up w V := by rw [← hV]; exact U.alloc _
    rw [hV]
    clear hV
    obtain ⟨p0, p1, p2, p3, p4, p5⟩ := R.six
    go_wp2_with fail
    refine (qmust_ok _ _).mono ?_
    rintro _ w1 ⟨rfl, hw1⟩
    have u1 : Up V w1 := by rw [← hw1]; first | exact Up.refl _ | exact (Up.refl _).drew | exact (Up.refl _).drewN _
    replace U := U.trans u1
    replace R := R.up u1
    clear u1 hw1 p0 p1 p2 p3 p4 p5
    have p2 := R.get 2
    have p3 := R.get 3
    simp only [List.getElem?_toArray, List.getElem?_cons_zero, List.getElem?_cons_succ] at p2 p3
    obtain ⟨b, hb⟩ : ∃ b, w.heap.size = b := ⟨_, rfl⟩
    rw [hb] at p2 p3
    go_wp2_with fail
    have hH : (w1.drew).cell? ⟨b, 2, none⟩ = some (.slice A n c) ∧ (w1.drew).cell? ⟨b, 3, none⟩ = some (.int .i64 k) := ⟨p2, p3⟩
    refine wp_region_held_drew (S := fun w' => w'.cell? ⟨b, 2, none⟩ = some (.slice A n c) ∧ w'.cell? ⟨b, 3, none⟩ = some (.int .i64 k)) (by kernel_rfl) hH (fun hHeld => ?_)
    refine wpAnyH_take (i := 0) (v := ?_) rfl ?_ ?_ ?_ ?_ ?_ ?_ ?_
    rotate_left
    · kernel_rfl
    · kernel_rfl
    · kernel_rfl
    · exact fun c a w h => h
    · refine Or.inl ⟨by rfl, ?_⟩
      intro wq hSq
      obtain ⟨q2, q3⟩ := hSq
      go_simp
      all_goals with_reducible rfl
    · assumption
    try simp only [Act.put, List.setIfInBounds_toArray, List.set_cons_zero, List.set_cons_succ, List.getElem_toArray, List.getElem_cons_zero, List.getElem_cons_succ]
    refine wpAnyH_take (i := 1) (v := ?_) rfl ?_ ?_ ?_ ?_ ?_ ?_ ?_
    rotate_left
    · kernel_rfl
    · kernel_rfl
    · kernel_rfl
    · exact fun c a w h => h
    · refine Or.inl ⟨by rfl, ?_⟩
      intro wq hSq
      obtain ⟨q2, q3⟩ := hSq
      go_simp
      all_goals with_reducible rfl
    · assumption
    try simp only [Act.put, List.setIfInBounds_toArray, List.set_cons_zero, List.set_cons_succ, List.getElem_toArray, List.getElem_cons_zero, List.getElem_cons_succ]
    refine wpAnyH_take (i := 2) (v := ?_) rfl ?_ ?_ ?_ ?_ ?_ ?_ ?_
    rotate_left
    · kernel_rfl
    · kernel_rfl
    · kernel_rfl
    · exact fun c a w h => h
    · refine Or.inl ⟨by rfl, ?_⟩
      intro wq hSq
      obtain ⟨q2, q3⟩ := hSq
      go_simp
      all_goals with_reducible rfl
    · assumption
    try simp only [Act.put, List.setIfInBounds_toArray, List.set_cons_zero, List.set_cons_succ, List.getElem_toArray, List.getElem_cons_zero, List.getElem_cons_succ]
    refine wpAnyH_take (i := 3) (v := ?_) rfl ?_ ?_ ?_ ?_ ?_ ?_ ?_
    rotate_left
    · kernel_rfl
    · kernel_rfl
    · kernel_rfl
    · exact fun c a w h => h
    · refine Or.inl ⟨by rfl, ?_⟩
      intro wq hSq
      obtain ⟨q2, q3⟩ := hSq
      go_simp
      all_goals with_reducible rfl
    · assumption
    try simp only [Act.put, List.setIfInBounds_toArray, List.set_cons_zero, List.set_cons_succ, List.getElem_toArray, List.getElem_cons_zero, List.getElem_cons_succ]
    refine wpAnyH_take (i := 5) (v := ?_) rfl ?_ ?_ ?_ ?_ ?_ ?_ ?_
    rotate_left
    · kernel_rfl
    · kernel_rfl
    · kernel_rfl
    · exact fun c a w h => h
    · refine Or.inl ⟨by rfl, ?_⟩
      intro wq hSq
      obtain ⟨q2, q3⟩ := hSq
      go_simp
      all_goals with_reducible rfl
    · assumption
    try simp only [Act.put, List.setIfInBounds_toArray, List.set_cons_zero, List.set_cons_succ, List.getElem_toArray, List.getElem_cons_zero, List.getElem_cons_succ]
    refine wpAnyH_take (i := 6) (v := ?_) rfl ?_ ?_ ?_ ?_ ?_ ?_ ?_
    rotate_left
    · kernel_rfl
    · kernel_rfl
    · kernel_rfl
    · exact fun c a w h => h
    · refine Or.inl ⟨by rfl, ?_⟩
      intro wq hSq
      obtain ⟨q2, q3⟩ := hSq
      go_simp
      all_goals with_reducible rfl
    · assumption
    try simp only [Act.put, List.setIfInBounds_toArray, List.set_cons_zero, List.set_cons_succ, List.getElem_toArray, List.getElem_cons_zero, List.getElem_cons_succ]
    refine wpAnyH_take (i := 7) (v := ?_) rfl ?_ ?_ ?_ ?_ ?_ ?_ ?_
    rotate_left
    · kernel_rfl
    · kernel_rfl
    · kernel_rfl
    · exact fun c a w h => h
    · refine Or.inl ⟨by rfl, ?_⟩
      intro wq hSq
      obtain ⟨q2, q3⟩ := hSq
      go_simp
      all_goals with_reducible rfl
    · assumption
    try simp only [Act.put, List.setIfInBounds_toArray, List.set_cons_zero, List.set_cons_succ, List.getElem_toArray, List.getElem_cons_zero, List.getElem_cons_succ]
    refine wpAnyH_take (i := 8) (v := ?_) rfl ?_ ?_ ?_ ?_ ?_ ?_ ?_
    rotate_left
    · kernel_rfl
    · kernel_rfl
    · kernel_rfl
    · exact fun c a w h => h
    · refine Or.inl ⟨by rfl, ?_⟩
      intro wq hSq
      obtain ⟨q2, q3⟩ := hSq
      go_simp
      all_goals with_reducible rfl
    · assumption
    try simp only [Act.put, List.setIfInBounds_toArray, List.set_cons_zero, List.set_cons_succ, List.getElem_toArray, List.getElem_cons_zero, List.getElem_cons_succ]
    refine wpAnyH_ready (rs := [4]) ?_ ?_ ?_
    · kernel_rfl
    · simp
    refine AllReadyH.cons rfl (fun KQ hK => ?_) AllReadyH.nil
    go_simp
    refine (C1.out _ U.drew).mono ?_
    rintro _ wB ⟨rfl, hB⟩
    exact ⟨rfl, rfl, Up.trans U.drew hB⟩
end Go.Proofs.YtjmnobgllnaljaaGreatDoor
