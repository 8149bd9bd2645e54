/-
  Package posit: the closures.
-/
import Derived.Test.YtngoglhjelcdgaaDoorPq7
import Derived.Deep.RegionWith
import Derived.Deep.RegionHeld3
namespace Go.Proofs.YtngoglhjelcdgaaDoor
open Go.RowKit Go.Shelf
set_option linter.unusedSimpArgs false

theorem Kb.setIn {b b' : Nat} {w w' : World} (h : Kb b b' w w') {p : Addr} (hp : p.block = b ∨ p.block = b') (v : Value) : Kb b b' w (w'.setCell p v) :=
  ⟨h.os, h.tape, h.output, (show w.heap.size ≤ (w'.setCell p v).heap.size by simp [World.setCell]; exact h.size), fun k hk h1 h2 => (Below.heap_setCell _ _ _ _ (by rcases hp with e | e <;> rw [e] <;> assumption)).trans (h.block k hk h1 h2)⟩
theorem put4 {w w1 : World} {c : Nat} {ty : TypeId} {y0 y1 y2 y3 : Value} (U : Up w w1) (h : Ob w1 c ty #[y0, y1, y2, y3]) (x0 x1 x2 x3 : Value) :
    Kb c c w ((((w1.setCell ⟨c, 0, none⟩ x0).setCell ⟨c, 1, none⟩ x1).setCell ⟨c, 2, none⟩ x2).setCell ⟨c, 3, none⟩ x3) ∧ Ob ((((w1.setCell ⟨c, 0, none⟩ x0).setCell ⟨c, 1, none⟩ x1).setCell ⟨c, 2, none⟩ x2).setCell ⟨c, 3, none⟩ x3) c ty #[x0, x1, x2, x3] :=
  ⟨((((Kb.of_up U).setIn (p := ⟨c, 0, none⟩) (.inl rfl) x0).setIn (p := ⟨c, 1, none⟩) (.inl rfl) x1).setIn (p := ⟨c, 2, none⟩) (.inl rfl) x2).setIn (p := ⟨c, 3, none⟩) (.inl rfl) x3, (((h.put 0 x0).put 1 x1).put 2 x2).put 3 x3⟩
theorem up_drew {w w' : World} (h : Up w.drew w') : Up w w' := ((Up.refl w).drew).trans h
set_option maxHeartbeats 4000000 in
set_option maxRecDepth 100000 in
theorem csplit_in (w : World) (a b c : Nat) (n : Nat) (hn2 : 2 ≤ n) (hn : n ≤ 64) (k r q : Nat) (R : Int) (h : M.Ps n k R r q) (E F : Nat) (B : Int) (hE : Hid (M.ex r q = E)) (hF : Hid (M.fr r q = F)) (hB : Hid (((r - 2 : Nat) : Int) = B)) (ha : w.cell? ⟨a, 0, none⟩ = some (.int .i64 ((n : Int) + 1))) (hb : w.cell? ⟨b, 0, none⟩ = some (u64 k)) (hc : Ob w c 25 #[.int .i64 0, .int .i64 0, .int .u64 0, .int .i64 0]) :
    Calls Tryd.prog 23 #[.pointer (some ⟨a, 0, none⟩), .pointer (some ⟨b, 0, none⟩), .pointer (some ⟨c, 0, none⟩)] w (fun e w' => e = .returned (.tuple #[]) ∧ Kb c c w w' ∧ Ob w' c 25 #[.int .i64 R, .int .i64 (E : Int), .int .u64 (F : Int), .int .i64 B]) := by
  have CS := Lib.hid (fun W => size_in W n hn2 hn)
  have CP := Lib.hid (fun W => split_any W n k r q R hn h E F B hE hF hB)
  have lc := hc.lt
  clear h hE hF hB
  go_enter Tryd.func23, Tryd.ntmps23
  go_wp2_with fail
  go_region_with (first
    | (go_at_call 25; refine (CS.out _).mono ?_; rintro _ _ ⟨rfl, rfl⟩)
    | (go_at_call 24; refine (CP.out _).mono ?_; rintro _ w1 ⟨rfl, U1⟩; have U2 : Up w w1 := (by first | with_reducible exact U1 | exact up_drew U1); have hc1 : Ob w1 c 25 #[.int .i64 0, .int .i64 0, .int .u64 0, .int .i64 0] := hc.up U2; have c0 := hc1.get 0; have c1 := hc1.get 1; have c2 := hc1.get 2; have c3 := hc1.get 3; have f0 := hc1.fr 0; have f1 := hc1.fr 1; have f2 := hc1.fr 2; have f3 := hc1.fr 3; simp only [List.getElem?_toArray, List.getElem?_cons_zero, List.getElem?_cons_succ] at c0 c1 c2 c3))
  all_goals
    obtain ⟨K, O⟩ := put4 U2 hc1 (.int .i64 R) (.int .i64 (E : Int)) (.int .u64 (F : Int)) (.int .i64 B)
    go_wp2_with fail
    go_end0
    exact ⟨rfl, K, O⟩
set_option maxHeartbeats 4000000 in
set_option maxRecDepth 100000 in
theorem csplit_wide (w : World) (a b c : Nat) (wd : Int) (hw : wd < 3 ∨ 65 < wd) (ha : w.cell? ⟨a, 0, none⟩ = some (.int .i64 wd)) (k : Nat) (hb : w.cell? ⟨b, 0, none⟩ = some (u64 k)) :
    Calls Tryd.prog 23 #[.pointer (some ⟨a, 0, none⟩), .pointer (some ⟨b, 0, none⟩), .pointer (some ⟨c, 0, none⟩)] w (Pns w) := by
  have CS := Lib.hid (fun W => size_out W wd hw)
  clear hw
  go_enter Tryd.func23, Tryd.ntmps23
  go_wp2_with fail
  refine wp_region_held_drew (S := fun w' => w'.cell? ⟨a, 0, none⟩ = some (.int .i64 wd) ∧ w'.cell? ⟨b, 0, none⟩ = some (u64 k)) (by kernel_rfl) ?_ (fun hHeld => ?_)
  · try dsimp only
    go_keep
  refine wpAnyH_take (i := 0) (v := ?_) rfl (by kernel_rfl) (by kernel_rfl) (by kernel_rfl) (fun _ _ _ h => h) (Or.inl ⟨by rfl, ?_⟩) (by assumption) ?_
  rotate_left
  · intro w hSw
    (try dsimp only at hSw)
    go_simp
    all_goals with_reducible rfl
  try simp only [Act.put, List.setIfInBounds_toArray, List.set_cons_zero, List.set_cons_succ, List.getElem_toArray, List.getElem_cons_zero, List.getElem_cons_succ]
  refine wpAnyH_take (i := 2) (v := ?_) rfl (by kernel_rfl) (by kernel_rfl) (by kernel_rfl) (fun _ _ _ h => h) (Or.inl ⟨by rfl, ?_⟩) (by assumption) ?_
  rotate_left
  · intro w hSw
    (try dsimp only at hSw)
    go_simp
    all_goals with_reducible rfl
  try simp only [Act.put, List.setIfInBounds_toArray, List.set_cons_zero, List.set_cons_succ, List.getElem_toArray, List.getElem_cons_zero, List.getElem_cons_succ]
  refine wpAnyH_ready (rs := [1]) (by kernel_rfl) (by simp) ?_
  refine AllReadyH.cons rfl (fun K hK => ?_) AllReadyH.nil
  go_simp
  (refine (CS.out _).mono ?_)
  rintro _ w1 ⟨⟨s, rfl⟩, U1⟩
  exact ⟨rfl, ⟨_, rfl⟩, (by first | with_reducible exact U1 | exact up_drew U1)⟩
set_option maxHeartbeats 4000000 in
set_option maxRecDepth 100000 in
theorem csplit_out (w : World) (a b c : Nat) (n : Nat) (hn2 : 2 ≤ n) (hn : n ≤ 64) (ha : w.cell? ⟨a, 0, none⟩ = some (.int .i64 ((n : Int) + 1))) (k : Nat) (hk : k < 18446744073709551616) (hx : k = 0 ∨ 2 ^ n ≤ k) (hb : w.cell? ⟨b, 0, none⟩ = some (u64 k)) :
    Calls Tryd.prog 23 #[.pointer (some ⟨a, 0, none⟩), .pointer (some ⟨b, 0, none⟩), .pointer (some ⟨c, 0, none⟩)] w (Pns w) := by
  have CS := Lib.hid (fun W => size_in W n hn2 hn)
  have CP := Lib.hid (fun W => split_out W n k hn hk hx)
  clear hx
  go_enter Tryd.func23, Tryd.ntmps23
  go_wp2_with fail
  refine wp_region_held_drew (S := fun w' => w'.cell? ⟨a, 0, none⟩ = some (.int .i64 ((n : Int) + 1)) ∧ w'.cell? ⟨b, 0, none⟩ = some (u64 k)) (by kernel_rfl) ?_ (fun hHeld => ?_)
  · try dsimp only
    go_keep
  refine wpAnyH_take (i := 0) (v := ?_) rfl (by kernel_rfl) (by kernel_rfl) (by kernel_rfl) (fun _ _ _ h => h) (Or.inl ⟨by rfl, ?_⟩) (by assumption) ?_
  rotate_left
  · intro w hSw
    (try dsimp only at hSw)
    go_simp
    all_goals with_reducible rfl
  try simp only [Act.put, List.setIfInBounds_toArray, List.set_cons_zero, List.set_cons_succ, List.getElem_toArray, List.getElem_cons_zero, List.getElem_cons_succ]
  refine wpAnyH_take (i := 2) (v := ?_) rfl (by kernel_rfl) (by kernel_rfl) (by kernel_rfl) (fun _ _ _ h => h) (Or.inl ⟨by rfl, ?_⟩) (by assumption) ?_
  rotate_left
  · intro w hSw
    (try dsimp only at hSw)
    go_simp
    all_goals with_reducible rfl
  try simp only [Act.put, List.setIfInBounds_toArray, List.set_cons_zero, List.set_cons_succ, List.getElem_toArray, List.getElem_cons_zero, List.getElem_cons_succ]
  refine wpAnyH_ready (rs := [1]) (by kernel_rfl) (by simp) ?_
  refine AllReadyH.cons rfl (fun K hK => ?_) AllReadyH.nil
  go_simp
  (refine (CS.out _).mono ?_)
  rintro _ _ ⟨rfl, rfl⟩
  go_wp2_with fail
  refine hK.out _ _ ?_ (fun hHeld => ?_)
  · exact hHeld
  clear hK K
  try simp only [Act.put, List.setIfInBounds_toArray, List.set_cons_zero, List.set_cons_succ, List.getElem_toArray, List.getElem_cons_zero, List.getElem_cons_succ]
  refine wpAnyH_ready (rs := [3]) (by kernel_rfl) (by simp) ?_
  refine AllReadyH.cons rfl (fun K hK => ?_) AllReadyH.nil
  go_simp
  (refine (CP.out _).mono ?_)
  rintro _ w1 ⟨⟨s, rfl⟩, U1⟩
  exact ⟨rfl, ⟨_, rfl⟩, (by first | with_reducible exact U1 | exact up_drew U1)⟩
set_option maxHeartbeats 4000000 in
set_option maxRecDepth 100000 in
theorem cjoin_in (w : World) (a b c : Nat) (n : Nat) (hn2 : 2 ≤ n) (hn : n ≤ 64) (k : Nat) (R E : Int) (F : Nat) (B : Int) (h : M.IsF n k R E F B) (ha : w.cell? ⟨a, 0, none⟩ = some (.int .i64 ((n : Int) + 1))) (hb : Ob w b 25 #[.int .i64 R, .int .i64 E, .int .u64 (F : Int), .int .i64 B]) (hc : w.cell? ⟨c, 0, none⟩ = some (u64 0)) (hf : w.frozen? ⟨c, 0, none⟩ = false) :
    Calls Tryd.prog 28 #[.pointer (some ⟨a, 0, none⟩), .pointer (some ⟨b, 0, none⟩), .pointer (some ⟨c, 0, none⟩)] w (fun e w' => e = .returned (.tuple #[]) ∧ Kb c c w w' ∧ w'.cell? ⟨c, 0, none⟩ = some (u64 k) ∧ w'.frozen? ⟨c, 0, none⟩ = false) := by
  have CS := Lib.hid (fun W => size_in W n hn2 hn)
  have CP := Lib.hid (fun W => join_in W n k hn R E F B h)
  have lc : c < w.heap.size := World.block_lt_of_cell? _ _ hc
  clear h
  have b0 := hb.get 0
  have b1 := hb.get 1
  have b2 := hb.get 2
  have b3 := hb.get 3
  simp only [List.getElem?_toArray, List.getElem?_cons_zero, List.getElem?_cons_succ] at b0 b1 b2 b3
  go_enter Tryd.func28, Tryd.ntmps28
  go_wp2_with fail
  go_region_with (first
    | (go_at_call 25; refine (CS.out _).mono ?_; rintro _ _ ⟨rfl, rfl⟩)
    | (go_at_call 29; refine (CP.out _).mono ?_; rintro _ w1 ⟨rfl, U1⟩; have U2 : Up w w1 := (by first | with_reducible exact U1 | exact up_drew U1); have hc1 : w1.cell? ⟨c, 0, none⟩ = some (u64 0) := (Below.cell (p := ⟨c, 0, none⟩) U2 lc).trans hc; have hf1 : w1.frozen? ⟨c, 0, none⟩ = false := (Below.frozen (p := ⟨c, 0, none⟩) U2 lc).trans hf))
  all_goals
    have O : (w1.setCell ⟨c, 0, none⟩ (u64 k)).cell? ⟨c, 0, none⟩ = some (u64 k) := by simp [go_sem, hc1]
    have O2 : (w1.setCell ⟨c, 0, none⟩ (u64 k)).frozen? ⟨c, 0, none⟩ = false := by simp [go_sem, hf1]
    have K : Kb c c w (w1.setCell ⟨c, 0, none⟩ (u64 k)) := (Kb.of_up U2).setIn (p := ⟨c, 0, none⟩) (.inl rfl) _
    go_wp2_with fail
    go_end0
    exact ⟨rfl, K, O, O2⟩
set_option maxHeartbeats 4000000 in
set_option maxRecDepth 100000 in
theorem cjoin_wide (w : World) (a b c : Nat) (wd : Int) (hw : wd < 3 ∨ 65 < wd) (ha : w.cell? ⟨a, 0, none⟩ = some (.int .i64 wd)) (R E : Int) (F : Nat) (B : Int) (hb : Ob w b 25 #[.int .i64 R, .int .i64 E, .int .u64 (F : Int), .int .i64 B]) :
    Calls Tryd.prog 28 #[.pointer (some ⟨a, 0, none⟩), .pointer (some ⟨b, 0, none⟩), .pointer (some ⟨c, 0, none⟩)] w (Pns w) := by
  have CS := Lib.hid (fun W => size_out W wd hw)
  clear hw
  have b0 := hb.get 0
  have b1 := hb.get 1
  have b2 := hb.get 2
  have b3 := hb.get 3
  simp only [List.getElem?_toArray, List.getElem?_cons_zero, List.getElem?_cons_succ] at b0 b1 b2 b3
  go_enter Tryd.func28, Tryd.ntmps28
  go_wp2_with fail
  refine wp_region_held_drew (S := fun w' => w'.cell? ⟨a, 0, none⟩ = some (.int .i64 wd) ∧ w'.cell? ⟨b, 0, none⟩ = some (.int .i64 R) ∧ w'.cell? ⟨b, 1, none⟩ = some (.int .i64 E) ∧ w'.cell? ⟨b, 2, none⟩ = some (.int .u64 (F : Int)) ∧ w'.cell? ⟨b, 3, none⟩ = some (.int .i64 B)) (by kernel_rfl) ?_ (fun hHeld => ?_)
  · try dsimp only
    go_keep
  refine wpAnyH_take (i := 0) (v := ?_) rfl (by kernel_rfl) (by kernel_rfl) (by kernel_rfl) (fun _ _ _ h => h) (Or.inl ⟨by rfl, ?_⟩) (by assumption) ?_
  rotate_left
  · intro w hSw
    (try dsimp only at hSw)
    go_simp
    all_goals with_reducible rfl
  try simp only [Act.put, List.setIfInBounds_toArray, List.set_cons_zero, List.set_cons_succ, List.getElem_toArray, List.getElem_cons_zero, List.getElem_cons_succ]
  refine wpAnyH_take (i := 2) (v := ?_) rfl (by kernel_rfl) (by kernel_rfl) (by kernel_rfl) (fun _ _ _ h => h) (Or.inl ⟨by rfl, ?_⟩) (by assumption) ?_
  rotate_left
  · intro w hSw
    (try dsimp only at hSw)
    go_simp
    all_goals with_reducible rfl
  try simp only [Act.put, List.setIfInBounds_toArray, List.set_cons_zero, List.set_cons_succ, List.getElem_toArray, List.getElem_cons_zero, List.getElem_cons_succ]
  refine wpAnyH_ready (rs := [1]) (by kernel_rfl) (by simp) ?_
  refine AllReadyH.cons rfl (fun K hK => ?_) AllReadyH.nil
  go_simp
  (refine (CS.out _).mono ?_)
  rintro _ w1 ⟨⟨s, rfl⟩, U1⟩
  exact ⟨rfl, ⟨_, rfl⟩, (by first | with_reducible exact U1 | exact up_drew U1)⟩
set_option maxHeartbeats 4000000 in
set_option maxRecDepth 100000 in
theorem cjoin_none (w : World) (a b c : Nat) (n : Nat) (hn2 : 2 ≤ n) (hn : n ≤ 64) (ha : w.cell? ⟨a, 0, none⟩ = some (.int .i64 ((n : Int) + 1))) (R E : Int) (F : Nat) (B : Int) (hF : F < 18446744073709551616) (hE1 : -9223372036854775808 ≤ E) (hE2 : E ≤ 9223372036854775807) (hx : ∀ k, ¬ M.IsF n k R E F B) (hb : Ob w b 25 #[.int .i64 R, .int .i64 E, .int .u64 (F : Int), .int .i64 B]) :
    Calls Tryd.prog 28 #[.pointer (some ⟨a, 0, none⟩), .pointer (some ⟨b, 0, none⟩), .pointer (some ⟨c, 0, none⟩)] w (Pnn w) := by
  have CS := Lib.hid (fun W => size_in W n hn2 hn)
  have CP := Lib.hid (fun W => join_none W n hn2 hn R E F B hF hE1 hE2 hx)
  clear hx
  have b0 := hb.get 0
  have b1 := hb.get 1
  have b2 := hb.get 2
  have b3 := hb.get 3
  simp only [List.getElem?_toArray, List.getElem?_cons_zero, List.getElem?_cons_succ] at b0 b1 b2 b3
  go_enter Tryd.func28, Tryd.ntmps28
  go_wp2_with fail
  refine wp_region_held_drew (S := fun w' => w'.cell? ⟨a, 0, none⟩ = some (.int .i64 ((n : Int) + 1)) ∧ w'.cell? ⟨b, 0, none⟩ = some (.int .i64 R) ∧ w'.cell? ⟨b, 1, none⟩ = some (.int .i64 E) ∧ w'.cell? ⟨b, 2, none⟩ = some (.int .u64 (F : Int)) ∧ w'.cell? ⟨b, 3, none⟩ = some (.int .i64 B)) (by kernel_rfl) ?_ (fun hHeld => ?_)
  · try dsimp only
    go_keep
  refine wpAnyH_take (i := 0) (v := ?_) rfl (by kernel_rfl) (by kernel_rfl) (by kernel_rfl) (fun _ _ _ h => h) (Or.inl ⟨by rfl, ?_⟩) (by assumption) ?_
  rotate_left
  · intro w hSw
    (try dsimp only at hSw)
    go_simp
    all_goals with_reducible rfl
  try simp only [Act.put, List.setIfInBounds_toArray, List.set_cons_zero, List.set_cons_succ, List.getElem_toArray, List.getElem_cons_zero, List.getElem_cons_succ]
  refine wpAnyH_take (i := 2) (v := ?_) rfl (by kernel_rfl) (by kernel_rfl) (by kernel_rfl) (fun _ _ _ h => h) (Or.inl ⟨by rfl, ?_⟩) (by assumption) ?_
  rotate_left
  · intro w hSw
    (try dsimp only at hSw)
    go_simp
    all_goals with_reducible rfl
  try simp only [Act.put, List.setIfInBounds_toArray, List.set_cons_zero, List.set_cons_succ, List.getElem_toArray, List.getElem_cons_zero, List.getElem_cons_succ]
  refine wpAnyH_ready (rs := [1]) (by kernel_rfl) (by simp) ?_
  refine AllReadyH.cons rfl (fun K hK => ?_) AllReadyH.nil
  go_simp
  (refine (CS.out _).mono ?_)
  rintro _ _ ⟨rfl, rfl⟩
  go_wp2_with fail
  refine hK.out _ _ ?_ (fun hHeld => ?_)
  · exact hHeld
  clear hK K
  try simp only [Act.put, List.setIfInBounds_toArray, List.set_cons_zero, List.set_cons_succ, List.getElem_toArray, List.getElem_cons_zero, List.getElem_cons_succ]
  refine wpAnyH_ready (rs := [3]) (by kernel_rfl) (by simp) ?_
  refine AllReadyH.cons rfl (fun K hK => ?_) AllReadyH.nil
  go_simp
  (refine (CP.out _).mono ?_)
  rintro _ w1 ⟨⟨s, rfl⟩, U1⟩
  exact ⟨rfl, ⟨_, rfl⟩, (by first | with_reducible exact U1 | exact up_drew U1)⟩
end Go.Proofs.YtngoglhjelcdgaaDoor
