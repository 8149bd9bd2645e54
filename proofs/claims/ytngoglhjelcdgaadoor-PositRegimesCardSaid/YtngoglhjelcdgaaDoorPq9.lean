/-
  Package posit: the closures of Value and Key.
-/
import Derived.Test.YtngoglhjelcdgaaDoorPq8
namespace Go.Proofs.YtngoglhjelcdgaaDoor
open Go.RowKit Go.Shelf
set_option linter.unusedSimpArgs false

set_option maxHeartbeats 4000000 in
set_option maxRecDepth 100000 in
theorem cvalue_in (w : World) (T : Tz w) (a b c d : Nat) (n : Nat) (hn2 : 2 ≤ n) (hn : n ≤ 64) (k m : Nat) (z : Int) (h : M.IsK n k m z) (ha : w.cell? ⟨a, 0, none⟩ = some (.int .i64 ((n : Int) + 1))) (hb : w.cell? ⟨b, 0, none⟩ = some (u64 k)) (hc : w.cell? ⟨c, 0, none⟩ = some (u64 0)) (hf : w.frozen? ⟨c, 0, none⟩ = false) (hd : w.cell? ⟨d, 0, none⟩ = some (.int .i64 0)) (hg : w.frozen? ⟨d, 0, none⟩ = false) (hcd : c ≠ d) (hca : c ≠ a) (hcb : c ≠ b) (hda : d ≠ a) (hdb : d ≠ b) :
    Calls Tryd.prog 30 #[.pointer (some ⟨a, 0, none⟩), .pointer (some ⟨b, 0, none⟩), .pointer (some ⟨c, 0, none⟩), .pointer (some ⟨d, 0, none⟩)] w (fun e w' => e = .returned (.tuple #[]) ∧ Kb c d w w' ∧ w'.cell? ⟨c, 0, none⟩ = some (u64 m) ∧ w'.frozen? ⟨c, 0, none⟩ = false ∧ w'.cell? ⟨d, 0, none⟩ = some (.int .i64 z) ∧ w'.frozen? ⟨d, 0, none⟩ = false) := by
  have CS := Lib.hid (fun W => size_in W n hn2 hn)
  obtain ⟨ho, R, r, q, t, hP, hm, hz⟩ := h
  have g := hP.rng
  have hx := M.ex_le hP.1
  have hfr := M.fr_lt r q
  have CP := Lib.hid (fun W => split_any W n k r q R hn hP (M.ex r q) (M.fr r q) _ (Lib.hid rfl) (Lib.hid rfl) (Lib.hid rfl))
  have CN := Lib.hid (fun W (TW : Tz W) => number_any W TW R (M.ex r q) (M.fr r q) (r - 2) m t z (by omega) hx (by omega) hfr hm ho hz)
  obtain ⟨E, hE⟩ : ∃ E, M.ex r q = E := ⟨_, rfl⟩
  obtain ⟨F, hF⟩ : ∃ F, M.fr r q = F := ⟨_, rfl⟩
  obtain ⟨B, hB⟩ : ∃ B, r - 2 = B := ⟨_, rfl⟩
  rw [hE, hF, hB] at CP CN
  have la : a < w.heap.size := World.block_lt_of_cell? _ _ ha
  have lb : b < w.heap.size := World.block_lt_of_cell? _ _ hb
  have lc : c < w.heap.size := World.block_lt_of_cell? _ _ hc
  have ld : d < w.heap.size := World.block_lt_of_cell? _ _ hd
  have hdc : d ≠ c := Ne.symm hcd
  have T' := Lib.hid T
  clear hE hF hB hP hm hz T hx hfr g ho
  go_enter Tryd.func30, Tryd.ntmps30
  go_wp2_with fail
  go_region_held3 (fun w' => w'.cell? ⟨a, 0, none⟩ = some (.int .i64 ((n : Int) + 1)) ∧ w'.cell? ⟨b, 0, none⟩ = some (u64 k)) (go_keep) (first
    | (go_at_call 25; refine (CS.out _).mono ?_; rintro _ _ ⟨rfl, rfl⟩)
    | (go_at_call 24; refine (CP.out _).mono ?_; rintro _ w1 ⟨rfl, U1⟩; have U2 : Up w w1 := (by first | with_reducible exact U1 | exact up_drew U1); have ha1 : w1.cell? ⟨a, 0, none⟩ = some (.int .i64 ((n : Int) + 1)) := (Below.cell (p := ⟨a, 0, none⟩) U2 la).trans ha; have hb1 : w1.cell? ⟨b, 0, none⟩ = some (u64 k) := (Below.cell (p := ⟨b, 0, none⟩) U2 lb).trans hb)
    | (go_at_call 31; refine (CN.out _ (T'.out.up U2)).mono ?_; rintro _ w2 ⟨rfl, U3⟩; have U : Up w w2 := U2.trans U3; have ha2 : w2.cell? ⟨a, 0, none⟩ = some (.int .i64 ((n : Int) + 1)) := (Below.cell (p := ⟨a, 0, none⟩) U la).trans ha; have hb2 : w2.cell? ⟨b, 0, none⟩ = some (u64 k) := (Below.cell (p := ⟨b, 0, none⟩) U lb).trans hb; have hc1 : w2.cell? ⟨c, 0, none⟩ = some (u64 0) := (Below.cell (p := ⟨c, 0, none⟩) U lc).trans hc; have hf1 : w2.frozen? ⟨c, 0, none⟩ = false := (Below.frozen (p := ⟨c, 0, none⟩) U lc).trans hf; have hd1 : w2.cell? ⟨d, 0, none⟩ = some (.int .i64 0) := (Below.cell (p := ⟨d, 0, none⟩) U ld).trans hd; have hg1 : w2.frozen? ⟨d, 0, none⟩ = false := (Below.frozen (p := ⟨d, 0, none⟩) U ld).trans hg))
  all_goals
    go_wp2_with fail
    go_end0
    refine ⟨rfl, ?_, ?_, ?_, ?_, ?_⟩
    · first | exact ((Kb.of_up U).setIn (p := ⟨c, 0, none⟩) (.inl rfl) _).setIn (p := ⟨d, 0, none⟩) (.inr rfl) _ | exact ((Kb.of_up U).setIn (p := ⟨d, 0, none⟩) (.inr rfl) _).setIn (p := ⟨c, 0, none⟩) (.inl rfl) _
    all_goals simp [go_sem, hc1, hd1, hf1, hg1, hcd, hdc]
set_option maxHeartbeats 4000000 in
set_option maxRecDepth 100000 in
theorem cvalue_wide (w : World) (a b c d : Nat) (wd : Int) (hw : wd < 3 ∨ 65 < wd) (ha : w.cell? ⟨a, 0, none⟩ = some (.int .i64 wd)) (k : Nat) (hb : w.cell? ⟨b, 0, none⟩ = some (u64 k)) :
    Calls Tryd.prog 30 #[.pointer (some ⟨a, 0, none⟩), .pointer (some ⟨b, 0, none⟩), .pointer (some ⟨c, 0, none⟩), .pointer (some ⟨d, 0, none⟩)] w (Pns w) := by
  have CS := Lib.hid (fun W => size_out W wd hw)
  clear hw
  go_enter Tryd.func30, Tryd.ntmps30
  go_wp2_with fail
  refine wp_region_held_drew (S := fun w' => w'.cell? ⟨a, 0, none⟩ = some (.int .i64 wd) ∧ w'.cell? ⟨b, 0, none⟩ = some (u64 k)) (by kernel_rfl) ?_ (fun hHeld => ?_)
  · try dsimp only
    go_keep
  refine wpAnyH_take (i := 0) (v := ?_) rfl (by kernel_rfl) (by kernel_rfl) (by kernel_rfl) (fun _ _ _ h => h) (Or.inl ⟨by rfl, ?_⟩) (by assumption) ?_
  rotate_left
  · intro w hSw
    (try dsimp only at hSw)
    go_simp
    all_goals with_reducible rfl
  try simp only [Act.put, List.setIfInBounds_toArray, List.set_cons_zero, List.set_cons_succ, List.getElem_toArray, List.getElem_cons_zero, List.getElem_cons_succ]
  refine wpAnyH_take (i := 2) (v := ?_) rfl (by kernel_rfl) (by kernel_rfl) (by kernel_rfl) (fun _ _ _ h => h) (Or.inl ⟨by rfl, ?_⟩) (by assumption) ?_
  rotate_left
  · intro w hSw
    (try dsimp only at hSw)
    go_simp
    all_goals with_reducible rfl
  try simp only [Act.put, List.setIfInBounds_toArray, List.set_cons_zero, List.set_cons_succ, List.getElem_toArray, List.getElem_cons_zero, List.getElem_cons_succ]
  refine wpAnyH_ready (rs := [1]) (by kernel_rfl) (by simp) ?_
  refine AllReadyH.cons rfl (fun K hK => ?_) AllReadyH.nil
  go_simp
  (refine (CS.out _).mono ?_)
  rintro _ w1 ⟨⟨s, rfl⟩, U1⟩
  exact ⟨rfl, ⟨_, rfl⟩, (by first | with_reducible exact U1 | exact up_drew U1)⟩
set_option maxHeartbeats 4000000 in
set_option maxRecDepth 100000 in
theorem cvalue_out (w : World) (a b c d : Nat) (n : Nat) (hn2 : 2 ≤ n) (hn : n ≤ 64) (ha : w.cell? ⟨a, 0, none⟩ = some (.int .i64 ((n : Int) + 1))) (k : Nat) (hk : k < 18446744073709551616) (hx : k = 0 ∨ 2 ^ n ≤ k) (hb : w.cell? ⟨b, 0, none⟩ = some (u64 k)) :
    Calls Tryd.prog 30 #[.pointer (some ⟨a, 0, none⟩), .pointer (some ⟨b, 0, none⟩), .pointer (some ⟨c, 0, none⟩), .pointer (some ⟨d, 0, none⟩)] w (Pns w) := by
  have CS := Lib.hid (fun W => size_in W n hn2 hn)
  have CP := Lib.hid (fun W => split_out W n k hn hk hx)
  clear hx
  go_enter Tryd.func30, Tryd.ntmps30
  go_wp2_with fail
  refine wp_region_held_drew (S := fun w' => w'.cell? ⟨a, 0, none⟩ = some (.int .i64 ((n : Int) + 1)) ∧ w'.cell? ⟨b, 0, none⟩ = some (u64 k)) (by kernel_rfl) ?_ (fun hHeld => ?_)
  · try dsimp only
    go_keep
  refine wpAnyH_take (i := 0) (v := ?_) rfl (by kernel_rfl) (by kernel_rfl) (by kernel_rfl) (fun _ _ _ h => h) (Or.inl ⟨by rfl, ?_⟩) (by assumption) ?_
  rotate_left
  · intro w hSw
    (try dsimp only at hSw)
    go_simp
    all_goals with_reducible rfl
  try simp only [Act.put, List.setIfInBounds_toArray, List.set_cons_zero, List.set_cons_succ, List.getElem_toArray, List.getElem_cons_zero, List.getElem_cons_succ]
  refine wpAnyH_take (i := 2) (v := ?_) rfl (by kernel_rfl) (by kernel_rfl) (by kernel_rfl) (fun _ _ _ h => h) (Or.inl ⟨by rfl, ?_⟩) (by assumption) ?_
  rotate_left
  · intro w hSw
    (try dsimp only at hSw)
    go_simp
    all_goals with_reducible rfl
  try simp only [Act.put, List.setIfInBounds_toArray, List.set_cons_zero, List.set_cons_succ, List.getElem_toArray, List.getElem_cons_zero, List.getElem_cons_succ]
  refine wpAnyH_ready (rs := [1]) (by kernel_rfl) (by simp) ?_
  refine AllReadyH.cons rfl (fun K hK => ?_) AllReadyH.nil
  go_simp
  (refine (CS.out _).mono ?_)
  rintro _ _ ⟨rfl, rfl⟩
  go_wp2_with fail
  refine hK.out _ _ ?_ (fun hHeld => ?_)
  · exact hHeld
  clear hK K
  try simp only [Act.put, List.setIfInBounds_toArray, List.set_cons_zero, List.set_cons_succ, List.getElem_toArray, List.getElem_cons_zero, List.getElem_cons_succ]
  refine wpAnyH_ready (rs := [3]) (by kernel_rfl) (by simp) ?_
  refine AllReadyH.cons rfl (fun K hK => ?_) AllReadyH.nil
  go_simp
  (refine (CP.out _).mono ?_)
  rintro _ w1 ⟨⟨s, rfl⟩, U1⟩
  exact ⟨rfl, ⟨_, rfl⟩, (by first | with_reducible exact U1 | exact up_drew U1)⟩
namespace M
theorem wrap_two (e0 : Int) (t p : Nat) (pw R : Int) (h : IntKind.i64.wrap (IntKind.i64.wrap (e0 + t) + p) = pw) (he0 : -9223372036854775808 ≤ e0 ∧ e0 ≤ 9223372036854775807) (ht : t ≤ 63) (hp : p ≤ 63) (hr : pw / 4 = R) (h1 : -64 < R) (h2 : R < 64) : pw = e0 + t + p := by
  simp [IntKind.wrap, IntKind.bits, IntKind.signed] at h
  omega
theorem wrap_in (e0 : Int) (t p : Nat) (h1 : -9223372036854775000 ≤ e0 + t) (h2 : e0 + t ≤ 9223372036854775000) (hp : p ≤ 63) : IntKind.i64.wrap (IntKind.i64.wrap (e0 + t) + p) = e0 + t + p := by
  simp [IntKind.wrap, IntKind.bits, IntKind.signed]
  omega
theorem lf_uniq {n r r' : Nat} {R : Int} (h : Lf n R r) (h' : Lf n R r') : r = r' := by
  rcases h with h | h | h <;> rcases h' with h' | h' | h' <;> omega
theorem fo_key {n k m p r : Nat} {pw R z : Int} (hL : Lf n R r) (hp : p ≤ r - 2) (hm : 2 ^ p ≤ m) (ho : m % 2 = 1) (hR : pw / 4 = R) (hz : pw = z + p) (h : IsF n k R (pw % 4) ((m - 2 ^ p) * 2 ^ (r - 2 - p)) ((r - 2 : Nat) : Int)) : IsK n k m z := by
  obtain ⟨r', q, hP, hE, hF, hB⟩ := h
  obtain rfl := lf_uniq hL hP.lf
  refine ⟨ho, R, r, q, r - 2 - p, hP, ?_, by omega⟩
  rw [hF, Nat.sub_mul, ← Nat.pow_add, show p + (r - 2 - p) = r - 2 by omega]
  have : 2 ^ p * 2 ^ (r - 2 - p) ≤ m * 2 ^ (r - 2 - p) := Nat.mul_le_mul_right _ hm
  rw [← Nat.pow_add, show p + (r - 2 - p) = r - 2 by omega] at this
  omega
end M
theorem fo_in {n k m0 m t : Nat} {e0 z : Int} (hn : n ≤ 64) (h : M.IsK n k m z) (hm0 : m0 < 18446744073709551616) (hm : m0 = m * 2 ^ t) (hz : e0 + t = z) :
    ∃ (p r : Nat) (pw R : Int), Fo n m0 m t p e0 pw R ∧ M.Lf n R r ∧ p ≤ r - 2 ∧ M.IsF n k R (pw % 4) ((m - 2 ^ p) * 2 ^ (r - 2 - p)) ((r - 2 : Nat) : Int) := by
  have g := h.rng hn
  obtain ⟨ho, R, r, q, s, hP, h1, h2⟩ := h
  have g2 := hP.rng
  have hx := M.ex_le hP.1
  have hf := M.fr_lt r q
  have ps := M.p2s (r - 2)
  have m1 : m ≠ 0 := by omega
  have hs : s ≤ r - 2 := by
    have h3 : 2 ^ s ≤ m * 2 ^ s := Nat.le_mul_of_pos_left _ (by omega)
    have := M.p2inj (a := s) (b := r - 2 + 1) (by omega)
    omega
  obtain ⟨p, hp⟩ : ∃ p, r - 2 - s = p := ⟨_, rfl⟩
  have e1 : 2 ^ p * 2 ^ s = 2 ^ (r - 2) := by rw [← Nat.pow_add]; congr 1; omega
  have e2 : 2 ^ (p + 1) * 2 ^ s = 2 ^ (r - 2 + 1) := by rw [← Nat.pow_add]; congr 1; omega
  have l1 : 2 ^ p ≤ m := Nat.le_of_mul_le_mul_right (by omega) (M.p2 s)
  have l2 : m < 2 ^ (p + 1) := Nat.lt_of_mul_lt_mul_right (a := 2 ^ s) (by omega)
  have p60 : p ≤ 60 := by omega
  refine ⟨p, r, z + p, R, ⟨hm0, ho, hm, M.bits_of l1 l2, ?_, by omega⟩, hP.lf, by omega, r, q, hP, by omega, ?_, rfl⟩
  · rw [M.wrap_in e0 t p (by omega) (by omega) (by omega)]
    omega
  · rw [show r - 2 - p = s by omega, Nat.sub_mul, e1]
    omega
theorem fo_ex {n m0 m t : Nat} {e0 : Int} (hm0 : m0 < 18446744073709551616) (hm : m0 = m * 2 ^ t) (ho : m % 2 = 1) : ∃ (p : Nat) (pw R : Int), Fo n m0 m t p e0 pw R :=
  ⟨M.bits m - 1, _, _, hm0, ho, hm, by have := M.bits_pos (a := m) (by omega); omega, rfl, rfl⟩
set_option maxHeartbeats 4000000 in
set_option maxRecDepth 100000 in
theorem ckey_in (w : World) (T : Tz w) (a b c d : Nat) (n : Nat) (hn2 : 2 ≤ n) (hn : n ≤ 64) (k m0 m t : Nat) (e0 z : Int) (hm0 : m0 < 18446744073709551616) (hm : m0 = m * 2 ^ t) (hz : e0 + t = z) (h : M.IsK n k m z) (ha : w.cell? ⟨a, 0, none⟩ = some (.int .i64 ((n : Int) + 1))) (hb : w.cell? ⟨b, 0, none⟩ = some (u64 m0)) (hc : w.cell? ⟨c, 0, none⟩ = some (.int .i64 e0)) (hd : w.cell? ⟨d, 0, none⟩ = some (u64 0)) (hg : w.frozen? ⟨d, 0, none⟩ = false) :
    Calls Tryd.prog 32 #[.pointer (some ⟨a, 0, none⟩), .pointer (some ⟨b, 0, none⟩), .pointer (some ⟨c, 0, none⟩), .pointer (some ⟨d, 0, none⟩)] w (fun e w' => e = .returned (.tuple #[]) ∧ Kb d d w w' ∧ w'.cell? ⟨d, 0, none⟩ = some (u64 k) ∧ w'.frozen? ⟨d, 0, none⟩ = false) := by
  have CS := Lib.hid (fun W => size_in W n hn2 hn)
  obtain ⟨p, r, pw, R, hfo, hL, hp, hF⟩ := fo_in hn h hm0 hm hz
  have CF := Lib.hid (fun W (TW : Tz W) => fields_in W TW n m0 m t p r e0 pw R hn2 hn hfo hL hp)
  have CJ := Lib.hid (fun W => join_in W n k hn R _ _ _ hF)
  have ld : d < w.heap.size := World.block_lt_of_cell? _ _ hd
  have T' := Lib.hid T
  clear T hfo hL hp hF h hm hz
  go_enter Tryd.func32, Tryd.ntmps32
  go_wp2_with fail
  refine (CS.out _).mono ?_
  rintro _ _ ⟨rfl, rfl⟩
  go_wp2_with fail
  refine (CF.out _ T'.out).mono ?_
  rintro _ w1 ⟨rfl, U1⟩
  go_wp2_with fail
  refine (CJ.out _).mono ?_
  rintro _ w2 ⟨rfl, U2⟩
  have U : Up w w2 := U1.trans U2
  have hd1 : w2.cell? ⟨d, 0, none⟩ = some (u64 0) := (Below.cell (p := ⟨d, 0, none⟩) U ld).trans hd
  have hg1 : w2.frozen? ⟨d, 0, none⟩ = false := (Below.frozen (p := ⟨d, 0, none⟩) U ld).trans hg
  go_wp2_with fail
  go_end0
  exact ⟨rfl, (Kb.of_up U).setIn (p := ⟨d, 0, none⟩) (.inl rfl) _, by simp [go_sem, hd1], by simp [go_sem, hg1]⟩
set_option maxHeartbeats 4000000 in
set_option maxRecDepth 100000 in
theorem ckey_wide (w : World) (a b c d : Nat) (wd : Int) (hw : wd < 3 ∨ 65 < wd) (ha : w.cell? ⟨a, 0, none⟩ = some (.int .i64 wd)) :
    Calls Tryd.prog 32 #[.pointer (some ⟨a, 0, none⟩), .pointer (some ⟨b, 0, none⟩), .pointer (some ⟨c, 0, none⟩), .pointer (some ⟨d, 0, none⟩)] w (Pns w) := by
  have CS := Lib.hid (fun W => size_out W wd hw)
  clear hw
  go_enter Tryd.func32, Tryd.ntmps32
  go_wp2_with fail
  refine (CS.out _).mono ?_
  rintro _ w1 ⟨⟨s, rfl⟩, U⟩
  exact ⟨rfl, ⟨_, rfl⟩, U⟩
set_option maxHeartbeats 4000000 in
set_option maxRecDepth 100000 in
theorem ckey_nought (w : World) (a b c d : Nat) (n : Nat) (hn2 : 2 ≤ n) (hn : n ≤ 64) (e0 : Int) (ha : w.cell? ⟨a, 0, none⟩ = some (.int .i64 ((n : Int) + 1))) (hb : w.cell? ⟨b, 0, none⟩ = some (u64 0)) (hc : w.cell? ⟨c, 0, none⟩ = some (.int .i64 e0)) :
    Calls Tryd.prog 32 #[.pointer (some ⟨a, 0, none⟩), .pointer (some ⟨b, 0, none⟩), .pointer (some ⟨c, 0, none⟩), .pointer (some ⟨d, 0, none⟩)] w (Pns w) := by
  have CS := Lib.hid (fun W => size_in W n hn2 hn)
  have CF := Lib.hid (fun W => fields_nought W n e0)
  go_enter Tryd.func32, Tryd.ntmps32
  go_wp2_with fail
  refine (CS.out _).mono ?_
  rintro _ _ ⟨rfl, rfl⟩
  go_wp2_with fail
  refine (CF.out _).mono ?_
  rintro _ w1 ⟨⟨s, rfl⟩, U⟩
  exact ⟨rfl, ⟨_, rfl⟩, U⟩
set_option maxHeartbeats 4000000 in
set_option maxRecDepth 100000 in
theorem ckey_far (w : World) (T : Tz w) (a b c d : Nat) (n : Nat) (hn2 : 2 ≤ n) (hn : n ≤ 64) (m0 m t p : Nat) (e0 pw R : Int) (hfo : Fo n m0 m t p e0 pw R) (hR : R ≤ -(n : Int) ∨ n ≤ R) (ha : w.cell? ⟨a, 0, none⟩ = some (.int .i64 ((n : Int) + 1))) (hb : w.cell? ⟨b, 0, none⟩ = some (u64 m0)) (hc : w.cell? ⟨c, 0, none⟩ = some (.int .i64 e0)) :
    Calls Tryd.prog 32 #[.pointer (some ⟨a, 0, none⟩), .pointer (some ⟨b, 0, none⟩), .pointer (some ⟨c, 0, none⟩), .pointer (some ⟨d, 0, none⟩)] w (Pnn w) := by
  have CS := Lib.hid (fun W => size_in W n hn2 hn)
  have CF := Lib.hid (fun W (TW : Tz W) => fields_far W TW n m0 m t p e0 pw R hn hfo hR)
  have T' := Lib.hid T
  clear T hfo
  go_enter Tryd.func32, Tryd.ntmps32
  go_wp2_with fail
  refine (CS.out _).mono ?_
  rintro _ _ ⟨rfl, rfl⟩
  go_wp2_with fail
  refine (CF.out _ T'.out).mono ?_
  rintro _ w1 ⟨⟨s, rfl⟩, U⟩
  exact ⟨rfl, ⟨_, rfl⟩, U⟩
set_option maxHeartbeats 4000000 in
set_option maxRecDepth 100000 in
theorem ckey_long (w : World) (T : Tz w) (a b c d : Nat) (n : Nat) (hn2 : 2 ≤ n) (hn : n ≤ 64) (m0 m t p : Nat) (e0 pw R : Int) (hfo : Fo n m0 m t p e0 pw R) (r : Nat) (hL : M.Lf n R r) (hp : r - 2 < p) (ha : w.cell? ⟨a, 0, none⟩ = some (.int .i64 ((n : Int) + 1))) (hb : w.cell? ⟨b, 0, none⟩ = some (u64 m0)) (hc : w.cell? ⟨c, 0, none⟩ = some (.int .i64 e0)) :
    Calls Tryd.prog 32 #[.pointer (some ⟨a, 0, none⟩), .pointer (some ⟨b, 0, none⟩), .pointer (some ⟨c, 0, none⟩), .pointer (some ⟨d, 0, none⟩)] w (Pnn w) := by
  have CS := Lib.hid (fun W => size_in W n hn2 hn)
  have CF := Lib.hid (fun W (TW : Tz W) => fields_long W TW n m0 m t p r e0 pw R hn2 hn hfo hL hp)
  have T' := Lib.hid T
  clear T hfo
  go_enter Tryd.func32, Tryd.ntmps32
  go_wp2_with fail
  refine (CS.out _).mono ?_
  rintro _ _ ⟨rfl, rfl⟩
  go_wp2_with fail
  refine (CF.out _ T'.out).mono ?_
  rintro _ w1 ⟨⟨s, rfl⟩, U⟩
  exact ⟨rfl, ⟨_, rfl⟩, U⟩
set_option maxHeartbeats 4000000 in
set_option maxRecDepth 100000 in
theorem ckey_not (w : World) (T : Tz w) (a b c d : Nat) (n : Nat) (hn2 : 2 ≤ n) (hn : n ≤ 64) (m0 m t p : Nat) (e0 pw R : Int) (hfo : Fo n m0 m t p e0 pw R) (r F : Nat) (hL : M.Lf n R r) (hp : p ≤ r - 2) (hFe : (m - 2 ^ p) * 2 ^ (r - 2 - p) = F) (hFb : F < 18446744073709551616) (hx : ∀ k, ¬ M.IsF n k R (pw % 4) F ((r - 2 : Nat) : Int)) (ha : w.cell? ⟨a, 0, none⟩ = some (.int .i64 ((n : Int) + 1))) (hb : w.cell? ⟨b, 0, none⟩ = some (u64 m0)) (hc : w.cell? ⟨c, 0, none⟩ = some (.int .i64 e0)) :
    Calls Tryd.prog 32 #[.pointer (some ⟨a, 0, none⟩), .pointer (some ⟨b, 0, none⟩), .pointer (some ⟨c, 0, none⟩), .pointer (some ⟨d, 0, none⟩)] w (Pnn w) := by
  have CS := Lib.hid (fun W => size_in W n hn2 hn)
  have CF := Lib.hid (fun W (TW : Tz W) => fields_in W TW n m0 m t p r e0 pw R hn2 hn hfo hL hp)
  rw [hFe] at CF
  have CJ := Lib.hid (fun W => join_none W n hn2 hn R (pw % 4) F ((r - 2 : Nat) : Int) hFb (by omega) (by omega) hx)
  have T' := Lib.hid T
  clear T hfo hL hp hFe hx
  go_enter Tryd.func32, Tryd.ntmps32
  go_wp2_with fail
  refine (CS.out _).mono ?_
  rintro _ _ ⟨rfl, rfl⟩
  go_wp2_with fail
  refine (CF.out _ T'.out).mono ?_
  rintro _ w1 ⟨rfl, U1⟩
  go_wp2_with fail
  refine (CJ.out _).mono ?_
  rintro _ w2 ⟨⟨s, rfl⟩, U2⟩
  exact ⟨rfl, ⟨_, rfl⟩, U1.trans U2⟩
theorem ckey_none (w : World) (T : Tz w) (a b c d n : Nat) (hn2 : 2 ≤ n) (hn : n ≤ 64) (m0 m t : Nat) (e0 z : Int) (hm0 : m0 < 18446744073709551616) (hm : m0 = m * 2 ^ t) (ho : m % 2 = 1) (he0 : -9223372036854775808 ≤ e0 ∧ e0 ≤ 9223372036854775807) (hz : e0 + t = z) (hx : ∀ k, ¬ M.IsK n k m z) (ha : w.cell? ⟨a, 0, none⟩ = some (.int .i64 ((n : Int) + 1))) (hb : w.cell? ⟨b, 0, none⟩ = some (u64 m0)) (hc : w.cell? ⟨c, 0, none⟩ = some (.int .i64 e0)) :
    Calls Tryd.prog 32 #[.pointer (some ⟨a, 0, none⟩), .pointer (some ⟨b, 0, none⟩), .pointer (some ⟨c, 0, none⟩), .pointer (some ⟨d, 0, none⟩)] w (Pnn w) := by
  obtain ⟨p, pw, R, hfo⟩ := fo_ex (n := n) (e0 := e0) hm0 hm ho
  have g := hfo.t63
  by_cases hR : R ≤ -(n : Int) ∨ n ≤ R
  · exact ckey_far w T a b c d n hn2 hn m0 m t p e0 pw R hfo hR ha hb hc
  · obtain ⟨r, hL⟩ := M.lf_ex (n := n) (R := R) (by omega) (by omega)
    by_cases hp : r - 2 < p
    · exact ckey_long w T a b c d n hn2 hn m0 m t p e0 pw R hfo r hL hp ha hb hc
    · have hpw := M.wrap_two e0 t p pw R hfo.pwr he0 g.1 g.2.1 hfo.reg (by omega) (by omega)
      obtain ⟨F, hFe⟩ : ∃ F, (m - 2 ^ p) * 2 ^ (r - 2 - p) = F := ⟨_, rfl⟩
      have hFb : F < 18446744073709551616 := by
        have r62 : r ≤ 62 := by rcases hL with h | h | h <;> omega
        have a1 : (m - 2 ^ p) * 2 ^ (r - 2 - p) ≤ 2 ^ p * 2 ^ (r - 2 - p) := Nat.mul_le_mul_right _ (by have := M.p2s p; omega)
        rw [← Nat.pow_add, hFe] at a1
        have a2 := M.p2le (a := p + (r - 2 - p)) (b := 60) (by omega)
        have a3 : (2 : Nat) ^ 60 = 1152921504606846976 := by decide
        omega
      exact ckey_not w T a b c d n hn2 hn m0 m t p e0 pw R hfo r F hL (by omega) hFe hFb (fun k hk => hx k (M.fo_key hL (by omega) g.2.2.2.1 ho hfo.reg (by omega) (by rw [hFe]; exact hk))) ha hb hc
end Go.Proofs.YtngoglhjelcdgaaDoor
