/-
  Package posit: the closures of Value and Key.
-/
import Derived.Test.YtjcbncfpcechnaaDoorPq7
import Derived.Deep.RegionWith
import Derived.Deep.RegionHeld3
namespace Go.Proofs.YtjcbncfpcechnaaDoor
open Go.RowKit Go.Shelf
set_option linter.unusedSimpArgs false

theorem Kb.setIn {b b' : Nat} {w w' : World} (h : Kb b b' w w') {p : Addr} (hp : p.block = b ∨ p.block = b') (v : Value) : Kb b b' w (w'.setCell p v) :=
  ⟨h.os, h.tape, h.output, (show w.heap.size ≤ (w'.setCell p v).heap.size by simp [World.setCell]; exact h.size), fun k hk h1 h2 => (Below.heap_setCell _ _ _ _ (by rcases hp with e | e <;> rw [e] <;> assumption)).trans (h.block k hk h1 h2)⟩
theorem put4 {w w1 : World} {c : Nat} {ty : TypeId} {y0 y1 y2 y3 : Value} (U : Up w w1) (h : Ob w1 c ty #[y0, y1, y2, y3]) (x0 x1 x2 x3 : Value) :
    Kb c c w ((((w1.setCell ⟨c, 0, none⟩ x0).setCell ⟨c, 1, none⟩ x1).setCell ⟨c, 2, none⟩ x2).setCell ⟨c, 3, none⟩ x3) ∧ Ob ((((w1.setCell ⟨c, 0, none⟩ x0).setCell ⟨c, 1, none⟩ x1).setCell ⟨c, 2, none⟩ x2).setCell ⟨c, 3, none⟩ x3) c ty #[x0, x1, x2, x3] :=
  ⟨((((Kb.of_up U).setIn (p := ⟨c, 0, none⟩) (.inl rfl) x0).setIn (p := ⟨c, 1, none⟩) (.inl rfl) x1).setIn (p := ⟨c, 2, none⟩) (.inl rfl) x2).setIn (p := ⟨c, 3, none⟩) (.inl rfl) x3, (((h.put 0 x0).put 1 x1).put 2 x2).put 3 x3⟩
theorem up_drew {w w' : World} (h : Up w.drew w') : Up w w' := ((Up.refl w).drew).trans h
end Go.Proofs.YtjcbncfpcechnaaDoor
namespace Go.Proofs.YtjcbncfpcechnaaDoor
open Go.RowKit Go.Shelf
set_option linter.unusedSimpArgs false

set_option maxHeartbeats 4000000 in
set_option maxRecDepth 100000 in
theorem cvalue_in (w : World) (T : Tz w) (a b c d : Nat) (n : Nat) (hn2 : 2 ≤ n) (hn : n ≤ 64) (k m : Nat) (z : Int) (h : M.IsK n k m z) (ha : w.cell? ⟨a, 0, none⟩ = some (.int .i64 ((n : Int) + 1))) (hb : w.cell? ⟨b, 0, none⟩ = some (u64 k)) (hc : w.cell? ⟨c, 0, none⟩ = some (u64 0)) (hf : w.frozen? ⟨c, 0, none⟩ = false) (hd : w.cell? ⟨d, 0, none⟩ = some (.int .i64 0)) (hg : w.frozen? ⟨d, 0, none⟩ = false) (hcd : c ≠ d) (hca : c ≠ a) (hcb : c ≠ b) (hda : d ≠ a) (hdb : d ≠ b) :
    Calls Tryd.prog 74 #[.pointer (some ⟨a, 0, none⟩), .pointer (some ⟨b, 0, none⟩), .pointer (some ⟨c, 0, none⟩), .pointer (some ⟨d, 0, none⟩)] w (fun e w' => e = .returned (.tuple #[]) ∧ Kb c d w w' ∧ w'.cell? ⟨c, 0, none⟩ = some (u64 m) ∧ w'.frozen? ⟨c, 0, none⟩ = false ∧ w'.cell? ⟨d, 0, none⟩ = some (.int .i64 z) ∧ w'.frozen? ⟨d, 0, none⟩ = false) := by
  have CS := Lib.hid (fun W => size_in W n hn2 hn)
  obtain ⟨ho, R, r, q, t, hP, hm, hz⟩ := h
  have g := hP.rng
  have hx := M.ex_le hP.1
  have hfr := M.fr_lt r q
  have CP := Lib.hid (fun W => split_any W n k r q R hn hP (M.ex r q) (M.fr r q) _ (Lib.hid rfl) (Lib.hid rfl) (Lib.hid rfl))
  have CN := Lib.hid (fun W (TW : Tz W) => number_any W TW R (M.ex r q) (M.fr r q) (r - 2) m t z (by omega) hx (by omega) hfr hm ho hz)
  obtain ⟨E, hE⟩ : ∃ E, M.ex r q = E := ⟨_, rfl⟩
  obtain ⟨F, hF⟩ : ∃ F, M.fr r q = F := ⟨_, rfl⟩
  obtain ⟨B, hB⟩ : ∃ B, r - 2 = B := ⟨_, rfl⟩
  rw [hE, hF, hB] at CP CN
  have la : a < w.heap.size := World.block_lt_of_cell? _ _ ha
  have lb : b < w.heap.size := World.block_lt_of_cell? _ _ hb
  have lc : c < w.heap.size := World.block_lt_of_cell? _ _ hc
  have ld : d < w.heap.size := World.block_lt_of_cell? _ _ hd
  have hdc : d ≠ c := Ne.symm hcd
  have T' := Lib.hid T
  clear hE hF hB hP hm hz T hx hfr g ho
  go_enter Tryd.func74, Tryd.ntmps74
  go_wp2_with fail
  go_region_held3 (fun w' => w'.cell? ⟨a, 0, none⟩ = some (.int .i64 ((n : Int) + 1)) ∧ w'.cell? ⟨b, 0, none⟩ = some (u64 k)) (go_keep) (first
    | (go_at_call 77; refine (CS.out _).mono ?_; rintro _ _ ⟨rfl, rfl⟩)
    | (go_at_call 76; refine (CP.out _).mono ?_; rintro _ w1 ⟨rfl, U1⟩; have U2 : Up w w1 := (by first | with_reducible exact U1 | exact up_drew U1); have ha1 : w1.cell? ⟨a, 0, none⟩ = some (.int .i64 ((n : Int) + 1)) := (Below.cell (p := ⟨a, 0, none⟩) U2 la).trans ha; have hb1 : w1.cell? ⟨b, 0, none⟩ = some (u64 k) := (Below.cell (p := ⟨b, 0, none⟩) U2 lb).trans hb)
    | (go_at_call 75; refine (CN.out _ (T'.out.up U2)).mono ?_; rintro _ w2 ⟨rfl, U3⟩; have U : Up w w2 := U2.trans U3; have ha2 : w2.cell? ⟨a, 0, none⟩ = some (.int .i64 ((n : Int) + 1)) := (Below.cell (p := ⟨a, 0, none⟩) U la).trans ha; have hb2 : w2.cell? ⟨b, 0, none⟩ = some (u64 k) := (Below.cell (p := ⟨b, 0, none⟩) U lb).trans hb; have hc1 : w2.cell? ⟨c, 0, none⟩ = some (u64 0) := (Below.cell (p := ⟨c, 0, none⟩) U lc).trans hc; have hf1 : w2.frozen? ⟨c, 0, none⟩ = false := (Below.frozen (p := ⟨c, 0, none⟩) U lc).trans hf; have hd1 : w2.cell? ⟨d, 0, none⟩ = some (.int .i64 0) := (Below.cell (p := ⟨d, 0, none⟩) U ld).trans hd; have hg1 : w2.frozen? ⟨d, 0, none⟩ = false := (Below.frozen (p := ⟨d, 0, none⟩) U ld).trans hg))
  all_goals
    go_wp2_with fail
    go_end0
    refine ⟨rfl, ?_, ?_, ?_, ?_, ?_⟩
    · first | exact ((Kb.of_up U).setIn (p := ⟨c, 0, none⟩) (.inl rfl) _).setIn (p := ⟨d, 0, none⟩) (.inr rfl) _ | exact ((Kb.of_up U).setIn (p := ⟨d, 0, none⟩) (.inr rfl) _).setIn (p := ⟨c, 0, none⟩) (.inl rfl) _
    all_goals simp [go_sem, hc1, hd1, hf1, hg1, hcd, hdc]
set_option maxHeartbeats 4000000 in
set_option maxRecDepth 100000 in
theorem cvalue_wide (w : World) (a b c d : Nat) (wd : Int) (hw : wd < 3 ∨ 65 < wd) (ha : w.cell? ⟨a, 0, none⟩ = some (.int .i64 wd)) (k : Nat) (hb : w.cell? ⟨b, 0, none⟩ = some (u64 k)) :
    Calls Tryd.prog 74 #[.pointer (some ⟨a, 0, none⟩), .pointer (some ⟨b, 0, none⟩), .pointer (some ⟨c, 0, none⟩), .pointer (some ⟨d, 0, none⟩)] w (Pns w) := by
  have CS := Lib.hid (fun W => size_out W wd hw)
  clear hw
  go_enter Tryd.func74, Tryd.ntmps74
  go_wp2_with fail
  refine wp_region_held_drew (S := fun w' => w'.cell? ⟨a, 0, none⟩ = some (.int .i64 wd) ∧ w'.cell? ⟨b, 0, none⟩ = some (u64 k)) (by kernel_rfl) ?_ (fun hHeld => ?_)
  · try dsimp only
    go_keep
  refine wpAnyH_take (i := 0) (v := ?_) rfl (by kernel_rfl) (by kernel_rfl) (by kernel_rfl) (fun _ _ _ h => h) (Or.inl ⟨by rfl, ?_⟩) (by assumption) ?_
  rotate_left
  · intro w hSw
    (try dsimp only at hSw)
    go_simp
    all_goals with_reducible rfl
  try simp only [Act.put, List.setIfInBounds_toArray, List.set_cons_zero, List.set_cons_succ, List.getElem_toArray, List.getElem_cons_zero, List.getElem_cons_succ]
  refine wpAnyH_take (i := 2) (v := ?_) rfl (by kernel_rfl) (by kernel_rfl) (by kernel_rfl) (fun _ _ _ h => h) (Or.inl ⟨by rfl, ?_⟩) (by assumption) ?_
  rotate_left
  · intro w hSw
    (try dsimp only at hSw)
    go_simp
    all_goals with_reducible rfl
  try simp only [Act.put, List.setIfInBounds_toArray, List.set_cons_zero, List.set_cons_succ, List.getElem_toArray, List.getElem_cons_zero, List.getElem_cons_succ]
  refine wpAnyH_ready (rs := [1]) (by kernel_rfl) (by simp) ?_
  refine AllReadyH.cons rfl (fun K hK => ?_) AllReadyH.nil
  go_simp
  (refine (CS.out _).mono ?_)
  rintro _ w1 ⟨⟨s, rfl⟩, U1⟩
  exact ⟨rfl, ⟨_, rfl⟩, (by first | with_reducible exact U1 | exact up_drew U1)⟩
set_option maxHeartbeats 4000000 in
set_option maxRecDepth 100000 in
theorem cvalue_out (w : World) (a b c d : Nat) (n : Nat) (hn2 : 2 ≤ n) (hn : n ≤ 64) (ha : w.cell? ⟨a, 0, none⟩ = some (.int .i64 ((n : Int) + 1))) (k : Nat) (hk : k < 18446744073709551616) (hx : k = 0 ∨ 2 ^ n ≤ k) (hb : w.cell? ⟨b, 0, none⟩ = some (u64 k)) :
    Calls Tryd.prog 74 #[.pointer (some ⟨a, 0, none⟩), .pointer (some ⟨b, 0, none⟩), .pointer (some ⟨c, 0, none⟩), .pointer (some ⟨d, 0, none⟩)] w (Pns w) := by
  have CS := Lib.hid (fun W => size_in W n hn2 hn)
  have CP := Lib.hid (fun W => split_out W n k hn hk hx)
  clear hx
  go_enter Tryd.func74, Tryd.ntmps74
  go_wp2_with fail
  refine wp_region_held_drew (S := fun w' => w'.cell? ⟨a, 0, none⟩ = some (.int .i64 ((n : Int) + 1)) ∧ w'.cell? ⟨b, 0, none⟩ = some (u64 k)) (by kernel_rfl) ?_ (fun hHeld => ?_)
  · try dsimp only
    go_keep
  refine wpAnyH_take (i := 0) (v := ?_) rfl (by kernel_rfl) (by kernel_rfl) (by kernel_rfl) (fun _ _ _ h => h) (Or.inl ⟨by rfl, ?_⟩) (by assumption) ?_
  rotate_left
  · intro w hSw
    (try dsimp only at hSw)
    go_simp
    all_goals with_reducible rfl
  try simp only [Act.put, List.setIfInBounds_toArray, List.set_cons_zero, List.set_cons_succ, List.getElem_toArray, List.getElem_cons_zero, List.getElem_cons_succ]
  refine wpAnyH_take (i := 2) (v := ?_) rfl (by kernel_rfl) (by kernel_rfl) (by kernel_rfl) (fun _ _ _ h => h) (Or.inl ⟨by rfl, ?_⟩) (by assumption) ?_
  rotate_left
  · intro w hSw
    (try dsimp only at hSw)
    go_simp
    all_goals with_reducible rfl
  try simp only [Act.put, List.setIfInBounds_toArray, List.set_cons_zero, List.set_cons_succ, List.getElem_toArray, List.getElem_cons_zero, List.getElem_cons_succ]
  refine wpAnyH_ready (rs := [1]) (by kernel_rfl) (by simp) ?_
  refine AllReadyH.cons rfl (fun K hK => ?_) AllReadyH.nil
  go_simp
  (refine (CS.out _).mono ?_)
  rintro _ _ ⟨rfl, rfl⟩
  go_wp2_with fail
  refine hK.out _ _ ?_ (fun hHeld => ?_)
  · exact hHeld
  clear hK K
  try simp only [Act.put, List.setIfInBounds_toArray, List.set_cons_zero, List.set_cons_succ, List.getElem_toArray, List.getElem_cons_zero, List.getElem_cons_succ]
  refine wpAnyH_ready (rs := [3]) (by kernel_rfl) (by simp) ?_
  refine AllReadyH.cons rfl (fun K hK => ?_) AllReadyH.nil
  go_simp
  (refine (CP.out _).mono ?_)
  rintro _ w1 ⟨⟨s, rfl⟩, U1⟩
  exact ⟨rfl, ⟨_, rfl⟩, (by first | with_reducible exact U1 | exact up_drew U1)⟩
namespace M
theorem wrap_two (e0 : Int) (t p : Nat) (pw R : Int) (h : IntKind.i64.wrap (IntKind.i64.wrap (e0 + t) + p) = pw) (he0 : -9223372036854775808 ≤ e0 ∧ e0 ≤ 9223372036854775807) (ht : t ≤ 63) (hp : p ≤ 63) (hr : pw / 4 = R) (h1 : -64 < R) (h2 : R < 64) : pw = e0 + t + p := by
  simp [IntKind.wrap, IntKind.bits, IntKind.signed] at h
  omega
theorem wrap_in (e0 : Int) (t p : Nat) (h1 : -9223372036854775000 ≤ e0 + t) (h2 : e0 + t ≤ 9223372036854775000) (hp : p ≤ 63) : IntKind.i64.wrap (IntKind.i64.wrap (e0 + t) + p) = e0 + t + p := by
  simp [IntKind.wrap, IntKind.bits, IntKind.signed]
  omega
theorem lf_uniq {n r r' : Nat} {R : Int} (h : Lf n R r) (h' : Lf n R r') : r = r' := by
  rcases h with h | h | h <;> rcases h' with h' | h' | h' <;> omega
theorem fo_key {n k m p r : Nat} {pw R z : Int} (hL : Lf n R r) (hp : p ≤ r - 2) (hm : 2 ^ p ≤ m) (ho : m % 2 = 1) (hR : pw / 4 = R) (hz : pw = z + p) (h : IsF n k R (pw % 4) ((m - 2 ^ p) * 2 ^ (r - 2 - p)) ((r - 2 : Nat) : Int)) : IsK n k m z := by
  obtain ⟨r', q, hP, hE, hF, hB⟩ := h
  obtain rfl := lf_uniq hL hP.lf
  refine ⟨ho, R, r, q, r - 2 - p, hP, ?_, by omega⟩
  rw [hF, Nat.sub_mul, ← Nat.pow_add, show p + (r - 2 - p) = r - 2 by omega]
  have : 2 ^ p * 2 ^ (r - 2 - p) ≤ m * 2 ^ (r - 2 - p) := Nat.mul_le_mul_right _ hm
  rw [← Nat.pow_add, show p + (r - 2 - p) = r - 2 by omega] at this
  omega
end M
theorem fo_in {n k m0 m t : Nat} {e0 z : Int} (hn : n ≤ 64) (h : M.IsK n k m z) (hm0 : m0 < 18446744073709551616) (hm : m0 = m * 2 ^ t) (hz : e0 + t = z) :
    ∃ (p r : Nat) (pw R : Int), Fo5 n m0 m t p e0 pw R ∧ M.Lf n R r ∧ p ≤ r - 2 ∧ M.IsF n k R (pw % 4) ((m - 2 ^ p) * 2 ^ (r - 2 - p)) ((r - 2 : Nat) : Int) := by
  have g := h.rng hn
  obtain ⟨ho, R, r, q, s, hP, h1, h2⟩ := h
  have g2 := hP.rng
  have hx := M.ex_le hP.1
  have hf := M.fr_lt r q
  have ps := M.p2s (r - 2)
  have m1 : m ≠ 0 := by omega
  have hs : s ≤ r - 2 := by
    have h3 : 2 ^ s ≤ m * 2 ^ s := Nat.le_mul_of_pos_left _ (by omega)
    have := M.p2inj (a := s) (b := r - 2 + 1) (by omega)
    omega
  obtain ⟨p, hp⟩ : ∃ p, r - 2 - s = p := ⟨_, rfl⟩
  have e1 : 2 ^ p * 2 ^ s = 2 ^ (r - 2) := by rw [← Nat.pow_add]; congr 1; omega
  have e2 : 2 ^ (p + 1) * 2 ^ s = 2 ^ (r - 2 + 1) := by rw [← Nat.pow_add]; congr 1; omega
  have l1 : 2 ^ p ≤ m := Nat.le_of_mul_le_mul_right (by omega) (M.p2 s)
  have l2 : m < 2 ^ (p + 1) := Nat.lt_of_mul_lt_mul_right (a := 2 ^ s) (by omega)
  have p60 : p ≤ 60 := by omega
  refine ⟨p, r, z + p, R, ⟨hm0, ho, hm, M.bits_of l1 l2, ?_, by omega⟩, hP.lf, by omega, r, q, hP, by omega, ?_, rfl⟩
  · rw [M.wrap_in e0 t p (by omega) (by omega) (by omega)]
    omega
  · rw [show r - 2 - p = s by omega, Nat.sub_mul, e1]
    omega
theorem fo_ex {n m0 m t : Nat} {e0 : Int} (hm0 : m0 < 18446744073709551616) (hm : m0 = m * 2 ^ t) (ho : m % 2 = 1) : ∃ (p : Nat) (pw R : Int), Fo5 n m0 m t p e0 pw R :=
  ⟨M.bits m - 1, _, _, hm0, ho, hm, by have := M.bits_pos (a := m) (by omega); omega, rfl, rfl⟩
end Go.Proofs.YtjcbncfpcechnaaDoor
