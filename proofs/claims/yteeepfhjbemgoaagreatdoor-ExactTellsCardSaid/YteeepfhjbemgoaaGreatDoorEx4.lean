/-
  Package exact, and the laws' own helps: words that came in made normal; small, ten.
-/
import Derived.Test.YteeepfhjbemgoaaGreatDoorEx3
import Derived.Test.YteeepfhjbemgoaaGreatDoorRuse
namespace Go.Proofs.YteeepfhjbemgoaaGreatDoor
open Go.RowKit Go.Shelf

theorem Src.keep {w : World} {A : Option Addr} {n c : Nat} {xs : List Nat} (h : Src w A n c xs) {m : Nat} (hm : m ≤ n) : Src w A m c (xs.take m) := h.take hm
/-- What trim comes to, of words that came in. -/
def TrimmedS (A : Option Addr) (n c a : Nat) (w : World) (e : Ending) (w' : World) : Prop :=
  ∃ m ys, e = .returned (.slice A m c) ∧ w = w' ∧ Src w A m c ys ∧ M.Nrm ys ∧ M.val ys = a ∧ m ≤ n

set_option maxHeartbeats 400000 in
theorem trim_src (w : World) (A : Option Addr) (n c : Nat) (xs : List Nat) (h : Src w A n c xs) (hn : n ≤ 140737488355328) :
    Calls Tryz.prog 39 #[.slice A n c] w (TrimmedS A n c (M.val xs) w) := by
  have h0 := h
  obtain ⟨hl, h1, h3, h5, h4⟩ := h
  have fin : ∀ m, m ≤ n → (0 < m → xs.getD (m - 1) 0 ≠ 0) → (∀ j, m ≤ j → j < n → xs.getD j 0 = 0) → Src w A m c (xs.take m) ∧ M.Nrm (xs.take m) ∧ M.val (xs.take m) = M.val xs ∧ m ≤ n :=
    fun m hm k1 k2 => ⟨h0.take hm, M.Nrm.take (by omega) k1, M.val_take_noughts (by omega) (fun j k3 k4 => k2 j k3 (by omega)), hm⟩
  have FIN := Lib.hid fin
  have H5 := Lib.hid h5
  have H4 := Lib.hid h4
  clear fin h0 hl h3 h5 h4
  go_enter Tryz.func39, Tryz.ntmps39
  go_wp2
  go_loop [0] (fun s => ∃ k : Nat, k ≤ n ∧ s = .slice A k c ∧ ∀ j, k ≤ j → j < n → xs.getD j 0 = 0) (fun s => lenOf s)
  case atStart => exact ⟨n, Nat.le_refl _, rfl, fun j _ _ => by omega⟩
  case round =>
    obtain ⟨k, hk, rfl, hz⟩ := hrel
    have HZ := Lib.hid hz
    clear hz
    by_cases hk0 : k = 0
    · subst hk0
      go_wp2
      go_ret
      obtain ⟨f1, f2, f3, f4⟩ := FIN.out 0 (by omega) (by omega) (fun j _ hj => HZ.out j (by omega) hj)
      exact ⟨0, _, rfl, rfl, f1, f2, f3, f4⟩
    · obtain ⟨ad, rfl⟩ : ∃ ad, A = some ad := by
        rcases A with _ | ad
        · have := H5.out rfl; omega
        · exact ⟨ad, rfl⟩
      obtain ⟨x, hx⟩ : ∃ x, xs.getD (k - 1) 0 = x := ⟨_, rfl⟩
      have hc1 := H4.out ad rfl (k - 1) (by omega)
      rw [hx] at hc1
      have HX := Lib.hid hx
      clear hx
      have hp : 0 < k := by omega
      clear hk0
      go_wp2
      · have hx0 : x = 0 := by
          have : ((x : Int) == 0) = true := by assumption
          simpa using this
        go_round
        case rel =>
          refine ⟨k - 1, by omega, by congr 1, fun j h1 h2 => ?_⟩
          by_cases hj : j = k - 1
          · rw [hj, HX.out, hx0]
          · exact HZ.out j (by omega) h2
        case measure => simp [lenOf]; omega
      · go_ret
        have hx0 : x ≠ 0 := by
          have : ((x : Int) == 0) = false := by assumption
          simpa using this
        obtain ⟨f1, f2, f3, f4⟩ := FIN.out k hk (fun _ => by rw [HX.out]; exact hx0) (fun j h1 h2 => HZ.out j h1 h2)
        exact ⟨k, _, rfl, rfl, f1, f2, f3, f4⟩

set_option maxHeartbeats 400000 in
theorem norm_src (w : World) (A : Option Addr) (n c : Nat) (xs : List Nat) (hx : Src w A n c xs) (hn : n ≤ 1000000000) : Calls Tryz.prog 28 #[.slice A n c] w (Res n (M.val xs) w) := by
  go_enter Tryz.func28, Tryz.ntmps28
  go_wp2_with fail
  refine (trim_src w A n c xs hx (by omega)).mono ?_
  rintro _ _ ⟨m, ys, rfl, rfl, hy, hny, hv, hmn⟩
  have HV := Lib.hid hv
  clear hv hx
  go_wp2_with (at_builtin; refine wpList_append_src _ rfl (.const (.slice none 0 0)) (.tmp 4) _ rfl info_u64 w.heap.size Tryz.underlying23 (.slice none 0 0) 0 [] rfl (World.ownsRow_nil _ _ _ _) A m c ys rfl hy (by omega) (Nat.le_refl _) ?_; intro v1 w1 hown1 hg1 hat1)
  go_ret
  have hup : Up w w1 := (Up.refl w).grown hg1 (by simp [Value.ownBlock])
  obtain ⟨A', c', rfl, hd⟩ := Ow.wd hown1 (M.Wds.append M.Wds.nil hy.wds) (by omega)
  exact ⟨_, rfl, ⟨A', _, c', _, rfl, hd, HV.out, by omega, hny⟩, hup⟩

/-- What ten comes to. -/
def Ten (k : Int) (w : World) (e : Ending) (w' : World) : Prop := ∃ v, e = .returned (xv false v k k) ∧ Nw w' w.heap.size 1 v 1 ∧ Up w w'
set_option maxHeartbeats 400000 in
theorem ten_any (w : World) (k : Int) : Calls Tryz.prog 55 #[.int .i64 k] w (Ten k w) := by
  go_enter Tryz.func55, Tryz.ntmps55
  go_wp2_with fail
  have hsz : (w.alloc (.cells #[.bool false, .slice (some ⟨w.heap.size + 1, 0, none⟩) 1 1, .int .i64 k, .int .i64 k] 40)).heap.size = w.heap.size + 1 := Array.size_push _
  have hL := lit1 (w.alloc (.cells #[.bool false, .slice (some ⟨w.heap.size + 1, 0, none⟩) 1 1, .int .i64 k, .int .i64 k] 40)) 1 1 rfl (by omega)
  rw [hsz] at hL
  clear hsz
  exact bodyPost_ret (v := xv false (.slice (some ⟨w.heap.size + 1, 0, none⟩) 1 1) k k) (by simp [results, Tryz.results55, go_sem]) rfl ⟨_, rfl, hL.lower (by omega), ((Up.refl w).alloc _).alloc _⟩

theorem Wd.set_other {w : World} {lo n c : Nat} {A : Option Addr} {xs : List Nat} (h : Wd w lo A n c xs) {p : Addr} (hp : p.block < lo) (u : Value) : Wd (w.setCell p u) lo A n c xs :=
  h.keep fun q _ hq => ⟨World.cell?_setCell_other w _ _ _ (by rintro rfl; omega), by rw [World.frozen?_setCell]⟩
/-- What small comes to. -/
def Small (neg : Bool) (t f : Int) (w : World) (e : Ending) (w' : World) : Prop := ∃ v a, e = .returned (xv neg v t f) ∧ Nt w' w.heap.size 12 v a ∧ Up w w'
theorem norm_up (w w' : World) (A : Option Addr) (n c : Nat) (xs : List Nat) (hx : Src w A n c xs) (hu : Up w w') (hn : n ≤ 1000000000) : Calls Tryz.prog 28 #[.slice A n c] w' (Res n (M.val xs) w') := norm_src w' A n c xs (hx.up hu) hn
set_option maxHeartbeats 2000000 in
set_option maxRecDepth 100000 in
theorem small_any (w : World) (neg : Bool) (A : Option Addr) (n c : Nat) (xs : List Nat) (t f : Int) (h : Src w A n c xs) (N : Int) (hN : 0 ≤ N ∧ N ≤ 10000) (p q : Int) (hp : t.tmod (N + 1) = p) (hq : f.tmod (N + 1) = q) :
    Calls Tryz.prog 20 #[xv neg (.slice A n c) t f, .int .i64 N] w (Small neg p q w) := by
  obtain ⟨k, hk, hk1, hk2⟩ : ∃ k : Nat, min (n : Int) 12 = (k : Int) ∧ k ≤ n ∧ k ≤ 12 := ⟨min n 12, by omega, by omega, by omega⟩
  have hnc := h.len
  have hs := h.take hk1
  have w1 : IntKind.i64.wrap (N + 1) = N + 1 := by simp [IntKind.wrap, IntKind.bits, IntKind.signed]; omega
  have hne : ((N + 1 : Int) == 0) = false := by rw [beq_eq_false_iff_ne]; omega
  have hne2 : N + 1 ≠ 0 := by omega
  have hkc : (k : Int) ≤ (c : Int) := by omega
  have hk0 : (0 : Int) ≤ (k : Int) := by omega
  obtain ⟨p1, hp1, hp2, hp3⟩ := tmod_rng_of t (N + 1) (by omega)
  obtain ⟨q1, hq1, hq2, hq3⟩ := tmod_rng_of f (N + 1) (by omega)
  obtain rfl : p1 = p := by rw [← hp1, hp]
  obtain rfl : q1 = q := by rw [← hq1, hq]
  clear hp1 hq1
  have w2 : IntKind.i64.wrap p1 = p1 := by simp [IntKind.wrap, IntKind.bits, IntKind.signed]; omega
  have w3 : IntKind.i64.wrap q1 = q1 := by simp [IntKind.wrap, IntKind.bits, IntKind.signed]; omega
  clear h
  go_enter Tryz.func20, Tryz.ntmps20
  go_wp2_with fail
  obtain ⟨W, hW⟩ : ∃ W, (w.alloc (.cells #[.bool neg, .slice A n c, .int .i64 t, .int .i64 f] 40)).alloc (.cells #[.bool false, .slice none 0 0, .int .i64 0, .int .i64 0] 40) = W := ⟨_, rfl⟩
  have hu : Up w W := by rw [← hW]; exact (((Up.refl w).alloc _).alloc _)
  have c0 : W.cell? ⟨w.heap.size, 0, none⟩ = some (.bool neg) := by rw [← hW]; simp
  have c1 : W.cell? ⟨w.heap.size, 1, none⟩ = some (.slice A n c) := by rw [← hW]; simp
  have c2 : W.cell? ⟨w.heap.size, 2, none⟩ = some (.int .i64 t) := by rw [← hW]; simp
  have c3 : W.cell? ⟨w.heap.size, 3, none⟩ = some (.int .i64 f) := by rw [← hW]; simp
  have d0 : W.cell? ⟨w.heap.size + 1, 0, none⟩ = some (.bool false) := by rw [← hW]; simp
  have d1 : W.cell? ⟨w.heap.size + 1, 1, none⟩ = some (.slice none 0 0) := by rw [← hW]; simp
  have d2 : W.cell? ⟨w.heap.size + 1, 2, none⟩ = some (.int .i64 0) := by rw [← hW]; simp
  have d3 : W.cell? ⟨w.heap.size + 1, 3, none⟩ = some (.int .i64 0) := by rw [← hW]; simp
  have e0 : W.frozen? ⟨w.heap.size + 1, 0, none⟩ = false := by rw [← hW]; simp
  have e1 : W.frozen? ⟨w.heap.size + 1, 1, none⟩ = false := by rw [← hW]; simp
  have e2 : W.frozen? ⟨w.heap.size + 1, 2, none⟩ = false := by rw [← hW]; simp
  have e3 : W.frozen? ⟨w.heap.size + 1, 3, none⟩ = false := by rw [← hW]; simp
  rw [hW]
  clear hW
  have hs2 := hs.up hu
  go_region_held3 (fun w' => w'.cell? ⟨w.heap.size, 0, none⟩ = some (.bool neg) ∧ w'.cell? ⟨w.heap.size, 1, none⟩ = some (.slice A n c) ∧ w'.cell? ⟨w.heap.size, 2, none⟩ = some (.int .i64 t) ∧ w'.cell? ⟨w.heap.size, 3, none⟩ = some (.int .i64 f)) (first | go_keep | skip) ((go_at_call 28; (with_reducible refine (norm_up W _ A k c _ hs2 ?_ (by omega)).mono ?_); (first | with_reducible assumption | exact (Up.refl _).drewN 1); rintro _ w1 ⟨_, rfl, ⟨A1, nn1, cc1, ys1, rfl, h1⟩, hu1⟩; have u1 : Up W w1 := Up.trans (by first | with_reducible assumption | exact (Up.refl W).drewN 1) hu1; have a0 := cell_up u1 c0; have a1 := cell_up u1 c1; have a2 := cell_up u1 c2; have a3 := cell_up u1 c3; have b0 := cell_up u1 d0; have b1 := cell_up u1 d1; have b2 := cell_up u1 d2; have b3 := cell_up u1 d3; have g0 := frozen_up u1 d0 e0; have g1 := frozen_up u1 d1 e1; have g2 := frozen_up u1 d2 e2; have g3 := frozen_up u1 d3 e3))
  have hsz := World.block_lt_of_cell? W _ d0
  simp only at hsz
  obtain ⟨h1, hv1, hn1, hnr⟩ := h1
  have h2 := (((h1.set_other (p := ⟨w.heap.size + 1, 0, none⟩) hsz (.bool neg)).set_other (p := ⟨w.heap.size + 1, 1, none⟩) hsz (.slice A1 nn1 cc1)).set_other (p := ⟨w.heap.size + 1, 2, none⟩) hsz (.int .i64 p1)).set_other (p := ⟨w.heap.size + 1, 3, none⟩) hsz (.int .i64 q1)
  have uF := ((((hu.trans u1).setCell (p := ⟨w.heap.size + 1, 0, none⟩) (Nat.le_succ _) (.bool neg)).setCell (p := ⟨w.heap.size + 1, 1, none⟩) (Nat.le_succ _) (.slice A1 nn1 cc1)).setCell (p := ⟨w.heap.size + 1, 2, none⟩) (Nat.le_succ _) (.int .i64 p1)).setCell (p := ⟨w.heap.size + 1, 3, none⟩) (Nat.le_succ _) (.int .i64 q1)
  clear c0 c1 c2 c3 d0 d1 d2 d3 e0 e1 e2 e3 a0 a1 a2 a3 h1
  go_wp2_with fail
  exact bodyPost_ret (v := xv neg (.slice A1 nn1 cc1) p1 q1) (by simp [results, Tryz.results20, go_sem, b0, b1, b2, b3]) rfl ⟨_, _, rfl, ⟨A1, nn1, cc1, ys1, rfl, h2.lower (Up.size hu.drew), rfl, by omega, hnr⟩, uF⟩
end Go.Proofs.YteeepfhjbemgoaaGreatDoor
