/-
  Package exact: Right, Dec, Of.
-/
import Derived.Test.YteeepfhjbemgoaaGreatDoorEx4
namespace Go.Proofs.YteeepfhjbemgoaaGreatDoor
open Go.RowKit Go.Shelf

/-- The four cells of a number, written. -/
abbrev set4 (w : World) (b : Nat) (u0 u1 u2 u3 : Value) : World := (((w.setCell ⟨b, 0, none⟩ u0).setCell ⟨b, 1, none⟩ u1).setCell ⟨b, 2, none⟩ u2).setCell ⟨b, 3, none⟩ u3
theorem Nt.set4 {w : World} {lo s : Nat} {v : Value} {a : Nat} (h : Nt w lo s v a) {b : Nat} (hb : b < lo) (u0 u1 u2 u3 : Value) : Nt (set4 w b u0 u1 u2 u3) lo s v a := by
  obtain ⟨A, n, c, xs, e, h1, h2⟩ := h
  exact ⟨A, n, c, xs, e, (((h1.set_other (p := ⟨b, 0, none⟩) hb u0).set_other (p := ⟨b, 1, none⟩) hb u1).set_other (p := ⟨b, 2, none⟩) hb u2).set_other (p := ⟨b, 3, none⟩) hb u3, h2⟩
theorem Up.set4 {w w' : World} (h : Up w w') {b : Nat} (hb : w.heap.size ≤ b) (u0 u1 u2 u3 : Value) : Up w (set4 w' b u0 u1 u2 u3) :=
  (((h.setCell (p := ⟨b, 0, none⟩) hb u0).setCell (p := ⟨b, 1, none⟩) hb u1).setCell (p := ⟨b, 2, none⟩) hb u2).setCell (p := ⟨b, 3, none⟩) hb u3
/-- Is a power one? -/
abbrev M.pw (k : Int) : Prop := -5000 ≤ k ∧ k ≤ 5000
set_option maxHeartbeats 1000000 in
theorem right_any (w : World) (neg : Bool) (A : Option Addr) (n c y : Nat) (t f : Int) (hn : n ≤ 140737488355328) (hcell : 0 < n → ∃ ad, A = some ad ∧ w.cell? (ad.add (n - 1)) = some (u64 y))
    (r : Bool) (hr : Hid (decide ((n = 0 ∨ y ≠ 0) ∧ n ≤ 128 ∧ M.pw t ∧ M.pw f) = r)) :
    Calls Tryz.prog 56 #[xv neg (.slice A n c) t f] w (Boo r w) := by
  have hu := (Up.refl w).alloc (.cells #[.bool neg, .slice A n c, .int .i64 t, .int .i64 f] 40)
  obtain ⟨t1, ht1⟩ : ∃ t1, decide (M.pw t) = t1 := ⟨_, rfl⟩
  obtain ⟨f1, hf1⟩ : ∃ f1, decide (M.pw f) = f1 := ⟨_, rfl⟩
  have CT := Lib.hid (fun w' => mayBePower_any w' t t1 ht1)
  have CF := Lib.hid (fun w' => mayBePower_any w' f f1 hf1)
  have hrest : Hid ((n = 0 ∨ y ≠ 0) → r = (decide (n ≤ 128) && (t1 && f1))) := by
    intro h
    rw [← hr.out, ← ht1, ← hf1]
    rw [Bool.eq_iff_iff]
    simp only [decide_eq_true_iff, Bool.and_eq_true]
    exact ⟨fun ⟨_, b⟩ => b, fun b => ⟨h, b⟩⟩
  rcases Nat.eq_zero_or_pos n with h0 | h0
  · subst h0
    have hR := hrest.out (.inl rfl)
    simp only [Nat.zero_le, decide_true, Bool.true_and] at hR
    have HR := Lib.hid hR
    clear hrest hr hcell ht1 hf1 hR
    rcases t1 with _ | _
    · go_enter Tryz.func56, Tryz.ntmps56
      go_wp2_with fail
      refine (CT.out _).mono ?_
      rintro _ _ ⟨rfl, rfl⟩
      go_wp2_with fail
      go_ret
      exact ⟨ret_bool HR.out.symm, hu⟩
    · go_enter Tryz.func56, Tryz.ntmps56
      go_wp2_with fail
      refine (CT.out _).mono ?_
      rintro _ _ ⟨rfl, rfl⟩
      go_wp2_with fail
      refine (CF.out _).mono ?_
      rintro _ _ ⟨rfl, rfl⟩
      go_wp2_with fail
      go_ret
      exact ⟨ret_bool HR.out.symm, hu⟩
  · obtain ⟨ad, rfl, hc⟩ := hcell h0
    have hc2 := cell_up hu hc
    have hn0 : ((n : Int) == 0) = false := by rw [beq_eq_false_iff_ne]; omega
    by_cases hy : y = 0
    · have HR : Hid (r = false) := by
        rw [Hid, ← hr.out, decide_eq_false_iff_not]
        rintro ⟨h, _⟩
        omega
      subst hy
      clear hrest hr hcell ht1 hf1 CT CF hc
      go_enter Tryz.func56, Tryz.ntmps56
      go_wp2_with fail
      go_ret
      exact ⟨ret_bool HR.out.symm, hu⟩
    · have HR := Lib.hid (hrest.out (.inr hy))
      have hy0 : ((y : Int) != 0) = true := by rw [bne_iff_ne]; omega
      clear hrest hr hcell ht1 hf1 hc hy
      by_cases h128 : n ≤ 128
      · have HR2 : Hid (r = (t1 && f1)) := by rw [Hid, HR.out, decide_eq_true h128, Bool.true_and]
        clear HR
        rcases t1 with _ | _
        · go_enter Tryz.func56, Tryz.ntmps56
          go_wp2_with fail
          refine (CT.out _).mono ?_
          rintro _ _ ⟨rfl, rfl⟩
          go_wp2_with fail
          go_ret
          exact ⟨ret_bool HR2.out.symm, hu⟩
        · go_enter Tryz.func56, Tryz.ntmps56
          go_wp2_with fail
          refine (CT.out _).mono ?_
          rintro _ _ ⟨rfl, rfl⟩
          go_wp2_with fail
          refine (CF.out _).mono ?_
          rintro _ _ ⟨rfl, rfl⟩
          go_wp2_with fail
          go_ret
          exact ⟨ret_bool HR2.out.symm, hu⟩
      · have HR2 : Hid (r = false) := by rw [Hid, HR.out, decide_eq_false h128, Bool.false_and]
        have hn128 : 128 < n := by omega
        clear HR CT CF h128
        go_enter Tryz.func56, Tryz.ntmps56
        go_wp2_with fail
        go_ret
        exact ⟨ret_bool HR2.out.symm, hu⟩
/-- Right, of a normal number. -/
theorem right_nt (w : World) (lo s : Nat) (neg : Bool) (v : Value) (a : Nat) (t f : Int) (h : Nt w lo s v a) (r : Bool) (hr : Hid (decide (a < 18446744073709551616 ^ 128 ∧ M.pw t ∧ M.pw f) = r)) :
    Calls Tryz.prog 56 #[xv neg v t f] w (Boo r w) := by
  obtain ⟨A, n, c, xs, rfl, hx, hv, hs, hn⟩ := h
  have hl := hx.num
  refine right_any w neg A n c (xs.getD (n - 1) 0) t f (by have := hx.small; omega) (fun h0 => ?_) r ?_
  · obtain ⟨b, o, rfl, _, hc⟩ := hx.at_ h0
    exact ⟨_, rfl, by rw [Addr.add_lit]; exact (hc (n - 1) (by omega)).1⟩
  · have e1 : n = 0 ∨ xs.getD (n - 1) 0 ≠ 0 := by
      rcases Nat.eq_zero_or_pos n with h0 | h0
      · exact .inl h0
      · exact .inr (M.top_ne hn (by omega))
    have e2 : n ≤ 128 ↔ a < 18446744073709551616 ^ 128 := by
      constructor
      · intro h
        have h1 := M.val_lt hx.wds
        rw [hl, hv] at h1
        exact Nat.lt_of_lt_of_le h1 (Nat.pow_le_pow_right (by omega) h)
      · intro h
        rw [← hl]
        exact M.len_of_lt hn (by rw [hv]; exact h)
    rw [Hid, ← hr.out, Bool.eq_iff_iff, decide_eq_true_iff, decide_eq_true_iff, e2]
    exact ⟨fun ⟨_, b⟩ => b, fun b => ⟨e1, b⟩⟩

/-- What a call comes to that makes a number, or tells that there is none. -/
def Xo (neg : Bool) (s a : Nat) (t f : Int) (is : Bool) (w : World) (e : Ending) (w' : World) : Prop := ∃ v, e = .returned (.tuple #[xv neg v t f, .bool is]) ∧ Nt w' w.heap.size s v a ∧ Up w w'
set_option maxHeartbeats 1000000 in
set_option maxRecDepth 100000 in
theorem dec_yes (w : World) (lo s : Nat) (neg : Bool) (v : Value) (a : Nat) (k : Int) (h : Nw w lo s v a) (ha : a < 18446744073709551616 ^ 128) (hk : M.pw k) :
    Calls Tryz.prog 52 #[.bool neg, v, .int .i64 k] w (Xo neg s a k k true w) := by
  have hr : Hid (decide (a < 18446744073709551616 ^ 128 ∧ M.pw k ∧ M.pw k) = true) := decide_eq_true ⟨ha, hk, hk⟩
  have hz : w.heap.size < (w.alloc (.cells #[.bool false, .slice none 0 0, .int .i64 0, .int .i64 0] 40)).heap.size := by rw [show (w.alloc (.cells #[.bool false, .slice none 0 0, .int .i64 0, .int .i64 0] 40)).heap.size = w.heap.size + 1 from Array.size_push _]; omega
  clear ha
  go_enter Tryz.func52, Tryz.ntmps52
  go_wp2_with fail
  have hu := (Up.refl w).alloc (.cells #[.bool false, .slice none 0 0, .int .i64 0, .int .i64 0] 40)
  refine (norm_any _ _ _ _ _ (h.up hu)).mono ?_
  rintro _ w1 ⟨_, rfl, ⟨A1, n1, c1, xs1, rfl, h1⟩, hu1⟩
  go_wp2_with fail
  obtain ⟨W, hW⟩ : ∃ W, w1.alloc (.cells #[.bool neg, .slice A1 n1 c1, .int .i64 k, .int .i64 k] 40) = W := ⟨_, rfl⟩
  have uW : Up w1 W := by rw [← hW]; exact (Up.refl w1).alloc _
  have bB : Bx W w1.heap.size neg (.slice A1 n1 c1) k k := by rw [← hW]; exact Bx.mk_ w1 _ _ _ _
  have bA := ((Bx.mk_ w false (.slice none 0 0) 0 0).up hu1).up uW
  have hN : Nt W _ s (.slice A1 n1 c1) a := Nt.up ⟨A1, n1, c1, xs1, rfl, h1⟩ uW
  have u1 := (hu.trans hu1).trans uW
  rw [hW]
  clear hW h1 hu1 uW
  refine (right_nt W _ _ _ _ a k k hN true hr).mono ?_
  rintro _ w2 ⟨rfl, hu2⟩
  replace hN := hN.up hu2
  obtain ⟨⟨a0, a1, a2, a3⟩, b0, b1, b2, b3⟩ := bA.up hu2
  obtain ⟨⟨c0, c1', c2, c3⟩, _⟩ := bB.up hu2
  replace u1 := u1.trans hu2
  clear bA bB hu2 hr
  have fin : Xo neg s a k k true w (.returned (.tuple #[xv neg (.slice A1 n1 c1) k k, .bool true])) (set4 w2 w.heap.size (.bool neg) (.slice A1 n1 c1) (.int .i64 k) (.int .i64 k)) :=
    ⟨_, rfl, (hN.set4 hz _ _ _ _).lower (Nat.le_of_lt hz), u1.set4 (Nat.le_refl _) _ _ _ _⟩
  have FIN := Lib.hid fin
  clear fin hN u1 hz hu
  go_wp2_with fail
  exact bodyPost_ret (v := .tuple #[xv neg (.slice A1 n1 c1) k k, .bool true]) (by simp [results, Tryz.results52, go_sem, a0, a1, a2, a3]) rfl FIN.out

set_option maxHeartbeats 1000000 in
set_option maxRecDepth 100000 in
theorem dec_no (w : World) (lo s : Nat) (neg : Bool) (v : Value) (a : Nat) (k : Int) (h : Nw w lo s v a) (hn : ¬ (a < 18446744073709551616 ^ 128 ∧ M.pw k)) :
    Calls Tryz.prog 52 #[.bool neg, v, .int .i64 k] w (Xo false 0 0 0 0 false w) := by
  have hr : Hid (decide (a < 18446744073709551616 ^ 128 ∧ M.pw k ∧ M.pw k) = false) := decide_eq_false (fun ⟨h1, h2, _⟩ => hn ⟨h1, h2⟩)
  clear hn
  go_enter Tryz.func52, Tryz.ntmps52
  go_wp2_with fail
  have hu := (Up.refl w).alloc (.cells #[.bool false, .slice none 0 0, .int .i64 0, .int .i64 0] 40)
  refine (norm_any _ _ _ _ _ (h.up hu)).mono ?_
  rintro _ w1 ⟨_, rfl, ⟨A1, n1, c1, xs1, rfl, h1⟩, hu1⟩
  go_wp2_with fail
  obtain ⟨W, hW⟩ : ∃ W, w1.alloc (.cells #[.bool neg, .slice A1 n1 c1, .int .i64 k, .int .i64 k] 40) = W := ⟨_, rfl⟩
  have uW : Up w1 W := by rw [← hW]; exact (Up.refl w1).alloc _
  have bA := ((Bx.mk_ w false (.slice none 0 0) 0 0).up hu1).up uW
  have hN : Nt W _ s (.slice A1 n1 c1) a := Nt.up ⟨A1, n1, c1, xs1, rfl, h1⟩ uW
  have u1 := (hu.trans hu1).trans uW
  rw [hW]
  clear hW h1 hu1 uW
  refine (right_nt W _ _ _ _ a k k hN false hr).mono ?_
  rintro _ w2 ⟨rfl, hu2⟩
  obtain ⟨⟨a0, a1, a2, a3⟩, b0, b1, b2, b3⟩ := bA.up hu2
  replace u1 := u1.trans hu2
  clear bA hu2 hr hN
  have fin : Xo false 0 0 0 0 false w (.returned (.tuple #[xv false (.slice none 0 0) 0 0, .bool false])) (set4 w2 w.heap.size (.bool false) (.slice none 0 0) (.int .i64 0) (.int .i64 0)) :=
    ⟨_, rfl, Nt.nil _ _ _, u1.set4 (Nat.le_refl _) _ _ _ _⟩
  have FIN := Lib.hid fin
  clear fin u1 hu
  go_wp2_with fail
  exact bodyPost_ret (v := .tuple #[xv false (.slice none 0 0) 0 0, .bool false]) (by simp [results, Tryz.results52, go_sem, a0, a1, a2, a3]) rfl FIN.out

/-- A value of a form. -/
abbrev vv (c : Int) (neg : Bool) (m : Nat) (e : Int) : Value := .agg #[.int .i64 c, .bool neg, u64 m, .int .i64 e]
set_option maxHeartbeats 1000000 in
set_option maxRecDepth 100000 in
theorem xof_zero (w : World) (neg : Bool) (m : Nat) (e : Int) : Calls Tryz.prog 51 #[vv 1 neg m e] w (Xo neg 0 0 0 0 true w) := by
  go_enter Tryz.func51, Tryz.ntmps51
  go_wp2_with fail
  exact bodyPost_ret (v := .tuple #[xv neg (.slice none 0 0) 0 0, .bool true]) (by simp [results, Tryz.results51, go_sem]) rfl ⟨_, rfl, Nt.nil _ _ _, ((Up.refl w).alloc _).alloc _⟩

theorem of_up (w w' : World) (x : Nat) (hx : x < 18446744073709551616) (_hu : Up w w') : Calls Tryz.prog 29 #[u64 x] w' (Res 1 x w') := of_any w' x hx
set_option maxHeartbeats 2000000 in
set_option maxRecDepth 100000 in
theorem xof_fin (w : World) (neg : Bool) (m : Nat) (e : Int) (hm : m < 18446744073709551616) (he : M.pw e) : Calls Tryz.prog 51 #[vv 2 neg m e] w (Xo neg 1 m e 0 true w) := by
  have CE := Lib.hid (fun w' => mayBePower_any w' e true (decide_eq_true he))
  clear he
  go_enter Tryz.func51, Tryz.ntmps51
  go_wp2_with fail
  refine (CE.out _).mono ?_
  rintro _ _ ⟨rfl, rfl⟩
  go_wp2_with fail
  have bA := Bx.mk_ (w.alloc (.cells #[.int .i64 2, .bool neg, .int .u64 (m : Int), .int .i64 e] 77)) false (.slice none 0 0) 0 0
  rw [show (w.alloc (.cells #[.int .i64 2, .bool neg, .int .u64 (m : Int), .int .i64 e] 77)).heap.size = w.heap.size + 1 from Array.size_push _] at bA
  obtain ⟨W, hW⟩ : ∃ W, (w.alloc (.cells #[.int .i64 2, .bool neg, .int .u64 (m : Int), .int .i64 e] 77)).alloc (.cells #[.bool false, .slice none 0 0, .int .i64 0, .int .i64 0] 40) = W := ⟨_, rfl⟩
  rw [hW] at bA
  have hu : Up w W := by rw [← hW]; exact (((Up.refl w).alloc _).alloc _)
  have c0 : W.cell? ⟨w.heap.size, 0, none⟩ = some (.int .i64 2) := by rw [← hW]; simp
  have c1 : W.cell? ⟨w.heap.size, 1, none⟩ = some (.bool neg) := by rw [← hW]; simp
  have c2 : W.cell? ⟨w.heap.size, 2, none⟩ = some (u64 m) := by rw [← hW]; simp
  have c3 : W.cell? ⟨w.heap.size, 3, none⟩ = some (.int .i64 e) := by rw [← hW]; simp
  rw [hW]
  clear hW
  have hsz : w.heap.size + 1 < W.heap.size := World.block_lt_of_cell? W _ bA.1.1
  go_region_held3 (fun w' => w'.cell? ⟨w.heap.size, 1, none⟩ = some (.bool neg) ∧ w'.cell? ⟨w.heap.size, 2, none⟩ = some (u64 m) ∧ w'.cell? ⟨w.heap.size, 3, none⟩ = some (.int .i64 e)) (first | go_keep | skip) ((go_at_call 29; (with_reducible refine (of_up W _ m hm ?_).mono ?_); (first | with_reducible assumption | exact (Up.refl _).drewN 1); rintro _ w1 ⟨_, rfl, ⟨A1, nn1, cc1, ys1, rfl, h1⟩, hu1⟩; have u1 : Up W w1 := Up.trans (by first | with_reducible assumption | exact (Up.refl W).drewN 1) hu1; have a1 := cell_up u1 c1; have a2 := cell_up u1 c2; have a3 := cell_up u1 c3; obtain ⟨⟨b0, b1, b2, b3⟩, g0, g1, g2, g3⟩ := bA.up u1))
  have hN : Nt w1 _ 1 (.slice A1 nn1 cc1) m := ⟨A1, nn1, cc1, ys1, rfl, h1⟩
  have fin : Xo neg 1 m e 0 true w (.returned (.tuple #[xv neg (.slice A1 nn1 cc1) e 0, .bool true])) (set4 w1 (w.heap.size + 1) (.bool neg) (.slice A1 nn1 cc1) (.int .i64 e) (.int .i64 0)) :=
    ⟨_, rfl, (hN.set4 hsz _ _ _ _).lower (Up.size hu.drew), (hu.trans u1).set4 (Nat.le_succ _) _ _ _ _⟩
  have FIN := Lib.hid fin
  clear fin hN bA c0 c1 c2 c3 a1 a2 a3 h1
  go_wp2_with fail
  exact bodyPost_ret (v := .tuple #[xv neg (.slice A1 nn1 cc1) e 0, .bool true]) (by simp [results, Tryz.results51, go_sem, b0, b1, b2, b3]) rfl FIN.out

set_option maxHeartbeats 1000000 in
set_option maxRecDepth 100000 in
theorem xof_none (w : World) (c : Int) (neg : Bool) (m : Nat) (e : Int) (h1 : c ≠ 1) (h2 : ¬ (c = 2 ∧ M.pw e)) : Calls Tryz.prog 51 #[vv c neg m e] w (Xo false 0 0 0 0 false w) := by
  have t1 : (c == 1) = false := by rw [beq_eq_false_iff_ne]; exact h1
  by_cases hc : c = 2
  · subst hc
    have CE := Lib.hid (fun w' => mayBePower_any w' e false (decide_eq_false (fun h => h2 ⟨rfl, h⟩)))
    clear h1 h2
    go_enter Tryz.func51, Tryz.ntmps51
    go_wp2_with fail
    refine (CE.out _).mono ?_
    rintro _ _ ⟨rfl, rfl⟩
    go_wp2_with fail
    exact bodyPost_ret (v := .tuple #[xv false (.slice none 0 0) 0 0, .bool false]) (by simp [results, Tryz.results51, go_sem]) rfl ⟨_, rfl, Nt.nil _ _ _, ((Up.refl w).alloc _).alloc _⟩
  · have t2 : (c == 2) = false := by rw [beq_eq_false_iff_ne]; exact hc
    clear h1 h2 hc
    go_enter Tryz.func51, Tryz.ntmps51
    go_wp2_with fail
    exact bodyPost_ret (v := .tuple #[xv false (.slice none 0 0) 0 0, .bool false]) (by simp [results, Tryz.results51, go_sem]) rfl ⟨_, rfl, Nt.nil _ _ _, ((Up.refl w).alloc _).alloc _⟩
end Go.Proofs.YteeepfhjbemgoaaGreatDoor
