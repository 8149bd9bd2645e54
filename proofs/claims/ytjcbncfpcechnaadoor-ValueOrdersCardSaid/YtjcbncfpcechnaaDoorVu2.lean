/-
  Package value: magnitudes and boundaries, kind by kind; what is asked of a way.
-/
import Derived.Test.YtjcbncfpcechnaaDoorVu
namespace Go.Proofs.YtjcbncfpcechnaaDoor
open Go.RowKit Go.Shelf
set_option linter.unusedSimpArgs false

theorem ret_2 {a b : Value} {x y : Int} (h1 : a = b) (h2 : x = y) : Ending.returned (.tuple #[a, .int .i64 x]) = .returned (.tuple #[b, .int .i64 y]) := by rw [h1, h2]
set_option maxHeartbeats 4000000 in
set_option maxRecDepth 100000 in
theorem atTapered_any (w : World) (f : M.Fm) (k m : Nat) (z x : Int) (CV : Hid (∀ W, Up w W → Calls Tryd.prog 70 #[.int .i64 f.W, u64 k] W (Vn m z x W))) : Calls Tryd.prog 55 #[fv f, u64 k] w (Mz m z w) := by
  have U := Up.refl w
  go_enter Tryd.func55, Tryd.ntmps55
  go_wp2_with fail
  obtain ⟨V1, hV1⟩ : ∃ V1, w.alloc (.cells #[.int .i64 f.k, .int .i64 f.W, .int .i64 f.m, .int .i64 f.b, .int .u64 f.t, .int .u64 f.n, .int .u64 f.x] 40) = V1 := ⟨_, rfl⟩
  have c : Bf V1 w.heap.size 40 f := by rw [← hV1]; exact Bf.mk_ w f 40
  have ltc : w.heap.size ≤ w.heap.size := U.size
  have uV1 : Up w V1 := by rw [← hV1]; exact (Up.refl _).alloc _
  rw [hV1]
  clear hV1
  replace U := U.trans uV1
  clear uV1
  obtain ⟨c0, c1, c2, c3, c4, c5, c6⟩ := Bf.cs c
  have c7 := Bf.lt c
  simp only [Nat.zero_add] at c0 c1 c2 c3 c4 c5 c6 c7
  go_wp2_with fail
  clear c0 c1 c2 c3 c4 c5 c6 c7
  refine (CV.out _ U).mono ?_
  rintro _ w2 ⟨rfl, h2⟩
  replace U := U.trans h2
  replace c := c.up h2
  clear h2
  go_wp2_with fail
  go_ret2
  exact ⟨rfl, U⟩
set_option maxHeartbeats 4000000 in
set_option maxRecDepth 100000 in
theorem atSigned_any (w : World) (f : M.Fm) (k m : Nat) (z x : Int) (CV : Hid (∀ W, Up w W → Calls Tryd.prog 71 #[.int .i64 f.m, .int .i64 f.b, u64 k] W (Vn6 m z x W))) : Calls Tryd.prog 59 #[fv f, u64 k] w (Mz m z w) := by
  have U := Up.refl w
  go_enter Tryd.func59, Tryd.ntmps59
  go_wp2_with fail
  obtain ⟨V1, hV1⟩ : ∃ V1, w.alloc (.cells #[.int .i64 f.k, .int .i64 f.W, .int .i64 f.m, .int .i64 f.b, .int .u64 f.t, .int .u64 f.n, .int .u64 f.x] 40) = V1 := ⟨_, rfl⟩
  have c : Bf V1 w.heap.size 40 f := by rw [← hV1]; exact Bf.mk_ w f 40
  have ltc : w.heap.size ≤ w.heap.size := U.size
  have uV1 : Up w V1 := by rw [← hV1]; exact (Up.refl _).alloc _
  rw [hV1]
  clear hV1
  replace U := U.trans uV1
  clear uV1
  obtain ⟨c0, c1, c2, c3, c4, c5, c6⟩ := Bf.cs c
  have c7 := Bf.lt c
  simp only [Nat.zero_add] at c0 c1 c2 c3 c4 c5 c6 c7
  go_wp2_with fail
  clear c0 c1 c2 c3 c4 c5 c6 c7
  refine (CV.out _ U).mono ?_
  rintro _ w2 ⟨rfl, h2⟩
  replace U := U.trans h2
  replace c := c.up h2
  clear h2
  go_wp2_with fail
  go_ret2
  exact ⟨rfl, U⟩
set_option maxHeartbeats 4000000 in
set_option maxRecDepth 100000 in
theorem behindTapered_any (w : World) (f : M.Fm) (fb : 0 ≤ f.W ∧ f.W ≤ 64) (k m : Nat) (z : Int) (kb : k ≤ 9223372036854775807) (CV : ∀ W, Up w W → Calls Tryd.prog 55 #[fv ⟨f.k, f.W + 1, f.m, f.b, f.t, f.n, f.x⟩, u64 (2 * k + 1)] W (Mz m z W)) : Calls Tryd.prog 56 #[fv f, u64 k] w (Mz m z w) := by
  have CW : Hid (∀ W, Up w W → Calls Tryd.prog 55 #[fv ⟨f.k, f.W + 1, f.m, f.b, f.t, f.n, f.x⟩, .int .u64 (2 * (k : Int) + 1)] W (Mz m z W)) := fun W U => by
    have h := CV W U
    rw [show u64 (2 * k + 1) = .int .u64 (2 * (k : Int) + 1) by unfold u64; congr 1] at h
    exact h
  clear CV
  have U := Up.refl w
  go_enter Tryd.func56, Tryd.ntmps56
  go_wp2_with fail
  refine (CW.out _ ?_).mono ?_
  · first | exact U.alloc _ | exact (U.alloc _).setCell (Nat.le_refl _) _
  rintro _ w1 ⟨rfl, h1⟩
  replace U := (show Up w _ from by first | exact (U.alloc _).trans h1 | exact ((U.alloc _).setCell (Nat.le_refl _) _).trans h1)
  clear h1
  go_wp2_with fail
  go_ret2
  exact ⟨rfl, U⟩
set_option maxHeartbeats 4000000 in
set_option maxRecDepth 100000 in
theorem behindSigned_any (w : World) (f : M.Fm) (fb : 0 ≤ f.m ∧ f.m ≤ 64) (k m : Nat) (z : Int) (kb : k ≤ 9223372036854775807) (CV : ∀ W, Up w W → Calls Tryd.prog 59 #[fv ⟨f.k, f.W, f.m + 1, f.b, f.t, f.n, f.x⟩, u64 (2 * k + 1)] W (Mz m z W)) : Calls Tryd.prog 60 #[fv f, u64 k] w (Mz m z w) := by
  have CW : Hid (∀ W, Up w W → Calls Tryd.prog 59 #[fv ⟨f.k, f.W, f.m + 1, f.b, f.t, f.n, f.x⟩, .int .u64 (2 * (k : Int) + 1)] W (Mz m z W)) := fun W U => by
    have h := CV W U
    rw [show u64 (2 * k + 1) = .int .u64 (2 * (k : Int) + 1) by unfold u64; congr 1] at h
    exact h
  clear CV
  have U := Up.refl w
  go_enter Tryd.func60, Tryd.ntmps60
  go_wp2_with fail
  refine (CW.out _ ?_).mono ?_
  · first | exact U.alloc _ | exact (U.alloc _).setCell (Nat.le_refl _) _
  rintro _ w1 ⟨rfl, h1⟩
  replace U := (show Up w _ from by first | exact (U.alloc _).trans h1 | exact ((U.alloc _).setCell (Nat.le_refl _) _).trans h1)
  clear h1
  go_wp2_with fail
  go_ret2
  exact ⟨rfl, U⟩
set_option maxHeartbeats 4000000 in
set_option maxRecDepth 100000 in
theorem behindTurned_any (w : World) (f : M.Fm) (fb : 0 ≤ f.m ∧ f.m ≤ 64) (k m : Nat) (z : Int) (kb : k ≤ 9223372036854775807) (CV : ∀ W, Up w W → Calls Tryd.prog 61 #[fv ⟨f.k, f.W, f.m + 1, f.b, f.t, f.n, f.x⟩, u64 (2 * k + 1)] W (Mz m z W)) : Calls Tryd.prog 62 #[fv f, u64 k] w (Mz m z w) := by
  have CW : Hid (∀ W, Up w W → Calls Tryd.prog 61 #[fv ⟨f.k, f.W, f.m + 1, f.b, f.t, f.n, f.x⟩, .int .u64 (2 * (k : Int) + 1)] W (Mz m z W)) := fun W U => by
    have h := CV W U
    rw [show u64 (2 * k + 1) = .int .u64 (2 * (k : Int) + 1) by unfold u64; congr 1] at h
    exact h
  clear CV
  have U := Up.refl w
  go_enter Tryd.func62, Tryd.ntmps62
  go_wp2_with fail
  refine (CW.out _ ?_).mono ?_
  · first | exact U.alloc _ | exact (U.alloc _).setCell (Nat.le_refl _) _
  rintro _ w1 ⟨rfl, h1⟩
  replace U := (show Up w _ from by first | exact (U.alloc _).trans h1 | exact ((U.alloc _).setCell (Nat.le_refl _) _).trans h1)
  clear h1
  go_wp2_with fail
  go_ret2
  exact ⟨rfl, U⟩
set_option maxHeartbeats 4000000 in
set_option maxRecDepth 100000 in
theorem atTurned_zero (w : World) (f : M.Fm) (k : Nat) (h : k = 0) : Calls Tryd.prog 61 #[fv f, u64 k] w (Mz 0 0 w) := by
  subst h
  have U := Up.refl w
  go_enter Tryd.func61, Tryd.ntmps61
  go_wp2_with fail
  obtain ⟨V1, hV1⟩ : ∃ V1, w.alloc (.cells #[.int .i64 f.k, .int .i64 f.W, .int .i64 f.m, .int .i64 f.b, .int .u64 f.t, .int .u64 f.n, .int .u64 f.x] 40) = V1 := ⟨_, rfl⟩
  have c : Bf V1 w.heap.size 40 f := by rw [← hV1]; exact Bf.mk_ w f 40
  have ltc : w.heap.size ≤ w.heap.size := U.size
  have uV1 : Up w V1 := by rw [← hV1]; exact (Up.refl _).alloc _
  rw [hV1]
  clear hV1
  replace U := U.trans uV1
  clear uV1
  obtain ⟨c0, c1, c2, c3, c4, c5, c6⟩ := Bf.cs c
  have c7 := Bf.lt c
  simp only [Nat.zero_add] at c0 c1 c2 c3 c4 c5 c6 c7
  go_wp2_with fail
  clear c0 c1 c2 c3 c4 c5 c6 c7
  go_ret2
  exact ⟨rfl, U⟩
set_option maxHeartbeats 4000000 in
set_option maxRecDepth 100000 in
theorem atTurned_any (w : World) (TW : Hid (Tz w)) (f : M.Fm) (fb : -1000 ≤ f.m ∧ f.m ≤ 1000) (k m t : Nat) (z : Int) (kb : k < 18446744073709551616) (k0 : 0 < k) (hm : k = m * 2 ^ t) (ho : m % 2 = 1) (hz : -f.m + t = z) : Calls Tryd.prog 61 #[fv f, u64 k] w (Mz m z w) := by
  have CT := Lib.hid (fun W (T : Tz W) => tz_any W T k m t kb hm ho)
  have dv : (k : Int) / 2 ^ t = (m : Int) := shr_cast (by rw [hm]; exact Nat.mul_div_cancel _ (M.p2 t))
  have t64 : t < 64 := by
    have p3 : 2 ^ t ≤ m * 2 ^ t := Nat.le_mul_of_pos_left _ (by omega)
    exact M.p2inj (by have : (2 : Nat) ^ 64 = 18446744073709551616 := by decide
                      omega)
  have d1 : ((k : Int) == 0) = false := by rw [beq_eq_false_iff_ne]; omega
  have z1 : (t : Int) - f.m = z := by omega
  clear hm ho hz
  have U := Up.refl w
  go_enter Tryd.func61, Tryd.ntmps61
  go_wp2_with fail
  obtain ⟨V1, hV1⟩ : ∃ V1, w.alloc (.cells #[.int .i64 f.k, .int .i64 f.W, .int .i64 f.m, .int .i64 f.b, .int .u64 f.t, .int .u64 f.n, .int .u64 f.x] 40) = V1 := ⟨_, rfl⟩
  have c : Bf V1 w.heap.size 40 f := by rw [← hV1]; exact Bf.mk_ w f 40
  have ltc : w.heap.size ≤ w.heap.size := U.size
  have uV1 : Up w V1 := by rw [← hV1]; exact (Up.refl _).alloc _
  rw [hV1]
  clear hV1
  replace U := U.trans uV1
  clear uV1
  obtain ⟨c0, c1, c2, c3, c4, c5, c6⟩ := Bf.cs c
  have c7 := Bf.lt c
  simp only [Nat.zero_add] at c0 c1 c2 c3 c4 c5 c6 c7
  go_wp2_with fail
  clear c0 c1 c2 c3 c4 c5 c6 c7
  refine (CT.out _ (TW.out.up U)).mono ?_
  rintro _ _ ⟨rfl, rfl⟩
  obtain ⟨c0, c1, c2, c3, c4, c5, c6⟩ := Bf.cs c
  have c7 := Bf.lt c
  simp only [Nat.zero_add] at c0 c1 c2 c3 c4 c5 c6 c7
  go_wp2_with fail
  go_quiet (fail)
  go_wp2_with fail
  go_ret2
  exact ⟨by first | rfl | exact ret_2 rfl z1, by first | exact U | exact U.drewN _⟩
set_option maxHeartbeats 4000000 in
set_option maxRecDepth 100000 in
theorem atScale_any (w : World) (f : M.Fm) (fb : -100000 ≤ f.b ∧ f.b ≤ 100000) (k : Nat) (z : Int) (kb : k < 1000000) (hz : (k : Int) - f.b = z) : Calls Tryd.prog 65 #[fv f, u64 k] w (Mz 1 z w) := by
  have U := Up.refl w
  go_enter Tryd.func65, Tryd.ntmps65
  go_wp2_with fail
  obtain ⟨V1, hV1⟩ : ∃ V1, w.alloc (.cells #[.int .i64 f.k, .int .i64 f.W, .int .i64 f.m, .int .i64 f.b, .int .u64 f.t, .int .u64 f.n, .int .u64 f.x] 40) = V1 := ⟨_, rfl⟩
  have c : Bf V1 w.heap.size 40 f := by rw [← hV1]; exact Bf.mk_ w f 40
  have ltc : w.heap.size ≤ w.heap.size := U.size
  have uV1 : Up w V1 := by rw [← hV1]; exact (Up.refl _).alloc _
  rw [hV1]
  clear hV1
  replace U := U.trans uV1
  clear uV1
  obtain ⟨c0, c1, c2, c3, c4, c5, c6⟩ := Bf.cs c
  have c7 := Bf.lt c
  simp only [Nat.zero_add] at c0 c1 c2 c3 c4 c5 c6 c7
  go_wp2_with fail
  go_quiet (fail)
  go_wp2_with fail
  go_ret2
  exact ⟨by first | rfl | exact ret_2 rfl hz, by first | exact U | exact U.drewN _⟩
set_option maxHeartbeats 4000000 in
set_option maxRecDepth 100000 in
theorem behindScale_any (w : World) (f : M.Fm) (fb : -100000 ≤ f.b ∧ f.b ≤ 100000) (k : Nat) (z : Int) (kb : k < 1000000) (hz : (k : Int) - f.b - 1 = z) : Calls Tryd.prog 66 #[fv f, u64 k] w (Mz 3 z w) := by
  have U := Up.refl w
  go_enter Tryd.func66, Tryd.ntmps66
  go_wp2_with fail
  obtain ⟨V1, hV1⟩ : ∃ V1, w.alloc (.cells #[.int .i64 f.k, .int .i64 f.W, .int .i64 f.m, .int .i64 f.b, .int .u64 f.t, .int .u64 f.n, .int .u64 f.x] 40) = V1 := ⟨_, rfl⟩
  have c : Bf V1 w.heap.size 40 f := by rw [← hV1]; exact Bf.mk_ w f 40
  have ltc : w.heap.size ≤ w.heap.size := U.size
  have uV1 : Up w V1 := by rw [← hV1]; exact (Up.refl _).alloc _
  rw [hV1]
  clear hV1
  replace U := U.trans uV1
  clear uV1
  obtain ⟨c0, c1, c2, c3, c4, c5, c6⟩ := Bf.cs c
  have c7 := Bf.lt c
  simp only [Nat.zero_add] at c0 c1 c2 c3 c4 c5 c6 c7
  go_wp2_with fail
  go_quiet (fail)
  go_wp2_with fail
  go_ret2
  exact ⟨by first | rfl | exact ret_2 rfl hz, by first | exact U | exact U.drewN _⟩
/-- What is asked of a form's way. -/
structure Way (f : M.Fm) (a b c d : Nat) : Prop where
  ea : ∀ (args : Array Value) (w : World), (callFunc a args).run Tryd.prog w = .ok (.enter a args) w
  eb : ∀ (args : Array Value) (w : World), (callFunc b args).run Tryd.prog w = .ok (.enter b args) w
  ec : ∀ (args : Array Value) (w : World), (callFunc c args).run Tryd.prog w = .ok (.enter c args) w
  ed : ∀ (args : Array Value) (w : World), (callFunc d args).run Tryd.prog w = .ok (.enter d args) w
  read : ∀ (W : World) (p : Int), 0 ≤ p → p ≤ M.msk f → ∀ (cl : Int) (g : Bool) (k : Int), M.Rd f p cl g k → Calls Tryd.prog a #[fv f, .int .u64 p] W (Rp cl g k W)
  write : ∀ (W : World) (neg : Bool) (k : Nat), (k : Int) ≤ M.mst f neg → ¬ (f.k = 4 ∧ neg = true) → Calls Tryd.prog b #[fv f, .bool neg, u64 k] W (Wz (M.pat f neg k) W)
  at_ : ∀ (W : World), Tz W → ∀ (k m : Nat) (z : Int), (k : Int) ≤ M.tp f → M.Mg0 f k m z → Calls Tryd.prog c #[fv f, u64 k] W (Mz m z W)
  behind : ∀ (W : World), Tz W → ∀ (k m : Nat) (z : Int), (k : Int) ≤ M.tp f → M.Bd f k m z → Calls Tryd.prog d #[fv f, u64 k] W (Mz m z W)
theorem trn_pat (f : M.Fm) (hk : f.k ≠ 2) (neg : Bool) (k : Nat) : (if neg = true then M.trn f k else (k : Int)) = M.pat f neg k := by
  unfold M.pat M.trn
  cases neg
  · rfl
  · show (if (k : Int) = 0 then 0 else M.msk f + 1 - (k : Int)) = if f.k = 2 then (k : Int) + M.half f else if k = 0 then 0 else M.msk f - k + 1
    rw [if_neg hk]
    by_cases c : k = 0
    · rw [if_pos (by omega), if_pos c]
    · rw [if_neg (by omega), if_neg c]; omega
theorem sgn_pat (f : M.Fm) (hk : f.k = 2) (neg : Bool) (k : Nat) : (if neg = true then (k : Int) + M.half f else (k : Int)) = M.pat f neg k := by
  unfold M.pat
  cases neg
  · rfl
  · rw [if_pos rfl, if_neg (by decide), if_pos hk]
theorem tp_le {f : M.Fm} (hf : M.Ok f) (h2 : M.Ok2 f) {k : Nat} (h : (k : Int) ≤ M.tp f) : k ≤ 9223372036854775807 ∧ (f.k = 4 → k < 1000000) := by
  have hm := hf.hm
  have o1 := h2.one
  have o3 := h2.tri
  have o4 := h2.four
  have o2 := hf.two
  unfold M.tp at h
  rcases hf.k with e | e | e | e
  · rw [if_neg (by omega)] at h; omega
  · rw [if_neg (by omega)] at h; omega
  · rw [if_pos e] at h; omega
  · rw [if_neg (by omega)] at h; omega
set_option maxHeartbeats 1000000 in
theorem way_any (f : M.Fm) (hf : M.Ok f) (h2 : M.Ok2 f) (a b c d : Nat) (h : Wk f.k a b c d) : Way f a b c d := by
  have hm := hf.hm
  have ht := hf.t
  have o1 := h2.one
  have o2 := hf.two
  have o22 := h2.two
  have o3 := h2.tri
  have o4 := h2.four
  rcases h with ⟨e, rfl, rfl, rfl, rfl⟩ | ⟨e, rfl, rfl, rfl, rfl⟩ | ⟨e, rfl, rfl, rfl, rfl⟩ | ⟨e, rfl, rfl, rfl, rfl⟩
  · exact {
    ea := enters_of Tryd.func53 (by kernel_rfl) rfl
    eb := enters_of Tryd.func54 (by kernel_rfl) rfl
    ec := enters_of Tryd.func55 (by kernel_rfl) rfl
    ed := enters_of Tryd.func56 (by kernel_rfl) rfl
    read := fun W p p1 p2 cl g k r => rturned_any W f hf h2 (.inl e) p p1 p2 cl g k r
    write := fun W neg k h1 _ => by
      have k2 : (k : Int) ≤ M.msk f := by
        unfold M.mst at h1
        split at h1 <;> omega
      exact wturned_any W f hf neg k (by omega) k2 _ (trn_pat f (by omega) neg k)
    at_ := fun W T k m z h1 h => by
      obtain ⟨kb, _⟩ := tp_le hf h2 h1
      rcases h with ⟨h0, _, rfl, rfl⟩ | ⟨h0, h⟩
      · exact atTapered_any W f k 0 0 1 (Lib.hid fun W' _ => pvalue_out W' f.W k (by omega) (.inr (.inr (.inl h0))))
      · rcases h with ⟨_, n, hn, hW, h⟩ | ⟨e', _⟩ | ⟨e', _⟩ | ⟨e', _⟩
        · exact atTapered_any W f k m z 0 (Lib.hid fun W' U => by rw [hW]; exact pvalue_is W' (T.up U) n k m z hn h)
        · omega
        · omega
        · omega
    behind := fun W T k m z h1 h => by
      obtain ⟨kb, _⟩ := tp_le hf h2 h1
      rcases h with ⟨_, n, hn2, hn, hW, h⟩ | ⟨e', _⟩ | ⟨e', _⟩ | ⟨e', _⟩
      · exact behindTapered_any W f (by omega) k m z kb (fun W' U => atTapered_any W' _ (2 * k + 1) m z 0 (Lib.hid fun W2 U2 => by
          have h3 := pvalue_is W2 (T.up (U.trans U2)) (n + 1) (2 * k + 1) m z (by omega) h
          rw [show (((n + 1 : Nat) : Int) + 1) = f.W + 1 by omega] at h3
          exact h3))
      · omega
      · omega
      · omega }
  · exact {
    ea := enters_of Tryd.func57 (by kernel_rfl) rfl
    eb := enters_of Tryd.func58 (by kernel_rfl) rfl
    ec := enters_of Tryd.func59 (by kernel_rfl) rfl
    ed := enters_of Tryd.func60 (by kernel_rfl) rfl
    read := fun W p p1 p2 cl g k r => rsigned_any W f hf e p p1 p2 cl g k r
    write := fun W neg k h1 _ => by
      have k2 : (k : Int) < M.half f := by
        unfold M.mst at h1
        rw [if_neg (by omega)] at h1
        omega
      exact wsigned_any W f hf (by omega) neg k (by omega) k2 _ (sgn_pat f e neg k)
    at_ := fun W T k m z h1 h => by
      obtain ⟨kb, _⟩ := tp_le hf h2 h1
      unfold M.tp at h1
      rw [if_neg (by omega)] at h1
      rcases h with ⟨h0, _, rfl, rfl⟩ | ⟨h0, h⟩
      · obtain ⟨p, hp, hpm, ho⟩ := M.mok_of h2 e h1
        exact atSigned_any W f k 0 0 0 (Lib.hid fun W' U => by rw [hpm]; exact mvalue_any W' (Lib.hid (T.up U)) p k 0 f.b 0 (by omega) ho (.inl ⟨M.mX_zero.2 h0, rfl, rfl⟩))
      · rcases h with ⟨e', _⟩ | ⟨_, p, hpm, ho, h⟩ | ⟨e', _⟩ | ⟨e', _⟩
        · omega
        · exact atSigned_any W f k m z 0 (Lib.hid fun W' U => by rw [hpm]; exact mvalue_any W' (Lib.hid (T.up U)) p k m f.b z (by omega) ho h)
        · omega
        · omega
    behind := fun W T k m z h1 h => by
      obtain ⟨kb, _⟩ := tp_le hf h2 h1
      rcases h with ⟨e', _⟩ | ⟨_, p, hp, hpm, ho, h⟩ | ⟨e', _⟩ | ⟨e', _⟩
      · omega
      · exact behindSigned_any W f (by omega) k m z kb (fun W' U => atSigned_any W' _ (2 * k + 1) m z 0 (Lib.hid fun W2 U2 => by
          have h3 := mvalue_any W2 (Lib.hid (T.up (U.trans U2))) (p + 1) (2 * k + 1) m f.b z (by omega) ho h
          rw [show ((p + 1 : Nat) : Int) = f.m + 1 by omega] at h3
          exact h3))
      · omega
      · omega }
  · exact {
    ea := enters_of Tryd.func53 (by kernel_rfl) rfl
    eb := enters_of Tryd.func54 (by kernel_rfl) rfl
    ec := enters_of Tryd.func61 (by kernel_rfl) rfl
    ed := enters_of Tryd.func62 (by kernel_rfl) rfl
    read := fun W p p1 p2 cl g k r => rturned_any W f hf h2 (.inr e) p p1 p2 cl g k r
    write := fun W neg k h1 _ => by
      have k2 : (k : Int) ≤ M.msk f := by
        unfold M.mst at h1
        split at h1 <;> omega
      exact wturned_any W f hf neg k (by omega) k2 _ (trn_pat f (by omega) neg k)
    at_ := fun W T k m z h1 h => by
      obtain ⟨kb, _⟩ := tp_le hf h2 h1
      rcases h with ⟨h0, _, rfl, rfl⟩ | ⟨h0, h⟩
      · exact atTurned_zero W f k h0
      · rcases h with ⟨e', _⟩ | ⟨e', _⟩ | ⟨_, hfm, k0, ho, t, hm, hz⟩ | ⟨e', _⟩
        · omega
        · omega
        · exact atTurned_any W (Lib.hid T) f (by omega) k m t z (by omega) k0 hm ho hz
        · omega
    behind := fun W T k m z h1 h => by
      obtain ⟨kb, _⟩ := tp_le hf h2 h1
      rcases h with ⟨e', _⟩ | ⟨e', _⟩ | ⟨_, hfm, k0, rfl, hz⟩ | ⟨e', _⟩
      · omega
      · omega
      · exact behindTurned_any W f hfm k (2 * k + 1) z kb (fun W' U => atTurned_any W' (Lib.hid (T.up U)) _ (by show -1000 ≤ f.m + 1 ∧ f.m + 1 ≤ 1000; omega) (2 * k + 1) (2 * k + 1) 0 z (by omega) (by omega) (by simp) (by omega) (by show -(f.m + 1) + ((0 : Nat) : Int) = z; omega))
      · omega }
  · exact {
    ea := enters_of Tryd.func63 (by kernel_rfl) rfl
    eb := enters_of Tryd.func64 (by kernel_rfl) rfl
    ec := enters_of Tryd.func65 (by kernel_rfl) rfl
    ed := enters_of Tryd.func66 (by kernel_rfl) rfl
    read := fun W p p1 p2 cl g k r => rscale_any W f hf h2 e p cl g k r
    write := fun W neg k _ hn => by
      obtain rfl : neg = false := by cases neg; rfl; exact absurd ⟨e, rfl⟩ hn
      exact wscale_any W f false k
    at_ := fun W T k m z h1 h => by
      rcases h with ⟨_, h0, _⟩ | ⟨h0, h⟩
      · exact absurd e h0
      · rcases h with ⟨e', _⟩ | ⟨e', _⟩ | ⟨e', _⟩ | ⟨_, hb, hk, rfl, hz⟩
        · omega
        · omega
        · omega
        · exact atScale_any W f hb k z hk hz
    behind := fun W T k m z h1 h => by
      rcases h with ⟨e', _⟩ | ⟨e', _⟩ | ⟨e', _⟩ | ⟨_, hb, hk, rfl, hz⟩
      · omega
      · omega
      · omega
      · exact behindScale_any W f hb k z hk hz }
end Go.Proofs.YtjcbncfpcechnaaDoor
