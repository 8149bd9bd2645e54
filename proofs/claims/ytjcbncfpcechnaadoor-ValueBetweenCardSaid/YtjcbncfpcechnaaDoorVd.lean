/-
  The reference of layer 7: magnitudes, and the boundaries behind them.
-/
import Derived.Test.YtjcbncfpcechnaaDoorVc3
import Derived.BigQuiet
namespace Go.Proofs.YtjcbncfpcechnaaDoor
open Go.RowKit
set_option linter.unusedSimpArgs false
set_option linter.unusedVariables false

theorem tp_le' {f : M.Fm} (hf : M.Ok f) (h2 : M.Ok2 f) {k : Nat} (h : (k : Int) ≤ M.tp f) : k ≤ 9223372036854775807 := by
  have hm := hf.hm
  have o1 := h2.one
  have o3 := h2.tri
  have o4 := h2.four
  have o2 := hf.two
  unfold M.tp at h
  rcases hf.k with e | e | e | e
  · rw [if_neg (by omega)] at h; omega
  · rw [if_neg (by omega)] at h; omega
  · rw [if_pos e] at h; omega
  · rw [if_neg (by omega)] at h; omega
set_option maxHeartbeats 4000000 in
set_option maxRecDepth 100000 in
theorem rat_any (w : World) (ii : Int) (k : Nat) (kb : k < 18446744073709551616) (m : Nat) (z x : Int) (h : M.Ac ii k m z x) : Calls Tryd.prog 21 #[.int .i64 ii, u64 k] w (Mzx m z x w) := by
  rcases h with ⟨h, rfl, rfl, rfl⟩ | ⟨i, rfl, a, b, ⟨h, rfl, rfl, rfl⟩ | ⟨hk, h, rfl⟩⟩
  ·
    have U := Up.refl w
    go_enter Tryd.func21, Tryd.ntmps21
    go_wp2_with fail
    refine (rkfits_out _ ii k h).mono ?_
    rintro _ w1 ⟨rfl, h1⟩
    replace U := U.trans h1
    clear h1
    clear h
    go_wp2_with fail
    go_ret3
    exact ⟨rfl, by first | exact U | exact U.alloc _ | exact U.drewN _ | exact (U.alloc _).drewN _⟩
  ·
    obtain ⟨f, hf⟩ : ∃ f, M.tb i = f := ⟨_, rfl⟩
    have ok := M.ok i a b
    have ok2 := M.ok2 i a b
    rw [hf] at h ok ok2
    have CF := Lib.hid (fun W => rkfits_in W i f (Lib.hid hf) a b k kb 4 (by rw [if_pos h]))
    clear h hf ok ok2
    have U := Up.refl w
    go_enter Tryd.func21, Tryd.ntmps21
    go_wp2_with fail
    refine (CF.out _).mono ?_
    rintro _ w1 ⟨rfl, h1⟩
    replace U := U.trans h1
    clear h1
    go_wp2_with fail
    go_ret3
    exact ⟨rfl, by first | exact U | exact U.alloc _ | exact U.drewN _ | exact (U.alloc _).drewN _⟩
  ·
    obtain ⟨f, hf⟩ : ∃ f, M.tb i = f := ⟨_, rfl⟩
    have ok := M.ok i a b
    have ok2 := M.ok2 i a b
    rw [hf] at h ok ok2
    rw [hf] at hk
    have CF := Lib.hid (fun W => rkfits_in W i f (Lib.hid hf) a b k kb 0 (by rw [if_neg (by omega)]))
    clear hf ok ok2 hk
    rcases h with ⟨h0, h4, rfl, rfl⟩ | ⟨h0, h⟩
    ·
      have d1 : ((k : Int) == 0) = true := by simp [h0]
      have d2 : (f.k != 4) = true := by simpa using h4
      clear h0 h4
      have U := Up.refl w
      go_enter Tryd.func21, Tryd.ntmps21
      go_wp2_with fail
      refine (CF.out _).mono ?_
      rintro _ w1 ⟨rfl, h1⟩
      replace U := U.trans h1
      clear h1
      go_wp2_with fail
      go_ret3
      exact ⟨rfl, by first | exact U | exact U.alloc _ | exact U.drewN _ | exact (U.alloc _).drewN _⟩
    ·
      have CM := Lib.hid (fun W => rmag_any W f k m z kb h)
      clear h
      by_cases k0 : k = 0
      ·
        have d1 : ((k : Int) == 0) = true := by simp [k0]
        have d2 : (f.k != 4) = false := by
          have : f.k = 4 := by omega
          simp [this]
        clear h0 k0
        have U := Up.refl w
        go_enter Tryd.func21, Tryd.ntmps21
        go_wp2_with fail
        refine (CF.out _).mono ?_
        rintro _ w1 ⟨rfl, h1⟩
        replace U := U.trans h1
        clear h1
        go_wp2_with fail
        obtain ⟨V2, hV2⟩ : ∃ V2, w1.alloc (.cells #[.int .i64 f.k, .int .i64 f.W, .int .i64 f.m, .int .i64 f.b, .int .u64 f.t, .int .u64 f.n, .int .u64 f.x] 58) = V2 := ⟨_, rfl⟩
        have c : Bf V2 w1.heap.size 58 f := by rw [← hV2]; exact Bf.mk_ w1 f 58
        have ltc : w.heap.size ≤ w1.heap.size := U.size
        have uV2 : Up w1 V2 := by rw [← hV2]; exact (Up.refl _).alloc _
        rw [hV2]
        clear hV2
        replace U := U.trans uV2
        clear uV2
        refine (CM.out _).mono ?_
        rintro _ w3 ⟨rfl, h3⟩
        replace U := U.trans h3
        replace c := c.up h3
        clear h3
        go_wp2_with fail
        go_ret3
        exact ⟨rfl, by first | exact U | exact U.alloc _ | exact U.drewN _ | exact (U.alloc _).drewN _⟩
      ·
        have d1 : ((k : Int) == 0) = false := by rw [beq_eq_false_iff_ne]; omega
        clear h0 k0
        have U := Up.refl w
        go_enter Tryd.func21, Tryd.ntmps21
        go_wp2_with fail
        refine (CF.out _).mono ?_
        rintro _ w1 ⟨rfl, h1⟩
        replace U := U.trans h1
        clear h1
        go_wp2_with fail
        obtain ⟨V2, hV2⟩ : ∃ V2, w1.alloc (.cells #[.int .i64 f.k, .int .i64 f.W, .int .i64 f.m, .int .i64 f.b, .int .u64 f.t, .int .u64 f.n, .int .u64 f.x] 58) = V2 := ⟨_, rfl⟩
        have c : Bf V2 w1.heap.size 58 f := by rw [← hV2]; exact Bf.mk_ w1 f 58
        have ltc : w.heap.size ≤ w1.heap.size := U.size
        have uV2 : Up w1 V2 := by rw [← hV2]; exact (Up.refl _).alloc _
        rw [hV2]
        clear hV2
        replace U := U.trans uV2
        clear uV2
        refine (CM.out _).mono ?_
        rintro _ w3 ⟨rfl, h3⟩
        replace U := U.trans h3
        replace c := c.up h3
        clear h3
        go_wp2_with fail
        go_ret3
        exact ⟨rfl, by first | exact U | exact U.alloc _ | exact U.drewN _ | exact (U.alloc _).drewN _⟩
set_option maxHeartbeats 4000000 in
set_option maxRecDepth 100000 in
theorem rbetween_any (w : World) (ii : Int) (k : Nat) (kb : k < 18446744073709551616) (m : Nat) (z x : Int) (h : M.Bc ii k m z x) : Calls Tryd.prog 23 #[.int .i64 ii, u64 k] w (Mzx m z x w) := by
  rcases h with ⟨h, rfl, rfl, rfl⟩ | ⟨i, rfl, a, b, ⟨h, rfl, rfl, rfl⟩ | ⟨hk, h, rfl⟩⟩
  ·
    have U := Up.refl w
    go_enter Tryd.func23, Tryd.ntmps23
    go_wp2_with fail
    refine (rkfits_out _ ii k h).mono ?_
    rintro _ w1 ⟨rfl, h1⟩
    replace U := U.trans h1
    clear h1
    clear h
    go_wp2_with fail
    go_ret3
    exact ⟨rfl, by first | exact U | exact U.alloc _ | exact U.drewN _ | exact (U.alloc _).drewN _⟩
  ·
    obtain ⟨f, hf⟩ : ∃ f, M.tb i = f := ⟨_, rfl⟩
    have ok := M.ok i a b
    have ok2 := M.ok2 i a b
    rw [hf] at h ok ok2
    have CF := Lib.hid (fun W => rkfits_in W i f (Lib.hid hf) a b k kb 4 (by rw [if_pos h]))
    clear h hf ok ok2
    have U := Up.refl w
    go_enter Tryd.func23, Tryd.ntmps23
    go_wp2_with fail
    refine (CF.out _).mono ?_
    rintro _ w1 ⟨rfl, h1⟩
    replace U := U.trans h1
    clear h1
    go_wp2_with fail
    go_ret3
    exact ⟨rfl, by first | exact U | exact U.alloc _ | exact U.drewN _ | exact (U.alloc _).drewN _⟩
  ·
    obtain ⟨f, hf⟩ : ∃ f, M.tb i = f := ⟨_, rfl⟩
    have ok := M.ok i a b
    have ok2 := M.ok2 i a b
    rw [hf] at h ok ok2
    rw [hf] at hk
    have CF := Lib.hid (fun W => rkfits_in W i f (Lib.hid hf) a b k kb 0 (by rw [if_neg (by omega)]))
    have kk : k ≤ 9223372036854775807 := tp_le' ok ok2 hk
    clear hf hk
    rcases h with ⟨e, n, hn2, hn, hW, h⟩ | ⟨e, p, hp, hpm, ho, h⟩ | ⟨e, hfm, k0, rfl, rfl⟩ | ⟨e, hfb, k0, rfl, rfl⟩
    ·
      have d1 : (f.k == 1) = true := by simpa using e
      have CV : Hid (∀ W, Calls Tryd.prog 41 #[.int .i64 (f.W + 1), .int .u64 (2 * (k : Int) + 1)] W (V3 m z true W)) := fun W => by
        have h3 := rvalue_k W (n + 1) (2 * k + 1) m z (by omega) h
        rw [show (((n + 1 : Nat) : Int) + 1) = f.W + 1 by omega] at h3
        rw [show u64 (2 * k + 1) = .int .u64 (2 * (k : Int) + 1) by unfold u64; congr 1] at h3
        exact h3
      have wb : 0 ≤ f.W ∧ f.W ≤ 64 := by omega
      clear e h hW ok ok2
      have U := Up.refl w
      go_enter Tryd.func23, Tryd.ntmps23
      go_wp2_with fail
      refine (CF.out _).mono ?_
      rintro _ w1 ⟨rfl, h1⟩
      replace U := U.trans h1
      clear h1
      go_wp2_with fail
      obtain ⟨V2, hV2⟩ : ∃ V2, w1.alloc (.cells #[.int .i64 f.k, .int .i64 f.W, .int .i64 f.m, .int .i64 f.b, .int .u64 f.t, .int .u64 f.n, .int .u64 f.x] 58) = V2 := ⟨_, rfl⟩
      have c : Bf V2 w1.heap.size 58 f := by rw [← hV2]; exact Bf.mk_ w1 f 58
      have ltc : w.heap.size ≤ w1.heap.size := U.size
      have uV2 : Up w1 V2 := by rw [← hV2]; exact (Up.refl _).alloc _
      rw [hV2]
      clear hV2
      replace U := U.trans uV2
      clear uV2
      refine (CV.out _).mono ?_
      rintro _ w3 ⟨rfl, h3⟩
      replace U := U.trans h3
      replace c := c.up h3
      clear h3
      go_wp2_with fail
      go_ret3
      exact ⟨rfl, by first | exact U | exact U.alloc _ | exact U.drewN _ | exact (U.alloc _).drewN _⟩
    ·
      have d1 : (f.k == 1) = false := by simp [e]
      have d2 : (f.k == 2) = true := by simpa using e
      have CV : Hid (∀ W, Calls Tryd.prog 42 #[.int .i64 (f.m + 1), .int .i64 f.b, .int .u64 (2 * (k : Int) + 1)] W (Mz m z W)) := fun W => by
        have h3 := rvalue6 W (p + 1) (2 * k + 1) m f.b z (by omega) ho h
        rw [show ((p + 1 : Nat) : Int) = f.m + 1 by omega] at h3
        rw [show u64 (2 * k + 1) = .int .u64 (2 * (k : Int) + 1) by unfold u64; congr 1] at h3
        exact h3
      have wb : 0 ≤ f.m ∧ f.m ≤ 64 := by omega
      clear e h hpm ho ok ok2
      have U := Up.refl w
      go_enter Tryd.func23, Tryd.ntmps23
      go_wp2_with fail
      refine (CF.out _).mono ?_
      rintro _ w1 ⟨rfl, h1⟩
      replace U := U.trans h1
      clear h1
      go_wp2_with fail
      obtain ⟨V2, hV2⟩ : ∃ V2, w1.alloc (.cells #[.int .i64 f.k, .int .i64 f.W, .int .i64 f.m, .int .i64 f.b, .int .u64 f.t, .int .u64 f.n, .int .u64 f.x] 58) = V2 := ⟨_, rfl⟩
      have c : Bf V2 w1.heap.size 58 f := by rw [← hV2]; exact Bf.mk_ w1 f 58
      have ltc : w.heap.size ≤ w1.heap.size := U.size
      have uV2 : Up w1 V2 := by rw [← hV2]; exact (Up.refl _).alloc _
      rw [hV2]
      clear hV2
      replace U := U.trans uV2
      clear uV2
      refine (CV.out _).mono ?_
      rintro _ w3 ⟨rfl, h3⟩
      replace U := U.trans h3
      replace c := c.up h3
      clear h3
      go_wp2_with fail
      go_ret3
      exact ⟨rfl, by first | exact U | exact U.alloc _ | exact U.drewN _ | exact (U.alloc _).drewN _⟩
    ·
      have d1 : (f.k == 1) = false := by simp [e]
      have d2 : (f.k == 2) = false := by simp [e]
      have d3 : (f.k == 3) = true := by simpa using e
      clear e ok ok2
      have U := Up.refl w
      go_enter Tryd.func23, Tryd.ntmps23
      go_wp2_with fail
      refine (CF.out _).mono ?_
      rintro _ w1 ⟨rfl, h1⟩
      replace U := U.trans h1
      clear h1
      go_wp2_with fail
      go_quiet (fail)
      go_wp2_with fail
      go_ret3
      exact ⟨by first | rfl | (unfold u64; congr 3), by first | exact U | exact U.alloc _ | exact U.drewN _ | exact (U.alloc _).drewN _⟩
    ·
      have d1 : (f.k == 1) = false := by simp [e]
      have d2 : (f.k == 2) = false := by simp [e]
      have d3 : (f.k == 3) = false := by simp [e]
      clear e ok ok2
      have U := Up.refl w
      go_enter Tryd.func23, Tryd.ntmps23
      go_wp2_with fail
      refine (CF.out _).mono ?_
      rintro _ w1 ⟨rfl, h1⟩
      replace U := U.trans h1
      clear h1
      go_wp2_with fail
      go_quiet (fail)
      go_wp2_with fail
      go_ret3
      exact ⟨rfl, by first | exact U | exact U.alloc _ | exact U.drewN _ | exact (U.alloc _).drewN _⟩
end Go.Proofs.YtjcbncfpcechnaaDoor
