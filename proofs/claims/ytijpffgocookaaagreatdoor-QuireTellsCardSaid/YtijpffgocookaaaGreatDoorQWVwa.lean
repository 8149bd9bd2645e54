import Derived.Test.YtijpffgocookaaaGreatDoorQWVva
set_option maxHeartbeats 32000000
set_option linter.unusedVariables false
set_option linter.unusedSimpArgs false
namespace Go.Proofs.YtijpffgocookaaaGreatDoor
open Go.RowKit
theorem dv_rd {f : M.Fm} {p : Int} {c : Int} {g : Bool} {m : Nat} {z : Int} (h : M.Dv f p c g m z) :
  (c ≠ 2 ∧ m = 0 ∧ z = 0 ∧ M.Rd f p c g 0) ∨ (M.cls f p = 2 ∧ c = 2 ∧ ∃ k : Nat, M.kyf f p = k ∧ M.Mg f k m z ∧ M.Rd f p 2 g k) := by
 rcases h with ⟨a, rfl, rfl, rfl, rfl⟩ | ⟨a, rfl, rfl, rfl, rfl⟩ | ⟨a, rfl, rfl, rfl, rfl⟩ | ⟨a, rfl, rfl, k, hk, h⟩
 ·exact .inl ⟨by decide, rfl, rfl, .inr (.inr (.inr ⟨a, rfl, rfl, rfl⟩))⟩
 ·exact .inl ⟨by decide, rfl, rfl, .inr (.inr (.inl ⟨a, rfl, rfl, rfl⟩))⟩
 ·exact .inl ⟨by decide, rfl, rfl, .inl ⟨a, rfl, rfl, rfl⟩⟩
 ·exact .inr ⟨a, rfl, k, hk, h, .inr (.inl ⟨a, rfl, rfl, hk.symm⟩)⟩
set_option maxRecDepth 100000 in
theorem vdecode_any (w : World) (TT : Hid (Tz w)) (TF : Hid (TabF w)) (ii : Int) (p : Nat) (pb : p < 18446744073709551616) (c : Int) (g : Bool) (m : Nat) (z x : Int) (h : M.Dc ii p c g m z x) : Calls Tryz.prog 78 #[.int .i64 ii, u64 p] w (Vd c g m z x w) := by
 rcases h with ⟨h, rfl, rfl, rfl, rfl, rfl⟩ | ⟨i, rfl, a, b, ⟨h, rfl, rfl, rfl, rfl, rfl⟩ | ⟨hp, h, rfl⟩⟩
 ·
  have U := Up.refl w
  go_enter Tryz.func78, Tryz.ntmps78
  go_wp2_with fail
  obtain ⟨V1, hV1, R, uV1⟩ := Ob.nw w 85 #[.int .i64 0, .bool false, .int .u64 0, .int .i64 0]
  have ltR : w.heap.size ≤ w.heap.size := U.size
  rw [hV1]
  clear hV1
  replace U := U.trans uV1
  clear uV1
  refine (vfit_out _ ii p h).mono ?_
  rintro _ w2 ⟨rfl, h2⟩
  replace U := U.trans h2
  replace R := R.up h2
  clear h2
  go_wp2_with (first | (refine store_ob rfl 106 (.tmp 6) (.tmp 16) rfl _ zsh zsh rfl rfl 11 (by kernel_rfl) rfl rfl (by simp [Value.oneCell']) w2 ((Up.refl _).alloc _) (Nat.le_refl _) 106 (Ob.mk_ _ _ _) ?_; intro V3 C uV3; have ltC : w.heap.size ≤ w2.heap.size := U.size; replace U := U.trans uV3; replace R := R.up uV3; clear uV3) | (refine store_ob rfl 85 (.tmp 4) (.tmp 20) rfl _ #[.int .i64 0, .bool false, .int .u64 0, .int .i64 0] #[.int .i64 0, .bool false, .int .u64 0, .int .i64 0] rfl rfl 4 (by kernel_rfl) rfl rfl (by simp [Value.oneCell']) w (by first | exact U | exact U.alloc _) ltR 85 (by first | exact R | exact R.up ((Up.refl _).alloc _)) ?_; clear U; intro V9 z U))
  obtain ⟨z0, z1, z2, z3⟩ := z.g4
  refine bodyPost_ret (v := .tuple #[.agg #[.int .i64 0, .bool false, .int .u64 0, .int .i64 0], .int .i64 3]) (by simp [results, Tryz.results78, go_sem, z0, z1, z2, z3]) rfl ?_
  exact ⟨rfl, U⟩
 ·
  have CF := Lib.hid (fun W (T : TabF W) => vfit_big W T i a b p (by omega) (by omega) h)
  have U := Up.refl w
  go_enter Tryz.func78, Tryz.ntmps78
  go_wp2_with fail
  obtain ⟨V1, hV1, R, uV1⟩ := Ob.nw w 85 #[.int .i64 0, .bool false, .int .u64 0, .int .i64 0]
  have ltR : w.heap.size ≤ w.heap.size := U.size
  rw [hV1]
  clear hV1
  replace U := U.trans uV1
  clear uV1
  refine (CF.out _ (TF.out.up U)).mono ?_
  rintro _ w2 ⟨rfl, h2⟩
  replace U := U.trans h2
  replace R := R.up h2
  clear h2
  go_wp2_with (first | (refine store_ob rfl 106 (.tmp 6) (.tmp 16) rfl _ zsh zsh rfl rfl 11 (by kernel_rfl) rfl rfl (by simp [Value.oneCell']) w2 ((Up.refl _).alloc _) (Nat.le_refl _) 106 (Ob.mk_ _ _ _) ?_; intro V3 C uV3; have ltC : w.heap.size ≤ w2.heap.size := U.size; replace U := U.trans uV3; replace R := R.up uV3; clear uV3) | (refine store_ob rfl 85 (.tmp 4) (.tmp 20) rfl _ #[.int .i64 0, .bool false, .int .u64 0, .int .i64 0] #[.int .i64 0, .bool false, .int .u64 0, .int .i64 0] rfl rfl 4 (by kernel_rfl) rfl rfl (by simp [Value.oneCell']) w (by first | exact U | exact U.alloc _) ltR 85 (by first | exact R | exact R.up ((Up.refl _).alloc _)) ?_; clear U; intro V9 z U))
  obtain ⟨z0, z1, z2, z3⟩ := z.g4
  refine bodyPost_ret (v := .tuple #[.agg #[.int .i64 0, .bool false, .int .u64 0, .int .i64 0], .int .i64 1]) (by simp [results, Tryz.results78, go_sem, z0, z1, z2, z3]) rfl ?_
  exact ⟨rfl, U⟩
 ·
  have ok := M.ok i a b
  have ok2 := M.ok2 i a b
  obtain ⟨f, hf⟩ : ∃ f, M.tb i = f := ⟨_, rfl⟩
  rw [hf] at ok ok2 h
  obtain ⟨fa, fb, fc, fd, hw⟩ := wk_ex ok.k
  have WY := way_any f ok ok2 fa fb fc fd hw
  rw [hf] at hp
  have CF := Lib.hid (fun W (T : TabF W) => vfit_in W T i f (Lib.hid hf) a b p (by omega) hp fa fb fc fd hw)
  have ea := WY.ea
  have ec := WY.ec
  rcases dv_rd h with ⟨hc, rfl, rfl, r⟩ | ⟨hc, rfl, k, hk, hm, r⟩
  ·
   have CR := Lib.hid (fun W => WY.read W p (by omega) hp c g 0 r)
   have d1 : (c == 2) = false := by simpa using hc
   clear h hf ok ok2 hw WY hp r hc
   have U := Up.refl w
   go_enter Tryz.func78, Tryz.ntmps78
   go_wp2_with fail
   obtain ⟨V1, hV1, R, uV1⟩ := Ob.nw w 85 #[.int .i64 0, .bool false, .int .u64 0, .int .i64 0]
   have ltR : w.heap.size ≤ w.heap.size := U.size
   rw [hV1]
   clear hV1
   replace U := U.trans uV1
   clear uV1
   refine (CF.out _ (TF.out.up U)).mono ?_
   rintro _ w2 ⟨rfl, h2⟩
   replace U := U.trans h2
   replace R := R.up h2
   clear h2
   go_wp2_with (refine store_ob rfl 106 (.tmp 6) (.tmp 16) rfl _ zsh (shc f fa fb fc fd) rfl rfl 11 (by kernel_rfl) rfl rfl (by simp [Value.oneCell']) w2 ((Up.refl _).alloc _) (Nat.le_refl _) 106 (Ob.mk_ _ _ _) ?_; intro V3 C uV3; have ltC : w.heap.size ≤ w2.heap.size := U.size; replace U := U.trans uV3; replace R := R.up uV3; clear uV3; have C0 := C.get 0; have C1 := C.get 1; have C2 := C.get 2; have C3 := C.get 3; have C4 := C.get 4; have C5 := C.get 5; have C6 := C.get 6; have C7 := C.get 7; have C8 := C.get 8; have C9 := C.get 9; have C10 := C.get 10; simp only [M.z7, M.z8, M.z9] at C0 C1 C2 C3 C4 C5 C6 C7 C8 C9 C10)
   clear C0 C1 C2 C3 C4 C5 C6 C7 C8 C9 C10
   refine (CR.out _).mono ?_
   rintro _ w4 ⟨rfl, h4⟩
   replace U := U.trans h4
   replace R := R.up h4
   replace C := C.up h4
   clear h4
   go_wp2_with (refine store_ob rfl 85 (.tmp 4) (.tmp 50) rfl _ #[.int .i64 0, .bool false, .int .u64 0, .int .i64 0] #[.int .i64 c, .bool g, .int .u64 0, .int .i64 0] rfl rfl 4 (by kernel_rfl) rfl rfl (by simp [Value.oneCell']) w (by first | exact U | exact U.alloc _) ltR 85 (by first | exact R | exact R.up ((Up.refl _).alloc _)) ?_; clear U; intro V9 z U)
   obtain ⟨z0, z1, z2, z3⟩ := z.g4
   refine bodyPost_ret (v := .tuple #[.agg #[.int .i64 c, .bool g, .int .u64 0, .int .i64 0], .int .i64 0]) (by simp [results, Tryz.results78, go_sem, z0, z1, z2, z3]) rfl ?_
   exact ⟨rfl, U⟩
  ·
   have kk := M.cls_key ok ok2 (p := p) (by omega) hp (.inr hc)
   have CR := Lib.hid (fun W => WY.read W p (by omega) hp 2 g k r)
   have CA := Lib.hid (fun W T => WY.at_ W T k m z (by omega) (.inr ⟨by have := kk.2.2.2 hc; omega, hm⟩))
   clear h hf ok ok2 hw WY hp r hc kk hm hk
   have U := Up.refl w
   go_enter Tryz.func78, Tryz.ntmps78
   go_wp2_with fail
   obtain ⟨V1, hV1, R, uV1⟩ := Ob.nw w 85 #[.int .i64 0, .bool false, .int .u64 0, .int .i64 0]
   have ltR : w.heap.size ≤ w.heap.size := U.size
   rw [hV1]
   clear hV1
   replace U := U.trans uV1
   clear uV1
   refine (CF.out _ (TF.out.up U)).mono ?_
   rintro _ w2 ⟨rfl, h2⟩
   replace U := U.trans h2
   replace R := R.up h2
   clear h2
   go_wp2_with (refine store_ob rfl 106 (.tmp 6) (.tmp 16) rfl _ zsh (shc f fa fb fc fd) rfl rfl 11 (by kernel_rfl) rfl rfl (by simp [Value.oneCell']) w2 ((Up.refl _).alloc _) (Nat.le_refl _) 106 (Ob.mk_ _ _ _) ?_; intro V3 C uV3; have ltC : w.heap.size ≤ w2.heap.size := U.size; replace U := U.trans uV3; replace R := R.up uV3; clear uV3; have C0 := C.get 0; have C1 := C.get 1; have C2 := C.get 2; have C3 := C.get 3; have C4 := C.get 4; have C5 := C.get 5; have C6 := C.get 6; have C7 := C.get 7; have C8 := C.get 8; have C9 := C.get 9; have C10 := C.get 10; simp only [M.z7, M.z8, M.z9] at C0 C1 C2 C3 C4 C5 C6 C7 C8 C9 C10)
   clear C0 C1 C2 C3 C4 C5 C6 C7 C8 C9 C10
   refine (CR.out _).mono ?_
   rintro _ w4 ⟨rfl, h4⟩
   replace U := U.trans h4
   replace R := R.up h4
   replace C := C.up h4
   clear h4
   have nY := Nat.ne_of_lt R.lt
   go_wp2_with (refine store_ob rfl 85 (.tmp 11) (.tmp 35) rfl _ #[.int .i64 0, .bool false, .int .u64 0, .int .i64 0] #[.int .i64 2, .bool g, .int .u64 0, .int .i64 0] rfl rfl 4 (by kernel_rfl) rfl rfl (by simp [Value.oneCell']) w4 ((Up.refl _).alloc _) (Nat.le_refl _) 85 (Ob.mk_ _ _ _) ?_; intro V5 Y uV5; have ltY : w.heap.size ≤ w4.heap.size := U.size; replace U := U.trans uV5; replace R := R.up uV5; replace C := C.up uV5; clear uV5; have C0 := C.get 0; have C1 := C.get 1; have C2 := C.get 2; have C3 := C.get 3; have C4 := C.get 4; have C5 := C.get 5; have C6 := C.get 6; have C7 := C.get 7; have C8 := C.get 8; have C9 := C.get 9; have C10 := C.get 10; simp only [M.z7, M.z8, M.z9] at C0 C1 C2 C3 C4 C5 C6 C7 C8 C9 C10)
   clear C0 C1 C2 C3 C4 C5 C6 C7 C8 C9 C10
   refine (CA.out _ (TT.out.up U)).mono ?_
   rintro _ w6 ⟨rfl, h6⟩
   replace U := U.trans h6
   replace R := R.up h6
   replace C := C.up h6
   replace Y := Y.up h6
   clear h6
   obtain ⟨Y0, Y1, Y2, Y3, Yf0, Yf1, Yf2, Yf3, Yl⟩ := Y.c4
   go_wp2_with (refine store_ob rfl 85 (.tmp 4) (.tmp 50) rfl _ #[.int .i64 0, .bool false, .int .u64 0, .int .i64 0] #[.int .i64 2, .bool g, u64 m, .int .i64 z] rfl rfl 4 (by kernel_rfl) rfl rfl (by simp [Value.oneCell']) w ((U.setCell (p := ⟨_, 2, none⟩) ltY _).setCell (p := ⟨_, 3, none⟩) ltY _) ltR 85 ((R.other nY _).other nY _) ?_; clear U; intro V9 z9 U)
   obtain ⟨z90, z91, z92, z93⟩ := z9.g4
   refine bodyPost_ret (v := .tuple #[.agg #[.int .i64 2, .bool g, u64 m, .int .i64 z], .int .i64 0]) (by simp [results, Tryz.results78, go_sem, z90, z91, z92, z93]) rfl ?_
   exact ⟨rfl, U⟩
theorem ft_rng {f : M.Fm} (h1 : M.Ok f) (h2 : M.Ok2 f) : 0 ≤ f.t ∧ f.t ≤ 18446744073709551000 := by
 have a1 := h2.one
 have a3 := h2.tri
 have a4 := h2.four
 have a2 := h1.two
 have := h1.hm
 have := h1.t
 rcases h1.k with e | e | e | e <;> omega
set_option maxRecDepth 100000 in
theorem vmost_any (w : World) (TF : Hid (TabF w)) (ii : Int) (neg : Bool) (q x : Int) (h : M.Mc ii neg q x) : Calls Tryz.prog 65 #[.int .i64 ii, .bool neg] w (Wn q x w) := by
 rcases h with ⟨h, rfl, rfl⟩ | ⟨i, rfl, a, b, h⟩
 ·
  have U := Up.refl w
  go_enter Tryz.func65, Tryz.ntmps65
  go_wp2_with fail
  refine (shape_out _ ii h).mono ?_
  rintro _ w1 ⟨rfl, h1⟩
  replace U := U.trans h1
  clear h1
  go_wp2_with (refine store_ob rfl 106 (.tmp 6) (.tmp 11) rfl _ zsh zsh rfl rfl 11 (by kernel_rfl) rfl rfl (by simp [Value.oneCell']) w1 ((Up.refl _).alloc _) (Nat.le_refl _) 106 (Ob.mk_ _ _ _) ?_; intro V2 C uV2; have ltC : w.heap.size ≤ w1.heap.size := U.size; replace U := U.trans uV2; clear uV2)
  go_ret2
  exact ⟨rfl, U⟩
 ·
  have ok := M.ok i a b
  have ok2 := M.ok2 i a b
  obtain ⟨f, hf⟩ : ∃ f, M.tb i = f := ⟨_, rfl⟩
  rw [hf] at ok ok2 h
  obtain ⟨fa, fb, fc, fd, hw⟩ := wk_ex ok.k
  have CF := Lib.hid (fun W (T : TabF W) => shape_in W T i f (Lib.hid hf) a b fa fb fc fd hw)
  have tt := ft_rng ok ok2
  rcases h with ⟨h4, rfl, rfl, rfl⟩ | ⟨h4, rfl, rfl⟩
  ·
   have d1 : (f.k == 4) = true := by simpa using h4
   clear hf ok ok2 hw h4 tt
   have U := Up.refl w
   go_enter Tryz.func65, Tryz.ntmps65
   go_wp2_with fail
   refine (CF.out _ (TF.out.up U)).mono ?_
   rintro _ w1 ⟨rfl, h1⟩
   replace U := U.trans h1
   clear h1
   go_wp2_with (refine store_ob rfl 106 (.tmp 6) (.tmp 11) rfl _ zsh (shc f fa fb fc fd) rfl rfl 11 (by kernel_rfl) rfl rfl (by simp [Value.oneCell']) w1 ((Up.refl _).alloc _) (Nat.le_refl _) 106 (Ob.mk_ _ _ _) ?_; intro V2 C uV2; have ltC : w.heap.size ≤ w1.heap.size := U.size; replace U := U.trans uV2; clear uV2; have C0 := C.get 0; have C1 := C.get 1; have C2 := C.get 2; have C3 := C.get 3; have C4 := C.get 4; have C5 := C.get 5; have C6 := C.get 6; have C7 := C.get 7; have C8 := C.get 8; have C9 := C.get 9; have C10 := C.get 10; simp only [M.z7, M.z8, M.z9] at C0 C1 C2 C3 C4 C5 C6 C7 C8 C9 C10)
   clear C0 C1 C2 C3 C4 C5 C6 C7 C8 C9 C10
   go_ret2
   exact ⟨rfl, U⟩
  ·
   have CM := Lib.hid (fun W => smost_any W f fa fb fc fd tt neg _ rfl)
   obtain ⟨q, hq⟩ : ∃ q, M.mst f neg = q := ⟨_, rfl⟩
   rw [hq] at CM ⊢
   clear hq
   cases neg
   ·
    clear hf ok ok2 hw h4 tt
    have U := Up.refl w
    go_enter Tryz.func65, Tryz.ntmps65
    go_wp2_with fail
    refine (CF.out _ (TF.out.up U)).mono ?_
    rintro _ w1 ⟨rfl, h1⟩
    replace U := U.trans h1
    clear h1
    go_wp2_with (refine store_ob rfl 106 (.tmp 6) (.tmp 11) rfl _ zsh (shc f fa fb fc fd) rfl rfl 11 (by kernel_rfl) rfl rfl (by simp [Value.oneCell']) w1 ((Up.refl _).alloc _) (Nat.le_refl _) 106 (Ob.mk_ _ _ _) ?_; intro V2 C uV2; have ltC : w.heap.size ≤ w1.heap.size := U.size; replace U := U.trans uV2; clear uV2; have C0 := C.get 0; have C1 := C.get 1; have C2 := C.get 2; have C3 := C.get 3; have C4 := C.get 4; have C5 := C.get 5; have C6 := C.get 6; have C7 := C.get 7; have C8 := C.get 8; have C9 := C.get 9; have C10 := C.get 10; simp only [M.z7, M.z8, M.z9] at C0 C1 C2 C3 C4 C5 C6 C7 C8 C9 C10)
    clear C0 C1 C2 C3 C4 C5 C6 C7 C8 C9 C10
    refine (CM.out _).mono ?_
    rintro _ w3 ⟨rfl, h3⟩
    replace U := U.trans h3
    replace C := C.up h3
    clear h3
    go_wp2_with fail
    go_ret2
    exact ⟨rfl, U⟩
   ·
    have d1 : (f.k == 4) = false := by simpa using h4
    clear hf ok ok2 hw h4 tt
    have U := Up.refl w
    go_enter Tryz.func65, Tryz.ntmps65
    go_wp2_with fail
    refine (CF.out _ (TF.out.up U)).mono ?_
    rintro _ w1 ⟨rfl, h1⟩
    replace U := U.trans h1
    clear h1
    go_wp2_with (refine store_ob rfl 106 (.tmp 6) (.tmp 11) rfl _ zsh (shc f fa fb fc fd) rfl rfl 11 (by kernel_rfl) rfl rfl (by simp [Value.oneCell']) w1 ((Up.refl _).alloc _) (Nat.le_refl _) 106 (Ob.mk_ _ _ _) ?_; intro V2 C uV2; have ltC : w.heap.size ≤ w1.heap.size := U.size; replace U := U.trans uV2; clear uV2; have C0 := C.get 0; have C1 := C.get 1; have C2 := C.get 2; have C3 := C.get 3; have C4 := C.get 4; have C5 := C.get 5; have C6 := C.get 6; have C7 := C.get 7; have C8 := C.get 8; have C9 := C.get 9; have C10 := C.get 10; simp only [M.z7, M.z8, M.z9] at C0 C1 C2 C3 C4 C5 C6 C7 C8 C9 C10)
    clear C0 C1 C2 C3 C4 C5 C6 C7 C8 C9 C10
    refine (CM.out _).mono ?_
    rintro _ w3 ⟨rfl, h3⟩
    replace U := U.trans h3
    replace C := C.up h3
    clear h3
    go_wp2_with fail
    go_ret2
    exact ⟨rfl, U⟩
set_option maxRecDepth 100000 in
theorem vpattern_any (w : World) (TF : Hid (TabF w)) (ii : Int) (neg : Bool) (k : Nat) (kb : k < 18446744073709551616) (q x : Int) (h : M.Pc ii neg k q x) : Calls Tryz.prog 39 #[.int .i64 ii, .bool neg, u64 k] w (Wn q x w) := by
 rcases h with ⟨h, rfl, rfl⟩ | ⟨i, rfl, a, b, ⟨h4, hn, rfl, rfl⟩ | ⟨h4, ⟨h, rfl, rfl⟩ | ⟨h, rfl, rfl⟩⟩⟩
 ·
  have CM := Lib.hid (fun W (T : TabF W) => vmost_any W (Lib.hid T) ii neg 0 3 (.inl ⟨h, rfl, rfl⟩))
  clear h
  have U := Up.refl w
  go_enter Tryz.func39, Tryz.ntmps39
  go_wp2_with fail
  refine (CM.out _ (TF.out.up U)).mono ?_
  rintro _ w1 ⟨rfl, h1⟩
  replace U := U.trans h1
  clear h1
  go_wp2_with fail
  go_ret2
  exact ⟨rfl, U⟩
 ·
  have CM := Lib.hid (fun W (T : TabF W) => vmost_any W (Lib.hid T) (i : Int) neg 0 5 (.inr ⟨i, rfl, a, b, .inl ⟨h4, hn, rfl, rfl⟩⟩))
  clear h4 hn
  have U := Up.refl w
  go_enter Tryz.func39, Tryz.ntmps39
  go_wp2_with fail
  refine (CM.out _ (TF.out.up U)).mono ?_
  rintro _ w1 ⟨rfl, h1⟩
  replace U := U.trans h1
  clear h1
  go_wp2_with fail
  go_ret2
  exact ⟨rfl, U⟩
 ·
  have CM := Lib.hid (fun W (T : TabF W) => vmost_any W (Lib.hid T) (i : Int) neg _ 0 (.inr ⟨i, rfl, a, b, .inr ⟨h4, rfl, rfl⟩⟩))
  obtain ⟨q, hq⟩ : ∃ q, M.mst (M.tb i) neg = q := ⟨_, rfl⟩
  rw [hq] at h CM
  have d1 : decide (q < (k : Int)) = true := decide_eq_true h
  clear h hq h4
  have U := Up.refl w
  go_enter Tryz.func39, Tryz.ntmps39
  go_wp2_with fail
  refine (CM.out _ (TF.out.up U)).mono ?_
  rintro _ w1 ⟨rfl, h1⟩
  replace U := U.trans h1
  clear h1
  go_wp2_with fail
  go_ret2
  exact ⟨rfl, U⟩
 ·
  have CM := Lib.hid (fun W (T : TabF W) => vmost_any W (Lib.hid T) (i : Int) neg _ 0 (.inr ⟨i, rfl, a, b, .inr ⟨h4, rfl, rfl⟩⟩))
  have ok := M.ok i a b
  have ok2 := M.ok2 i a b
  obtain ⟨f, hf⟩ : ∃ f, M.tb i = f := ⟨_, rfl⟩
  rw [hf] at ok ok2 h h4 CM ⊢
  obtain ⟨fa, fb, fc, fd, hw⟩ := wk_ex ok.k
  have WY := way_any f ok ok2 fa fb fc fd hw
  have CF := Lib.hid (fun W (T : TabF W) => shape_in W T i f (Lib.hid hf) a b fa fb fc fd hw)
  have CW := Lib.hid (fun W => WY.write W neg k h h4)
  have eb := WY.eb
  obtain ⟨q, hq⟩ : ∃ q, M.mst f neg = q := ⟨_, rfl⟩
  obtain ⟨y, hy⟩ : ∃ y, M.pat f neg k = y := ⟨_, rfl⟩
  rw [hq] at h CM
  rw [hy] at CW ⊢
  have d1 : decide (q < (k : Int)) = false := decide_eq_false (by omega)
  clear h hq hy h4 hf ok ok2 hw WY
  have U := Up.refl w
  go_enter Tryz.func39, Tryz.ntmps39
  go_wp2_with fail
  refine (CM.out _ (TF.out.up U)).mono ?_
  rintro _ w1 ⟨rfl, h1⟩
  replace U := U.trans h1
  clear h1
  go_wp2_with fail
  refine (CF.out _ (TF.out.up U)).mono ?_
  rintro _ w2 ⟨rfl, h2⟩
  replace U := U.trans h2
  clear h2
  go_wp2_with (refine store_ob rfl 106 (.tmp 10) (.tmp 26) rfl _ zsh (shc f fa fb fc fd) rfl rfl 11 (by kernel_rfl) rfl rfl (by simp [Value.oneCell']) w2 ((Up.refl _).alloc _) (Nat.le_refl _) 106 (Ob.mk_ _ _ _) ?_; intro V3 C uV3; have ltC : w.heap.size ≤ w2.heap.size := U.size; replace U := U.trans uV3; clear uV3; have C0 := C.get 0; have C1 := C.get 1; have C2 := C.get 2; have C3 := C.get 3; have C4 := C.get 4; have C5 := C.get 5; have C6 := C.get 6; have C7 := C.get 7; have C8 := C.get 8; have C9 := C.get 9; have C10 := C.get 10; simp only [M.z7, M.z8, M.z9] at C0 C1 C2 C3 C4 C5 C6 C7 C8 C9 C10)
  clear C0 C1 C2 C3 C4 C5 C6 C7 C8 C9 C10
  refine (CW.out _).mono ?_
  rintro _ w4 ⟨rfl, h4⟩
  replace U := U.trans h4
  replace C := C.up h4
  clear h4
  go_wp2_with fail
  go_ret2
  exact ⟨rfl, U⟩
set_option maxRecDepth 100000 in
theorem vbetween_any (w : World) (TT : Hid (Tz w)) (TF : Hid (TabF w)) (ii : Int) (k : Nat) (kb : k < 18446744073709551616) (m : Nat) (z x : Int) (h : M.Bc ii k m z x) : Calls Tryz.prog 170 #[.int .i64 ii, u64 k] w (Mzx m z x w) := by
 rcases h with ⟨h, rfl, rfl, rfl⟩ | ⟨i, rfl, a, b, ⟨h, rfl, rfl, rfl⟩ | ⟨hk, h, rfl⟩⟩
 ·
  have U := Up.refl w
  go_enter Tryz.func170, Tryz.ntmps170
  go_wp2_with fail
  refine (vrng_out _ ii k h).mono ?_
  rintro _ w1 ⟨rfl, h1⟩
  replace U := U.trans h1
  clear h1
  go_wp2_with (refine store_ob rfl 106 (.tmp 7) (.tmp 15) rfl _ zsh zsh rfl rfl 11 (by kernel_rfl) rfl rfl (by simp [Value.oneCell']) w1 ((Up.refl _).alloc _) (Nat.le_refl _) 106 (Ob.mk_ _ _ _) ?_; intro V2 C uV2; have ltC : w.heap.size ≤ w1.heap.size := U.size; replace U := U.trans uV2; clear uV2)
  go_ret3
  exact ⟨rfl, U⟩
 ·
  have ok := M.ok i a b
  have ok2 := M.ok2 i a b
  obtain ⟨f, hf⟩ : ∃ f, M.tb i = f := ⟨_, rfl⟩
  rw [hf] at ok ok2 h
  obtain ⟨fa, fb, fc, fd, hw⟩ := wk_ex ok.k
  have WY := way_any f ok ok2 fa fb fc fd hw
  have CF := Lib.hid (fun W (T : TabF W) => vrng_big W T i f (Lib.hid hf) a b k h fa fb fc fd hw)
  clear h hf ok ok2 hw WY
  have U := Up.refl w
  go_enter Tryz.func170, Tryz.ntmps170
  go_wp2_with fail
  refine (CF.out _ (TF.out.up U)).mono ?_
  rintro _ w1 ⟨rfl, h1⟩
  replace U := U.trans h1
  clear h1
  go_wp2_with (refine store_ob rfl 106 (.tmp 7) (.tmp 15) rfl _ zsh zsh rfl rfl 11 (by kernel_rfl) rfl rfl (by simp [Value.oneCell']) w1 ((Up.refl _).alloc _) (Nat.le_refl _) 106 (Ob.mk_ _ _ _) ?_; intro V2 C uV2; have ltC : w.heap.size ≤ w1.heap.size := U.size; replace U := U.trans uV2; clear uV2)
  go_ret3
  exact ⟨rfl, U⟩
 ·
  have ok := M.ok i a b
  have ok2 := M.ok2 i a b
  obtain ⟨f, hf⟩ : ∃ f, M.tb i = f := ⟨_, rfl⟩
  rw [hf] at ok ok2 h
  obtain ⟨fa, fb, fc, fd, hw⟩ := wk_ex ok.k
  have WY := way_any f ok ok2 fa fb fc fd hw
  rw [hf] at hk
  have CF := Lib.hid (fun W (T : TabF W) => vrng_in W T i f (Lib.hid hf) a b k hk fa fb fc fd hw)
  have CA := Lib.hid (fun W T => WY.behind W T k m z hk h)
  have ec := WY.ed
  clear h hf ok ok2 hw WY hk
  have U := Up.refl w
  go_enter Tryz.func170, Tryz.ntmps170
  go_wp2_with fail
  refine (CF.out _ (TF.out.up U)).mono ?_
  rintro _ w1 ⟨rfl, h1⟩
  replace U := U.trans h1
  clear h1
  go_wp2_with (refine store_ob rfl 106 (.tmp 7) (.tmp 15) rfl _ zsh (shc f fa fb fc fd) rfl rfl 11 (by kernel_rfl) rfl rfl (by simp [Value.oneCell']) w1 ((Up.refl _).alloc _) (Nat.le_refl _) 106 (Ob.mk_ _ _ _) ?_; intro V2 C uV2; have ltC : w.heap.size ≤ w1.heap.size := U.size; replace U := U.trans uV2; clear uV2; have C0 := C.get 0; have C1 := C.get 1; have C2 := C.get 2; have C3 := C.get 3; have C4 := C.get 4; have C5 := C.get 5; have C6 := C.get 6; have C7 := C.get 7; have C8 := C.get 8; have C9 := C.get 9; have C10 := C.get 10; simp only [M.z7, M.z8, M.z9] at C0 C1 C2 C3 C4 C5 C6 C7 C8 C9 C10)
  clear C0 C1 C2 C3 C4 C5 C6 C7 C8 C9 C10
  refine (CA.out _ (TT.out.up U)).mono ?_
  rintro _ w3 ⟨rfl, h3⟩
  replace U := U.trans h3
  replace C := C.up h3
  clear h3
  go_wp2_with fail
  go_ret3
  exact ⟨rfl, U⟩
end Go.Proofs.YtijpffgocookaaaGreatDoor
