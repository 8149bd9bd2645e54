/-
  The walk of ExactNoughts: true, and nothing that was there has turned.
-/
import Derived.Test.YtdokioefcfcfnaaDoorEx7
import Derived.Deep.RegionWith
namespace Go.Proofs.YtdokioefcfcfnaaDoor
open Go.RowKit Go.Shelf
attribute [local go_sem ↓] Go.wp_at_zero Go.wp_at_succ

theorem Nt.len0 {w : World} {lo s : Nat} {A : Option Addr} {n c a : Nat} (h : Nt w lo s (.slice A n c) a) : (n = 0 ↔ a = 0) := by
  obtain ⟨A', n', c', xs, e, h1, h2, _, h4⟩ := h
  injection e with _ e2 _
  subst e2
  constructor
  · intro h
    have e : xs = [] := List.eq_nil_of_length_eq_zero (by rw [h1.num, h])
    rw [← h2, e]
    rfl
  · intro h
    rw [← h1.num, M.val_zero h4 (by rw [h2, h])]
    rfl
theorem M.so_zero (neg : Bool) : M.so neg 0 = 0 := by cases neg <;> rfl
theorem M.ov_nil (t f m : Int) : M.ov 0 t f m = 0 := by simp [M.ov]

set_option maxHeartbeats 40000000 in
set_option maxRecDepth 100000 in
theorem noughts_walk (w : World) (hTW : TabW w) (x0 : Int) (_wx0 : (Lit.int .i64 x0).wf = true) (x1 : Int) (_wx1 : (Lit.int .i64 x1).wf = true) (neg : Bool) (ng3 : Bool) (A3 : Option Addr) (ln3 cp3 : Nat) (xs3 : List Nat) (sr3 : Src w A3 ln3 cp3 xs3) (_mx3 : cp3 ≤ maxLen) (tw3 : Int) (_wt3 : (Lit.int .i64 tw3).wf = true) (fv3 : Int) (_wv3 : (Lit.int .i64 fv3).wf = true) :
    Calls Tryd.prog 13 #[.int .i64 x0, .int .i64 x1, .bool neg, xv ng3 (.slice A3 ln3 cp3) tw3 fv3] w (True_ w) := by
  obtain ⟨t, ht, ht1, ht2⟩ := tmod_rng_of x0 5001 (by omega)
  obtain ⟨f, hf, hf1, hf2⟩ := tmod_rng_of x1 5001 (by omega)
  obtain ⟨k, hk, hk1, hk2⟩ := tmod_rng_of x0 301 (by omega)
  have U := Up.refl w
  obtain ⟨p3, hp3, pa3, pb3⟩ := tmod_rng_of tw3 (300 + 1) (by omega)
  obtain ⟨q3, hq3, qa3, qb3⟩ := tmod_rng_of fv3 (300 + 1) (by omega)
  have Hp3 := Lib.hid hp3
  have Hq3 := Lib.hid hq3
  clear hp3 hq3
  go_enter Tryd.func13, Tryd.ntmps13
  go_wp2_with fail
  obtain ⟨V1, hV1⟩ : ∃ V1, w.alloc (.cells #[.bool ng3, .slice A3 ln3 cp3, .int .i64 (tw3), .int .i64 (fv3)] 55) = V1 := ⟨_, rfl⟩
  have uV1 : Up w V1 := by rw [← hV1]; first | exact (Up.refl _).alloc _ | exact ((Up.refl _).alloc _).alloc _ | exact (((Up.refl _).alloc _).alloc _).alloc _ | exact ((((Up.refl _).alloc _).alloc _).alloc _).alloc _
  have b3 : Bx V1 (w.heap.size) ng3 (.slice A3 ln3 cp3) tw3 fv3 := by rw [← hV1]; exact Bx.mk_ w ng3 (.slice A3 ln3 cp3) tw3 fv3
  rw [hV1]
  clear hV1
  replace U := U.trans uV1
  clear uV1
  refine (xshown_any _ (hTW.up U)).mono ?_
  rintro _ w2 ⟨rfl, h2⟩
  replace b3 := b3.up h2
  replace U := U.trans h2
  clear h2
  obtain ⟨⟨b30, b31, b32, b33⟩, b3f0, b3f1, b3f2, b3f3⟩ := id b3
  have b35 := World.block_lt_of_cell? _ _ b30
  simp only at b35
  go_wp2_with fail
  clear b30 b31 b32 b33 b3f0 b3f1 b3f2 b3f3 b35
  have zz3 := World.block_lt_of_cell? _ _ b3.1.1
  simp only at zz3
  refine (small_any _ ng3 A3 ln3 cp3 xs3 tw3 fv3 (sr3.up U) 300 (by omega) p3 q3 Hp3.out Hq3.out).mono ?_
  rintro _ w3 ⟨_, a3, rfl, n3, h3⟩
  replace b3 := b3.up h3
  replace U := U.trans h3
  clear h3
  obtain ⟨An3, sn3, cn3, wn3, rfl, n3⟩ := n3
  replace n3 : Nt w3 _ _ (.slice An3 sn3 cn3) (a3) := ⟨An3, sn3, cn3, wn3, rfl, n3⟩
  obtain ⟨⟨b30, b31, b32, b33⟩, b3f0, b3f1, b3f2, b3f3⟩ := id b3
  have b35 := World.block_lt_of_cell? _ _ b30
  simp only at b35
  go_wp2_with fail
  clear b30 b31 b32 b33 b3f0 b3f1 b3f2 b3f3 b35
  obtain ⟨V4, hV4⟩ : ∃ V4, set4 w3 (w.heap.size) (.bool ng3) (.slice An3 sn3 cn3) (.int .i64 p3) (.int .i64 q3) = V4 := ⟨_, rfl⟩
  rw [show (((w3.setCell ⟨w.heap.size, 0, none⟩ (.bool ng3)).setCell ⟨w.heap.size, 1, none⟩ (.slice An3 sn3 cn3)).setCell ⟨w.heap.size, 2, none⟩ (.int .i64 p3)).setCell ⟨w.heap.size, 3, none⟩ (.int .i64 q3) = V4 from hV4]
  replace b3 : Bx V4 (w.heap.size) ng3 (.slice An3 sn3 cn3) p3 q3 := by rw [← hV4]; exact b3.set4_same
  replace n3 := by have := n3.set4 (b := w.heap.size) (by omega) (.bool ng3) (.slice An3 sn3 cn3) (.int .i64 p3) (.int .i64 q3); rw [hV4] at this; exact this
  replace U : Up w V4 := by rw [← hV4]; exact U.set4 (by omega) _ _ _ _
  have sz3 : V4.heap.size = w3.heap.size := by rw [← hV4]; simp [World.setCell]
  clear hV4
  obtain ⟨V5, hV5⟩ : ∃ V5, V4.alloc (.cells #[.bool neg, .slice none 0 0, .int .i64 (t), .int .i64 (f)] 55) = V5 := ⟨_, rfl⟩
  have uV5 : Up V4 V5 := by rw [← hV5]; first | exact (Up.refl _).alloc _ | exact ((Up.refl _).alloc _).alloc _ | exact (((Up.refl _).alloc _).alloc _).alloc _ | exact ((((Up.refl _).alloc _).alloc _).alloc _).alloc _
  have x : Bx V5 (w3.heap.size) neg (.slice none 0 0) t f := by rw [← hV5]; have := Bx.mk_ V4 neg (.slice none 0 0) t f; rw [sz3] at this; exact this
  rw [hV5]
  clear hV5
  replace b3 := b3.up uV5
  replace n3 := n3.up uV5
  replace U := U.trans uV5
  clear uV5
  clear sz3
  refine (reduced_any _ _ _ neg _ t f 0 (Nt.nil _ 0 0).nw (by omega) (by omega) (by omega)).mono ?_
  rintro _ w6 ⟨vr, ar, tr, fr, rfl, nr, h6, hrd⟩
  replace b3 := b3.up h6
  replace n3 := n3.up h6
  replace x := x.up h6
  replace U := U.trans h6
  clear h6
  obtain ⟨rfl, rfl, rfl⟩ := hrd.zero rfl
  clear hrd
  obtain ⟨Anr, snr, cnr, wnr, rfl, nr⟩ := nr
  replace nr : Nt w6 _ _ (.slice Anr snr cnr) (0) := ⟨Anr, snr, cnr, wnr, rfl, nr⟩
  obtain ⟨⟨x0, x1, x2, x3⟩, xf0, xf1, xf2, xf3⟩ := id x
  have x5 := World.block_lt_of_cell? _ _ x0
  simp only at x5
  go_wp2_with fail
  clear x0 x1 x2 x3 xf0 xf1 xf2 xf3 x5
  obtain ⟨V7, hV7⟩ : ∃ V7, w6.alloc (.cells #[.bool neg, (.slice Anr snr cnr), .int .i64 (0), .int .i64 (0)] 55) = V7 := ⟨_, rfl⟩
  have uV7 : Up w6 V7 := by rw [← hV7]; first | exact (Up.refl _).alloc _ | exact ((Up.refl _).alloc _).alloc _ | exact (((Up.refl _).alloc _).alloc _).alloc _ | exact ((((Up.refl _).alloc _).alloc _).alloc _).alloc _
  have rr : Bx V7 w6.heap.size neg (.slice Anr snr cnr) 0 0 := by rw [← hV7]; exact Bx.mk_ _ _ _ _ _
  rw [hV7]
  clear hV7
  replace b3 := b3.up uV7
  replace n3 := n3.up uV7
  replace x := x.up uV7
  replace nr := nr.up uV7
  replace U := U.trans uV7
  clear uV7
  refine (floor_any _ _ _ neg _ t f 0 (Nt.nil _ 0 0).nw (by omega) (by omega) (by omega) k k (by show _ = _; omega) (max 0 (min (t - k) 131072)).toNat (max 0 (min (f - k) 10000)).toNat (max 0 (min (-(t - k)) 131072)).toNat (max 0 (min (-(f - k)) 10000)).toNat (by show _ = _; omega) (by show _ = _; omega) (by show _ = _; omega) (by show _ = _; omega) 0 0 (by simp [Hid]) (by simp [Hid]) 0 (by simp [Hid, M.part])).mono ?_
  rintro _ w8 ⟨vq, rfl, nq, h8⟩
  replace b3 := b3.up h8
  replace n3 := n3.up h8
  replace x := x.up h8
  replace nr := nr.up h8
  replace rr := rr.up h8
  replace U := U.trans h8
  clear h8
  obtain ⟨Anq, snq, cnq, wnq, rfl, nq⟩ := nq
  replace nq : Nt w8 _ _ (.slice Anq snq cnq) (0) := ⟨Anq, snq, cnq, wnq, rfl, nq⟩
  obtain rfl := nq.len0.2 rfl
  obtain ⟨⟨x0, x1, x2, x3⟩, xf0, xf1, xf2, xf3⟩ := id x
  have x5 := World.block_lt_of_cell? _ _ x0
  simp only at x5
  obtain ⟨⟨rr0, rr1, rr2, rr3⟩, rrf0, rrf1, rrf2, rrf3⟩ := id rr
  have rr5 := World.block_lt_of_cell? _ _ rr0
  simp only at rr5
  go_wp2_with fail
  clear x0 x1 x2 x3 xf0 xf1 xf2 xf3 x5
  clear rr0 rr1 rr2 rr3 rrf0 rrf1 rrf2 rrf3 rr5
  refine (right_nt _ _ _ neg _ 0 t f (Nt.nil _ 0 0) true (decide_eq_true ⟨Nat.pow_pos (by omega), by omega, by omega⟩)).mono ?_
  rintro _ w9 ⟨rfl, h9⟩
  replace b3 := b3.up h9
  replace n3 := n3.up h9
  replace x := x.up h9
  replace nr := nr.up h9
  replace rr := rr.up h9
  replace nq := nq.up h9
  replace U := U.trans h9
  clear h9
  obtain ⟨⟨x0, x1, x2, x3⟩, xf0, xf1, xf2, xf3⟩ := id x
  have x5 := World.block_lt_of_cell? _ _ x0
  simp only at x5
  obtain ⟨⟨rr0, rr1, rr2, rr3⟩, rrf0, rrf1, rrf2, rrf3⟩ := id rr
  have rr5 := World.block_lt_of_cell? _ _ rr0
  simp only at rr5
  go_wp2_with fail
  clear x0 x1 x2 x3 xf0 xf1 xf2 xf3 x5
  clear rr0 rr1 rr2 rr3 rrf0 rrf1 rrf2 rrf3 rr5
  obtain ⟨m, hm⟩ : ∃ m, min t f = m := ⟨_, rfl⟩
  have HM := Lib.hid hm
  have bm : -5000 ≤ m ∧ m ≤ 5000 := by omega
  have bm2 : m ≤ t ∧ m ≤ f := by omega
  clear hm
  refine (log10_any _ (hTW.up U) _ _ neg _ t f 0 (Nt.nil _ 0 0).nw (by omega) (by omega) (by omega) m HM (t - m).toNat (f - m).toNat (by show _ = _; omega) (by show _ = _; omega) 0 (by simp [Hid, M.log10])).mono ?_
  rintro _ w10 ⟨rfl, h10⟩
  replace b3 := b3.up h10
  replace n3 := n3.up h10
  replace x := x.up h10
  replace nr := nr.up h10
  replace rr := rr.up h10
  replace nq := nq.up h10
  replace U := U.trans h10
  clear h10
  clear rr
  clear nr
  clear nq
  obtain ⟨N, hN⟩ : ∃ N, M.ov a3 p3 q3 (-5000) = N := ⟨_, rfl⟩
  have HN := Lib.hid hN
  have hNz : N = 0 ↔ a3 = 0 := by rw [← hN]; exact M.ov_zero
  have hsz : sn3 = 0 ↔ a3 = 0 := n3.len0
  clear hN
  rcases Nat.eq_zero_or_pos a3 with h0 | h0
  ·
    have HN0 := Lib.hid (hNz.2 h0)
    obtain rfl := hsz.2 h0
    subst h0
    clear hNz hsz
    rcases ng3 with _ | _
    ·
      obtain ⟨⟨x0, x1, x2, x3⟩, xf0, xf1, xf2, xf3⟩ := id x
      have x5 := World.block_lt_of_cell? _ _ x0
      simp only at x5
      obtain ⟨⟨b30, b31, b32, b33⟩, b3f0, b3f1, b3f2, b3f3⟩ := id b3
      have b35 := World.block_lt_of_cell? _ _ b30
      simp only at b35
      go_wp2_with fail
      clear x0 x1 x2 x3 xf0 xf1 xf2 xf3 x5
      clear b30 b31 b32 b33 b3f0 b3f1 b3f2 b3f3 b35
      refine (xcmp_ov (-5000) (by omega) _ _ _ _ _ neg false _ _ t f p3 q3 0 0 (Nt.nil _ 0 0).nw n3.nw (by omega) (by omega) (by omega) (by omega) (by omega) (by omega) (0) (by show _ = _; rw [HN.out, M.ov_nil]; rw [HN0.out]; rfl)).mono ?_
      rintro _ w11 ⟨rfl, h11⟩
      replace b3 := b3.up h11
      replace n3 := n3.up h11
      replace x := x.up h11
      replace U := U.trans h11
      clear h11
      have C1 := Lib.hid (fun w' (hu : Up w11 w') => xcmps_ov (-5000) (by omega) w' 0 0 0 0 neg false (.slice none 0 0) (.slice none 0 0) t f 0 0 0 0 (Nt.nil _ 0 0).nw (Nt.nil _ 0 0).nw (by omega) (by omega) (by omega) (by omega) (by omega) (by omega) 0 (by show _ = _; rw [M.ov_nil, M.ov_nil, M.so_zero, M.so_zero]; rfl))
      have C2 := Lib.hid (fun w' (hu : Up w11 w') => xcmps_ov (-5000) (by omega) w' 0 _ 0 _ neg false (.slice none 0 0) (.slice An3 0 cn3) t f p3 q3 0 0 (Nt.nil _ 0 0).nw (n3.nw.up hu) (by omega) (by omega) (by omega) (by omega) (by omega) (by omega) (0) (by show _ = _; rw [HN.out, M.ov_nil, M.so_zero]; rw [HN0.out, M.so_zero]; rfl))
      go_wp2_with fail
      obtain ⟨⟨x0, x1, x2, x3⟩, xf0, xf1, xf2, xf3⟩ := id x
      have x5 := World.block_lt_of_cell? _ _ x0
      simp only at x5
      obtain ⟨⟨b30, b31, b32, b33⟩, b3f0, b3f1, b3f2, b3f3⟩ := id b3
      have b35 := World.block_lt_of_cell? _ _ b30
      simp only at b35
      refine wp_region_held_drew (S := fun w' => w'.cell? ⟨w3.heap.size, 0, none⟩ = some (.bool neg) ∧ w'.cell? ⟨w3.heap.size, 1, none⟩ = some (.slice none 0 0) ∧ w'.cell? ⟨w3.heap.size, 2, none⟩ = some (.int .i64 (t)) ∧ w'.cell? ⟨w3.heap.size, 3, none⟩ = some (.int .i64 (f)) ∧ w'.cell? ⟨w.heap.size, 0, none⟩ = some (.bool false) ∧ w'.cell? ⟨w.heap.size, 1, none⟩ = some ((.slice An3 0 cn3)) ∧ w'.cell? ⟨w.heap.size, 2, none⟩ = some (.int .i64 (p3)) ∧ w'.cell? ⟨w.heap.size, 3, none⟩ = some (.int .i64 (q3))) (by kernel_rfl) ?_ (fun hHeld => ?_)
      · try dsimp only
        go_keep
      refine wpAnyH_take (i := 0) (v := ?_) rfl (by kernel_rfl) (by kernel_rfl) (by kernel_rfl) (fun _ _ _ h => h) (Or.inl ⟨by rfl, ?_⟩) (by assumption) ?_
      rotate_left
      · intro w hSw
        (try dsimp only at hSw)
        go_simp
        all_goals with_reducible rfl
      try simp only [Act.put, List.setIfInBounds_toArray, List.set_cons_zero, List.set_cons_succ, List.getElem_toArray, List.getElem_cons_zero]
      refine wpAnyH_take (i := 1) (v := ?_) rfl (by kernel_rfl) (by kernel_rfl) (by kernel_rfl) (fun _ _ _ h => h) (Or.inl ⟨by rfl, ?_⟩) (by assumption) ?_
      rotate_left
      · intro w hSw
        (try dsimp only at hSw)
        go_simp
        all_goals with_reducible rfl
      try simp only [Act.put, List.setIfInBounds_toArray, List.set_cons_zero, List.set_cons_succ, List.getElem_toArray, List.getElem_cons_zero, List.getElem_cons_succ]
      refine wpAnyH_take (i := 2) (v := ?_) rfl (by kernel_rfl) (by kernel_rfl) (by kernel_rfl) (fun _ _ _ h => h) (Or.inl ⟨by rfl, ?_⟩) (by assumption) ?_
      rotate_left
      · intro w hSw
        (try dsimp only at hSw)
        go_simp
        all_goals with_reducible rfl
      try simp only [Act.put, List.setIfInBounds_toArray, List.set_cons_zero, List.set_cons_succ, List.getElem_toArray, List.getElem_cons_zero, List.getElem_cons_succ]
      refine wpAnyH_take (i := 3) (v := ?_) rfl (by kernel_rfl) (by kernel_rfl) (by kernel_rfl) (fun _ _ _ h => h) (Or.inl ⟨by rfl, ?_⟩) (by assumption) ?_
      rotate_left
      · intro w hSw
        (try dsimp only at hSw)
        go_simp
        all_goals with_reducible rfl
      try simp only [Act.put, List.setIfInBounds_toArray, List.set_cons_zero, List.set_cons_succ, List.getElem_toArray, List.getElem_cons_zero, List.getElem_cons_succ]
      refine wpAnyH_take (i := 4) (v := ?_) rfl (by kernel_rfl) (by kernel_rfl) (by kernel_rfl) (fun _ _ _ h => h) (Or.inl ⟨by rfl, ?_⟩) (by assumption) ?_
      rotate_left
      · intro w hSw
        (try dsimp only at hSw)
        go_simp
        all_goals with_reducible rfl
      try simp only [Act.put, List.setIfInBounds_toArray, List.set_cons_zero, List.set_cons_succ, List.getElem_toArray, List.getElem_cons_zero, List.getElem_cons_succ]
      refine wpAnyH_take (i := 5) (v := ?_) rfl (by kernel_rfl) (by kernel_rfl) (by kernel_rfl) (fun _ _ _ h => h) (Or.inl ⟨by rfl, ?_⟩) (by assumption) ?_
      rotate_left
      · intro w hSw
        (try dsimp only at hSw)
        go_simp
        all_goals with_reducible rfl
      try simp only [Act.put, List.setIfInBounds_toArray, List.set_cons_zero, List.set_cons_succ, List.getElem_toArray, List.getElem_cons_zero, List.getElem_cons_succ]
      refine wpAnyH_take (i := 6) (v := ?_) rfl (by kernel_rfl) (by kernel_rfl) (by kernel_rfl) (fun _ _ _ h => h) (Or.inl ⟨by rfl, ?_⟩) (by assumption) ?_
      rotate_left
      · intro w hSw
        (try dsimp only at hSw)
        go_simp
        all_goals with_reducible rfl
      try simp only [Act.put, List.setIfInBounds_toArray, List.set_cons_zero, List.set_cons_succ, List.getElem_toArray, List.getElem_cons_zero, List.getElem_cons_succ]
      refine wpAnyH_take (i := 7) (v := ?_) rfl (by kernel_rfl) (by kernel_rfl) (by kernel_rfl) (fun _ _ _ h => h) (Or.inl ⟨by rfl, ?_⟩) (by assumption) ?_
      rotate_left
      · intro w hSw
        (try dsimp only at hSw)
        go_simp
        all_goals with_reducible rfl
      try simp only [Act.put, List.setIfInBounds_toArray, List.set_cons_zero, List.set_cons_succ, List.getElem_toArray, List.getElem_cons_zero, List.getElem_cons_succ]
      refine wpAnyH_take (i := 8) (v := ?_) rfl (by kernel_rfl) (by kernel_rfl) (by kernel_rfl) (fun _ _ _ h => h) (Or.inl ⟨by rfl, ?_⟩) (by assumption) ?_
      rotate_left
      · intro w hSw
        (try dsimp only at hSw)
        go_simp
        all_goals with_reducible rfl
      try simp only [Act.put, List.setIfInBounds_toArray, List.set_cons_zero, List.set_cons_succ, List.getElem_toArray, List.getElem_cons_zero, List.getElem_cons_succ]
      refine wpAnyH_take (i := 9) (v := ?_) rfl (by kernel_rfl) (by kernel_rfl) (by kernel_rfl) (fun _ _ _ h => h) (Or.inl ⟨by rfl, ?_⟩) (by assumption) ?_
      rotate_left
      · intro w hSw
        (try dsimp only at hSw)
        go_simp
        all_goals with_reducible rfl
      try simp only [Act.put, List.setIfInBounds_toArray, List.set_cons_zero, List.set_cons_succ, List.getElem_toArray, List.getElem_cons_zero, List.getElem_cons_succ]
      refine wpAnyH_take (i := 10) (v := ?_) rfl (by kernel_rfl) (by kernel_rfl) (by kernel_rfl) (fun _ _ _ h => h) (Or.inl ⟨by rfl, ?_⟩) (by assumption) ?_
      rotate_left
      · intro w hSw
        (try dsimp only at hSw)
        go_simp
        all_goals with_reducible rfl
      try simp only [Act.put, List.setIfInBounds_toArray, List.set_cons_zero, List.set_cons_succ, List.getElem_toArray, List.getElem_cons_zero, List.getElem_cons_succ]
      refine wpAnyH_take (i := 11) (v := ?_) rfl (by kernel_rfl) (by kernel_rfl) (by kernel_rfl) (fun _ _ _ h => h) (Or.inl ⟨by rfl, ?_⟩) (by assumption) ?_
      rotate_left
      · intro w hSw
        (try dsimp only at hSw)
        go_simp
        all_goals with_reducible rfl
      try simp only [Act.put, List.setIfInBounds_toArray, List.set_cons_zero, List.set_cons_succ, List.getElem_toArray, List.getElem_cons_zero, List.getElem_cons_succ]
      refine wpAnyH_take (i := 12) (v := ?_) rfl (by kernel_rfl) (by kernel_rfl) (by kernel_rfl) (fun _ _ _ h => h) (Or.inl ⟨by rfl, ?_⟩) (by assumption) ?_
      rotate_left
      · intro w hSw
        (try dsimp only at hSw)
        go_simp
        all_goals with_reducible rfl
      try simp only [Act.put, List.setIfInBounds_toArray, List.set_cons_zero, List.set_cons_succ, List.getElem_toArray, List.getElem_cons_zero, List.getElem_cons_succ]
      refine wpAnyH_take (i := 13) (v := ?_) rfl (by kernel_rfl) (by kernel_rfl) (by kernel_rfl) (fun _ _ _ h => h) (Or.inl ⟨by rfl, ?_⟩) (by assumption) ?_
      rotate_left
      · intro w hSw
        (try dsimp only at hSw)
        go_simp
        all_goals with_reducible rfl
      try simp only [Act.put, List.setIfInBounds_toArray, List.set_cons_zero, List.set_cons_succ, List.getElem_toArray, List.getElem_cons_zero, List.getElem_cons_succ]
      refine wpAnyH_take (i := 14) (v := ?_) rfl (by kernel_rfl) (by kernel_rfl) (by kernel_rfl) (fun _ _ _ h => h) (Or.inl ⟨by rfl, ?_⟩) (by assumption) ?_
      rotate_left
      · intro w hSw
        (try dsimp only at hSw)
        go_simp
        all_goals with_reducible rfl
      try simp only [Act.put, List.setIfInBounds_toArray, List.set_cons_zero, List.set_cons_succ, List.getElem_toArray, List.getElem_cons_zero, List.getElem_cons_succ]
      refine wpAnyH_take (i := 15) (v := ?_) rfl (by kernel_rfl) (by kernel_rfl) (by kernel_rfl) (fun _ _ _ h => h) (Or.inl ⟨by rfl, ?_⟩) (by assumption) ?_
      rotate_left
      · intro w hSw
        (try dsimp only at hSw)
        go_simp
        all_goals with_reducible rfl
      try simp only [Act.put, List.setIfInBounds_toArray, List.set_cons_zero, List.set_cons_succ, List.getElem_toArray, List.getElem_cons_zero, List.getElem_cons_succ]
      refine wpAnyH_take (i := 16) (v := ?_) rfl (by kernel_rfl) (by kernel_rfl) (by kernel_rfl) (fun _ _ _ h => h) (Or.inl ⟨by rfl, ?_⟩) (by assumption) ?_
      rotate_left
      · intro w hSw
        (try dsimp only at hSw)
        go_simp
        all_goals with_reducible rfl
      try simp only [Act.put, List.setIfInBounds_toArray, List.set_cons_zero, List.set_cons_succ, List.getElem_toArray, List.getElem_cons_zero, List.getElem_cons_succ]
      refine wpAnyH_ready (rs := [17]) (by kernel_rfl) (by simp) ?_
      refine AllReadyH.cons rfl (fun K hK => ?_) AllReadyH.nil
      go_simp
      (with_reducible refine (C1.out _ ?_).mono ?_)
      · (first | with_reducible assumption | exact (Up.refl _).drewN 1)
      rintro _ w51 ⟨rfl, h51⟩
      have uw51 : Up w11 w51 := Up.trans (by first | with_reducible assumption | exact (Up.refl w11).drewN 1) h51
      have xc00 := cell_up uw51 x0
      have xc01 := cell_up uw51 x1
      have xc02 := cell_up uw51 x2
      have xc03 := cell_up uw51 x3
      have b3c00 := cell_up uw51 b30
      have b3c01 := cell_up uw51 b31
      have b3c02 := cell_up uw51 b32
      have b3c03 := cell_up uw51 b33
      go_wp2_with fail
      refine hK.out _ _ ?_ (fun hHeld => ?_)
      · try dsimp only
        go_keep
      clear hK K
      try simp only [Act.put, List.setIfInBounds_toArray, List.set_cons_zero, List.set_cons_succ, List.getElem_toArray, List.getElem_cons_zero, List.getElem_cons_succ]
      refine wpAnyH_take (i := 18) (v := ?_) rfl (by kernel_rfl) (by kernel_rfl) (by kernel_rfl) (fun _ _ _ h => h) (Or.inl ⟨by rfl, ?_⟩) (by assumption) ?_
      rotate_left
      · intro w hSw
        (try dsimp only at hSw)
        go_simp
        all_goals with_reducible rfl
      try simp only [Act.put, List.setIfInBounds_toArray, List.set_cons_zero, List.set_cons_succ, List.getElem_toArray, List.getElem_cons_zero, List.getElem_cons_succ]
      refine wpAnyH_take (i := 19) (v := ?_) rfl (by kernel_rfl) (by kernel_rfl) (by kernel_rfl) (fun _ _ _ h => h) (Or.inl ⟨by rfl, ?_⟩) (by assumption) ?_
      rotate_left
      · intro w hSw
        (try dsimp only at hSw)
        go_simp
        all_goals with_reducible rfl
      try simp only [Act.put, List.setIfInBounds_toArray, List.set_cons_zero, List.set_cons_succ, List.getElem_toArray, List.getElem_cons_zero, List.getElem_cons_succ]
      refine wpAnyH_take (i := 20) (v := ?_) rfl (by kernel_rfl) (by kernel_rfl) (by kernel_rfl) (fun _ _ _ h => h) (Or.inl ⟨by rfl, ?_⟩) (by assumption) ?_
      rotate_left
      · intro w hSw
        (try dsimp only at hSw)
        go_simp
        all_goals with_reducible rfl
      try simp only [Act.put, List.setIfInBounds_toArray, List.set_cons_zero, List.set_cons_succ, List.getElem_toArray, List.getElem_cons_zero, List.getElem_cons_succ]
      refine wpAnyH_take (i := 21) (v := ?_) rfl (by kernel_rfl) (by kernel_rfl) (by kernel_rfl) (fun _ _ _ h => h) (Or.inl ⟨by rfl, ?_⟩) (by assumption) ?_
      rotate_left
      · intro w hSw
        (try dsimp only at hSw)
        go_simp
        all_goals with_reducible rfl
      try simp only [Act.put, List.setIfInBounds_toArray, List.set_cons_zero, List.set_cons_succ, List.getElem_toArray, List.getElem_cons_zero, List.getElem_cons_succ]
      refine wpAnyH_take (i := 22) (v := ?_) rfl (by kernel_rfl) (by kernel_rfl) (by kernel_rfl) (fun _ _ _ h => h) (Or.inl ⟨by rfl, ?_⟩) (by assumption) ?_
      rotate_left
      · intro w hSw
        (try dsimp only at hSw)
        go_simp
        all_goals with_reducible rfl
      try simp only [Act.put, List.setIfInBounds_toArray, List.set_cons_zero, List.set_cons_succ, List.getElem_toArray, List.getElem_cons_zero, List.getElem_cons_succ]
      refine wpAnyH_take (i := 25) (v := ?_) rfl (by kernel_rfl) (by kernel_rfl) (by kernel_rfl) (fun _ _ _ h => h) (Or.inl ⟨by rfl, ?_⟩) (by assumption) ?_
      rotate_left
      · intro w hSw
        (try dsimp only at hSw)
        go_simp
        all_goals with_reducible rfl
      try simp only [Act.put, List.setIfInBounds_toArray, List.set_cons_zero, List.set_cons_succ, List.getElem_toArray, List.getElem_cons_zero, List.getElem_cons_succ]
      refine wpAnyH_take (i := 26) (v := ?_) rfl (by kernel_rfl) (by kernel_rfl) (by kernel_rfl) (fun _ _ _ h => h) (Or.inl ⟨by rfl, ?_⟩) (by assumption) ?_
      rotate_left
      · intro w hSw
        (try dsimp only at hSw)
        go_simp
        all_goals with_reducible rfl
      try simp only [Act.put, List.setIfInBounds_toArray, List.set_cons_zero, List.set_cons_succ, List.getElem_toArray, List.getElem_cons_zero, List.getElem_cons_succ]
      refine wpAnyH_ready (rs := [23]) (by kernel_rfl) (by simp) ?_
      refine AllReadyH.cons rfl (fun K hK => ?_) AllReadyH.nil
      go_simp
      (with_reducible refine (C2.out _ ?_).mono ?_)
      · (first | with_reducible assumption | exact (Up.refl _).drewN 1)
      rintro _ w52 ⟨rfl, h52⟩
      have uw52 : Up w11 w52 := Up.trans (by first | with_reducible assumption | exact (Up.refl w11).drewN 1) h52
      have xc10 := cell_up uw52 x0
      have xc11 := cell_up uw52 x1
      have xc12 := cell_up uw52 x2
      have xc13 := cell_up uw52 x3
      have b3c10 := cell_up uw52 b30
      have b3c11 := cell_up uw52 b31
      have b3c12 := cell_up uw52 b32
      have b3c13 := cell_up uw52 b33
      go_wp2_with fail
      refine hK.out _ _ ?_ (fun hHeld => ?_)
      · try dsimp only
        go_keep
      clear hK K
      try simp only [Act.put, List.setIfInBounds_toArray, List.set_cons_zero, List.set_cons_succ, List.getElem_toArray, List.getElem_cons_zero, List.getElem_cons_succ]
      refine wpAnyH_take (i := 24) (v := ?_) rfl (by kernel_rfl) (by kernel_rfl) (by kernel_rfl) (fun _ _ _ h => h) (Or.inl ⟨by rfl, ?_⟩) (by assumption) ?_
      rotate_left
      · intro w hSw
        (try dsimp only at hSw)
        go_simp
        all_goals with_reducible rfl
      try simp only [Act.put, List.setIfInBounds_toArray, List.set_cons_zero, List.set_cons_succ, List.getElem_toArray, List.getElem_cons_zero, List.getElem_cons_succ]
      refine wpAnyH_take (i := 27) (v := ?_) rfl (by kernel_rfl) (by kernel_rfl) (by kernel_rfl) (fun _ _ _ h => h) (Or.inl ⟨by rfl, ?_⟩) (by assumption) ?_
      rotate_left
      · intro w hSw
        (try dsimp only at hSw)
        go_simp
        all_goals with_reducible rfl
      try simp only [Act.put, List.setIfInBounds_toArray, List.set_cons_zero, List.set_cons_succ, List.getElem_toArray, List.getElem_cons_zero, List.getElem_cons_succ]
      refine wpAnyH_take (i := 28) (v := undef) rfl (by kernel_rfl) (by kernel_rfl) (by kernel_rfl) (fun _ _ _ h => h) (Or.inr ⟨by rfl, rfl⟩) (by assumption) ?_
      try simp only [Act.put, List.setIfInBounds_toArray, List.set_cons_zero, List.set_cons_succ, List.getElem_toArray, List.getElem_cons_zero, List.getElem_cons_succ]
      refine wpAnyH_take (i := 29) (v := undef) rfl (by kernel_rfl) (by kernel_rfl) (by kernel_rfl) (fun _ _ _ h => h) (Or.inr ⟨by rfl, rfl⟩) (by assumption) ?_
      try simp only [Act.put, List.setIfInBounds_toArray, List.set_cons_zero, List.set_cons_succ, List.getElem_toArray, List.getElem_cons_zero, List.getElem_cons_succ]
      refine wpAnyH_take (i := 30) (v := undef) rfl (by kernel_rfl) (by kernel_rfl) (by kernel_rfl) (fun _ _ _ h => h) (Or.inr ⟨by rfl, rfl⟩) (by assumption) ?_
      try simp only [Act.put, List.setIfInBounds_toArray, List.set_cons_zero, List.set_cons_succ, List.getElem_toArray, List.getElem_cons_zero, List.getElem_cons_succ]
      refine wpAnyH_take (i := 31) (v := undef) rfl (by kernel_rfl) (by kernel_rfl) (by kernel_rfl) (fun _ _ _ h => h) (Or.inr ⟨by rfl, rfl⟩) (by assumption) ?_
      try simp only [Act.put, List.setIfInBounds_toArray, List.set_cons_zero, List.set_cons_succ, List.getElem_toArray, List.getElem_cons_zero, List.getElem_cons_succ]
      refine wpAnyH_take (i := 32) (v := ?_) rfl (by kernel_rfl) (by kernel_rfl) (by kernel_rfl) (fun _ _ _ h => h) (Or.inl ⟨by rfl, ?_⟩) (by assumption) ?_
      rotate_left
      · intro w hSw
        (try dsimp only at hSw)
        go_simp
        all_goals with_reducible rfl
      try simp only [Act.put, List.setIfInBounds_toArray, List.set_cons_zero, List.set_cons_succ, List.getElem_toArray, List.getElem_cons_zero, List.getElem_cons_succ]
      refine wpAnyH_take (i := 33) (v := ?_) rfl (by kernel_rfl) (by kernel_rfl) (by kernel_rfl) (fun _ _ _ h => h) (Or.inl ⟨by rfl, ?_⟩) (by assumption) ?_
      rotate_left
      · intro w hSw
        (try dsimp only at hSw)
        go_simp
        all_goals with_reducible rfl
      try simp only [Act.put, List.setIfInBounds_toArray, List.set_cons_zero, List.set_cons_succ, List.getElem_toArray, List.getElem_cons_zero, List.getElem_cons_succ]
      refine wpAnyH_take (i := 34) (v := ?_) rfl (by kernel_rfl) (by kernel_rfl) (by kernel_rfl) (fun _ _ _ h => h) (Or.inl ⟨by rfl, ?_⟩) (by assumption) ?_
      rotate_left
      · intro w hSw
        (try dsimp only at hSw)
        go_simp
        all_goals with_reducible rfl
      try simp only [Act.put, List.setIfInBounds_toArray, List.set_cons_zero, List.set_cons_succ, List.getElem_toArray, List.getElem_cons_zero, List.getElem_cons_succ]
      refine wpAnyH_take (i := 35) (v := ?_) rfl (by kernel_rfl) (by kernel_rfl) (by kernel_rfl) (fun _ _ _ h => h) (Or.inl ⟨by rfl, ?_⟩) (by assumption) ?_
      rotate_left
      · intro w hSw
        (try dsimp only at hSw)
        go_simp
        all_goals with_reducible rfl
      try simp only [Act.put, List.setIfInBounds_toArray, List.set_cons_zero, List.set_cons_succ, List.getElem_toArray, List.getElem_cons_zero, List.getElem_cons_succ]
      refine wpAnyH_done (by kernel_rfl) ?_ _
      replace U := U.trans uw52
      go_wp2_with fail
      go_ret
      exact ⟨rfl, U⟩
    ·
      obtain ⟨⟨x0, x1, x2, x3⟩, xf0, xf1, xf2, xf3⟩ := id x
      have x5 := World.block_lt_of_cell? _ _ x0
      simp only at x5
      obtain ⟨⟨b30, b31, b32, b33⟩, b3f0, b3f1, b3f2, b3f3⟩ := id b3
      have b35 := World.block_lt_of_cell? _ _ b30
      simp only at b35
      go_wp2_with fail
      clear x0 x1 x2 x3 xf0 xf1 xf2 xf3 x5
      clear b30 b31 b32 b33 b3f0 b3f1 b3f2 b3f3 b35
      refine (xcmp_ov (-5000) (by omega) _ _ _ _ _ neg true _ _ t f p3 q3 0 0 (Nt.nil _ 0 0).nw n3.nw (by omega) (by omega) (by omega) (by omega) (by omega) (by omega) (0) (by show _ = _; rw [HN.out, M.ov_nil]; rw [HN0.out]; rfl)).mono ?_
      rintro _ w12 ⟨rfl, h12⟩
      replace b3 := b3.up h12
      replace n3 := n3.up h12
      replace x := x.up h12
      replace U := U.trans h12
      clear h12
      have C1 := Lib.hid (fun w' (hu : Up w12 w') => xcmps_ov (-5000) (by omega) w' 0 0 0 0 neg false (.slice none 0 0) (.slice none 0 0) t f 0 0 0 0 (Nt.nil _ 0 0).nw (Nt.nil _ 0 0).nw (by omega) (by omega) (by omega) (by omega) (by omega) (by omega) 0 (by show _ = _; rw [M.ov_nil, M.ov_nil, M.so_zero, M.so_zero]; rfl))
      have C2 := Lib.hid (fun w' (hu : Up w12 w') => xcmps_ov (-5000) (by omega) w' 0 _ 0 _ neg true (.slice none 0 0) (.slice An3 0 cn3) t f p3 q3 0 0 (Nt.nil _ 0 0).nw (n3.nw.up hu) (by omega) (by omega) (by omega) (by omega) (by omega) (by omega) (0) (by show _ = _; rw [HN.out, M.ov_nil, M.so_zero]; rw [HN0.out, M.so_zero]; rfl))
      go_wp2_with fail
      obtain ⟨⟨x0, x1, x2, x3⟩, xf0, xf1, xf2, xf3⟩ := id x
      have x5 := World.block_lt_of_cell? _ _ x0
      simp only at x5
      obtain ⟨⟨b30, b31, b32, b33⟩, b3f0, b3f1, b3f2, b3f3⟩ := id b3
      have b35 := World.block_lt_of_cell? _ _ b30
      simp only at b35
      go_region_held3 (fun w' => w'.cell? ⟨w3.heap.size, 0, none⟩ = some (.bool neg) ∧ w'.cell? ⟨w3.heap.size, 1, none⟩ = some (.slice none 0 0) ∧ w'.cell? ⟨w3.heap.size, 2, none⟩ = some (.int .i64 (t)) ∧ w'.cell? ⟨w3.heap.size, 3, none⟩ = some (.int .i64 (f)) ∧ w'.cell? ⟨w.heap.size, 0, none⟩ = some (.bool true) ∧ w'.cell? ⟨w.heap.size, 1, none⟩ = some ((.slice An3 0 cn3)) ∧ w'.cell? ⟨w.heap.size, 2, none⟩ = some (.int .i64 (p3)) ∧ w'.cell? ⟨w.heap.size, 3, none⟩ = some (.int .i64 (q3))) (go_keep) (first
          | (go_at_call 47; (with_reducible refine (C1.out _ ?_).mono ?_); (first | with_reducible assumption | exact (Up.refl _).drewN 1); rintro _ w13 ⟨rfl, h13⟩; have uw13 : Up w12 w13 := Up.trans (by first | with_reducible assumption | exact (Up.refl w12).drewN 1) h13; have xc00 := cell_up uw13 x0; have xc01 := cell_up uw13 x1; have xc02 := cell_up uw13 x2; have xc03 := cell_up uw13 x3; have b3c00 := cell_up uw13 b30; have b3c01 := cell_up uw13 b31; have b3c02 := cell_up uw13 b32; have b3c03 := cell_up uw13 b33)
          | (go_at_call 47; (with_reducible refine (C2.out _ ?_).mono ?_); (first | with_reducible assumption | exact (Up.refl _).drewN 1); rintro _ w14 ⟨rfl, h14⟩; have uw14 : Up w12 w14 := Up.trans (by first | with_reducible assumption | exact (Up.refl w12).drewN 1) h14; have xc10 := cell_up uw14 x0; have xc11 := cell_up uw14 x1; have xc12 := cell_up uw14 x2; have xc13 := cell_up uw14 x3; have b3c10 := cell_up uw14 b30; have b3c11 := cell_up uw14 b31; have b3c12 := cell_up uw14 b32; have b3c13 := cell_up uw14 b33))
      clear xc00
      clear xc01
      clear xc02
      clear xc03
      clear b3c00
      clear b3c01
      clear b3c02
      clear b3c03
      clear xc10
      clear xc11
      clear xc12
      clear xc13
      clear b3c10
      clear b3c11
      clear b3c12
      clear b3c13
      clear h13
      clear h14
      clear x0 x1 x2 x3 xf0 xf1 xf2 xf3 x5
      clear b30 b31 b32 b33 b3f0 b3f1 b3f2 b3f3 b35
      replace b3 := b3.up uw14
      replace n3 := n3.up uw14
      replace x := x.up uw14
      replace U := U.trans uw14
      clear uw13
      clear uw14
      clear C1 C2
      go_wp2_with fail
      go_ret
      exact ⟨rfl, U⟩
  ·
    have HN0 : Hid (0 < N) := by show 0 < N; rcases Nat.eq_zero_or_pos N with e | e; (have := hNz.1 e; omega); exact e
    have hs0 : 0 < sn3 := by rcases Nat.eq_zero_or_pos sn3 with e | e; (have := hsz.1 e; omega); exact e
    have hs1 : ((sn3 : Int) == 0) = false := by rw [beq_eq_false_iff_ne]; omega
    clear hNz hsz h0
    rcases ng3 with _ | _
    ·
      obtain ⟨⟨x0, x1, x2, x3⟩, xf0, xf1, xf2, xf3⟩ := id x
      have x5 := World.block_lt_of_cell? _ _ x0
      simp only at x5
      obtain ⟨⟨b30, b31, b32, b33⟩, b3f0, b3f1, b3f2, b3f3⟩ := id b3
      have b35 := World.block_lt_of_cell? _ _ b30
      simp only at b35
      go_wp2_with fail
      clear x0 x1 x2 x3 xf0 xf1 xf2 xf3 x5
      clear b30 b31 b32 b33 b3f0 b3f1 b3f2 b3f3 b35
      refine (xcmp_ov (-5000) (by omega) _ _ _ _ _ neg false _ _ t f p3 q3 0 a3 (Nt.nil _ 0 0).nw n3.nw (by omega) (by omega) (by omega) (by omega) (by omega) (by omega) (-1) (by show _ = _; rw [HN.out, M.ov_nil]; exact M.cmp_lt HN0.out)).mono ?_
      rintro _ w15 ⟨rfl, h15⟩
      replace b3 := b3.up h15
      replace n3 := n3.up h15
      replace x := x.up h15
      replace U := U.trans h15
      clear h15
      have C1 := Lib.hid (fun w' (hu : Up w15 w') => xcmps_ov (-5000) (by omega) w' 0 0 0 0 neg false (.slice none 0 0) (.slice none 0 0) t f 0 0 0 0 (Nt.nil _ 0 0).nw (Nt.nil _ 0 0).nw (by omega) (by omega) (by omega) (by omega) (by omega) (by omega) 0 (by show _ = _; rw [M.ov_nil, M.ov_nil, M.so_zero, M.so_zero]; rfl))
      have C2 := Lib.hid (fun w' (hu : Up w15 w') => xcmps_ov (-5000) (by omega) w' 0 _ 0 _ neg false (.slice none 0 0) (.slice An3 sn3 cn3) t f p3 q3 0 a3 (Nt.nil _ 0 0).nw (n3.nw.up hu) (by omega) (by omega) (by omega) (by omega) (by omega) (by omega) (-1) (by show _ = _; rw [HN.out, M.ov_nil, M.so_zero]; have := HN0.out; simp [M.so, M.icmp]; omega))
      go_wp2_with fail
      obtain ⟨⟨x0, x1, x2, x3⟩, xf0, xf1, xf2, xf3⟩ := id x
      have x5 := World.block_lt_of_cell? _ _ x0
      simp only at x5
      obtain ⟨⟨b30, b31, b32, b33⟩, b3f0, b3f1, b3f2, b3f3⟩ := id b3
      have b35 := World.block_lt_of_cell? _ _ b30
      simp only at b35
      refine wp_region_held_drew (S := fun w' => w'.cell? ⟨w3.heap.size, 0, none⟩ = some (.bool neg) ∧ w'.cell? ⟨w3.heap.size, 1, none⟩ = some (.slice none 0 0) ∧ w'.cell? ⟨w3.heap.size, 2, none⟩ = some (.int .i64 (t)) ∧ w'.cell? ⟨w3.heap.size, 3, none⟩ = some (.int .i64 (f)) ∧ w'.cell? ⟨w.heap.size, 0, none⟩ = some (.bool false) ∧ w'.cell? ⟨w.heap.size, 1, none⟩ = some ((.slice An3 sn3 cn3)) ∧ w'.cell? ⟨w.heap.size, 2, none⟩ = some (.int .i64 (p3)) ∧ w'.cell? ⟨w.heap.size, 3, none⟩ = some (.int .i64 (q3))) (by kernel_rfl) ?_ (fun hHeld => ?_)
      · try dsimp only
        go_keep
      refine wpAnyH_take (i := 0) (v := ?_) rfl (by kernel_rfl) (by kernel_rfl) (by kernel_rfl) (fun _ _ _ h => h) (Or.inl ⟨by rfl, ?_⟩) (by assumption) ?_
      rotate_left
      · intro w hSw
        (try dsimp only at hSw)
        go_simp
        all_goals with_reducible rfl
      try simp only [Act.put, List.setIfInBounds_toArray, List.set_cons_zero, List.set_cons_succ, List.getElem_toArray, List.getElem_cons_zero]
      refine wpAnyH_take (i := 1) (v := ?_) rfl (by kernel_rfl) (by kernel_rfl) (by kernel_rfl) (fun _ _ _ h => h) (Or.inl ⟨by rfl, ?_⟩) (by assumption) ?_
      rotate_left
      · intro w hSw
        (try dsimp only at hSw)
        go_simp
        all_goals with_reducible rfl
      try simp only [Act.put, List.setIfInBounds_toArray, List.set_cons_zero, List.set_cons_succ, List.getElem_toArray, List.getElem_cons_zero, List.getElem_cons_succ]
      refine wpAnyH_take (i := 2) (v := ?_) rfl (by kernel_rfl) (by kernel_rfl) (by kernel_rfl) (fun _ _ _ h => h) (Or.inl ⟨by rfl, ?_⟩) (by assumption) ?_
      rotate_left
      · intro w hSw
        (try dsimp only at hSw)
        go_simp
        all_goals with_reducible rfl
      try simp only [Act.put, List.setIfInBounds_toArray, List.set_cons_zero, List.set_cons_succ, List.getElem_toArray, List.getElem_cons_zero, List.getElem_cons_succ]
      refine wpAnyH_take (i := 3) (v := ?_) rfl (by kernel_rfl) (by kernel_rfl) (by kernel_rfl) (fun _ _ _ h => h) (Or.inl ⟨by rfl, ?_⟩) (by assumption) ?_
      rotate_left
      · intro w hSw
        (try dsimp only at hSw)
        go_simp
        all_goals with_reducible rfl
      try simp only [Act.put, List.setIfInBounds_toArray, List.set_cons_zero, List.set_cons_succ, List.getElem_toArray, List.getElem_cons_zero, List.getElem_cons_succ]
      refine wpAnyH_take (i := 4) (v := ?_) rfl (by kernel_rfl) (by kernel_rfl) (by kernel_rfl) (fun _ _ _ h => h) (Or.inl ⟨by rfl, ?_⟩) (by assumption) ?_
      rotate_left
      · intro w hSw
        (try dsimp only at hSw)
        go_simp
        all_goals with_reducible rfl
      try simp only [Act.put, List.setIfInBounds_toArray, List.set_cons_zero, List.set_cons_succ, List.getElem_toArray, List.getElem_cons_zero, List.getElem_cons_succ]
      refine wpAnyH_take (i := 5) (v := ?_) rfl (by kernel_rfl) (by kernel_rfl) (by kernel_rfl) (fun _ _ _ h => h) (Or.inl ⟨by rfl, ?_⟩) (by assumption) ?_
      rotate_left
      · intro w hSw
        (try dsimp only at hSw)
        go_simp
        all_goals with_reducible rfl
      try simp only [Act.put, List.setIfInBounds_toArray, List.set_cons_zero, List.set_cons_succ, List.getElem_toArray, List.getElem_cons_zero, List.getElem_cons_succ]
      refine wpAnyH_take (i := 6) (v := ?_) rfl (by kernel_rfl) (by kernel_rfl) (by kernel_rfl) (fun _ _ _ h => h) (Or.inl ⟨by rfl, ?_⟩) (by assumption) ?_
      rotate_left
      · intro w hSw
        (try dsimp only at hSw)
        go_simp
        all_goals with_reducible rfl
      try simp only [Act.put, List.setIfInBounds_toArray, List.set_cons_zero, List.set_cons_succ, List.getElem_toArray, List.getElem_cons_zero, List.getElem_cons_succ]
      refine wpAnyH_take (i := 7) (v := ?_) rfl (by kernel_rfl) (by kernel_rfl) (by kernel_rfl) (fun _ _ _ h => h) (Or.inl ⟨by rfl, ?_⟩) (by assumption) ?_
      rotate_left
      · intro w hSw
        (try dsimp only at hSw)
        go_simp
        all_goals with_reducible rfl
      try simp only [Act.put, List.setIfInBounds_toArray, List.set_cons_zero, List.set_cons_succ, List.getElem_toArray, List.getElem_cons_zero, List.getElem_cons_succ]
      refine wpAnyH_take (i := 8) (v := ?_) rfl (by kernel_rfl) (by kernel_rfl) (by kernel_rfl) (fun _ _ _ h => h) (Or.inl ⟨by rfl, ?_⟩) (by assumption) ?_
      rotate_left
      · intro w hSw
        (try dsimp only at hSw)
        go_simp
        all_goals with_reducible rfl
      try simp only [Act.put, List.setIfInBounds_toArray, List.set_cons_zero, List.set_cons_succ, List.getElem_toArray, List.getElem_cons_zero, List.getElem_cons_succ]
      refine wpAnyH_take (i := 9) (v := ?_) rfl (by kernel_rfl) (by kernel_rfl) (by kernel_rfl) (fun _ _ _ h => h) (Or.inl ⟨by rfl, ?_⟩) (by assumption) ?_
      rotate_left
      · intro w hSw
        (try dsimp only at hSw)
        go_simp
        all_goals with_reducible rfl
      try simp only [Act.put, List.setIfInBounds_toArray, List.set_cons_zero, List.set_cons_succ, List.getElem_toArray, List.getElem_cons_zero, List.getElem_cons_succ]
      refine wpAnyH_take (i := 10) (v := ?_) rfl (by kernel_rfl) (by kernel_rfl) (by kernel_rfl) (fun _ _ _ h => h) (Or.inl ⟨by rfl, ?_⟩) (by assumption) ?_
      rotate_left
      · intro w hSw
        (try dsimp only at hSw)
        go_simp
        all_goals with_reducible rfl
      try simp only [Act.put, List.setIfInBounds_toArray, List.set_cons_zero, List.set_cons_succ, List.getElem_toArray, List.getElem_cons_zero, List.getElem_cons_succ]
      refine wpAnyH_take (i := 11) (v := ?_) rfl (by kernel_rfl) (by kernel_rfl) (by kernel_rfl) (fun _ _ _ h => h) (Or.inl ⟨by rfl, ?_⟩) (by assumption) ?_
      rotate_left
      · intro w hSw
        (try dsimp only at hSw)
        go_simp
        all_goals with_reducible rfl
      try simp only [Act.put, List.setIfInBounds_toArray, List.set_cons_zero, List.set_cons_succ, List.getElem_toArray, List.getElem_cons_zero, List.getElem_cons_succ]
      refine wpAnyH_take (i := 12) (v := ?_) rfl (by kernel_rfl) (by kernel_rfl) (by kernel_rfl) (fun _ _ _ h => h) (Or.inl ⟨by rfl, ?_⟩) (by assumption) ?_
      rotate_left
      · intro w hSw
        (try dsimp only at hSw)
        go_simp
        all_goals with_reducible rfl
      try simp only [Act.put, List.setIfInBounds_toArray, List.set_cons_zero, List.set_cons_succ, List.getElem_toArray, List.getElem_cons_zero, List.getElem_cons_succ]
      refine wpAnyH_take (i := 13) (v := ?_) rfl (by kernel_rfl) (by kernel_rfl) (by kernel_rfl) (fun _ _ _ h => h) (Or.inl ⟨by rfl, ?_⟩) (by assumption) ?_
      rotate_left
      · intro w hSw
        (try dsimp only at hSw)
        go_simp
        all_goals with_reducible rfl
      try simp only [Act.put, List.setIfInBounds_toArray, List.set_cons_zero, List.set_cons_succ, List.getElem_toArray, List.getElem_cons_zero, List.getElem_cons_succ]
      refine wpAnyH_take (i := 14) (v := ?_) rfl (by kernel_rfl) (by kernel_rfl) (by kernel_rfl) (fun _ _ _ h => h) (Or.inl ⟨by rfl, ?_⟩) (by assumption) ?_
      rotate_left
      · intro w hSw
        (try dsimp only at hSw)
        go_simp
        all_goals with_reducible rfl
      try simp only [Act.put, List.setIfInBounds_toArray, List.set_cons_zero, List.set_cons_succ, List.getElem_toArray, List.getElem_cons_zero, List.getElem_cons_succ]
      refine wpAnyH_take (i := 15) (v := ?_) rfl (by kernel_rfl) (by kernel_rfl) (by kernel_rfl) (fun _ _ _ h => h) (Or.inl ⟨by rfl, ?_⟩) (by assumption) ?_
      rotate_left
      · intro w hSw
        (try dsimp only at hSw)
        go_simp
        all_goals with_reducible rfl
      try simp only [Act.put, List.setIfInBounds_toArray, List.set_cons_zero, List.set_cons_succ, List.getElem_toArray, List.getElem_cons_zero, List.getElem_cons_succ]
      refine wpAnyH_take (i := 16) (v := ?_) rfl (by kernel_rfl) (by kernel_rfl) (by kernel_rfl) (fun _ _ _ h => h) (Or.inl ⟨by rfl, ?_⟩) (by assumption) ?_
      rotate_left
      · intro w hSw
        (try dsimp only at hSw)
        go_simp
        all_goals with_reducible rfl
      try simp only [Act.put, List.setIfInBounds_toArray, List.set_cons_zero, List.set_cons_succ, List.getElem_toArray, List.getElem_cons_zero, List.getElem_cons_succ]
      refine wpAnyH_ready (rs := [17]) (by kernel_rfl) (by simp) ?_
      refine AllReadyH.cons rfl (fun K hK => ?_) AllReadyH.nil
      go_simp
      (with_reducible refine (C1.out _ ?_).mono ?_)
      · (first | with_reducible assumption | exact (Up.refl _).drewN 1)
      rintro _ w51 ⟨rfl, h51⟩
      have uw51 : Up w15 w51 := Up.trans (by first | with_reducible assumption | exact (Up.refl w15).drewN 1) h51
      have xc00 := cell_up uw51 x0
      have xc01 := cell_up uw51 x1
      have xc02 := cell_up uw51 x2
      have xc03 := cell_up uw51 x3
      have b3c00 := cell_up uw51 b30
      have b3c01 := cell_up uw51 b31
      have b3c02 := cell_up uw51 b32
      have b3c03 := cell_up uw51 b33
      go_wp2_with fail
      refine hK.out _ _ ?_ (fun hHeld => ?_)
      · try dsimp only
        go_keep
      clear hK K
      try simp only [Act.put, List.setIfInBounds_toArray, List.set_cons_zero, List.set_cons_succ, List.getElem_toArray, List.getElem_cons_zero, List.getElem_cons_succ]
      refine wpAnyH_take (i := 18) (v := ?_) rfl (by kernel_rfl) (by kernel_rfl) (by kernel_rfl) (fun _ _ _ h => h) (Or.inl ⟨by rfl, ?_⟩) (by assumption) ?_
      rotate_left
      · intro w hSw
        (try dsimp only at hSw)
        go_simp
        all_goals with_reducible rfl
      try simp only [Act.put, List.setIfInBounds_toArray, List.set_cons_zero, List.set_cons_succ, List.getElem_toArray, List.getElem_cons_zero, List.getElem_cons_succ]
      refine wpAnyH_take (i := 19) (v := ?_) rfl (by kernel_rfl) (by kernel_rfl) (by kernel_rfl) (fun _ _ _ h => h) (Or.inl ⟨by rfl, ?_⟩) (by assumption) ?_
      rotate_left
      · intro w hSw
        (try dsimp only at hSw)
        go_simp
        all_goals with_reducible rfl
      try simp only [Act.put, List.setIfInBounds_toArray, List.set_cons_zero, List.set_cons_succ, List.getElem_toArray, List.getElem_cons_zero, List.getElem_cons_succ]
      refine wpAnyH_take (i := 20) (v := ?_) rfl (by kernel_rfl) (by kernel_rfl) (by kernel_rfl) (fun _ _ _ h => h) (Or.inl ⟨by rfl, ?_⟩) (by assumption) ?_
      rotate_left
      · intro w hSw
        (try dsimp only at hSw)
        go_simp
        all_goals with_reducible rfl
      try simp only [Act.put, List.setIfInBounds_toArray, List.set_cons_zero, List.set_cons_succ, List.getElem_toArray, List.getElem_cons_zero, List.getElem_cons_succ]
      refine wpAnyH_take (i := 21) (v := ?_) rfl (by kernel_rfl) (by kernel_rfl) (by kernel_rfl) (fun _ _ _ h => h) (Or.inl ⟨by rfl, ?_⟩) (by assumption) ?_
      rotate_left
      · intro w hSw
        (try dsimp only at hSw)
        go_simp
        all_goals with_reducible rfl
      try simp only [Act.put, List.setIfInBounds_toArray, List.set_cons_zero, List.set_cons_succ, List.getElem_toArray, List.getElem_cons_zero, List.getElem_cons_succ]
      refine wpAnyH_take (i := 22) (v := ?_) rfl (by kernel_rfl) (by kernel_rfl) (by kernel_rfl) (fun _ _ _ h => h) (Or.inl ⟨by rfl, ?_⟩) (by assumption) ?_
      rotate_left
      · intro w hSw
        (try dsimp only at hSw)
        go_simp
        all_goals with_reducible rfl
      try simp only [Act.put, List.setIfInBounds_toArray, List.set_cons_zero, List.set_cons_succ, List.getElem_toArray, List.getElem_cons_zero, List.getElem_cons_succ]
      refine wpAnyH_take (i := 25) (v := ?_) rfl (by kernel_rfl) (by kernel_rfl) (by kernel_rfl) (fun _ _ _ h => h) (Or.inl ⟨by rfl, ?_⟩) (by assumption) ?_
      rotate_left
      · intro w hSw
        (try dsimp only at hSw)
        go_simp
        all_goals with_reducible rfl
      try simp only [Act.put, List.setIfInBounds_toArray, List.set_cons_zero, List.set_cons_succ, List.getElem_toArray, List.getElem_cons_zero, List.getElem_cons_succ]
      refine wpAnyH_take (i := 26) (v := ?_) rfl (by kernel_rfl) (by kernel_rfl) (by kernel_rfl) (fun _ _ _ h => h) (Or.inl ⟨by rfl, ?_⟩) (by assumption) ?_
      rotate_left
      · intro w hSw
        (try dsimp only at hSw)
        go_simp
        all_goals with_reducible rfl
      try simp only [Act.put, List.setIfInBounds_toArray, List.set_cons_zero, List.set_cons_succ, List.getElem_toArray, List.getElem_cons_zero, List.getElem_cons_succ]
      refine wpAnyH_ready (rs := [23]) (by kernel_rfl) (by simp) ?_
      refine AllReadyH.cons rfl (fun K hK => ?_) AllReadyH.nil
      go_simp
      (with_reducible refine (C2.out _ ?_).mono ?_)
      · (first | with_reducible assumption | exact (Up.refl _).drewN 1)
      rintro _ w52 ⟨rfl, h52⟩
      have uw52 : Up w15 w52 := Up.trans (by first | with_reducible assumption | exact (Up.refl w15).drewN 1) h52
      have xc10 := cell_up uw52 x0
      have xc11 := cell_up uw52 x1
      have xc12 := cell_up uw52 x2
      have xc13 := cell_up uw52 x3
      have b3c10 := cell_up uw52 b30
      have b3c11 := cell_up uw52 b31
      have b3c12 := cell_up uw52 b32
      have b3c13 := cell_up uw52 b33
      go_wp2_with fail
      refine hK.out _ _ ?_ (fun hHeld => ?_)
      · try dsimp only
        go_keep
      clear hK K
      try simp only [Act.put, List.setIfInBounds_toArray, List.set_cons_zero, List.set_cons_succ, List.getElem_toArray, List.getElem_cons_zero, List.getElem_cons_succ]
      refine wpAnyH_take (i := 24) (v := ?_) rfl (by kernel_rfl) (by kernel_rfl) (by kernel_rfl) (fun _ _ _ h => h) (Or.inl ⟨by rfl, ?_⟩) (by assumption) ?_
      rotate_left
      · intro w hSw
        (try dsimp only at hSw)
        go_simp
        all_goals with_reducible rfl
      try simp only [Act.put, List.setIfInBounds_toArray, List.set_cons_zero, List.set_cons_succ, List.getElem_toArray, List.getElem_cons_zero, List.getElem_cons_succ]
      refine wpAnyH_take (i := 27) (v := ?_) rfl (by kernel_rfl) (by kernel_rfl) (by kernel_rfl) (fun _ _ _ h => h) (Or.inl ⟨by rfl, ?_⟩) (by assumption) ?_
      rotate_left
      · intro w hSw
        (try dsimp only at hSw)
        go_simp
        all_goals with_reducible rfl
      try simp only [Act.put, List.setIfInBounds_toArray, List.set_cons_zero, List.set_cons_succ, List.getElem_toArray, List.getElem_cons_zero, List.getElem_cons_succ]
      refine wpAnyH_take (i := 28) (v := undef) rfl (by kernel_rfl) (by kernel_rfl) (by kernel_rfl) (fun _ _ _ h => h) (Or.inr ⟨by rfl, rfl⟩) (by assumption) ?_
      try simp only [Act.put, List.setIfInBounds_toArray, List.set_cons_zero, List.set_cons_succ, List.getElem_toArray, List.getElem_cons_zero, List.getElem_cons_succ]
      refine wpAnyH_take (i := 29) (v := undef) rfl (by kernel_rfl) (by kernel_rfl) (by kernel_rfl) (fun _ _ _ h => h) (Or.inr ⟨by rfl, rfl⟩) (by assumption) ?_
      try simp only [Act.put, List.setIfInBounds_toArray, List.set_cons_zero, List.set_cons_succ, List.getElem_toArray, List.getElem_cons_zero, List.getElem_cons_succ]
      refine wpAnyH_take (i := 30) (v := undef) rfl (by kernel_rfl) (by kernel_rfl) (by kernel_rfl) (fun _ _ _ h => h) (Or.inr ⟨by rfl, rfl⟩) (by assumption) ?_
      try simp only [Act.put, List.setIfInBounds_toArray, List.set_cons_zero, List.set_cons_succ, List.getElem_toArray, List.getElem_cons_zero, List.getElem_cons_succ]
      refine wpAnyH_take (i := 31) (v := undef) rfl (by kernel_rfl) (by kernel_rfl) (by kernel_rfl) (fun _ _ _ h => h) (Or.inr ⟨by rfl, rfl⟩) (by assumption) ?_
      try simp only [Act.put, List.setIfInBounds_toArray, List.set_cons_zero, List.set_cons_succ, List.getElem_toArray, List.getElem_cons_zero, List.getElem_cons_succ]
      refine wpAnyH_take (i := 32) (v := ?_) rfl (by kernel_rfl) (by kernel_rfl) (by kernel_rfl) (fun _ _ _ h => h) (Or.inl ⟨by rfl, ?_⟩) (by assumption) ?_
      rotate_left
      · intro w hSw
        (try dsimp only at hSw)
        go_simp
        all_goals with_reducible rfl
      try simp only [Act.put, List.setIfInBounds_toArray, List.set_cons_zero, List.set_cons_succ, List.getElem_toArray, List.getElem_cons_zero, List.getElem_cons_succ]
      refine wpAnyH_take (i := 33) (v := ?_) rfl (by kernel_rfl) (by kernel_rfl) (by kernel_rfl) (fun _ _ _ h => h) (Or.inl ⟨by rfl, ?_⟩) (by assumption) ?_
      rotate_left
      · intro w hSw
        (try dsimp only at hSw)
        go_simp
        all_goals with_reducible rfl
      try simp only [Act.put, List.setIfInBounds_toArray, List.set_cons_zero, List.set_cons_succ, List.getElem_toArray, List.getElem_cons_zero, List.getElem_cons_succ]
      refine wpAnyH_take (i := 34) (v := ?_) rfl (by kernel_rfl) (by kernel_rfl) (by kernel_rfl) (fun _ _ _ h => h) (Or.inl ⟨by rfl, ?_⟩) (by assumption) ?_
      rotate_left
      · intro w hSw
        (try dsimp only at hSw)
        go_simp
        all_goals with_reducible rfl
      try simp only [Act.put, List.setIfInBounds_toArray, List.set_cons_zero, List.set_cons_succ, List.getElem_toArray, List.getElem_cons_zero, List.getElem_cons_succ]
      refine wpAnyH_take (i := 35) (v := ?_) rfl (by kernel_rfl) (by kernel_rfl) (by kernel_rfl) (fun _ _ _ h => h) (Or.inl ⟨by rfl, ?_⟩) (by assumption) ?_
      rotate_left
      · intro w hSw
        (try dsimp only at hSw)
        go_simp
        all_goals with_reducible rfl
      try simp only [Act.put, List.setIfInBounds_toArray, List.set_cons_zero, List.set_cons_succ, List.getElem_toArray, List.getElem_cons_zero, List.getElem_cons_succ]
      refine wpAnyH_done (by kernel_rfl) ?_ _
      replace U := U.trans uw52
      go_wp2_with fail
      go_ret
      exact ⟨rfl, U⟩
    ·
      obtain ⟨⟨x0, x1, x2, x3⟩, xf0, xf1, xf2, xf3⟩ := id x
      have x5 := World.block_lt_of_cell? _ _ x0
      simp only at x5
      obtain ⟨⟨b30, b31, b32, b33⟩, b3f0, b3f1, b3f2, b3f3⟩ := id b3
      have b35 := World.block_lt_of_cell? _ _ b30
      simp only at b35
      go_wp2_with fail
      clear x0 x1 x2 x3 xf0 xf1 xf2 xf3 x5
      clear b30 b31 b32 b33 b3f0 b3f1 b3f2 b3f3 b35
      refine (xcmp_ov (-5000) (by omega) _ _ _ _ _ neg true _ _ t f p3 q3 0 a3 (Nt.nil _ 0 0).nw n3.nw (by omega) (by omega) (by omega) (by omega) (by omega) (by omega) (-1) (by show _ = _; rw [HN.out, M.ov_nil]; exact M.cmp_lt HN0.out)).mono ?_
      rintro _ w16 ⟨rfl, h16⟩
      replace b3 := b3.up h16
      replace n3 := n3.up h16
      replace x := x.up h16
      replace U := U.trans h16
      clear h16
      have C1 := Lib.hid (fun w' (hu : Up w16 w') => xcmps_ov (-5000) (by omega) w' 0 0 0 0 neg false (.slice none 0 0) (.slice none 0 0) t f 0 0 0 0 (Nt.nil _ 0 0).nw (Nt.nil _ 0 0).nw (by omega) (by omega) (by omega) (by omega) (by omega) (by omega) 0 (by show _ = _; rw [M.ov_nil, M.ov_nil, M.so_zero, M.so_zero]; rfl))
      have C2 := Lib.hid (fun w' (hu : Up w16 w') => xcmps_ov (-5000) (by omega) w' 0 _ 0 _ neg true (.slice none 0 0) (.slice An3 sn3 cn3) t f p3 q3 0 a3 (Nt.nil _ 0 0).nw (n3.nw.up hu) (by omega) (by omega) (by omega) (by omega) (by omega) (by omega) (1) (by show _ = _; rw [HN.out, M.ov_nil, M.so_zero]; have := HN0.out; simp [M.so, M.icmp]; omega))
      go_wp2_with fail
      obtain ⟨⟨x0, x1, x2, x3⟩, xf0, xf1, xf2, xf3⟩ := id x
      have x5 := World.block_lt_of_cell? _ _ x0
      simp only at x5
      obtain ⟨⟨b30, b31, b32, b33⟩, b3f0, b3f1, b3f2, b3f3⟩ := id b3
      have b35 := World.block_lt_of_cell? _ _ b30
      simp only at b35
      go_region_held3 (fun w' => w'.cell? ⟨w3.heap.size, 0, none⟩ = some (.bool neg) ∧ w'.cell? ⟨w3.heap.size, 1, none⟩ = some (.slice none 0 0) ∧ w'.cell? ⟨w3.heap.size, 2, none⟩ = some (.int .i64 (t)) ∧ w'.cell? ⟨w3.heap.size, 3, none⟩ = some (.int .i64 (f)) ∧ w'.cell? ⟨w.heap.size, 0, none⟩ = some (.bool true) ∧ w'.cell? ⟨w.heap.size, 1, none⟩ = some ((.slice An3 sn3 cn3)) ∧ w'.cell? ⟨w.heap.size, 2, none⟩ = some (.int .i64 (p3)) ∧ w'.cell? ⟨w.heap.size, 3, none⟩ = some (.int .i64 (q3))) (go_keep) (first
          | (go_at_call 47; (with_reducible refine (C1.out _ ?_).mono ?_); (first | with_reducible assumption | exact (Up.refl _).drewN 1); rintro _ w17 ⟨rfl, h17⟩; have uw17 : Up w16 w17 := Up.trans (by first | with_reducible assumption | exact (Up.refl w16).drewN 1) h17; have xc00 := cell_up uw17 x0; have xc01 := cell_up uw17 x1; have xc02 := cell_up uw17 x2; have xc03 := cell_up uw17 x3; have b3c00 := cell_up uw17 b30; have b3c01 := cell_up uw17 b31; have b3c02 := cell_up uw17 b32; have b3c03 := cell_up uw17 b33)
          | (go_at_call 47; (with_reducible refine (C2.out _ ?_).mono ?_); (first | with_reducible assumption | exact (Up.refl _).drewN 1); rintro _ w18 ⟨rfl, h18⟩; have uw18 : Up w16 w18 := Up.trans (by first | with_reducible assumption | exact (Up.refl w16).drewN 1) h18; have xc10 := cell_up uw18 x0; have xc11 := cell_up uw18 x1; have xc12 := cell_up uw18 x2; have xc13 := cell_up uw18 x3; have b3c10 := cell_up uw18 b30; have b3c11 := cell_up uw18 b31; have b3c12 := cell_up uw18 b32; have b3c13 := cell_up uw18 b33))
      clear xc00
      clear xc01
      clear xc02
      clear xc03
      clear b3c00
      clear b3c01
      clear b3c02
      clear b3c03
      clear xc10
      clear xc11
      clear xc12
      clear xc13
      clear b3c10
      clear b3c11
      clear b3c12
      clear b3c13
      clear h17
      clear h18
      clear x0 x1 x2 x3 xf0 xf1 xf2 xf3 x5
      clear b30 b31 b32 b33 b3f0 b3f1 b3f2 b3f3 b35
      replace b3 := b3.up uw18
      replace n3 := n3.up uw18
      replace x := x.up uw18
      replace U := U.trans uw18
      clear uw17
      clear uw18
      clear C1 C2
      go_wp2_with fail
      go_ret
      exact ⟨rfl, U⟩
end Go.Proofs.YtdokioefcfcfnaaDoor
