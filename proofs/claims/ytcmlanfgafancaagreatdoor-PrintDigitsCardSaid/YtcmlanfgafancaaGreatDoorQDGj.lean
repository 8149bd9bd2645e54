import Derived.Test.YtcmlanfgafancaaGreatDoorQDGf
import Derived.Test.YtcmlanfgafancaaGreatDoorQDJa
import Derived.LoopTactic
set_option maxHeartbeats 32000000
set_option linter.unusedVariables false
set_option linter.unusedSimpArgs false
namespace Go.Proofs.YtcmlanfgafancaaGreatDoor
open Go
namespace M
theorem sq_le {f : Fm} (ok : Ok f) (ok2 : Ok2 f) (ok3 : Ok3 f) {p : Nat} {g : Bool} {m : Nat} {z : Int} {m1 : Nat} {z1 : Int} {m2 : Nat} {z2 : Int} {ev : Bool} {t : Int} {n : Nat} {k : Int} {d : Nat} {r : Int} {y D : Nat} {K : Int}
  (hq : Sq f p g m z m1 z1 m2 z2 ev t n k d r y D K) {D' : Nat} {K' : Int} (h' : Dgs (sz m z 0) D' K') : D ≤ D' := by
 have hin := in_own ok ok2 ok3 hq.pt
 have ht := hq.tp
 have hs := hq.sh
 have d0' : D' ≠ 0 := fun e => h'.ten (by rw [e])
 have d0 : D ≠ 0 := fun e => hq.dg.ten (by rw [e])
 have tlo := ht.lo
 have thi := ht.hi
 have hlo := h'.lo
 have hhi := h'.hi
 have hkn := hs.kn
 have hn1 := hs.n1
 have hn21 := hs.n21
 obtain ⟨T, hT⟩ : ∃ T : Nat, (t + 5000).toNat = T := ⟨_, rfl⟩
 obtain ⟨Q, hQ⟩ : ∃ Q : Nat, (K' + 5000).toNat = Q := ⟨_, rfl⟩
 have x1 := ht.le
 have x2 := ht.lt
 have e0 := h'.eq
 obtain ⟨X, hX⟩ : ∃ X, sz m z 0 = X := ⟨_, rfl⟩
 rw [hX] at x1 x2 e0 hin hs ht
 have eX : D' * 10 ^ Q = X := by
  have := e0
  rw [sz_one D', sz_p10 (by omega), hQ] at this
  exact this
 rw [sz_p10 (by omega), hT] at x1
 rw [sz_p10 (by omega), show (t + 1 + 5000).toNat = T + 1 by omega] at x2
 obtain ⟨s1, s2⟩ := len_rng (A := T) (B := T + 1) d0' (by rw [eX]; exact x1) (by rw [eX]; exact x2)
 obtain ⟨N, hN⟩ : ∃ N, (Lib.decDigits D').length = N := ⟨_, rfl⟩
 rw [hN] at s1 s2
 have hNp : 0 < N := by rw [← hN]; exact decDigits_pos D'
 have hge : n ≤ N := by
  rcases Nat.lt_or_ge N n with c | c
  ·exfalso
   have hno := hs.few N K' D' (by omega) c (by omega) (by rw [e0]; exact Nat.le_refl _) (by
    rw [← e0, sz_one (D' + 1), sz_one D']
    exact Nat.mul_lt_mul_of_pos_right (Nat.lt_succ_self _) (sz_pos _ _))
   refine hno.1 ?_
   show In m1 z1 m2 z2 ev (sz D' K' K')
   rw [e0]
   exact hin
  ·exact c
 rcases Nat.lt_or_ge n N with c | c
 ·obtain ⟨l1, _⟩ := dd_rng d0'
  rw [hN] at l1
  have h1 : D < 10 ^ (N - 1) := Nat.lt_of_lt_of_le hq.small (Nat.pow_le_pow_right (by decide) (by omega))
  omega
 ·have eN : n = N := by omega
  have ek : k = K' := by omega
  subst ek
  have f1 := hs.fl.le
  have f2 := hs.fl.lt
  rw [← e0, sz_one d, sz_one D'] at f1
  rw [← e0, sz_one (d + 1), sz_one D'] at f2
  have g1 := Nat.le_of_mul_le_mul_right f1 (sz_pos k k)
  have g2 := Nat.lt_of_mul_lt_mul_right f2
  have ed : d = D' := by omega
  subst ed
  have hr : r = 0 := by
   rcases hs.fl.rng with h | h | h | h
   ·exact h
   ·exact absurd (hs.fl.up (by omega)) (by rw [e0]; exact Nat.lt_irrefl _)
   ·exact absurd (hs.fl.up (by omega)) (by rw [e0]; exact Nat.lt_irrefl _)
   ·exact absurd (hs.fl.up (by omega)) (by rw [e0]; exact Nat.lt_irrefl _)
  have hP : In m1 z1 m2 z2 ev (sz d k k) := by rw [e0]; exact hin
  have ey : y = d := by
   rcases hs.ch with ⟨h, _⟩ | ⟨_, ⟨_, h⟩ | ⟨h, _⟩⟩
   ·omega
   ·exact h
   ·exact absurd hP h
  have e2 : sz D K K = sz d k k := by rw [hq.dg.eq, ey]
  have hl2 := hq.dg.lo
  exact Nat.le_of_eq (ten_uniq (by omega) (by omega) hq.dg.ten h'.ten e2).1
theorem both_ex {i p : Nat} (i1 : 1 ≤ i) (i2 : i ≤ 14) (hp : (p : Int) ≤ msk (tb i)) {g : Bool} {m : Nat} {z : Int} (hv : Dv (tb i) p 2 g m z) : ∃ D K D' K', Shc (i : Int) p g D K 0 ∧ Uc (i : Int) p g D' K' 0 ∧ D ≤ D' := by
 obtain ⟨m0, hm, hz⟩ := pt_rng (ok i i1 i2) (ok2 i i1 i2) (ok3 i i1 i2) hp hv
 obtain ⟨m1, z1, m2, z2, ev, hpt⟩ := pt_ex (ok i i1 i2) (ok2 i i1 i2) (ok3 i i1 i2) hp hv
 obtain ⟨t, n, k, d, r, y, D, K, h⟩ := sq_ex (ok i i1 i2) (ok2 i i1 i2) (ok3 i i1 i2) hpt
 obtain ⟨D', K', h'⟩ := dgs_full m0 hm hz
 exact ⟨D, K, D', K', .inr ⟨rfl, i, rfl, i1, i2, m, z, m1, z1, m2, z2, ev, t, n, k, d, r, y, h⟩, .inr ⟨rfl, i, rfl, i1, i2, hp, m, z, hv, h'⟩, sq_le (ok i i1 i2) (ok2 i i1 i2) (ok3 i i1 i2) h h'⟩
theorem lyb_short (S : List UInt8) (k : Int) (hk : -1000000 ≤ (S.length : Int) + k - 1 ∧ (S.length : Int) + k - 1 ≤ 1000000) : (lyb S k).length ≤ S.length + 30 := by
 have hz : (ntx (S.length + k - 1)).length ≤ 8 := by
  unfold ntx sgt
  have := dd_len7 (S.length + k - 1 : Int).natAbs (by omega)
  rw [List.length_append]
  split <;> simp <;> omega
 unfold lyb
 split
 ·rw [List.length_append, List.length_append, List.length_take, List.length_cons]
  split
  ·rw [List.length_cons, List.length_drop]; omega
  ·rw [List.length_nil]; omega
 ·rename_i hf
  unfold lfar at hf
  split
  ·rw [List.length_cons, List.length_cons, List.length_append, List.length_replicate]; omega
  ·split
   ·rw [List.length_append, List.length_replicate]; omega
   ·rw [List.length_append, List.length_cons, List.length_take, List.length_drop]; omega
theorem Wok.short {D : Nat} {K : Int} (h : Wok D K) (g : Bool) : (ly g D K).length ≤ 3000 := by
 have h1 := h.len
 have h2 := h.lo
 have h3 := h.hi
 have := lyb_short (Lib.decDigits D) K (by omega)
 unfold ly
 rw [if_neg h.nz, List.length_append]
 have : (sgt g).length ≤ 1 := by cases g <;> simp [sgt]
 omega
theorem len_mono {xs ys : List Nat} (hx : Nrm xs) (hy : Wds ys) (h : val xs ≤ val ys) : xs.length ≤ ys.length := len_of_lt hx (Nat.lt_of_le_of_lt h (val_lt hy))
end M
end Go.Proofs.YtcmlanfgafancaaGreatDoor
namespace Go.Proofs.YtcmlanfgafancaaGreatDoor
open Go.RowKit Go.Shelf
set_option maxRecDepth 100000 in
theorem pdigits_walk (w : World) (L : Lq w) (E : ErrB w) (F : Prn) (G : Lay) (x0 : Int) (_wx0 : (Lit.int .i64 x0).wf = true) (x1 : Int) (_wx1 : (Lit.int .u64 x1).wf = true) : Calls Tryz.prog 7 #[.int .i64 x0, .int .u64 x1] w (True13 w) := by
 obtain ⟨p, rfl, pb⟩ := wf_u64 _wx1
 have CH := Lib.hid (shown13_any F w L)
 have U := Up.refl w
 obtain ⟨c, g, m, z, e1, hd⟩ := M.dc_ex x0 p
 have HL := Lib.hid L
 have C1 := Lib.hid (fun W (u : Up w W) => vdecode_any W (Lib.hid (L.up u).low) (Lib.hid (L.up u).form) x0 p pb c g m z e1 hd)
 by_cases way : e1 = 0 ∧ c = 2
 ·obtain ⟨rfl, rfl⟩ := way
  obtain ⟨i, rfl, i1, i2, hp, hv⟩ := M.dc_in hd
  obtain ⟨D, K, D', K', hs, hu, hle⟩ := M.both_ex i1 i2 hp hv
  obtain ⟨_, _, _, hw⟩ := M.shc_wok hs
  obtain ⟨_, _, _, _, _, _, _, hw'⟩ := M.uc_wok hu
  have C2 := Lib.hid (fun W (u : Up w W) => F.print W (i : Int) p _ 0 (L.up u) pb (M.pr_short hs))
  have C3 := Lib.hid (fun W (u : Up w W) => F.full W (i : Int) p _ 0 (L.up u) pb (M.pr_full hu))
  have CU := Lib.hid (fun W (u : Up w W) S l (tS : Tx S l) (hl : l.length ≤ 3000) => G.unlay W S l (L.up u).ten (E.up u) (Lib.hid tS) hl)
  have HW := Lib.hid hw
  have HW' := Lib.hid hw'
  have HLE := Lib.hid hle
  clear hd hp hv hs hu hw hw' hle F G L E pb HL
  go_enter Tryz.func7, Tryz.ntmps7
  go_wp2_with fail
  refine CH.out.mono ?_
  rintro _ w1 ⟨rfl, u1⟩
  replace U := U.trans u1
  clear u1 CH
  go_wp2_with fail
  refine (C1.out _ (by first | exact U | exact U.drew)).mono ?_
  rintro _ w2 ⟨rfl, u2⟩
  replace U := Up.trans (by first | exact U | exact U.drew) u2
  clear u2 C1
  go_upto_region 3 with (refine store_ob rfl 38 (.tmp 6) (.tmp 21) rfl _ #[.int .i64 0, .bool false, .int .u64 0, .int .i64 0] #[.int .i64 2, .bool g, u64 m, .int .i64 z] rfl rfl 4 (by kernel_rfl) rfl rfl (by simp [Value.oneCell']) w2 ((Up.refl _).alloc _) (Nat.le_refl _) 38 (Ob.mk_ _ _ _) ?_; intro V2 X2 q2)
  replace U := U.trans q2
  obtain ⟨ga, hga⟩ : ∃ g, w2.heap.size = g := ⟨_, rfl⟩
  rw [hga] at X2 ⊢
  clear q2 hga
  have v0 := X2.get 0
  simp only [M.z7, M.z8, M.z9] at v0
  go_wp2_with fail
  refine (C2.out _ (by first | exact U | exact U.drew)).mono ?_
  rintro _ w3 ⟨S, rfl, tS, u3⟩
  replace U := Up.trans (by first | exact U | exact U.drew) u3
  replace X2 := X2.up u3
  have HS := Lib.hid tS
  clear u3 C2 tS v0
  go_wp2_with fail
  refine (C3.out _ (by first | exact U | exact U.drew)).mono ?_
  rintro _ w4 ⟨T, rfl, tT, u4⟩
  replace U := Up.trans (by first | exact U | exact U.drew) u4
  replace X2 := X2.up u4
  have HT := Lib.hid tT
  clear u4 C3 tT
  go_wp2_with fail
  refine (CU.out _ (by first | exact U | exact U.drew) S _ HS.out (HW.out.short _)).mono ?_
  rintro _ w5 ⟨ng5, A5, n5, c5, a5, k5, er5, rfl, h5, N5, u5⟩
  obtain ⟨rfl, rfl, rfl, rfl⟩ := h5.of HW.out.rtn rfl
  replace U := Up.trans (by first | exact U | exact U.drew) u5
  replace X2 := X2.up u5
  have g2 := X2.lt
  clear u5 h5 HS
  go_upto_region 8 with (refine store_ob rfl 44 (.tmp 12) (.tmp 46) rfl _ #[.bool false, .slice none 0 0, .int .i64 0] #[.bool ng5, .slice A5 n5 c5, .int .i64 k5] rfl rfl 3 (by kernel_rfl) rfl rfl (by simp [Value.oneCell']) w5 ((Up.refl _).alloc _) (Nat.le_refl _) 44 (Ob.mk_ _ _ _) ?_; intro V6 X6 q6)
  replace U := U.trans q6
  replace X2 := X2.up q6
  obtain ⟨gb, hgb⟩ : ∃ g, w5.heap.size = g := ⟨_, rfl⟩
  rw [hgb] at X6 ⊢
  clear q6 hgb
  go_wp2_with fail
  refine (CU.out _ (by first | exact U | exact U.drew) T _ HT.out (HW'.out.short _)).mono ?_
  rintro _ w7 ⟨ng7, A7, n7, c7, a7, k7, er7, rfl, h7, N7, u7⟩
  obtain ⟨rfl, rfl, rfl, rfl⟩ := h7.of HW'.out.rtn rfl
  replace U := Up.trans (by first | exact U | exact U.drew) u7
  replace X2 := X2.up u7
  replace X6 := X6.up u7
  clear u7 h7 HT CU
  go_upto_region 9 with (refine store_ob rfl 44 (.tmp 14) (.tmp 51) rfl _ #[.bool false, .slice none 0 0, .int .i64 0] #[.bool ng7, .slice A7 n7 c7, .int .i64 k7] rfl rfl 3 (by kernel_rfl) rfl rfl (by simp [Value.oneCell']) w7 ((Up.refl _).alloc _) (Nat.le_refl _) 44 (Ob.mk_ _ _ _) ?_; intro V8 X8 q8)
  replace U := U.trans q8
  replace X2 := X2.up q8
  replace X6 := X6.up q8
  obtain ⟨gc, hgc⟩ : ∃ g, w7.heap.size = g := ⟨_, rfl⟩
  rw [hgc] at X8 ⊢
  clear q8 hgc
  have hn5 : 1 ≤ n5 ∧ n5 ≤ n7 := by
   obtain ⟨_, _, _, xs, e, a1, a2, _, a4⟩ := N5
   cases e
   obtain ⟨_, _, _, ys, e, b1, b2, _, b4⟩ := N7
   cases e
   have h1 := M.len_mono a4 b1.wds (by rw [a2, b2]; exact HLE.out)
   rw [a1.num, b1.num] at h1
   refine ⟨?_, h1⟩
   rcases Nat.eq_zero_or_pos n5 with e | e
   ·exfalso
    have : xs = [] := List.eq_nil_of_length_eq_zero (by rw [a1.num]; exact e)
    rw [this] at a2
    exact HW.out.nz a2.symm
   ·exact e
  obtain ⟨n1, n2⟩ := hn5
  have d1 : decide ((n5 : Int) ≥ 1) = true := decide_eq_true (by omega)
  have d2 : decide ((n5 : Int) ≤ (n7 : Int)) = true := decide_eq_true (by omega)
  have v1 := X2.get 1
  have y0 := X6.get 0
  have y1 := X6.get 1
  have z0 := X8.get 0
  have z1 := X8.get 1
  simp only [M.z7, M.z8, M.z9] at v1 y0 y1 z0 z1
  have gg : (ng7 == ng7) = true := by simp
  clear N5 N7 HW HW' HLE
  go_wp2_with fail
  go_ret
  exact ⟨by first | rfl | simp, by first | exact U | exact U.drew⟩
 ·have DD : ((e1 != 0) = true) ∨ ((e1 != 0) = false ∧ (c != 2) = true) := by
   by_cases a : e1 = 0
   ·exact .inr ⟨by simpa using a, by simpa using fun b => way ⟨a, b⟩⟩
   ·exact .inl (by simpa using a)
  clear hd way F G L E pb HL
  rcases DD with d1 | ⟨d1, d2⟩
  all_goals
   go_enter Tryz.func7, Tryz.ntmps7
   go_wp2_with fail
   refine CH.out.mono ?_
   rintro _ w1 ⟨rfl, u1⟩
   replace U := U.trans u1
   clear u1 CH
   go_wp2_with fail
   refine (C1.out _ (by first | exact U | exact U.drew)).mono ?_
   rintro _ w2 ⟨rfl, u2⟩
   replace U := Up.trans (by first | exact U | exact U.drew) u2
   clear u2 C1
   go_upto_region 3 with (refine store_ob rfl 38 (.tmp 6) (.tmp 21) rfl _ #[.int .i64 0, .bool false, .int .u64 0, .int .i64 0] #[.int .i64 c, .bool g, u64 m, .int .i64 z] rfl rfl 4 (by kernel_rfl) rfl rfl (by simp [Value.oneCell']) w2 ((Up.refl _).alloc _) (Nat.le_refl _) 38 (Ob.mk_ _ _ _) ?_; intro V2 X2 q2)
   replace U := U.trans q2
   obtain ⟨ga, hga⟩ : ∃ g, w2.heap.size = g := ⟨_, rfl⟩
   rw [hga] at X2 ⊢
   clear q2 hga
   have v0 := X2.get 0
   simp only [M.z7, M.z8, M.z9] at v0
   go_wp2_with fail
   go_ret
   exact ⟨by first | rfl | simp, by first | exact U | exact U.drew⟩
end Go.Proofs.YtcmlanfgafancaaGreatDoor
namespace Go.Proofs.YtcmlanfgafancaaGreatDoor
open Go.RowKit Go.Shelf
theorem Lq.lp {w : World} (h : Lq w) (e : ErrB w) : Lp w := ⟨h.ten, e.syn, h.low, h.form⟩
namespace M
theorem pr_len {ii : Int} {p : Nat} {fu : Bool} {l : List UInt8} (h : Pr ii p fu l 0) : l.length ≤ 20000 := by
 obtain ⟨c, g, m, z, hd, ⟨e, _⟩ | ⟨_, c2, j, ej, rfl⟩ | ⟨_, rfl, D, K, ht, rfl⟩⟩ := h
 ·exact absurd rfl e
 ·have hg : (sgt g).length ≤ 1 := by cases g <;> simp [sgt]
  unfold wrd
  split
  ·rw [List.length_append, List.length_singleton]; omega
  ·split
   ·rw [List.length_append]
    show _ + 3 ≤ _
    omega
   ·split <;> simp
 ·obtain ⟨i, rfl, _⟩ := dc_in hd
  obtain ⟨_, _, _, _, hw, _⟩ := told ht
  have hg : (sgt g).length ≤ 1 := by cases g <;> simp [sgt]
  have h1 := hw.len
  have h2 := hw.lo
  have h3 := hw.hi
  have h4 : (ntx ((Lib.decDigits D).length + K - 1)).length ≤ 8 := by
   unfold ntx sgt
   have := dd_len7 ((Lib.decDigits D).length + K - 1 : Int).natAbs (by omega)
   rw [List.length_append]
   split <;> simp <;> omega
  unfold ly
  rw [if_neg hw.nz, List.length_append]
  have : (lyb (Lib.decDigits D) K).length ≤ 15000 := by
   unfold lyb
   split
   ·rw [List.length_append, List.length_append, List.length_take, List.length_cons]
    split
    ·rw [List.length_cons, List.length_drop]; omega
    ·rw [List.length_nil]; omega
   ·split
    ·rw [List.length_cons, List.length_cons, List.length_append, List.length_replicate]; omega
    ·split
     ·rw [List.length_append, List.length_replicate]; omega
     ·rw [List.length_append, List.length_cons, List.length_take, List.length_drop]; omega
  omega
end M
set_option maxRecDepth 100000 in
theorem pparsed_walk (w : World) (L : Lq w) (E : ErrB w) (F : Prn) (x0 : Int) (_wx0 : (Lit.int .i64 x0).wf = true) (x1 : Int) (_wx1 : (Lit.int .u64 x1).wf = true) : Calls Tryz.prog 5 #[.int .i64 x0, .int .u64 x1] w (True13 w) := by
 obtain ⟨p, rfl, pb⟩ := wf_u64 _wx1
 have CH := Lib.hid (shown13_any F w L)
 have U := Up.refl w
 obtain ⟨c, g, m, z, e1, hd⟩ := M.dc_ex x0 p
 obtain ⟨l, y1, h1⟩ := M.pr_ex x0 p false
 obtain ⟨n, y2, h2⟩ := M.pr_ex x0 p true
 by_cases way : e1 = 0
 ·subst way
  obtain rfl : y1 = 0 := M.pr_zero h1 hd
  obtain rfl : y2 = 0 := M.pr_zero h2 hd
  obtain ⟨i, rfl, i1, i2, hp, hv⟩ := M.dc_in hd
  have C1 := Lib.hid (fun W (u : Up w W) => F.print W (i : Int) p l 0 (L.up u) pb h1)
  have C2 := Lib.hid (fun W (u : Up w W) => F.full W (i : Int) p n 0 (L.up u) pb h2)
  obtain ⟨q, hq⟩ : ∃ q, M.cn i p = q := ⟨_, rfl⟩
  have C3 := Lib.hid (fun W (u : Up w W) => canon_in W (L.up u).form i i1 i2 (p : Int) (by omega) (by omega) hp q (Lib.hid hq))
  have C4 := Lib.hid (fun W (u : Up w W) (mode : Int) (hm : mode = 1 ∨ mode = 2) S (tS : Tx S l) => jparse_any W (Lib.hid ((L.up u).lp (E.up u))) (i : Int) mode S l (Lib.hid tS) (by rw [tS.size]; have := M.pr_len h1; omega) q 0 0 (by rw [← hq]; exact (M.parsed h1 hm).2.2.2))
  have C5 := Lib.hid (fun W (u : Up w W) (mode : Int) (hm : mode = 1 ∨ mode = 2) S (tS : Tx S n) => jparse_any W (Lib.hid ((L.up u).lp (E.up u))) (i : Int) mode S n (Lib.hid tS) (by rw [tS.size]; have := M.pr_len h2; omega) q 0 0 (by rw [← hq]; exact (M.parsed h2 hm).2.2.2))
  have l1 : 0 < l.length := List.length_pos_iff.2 (M.pr_ne h1)
  have l2 : 0 < n.length := List.length_pos_iff.2 (M.pr_ne h2)
  have qq : (q != q) = false := by simp
  clear hd h1 h2 hp hv hq F L E pb
  go_enter Tryz.func5, Tryz.ntmps5
  go_wp2_with fail
  refine CH.out.mono ?_
  rintro _ w1 ⟨rfl, u1⟩
  replace U := U.trans u1
  clear u1 CH
  go_wp2_with fail
  refine (C1.out _ (by first | exact U | exact U.drew)).mono ?_
  rintro _ w2 ⟨S, rfl, tS, u2⟩
  replace U := Up.trans (by first | exact U | exact U.drew) u2
  have z1 : 0 < S.size := by rw [tS.size]; exact l1
  have HS := Lib.hid tS
  clear u2 C1 tS
  go_wp2_with fail
  refine (C2.out _ (by first | exact U | exact U.drew)).mono ?_
  rintro _ w3 ⟨T, rfl, tT, u3⟩
  replace U := Up.trans (by first | exact U | exact U.drew) u3
  have z2 : 0 < T.size := by rw [tT.size]; exact l2
  have HT := Lib.hid tT
  clear u3 C2 tT
  go_wp2_with fail
  refine (C3.out _ (by first | exact U | exact U.drew)).mono ?_
  rintro _ w4 ⟨rfl, u4⟩
  replace U := Up.trans (by first | exact U | exact U.drew) u4
  clear u4 C3 l1 l2
  go_wp2_with fail
  go_loopw [12] (fun mv wr => ∃ k : Nat, 1 ≤ k ∧ k ≤ 3 ∧ mv = .int .i64 (k : Int) ∧ Up w wr) (fun mv _ => 3 - (Lib.intOf mv).toNat)
  case atStart => exact ⟨1, by omega, by omega, rfl, by first | exact U | exact U.drew⟩
  case round =>
   obtain ⟨k, k1, k2, rfl, hu⟩ := hrel
   by_cases h2 : k ≤ 2
   ·have d1 : decide ((k : Int) ≤ 2) = true := decide_eq_true (by omega)
    go_wp2_with fail
    refine (C4.out _ (by first | exact hu | exact hu.drew) (k : Int) (by omega) S HS.out).mono ?_
    rintro _ w5 ⟨rfl, u5⟩
    replace hu := Up.trans (by first | exact hu | exact hu.drew) u5
    clear u5
    go_wp2_with fail
    refine (C5.out _ (by first | exact hu | exact hu.drew) (k : Int) (by omega) T HT.out).mono ?_
    rintro _ w6 ⟨rfl, u6⟩
    replace hu := Up.trans (by first | exact hu | exact hu.drew) u6
    clear u6
    go_wp2_with fail
    go_roundw
    case rel => exact ⟨k + 1, by omega, by omega, by go_num, by first | exact hu | exact hu.drew⟩
    case measure => simp [Lib.intOf]; omega
   ·have d1 : decide ((k : Int) ≤ 2) = false := decide_eq_false (by omega)
    have d2 : decide ((S.size : Int) > 0) = true := decide_eq_true (by omega)
    have d3 : decide ((T.size : Int) > 0) = true := decide_eq_true (by omega)
    go_wp2_with fail
    go_ret
    exact ⟨by first | rfl | simp, by first | exact hu | exact hu.drew⟩
 ·obtain rfl : y1 = e1 := by
   obtain ⟨c', g', m', z', hd', _⟩ := h1
   exact M.dc_err hd' hd
  obtain rfl : y2 = y1 := by
   obtain ⟨c', g', m', z', hd', _⟩ := h2
   exact M.dc_err hd' hd
  have hl : l = [] := by
   obtain ⟨c', g', m', z', _, ⟨_, h⟩ | ⟨h, _⟩ | ⟨h, _⟩⟩ := h1
   ·exact h
   ·exact absurd h way
   ·exact absurd h way
  have hn : n = [] := by
   obtain ⟨c', g', m', z', _, ⟨_, h⟩ | ⟨h, _⟩ | ⟨h, _⟩⟩ := h2
   ·exact h
   ·exact absurd h way
   ·exact absurd h way
  subst hl hn
  have C1 := Lib.hid (fun W (u : Up w W) => (F.print W x0 p [] y2 (L.up u) pb h1).mono fun _ _ h => h.lit)
  have C2 := Lib.hid (fun W (u : Up w W) => (F.full W x0 p [] y2 (L.up u) pb h2).mono fun _ _ h => h.lit)
  have C3 : Hid (∀ W, Up w W → Calls Tryz.prog 13 #[.int .i64 x0, .int .u64 (p : Int)] W (Wn 0 y2 W)) := fun W u => by
   rcases hd with ⟨a, _, _, _, _, rfl⟩ | ⟨i, rfl, i1, i2, ⟨a, _, _, _, _, rfl⟩ | ⟨_, _, e⟩⟩
   ·exact canon_out W x0 p a
   ·exact canon_big W (L.up u).form i i1 i2 (p : Int) (by omega) (by omega) (by omega)
   ·exact absurd e way
  have q0 : (y2 != y2) = false := by simp
  have q1 : (y2 != 0) = true := by rw [bne_iff_ne]; exact way
  have q2 : (y2 == y2) = true := by simp
  clear hd h1 h2 F L E pb way
  go_enter Tryz.func5, Tryz.ntmps5
  go_wp2_with fail
  refine CH.out.mono ?_
  rintro _ w1 ⟨rfl, u1⟩
  replace U := U.trans u1
  clear u1 CH
  go_wp2_with fail
  refine (C1.out _ (by first | exact U | exact U.drew)).mono ?_
  rintro _ w2 ⟨rfl, u2⟩
  replace U := Up.trans (by first | exact U | exact U.drew) u2
  clear u2 C1
  go_wp2_with fail
  refine (C2.out _ (by first | exact U | exact U.drew)).mono ?_
  rintro _ w3 ⟨rfl, u3⟩
  replace U := Up.trans (by first | exact U | exact U.drew) u3
  clear u3 C2
  go_wp2_with fail
  refine (C3.out _ (by first | exact U | exact U.drew)).mono ?_
  rintro _ w4 ⟨rfl, u4⟩
  replace U := Up.trans (by first | exact U | exact U.drew) u4
  clear u4 C3
  go_wp2_with fail
  go_ret
  exact ⟨by first | rfl | simp, by first | exact U | exact U.drew⟩
end Go.Proofs.YtcmlanfgafancaaGreatDoor
