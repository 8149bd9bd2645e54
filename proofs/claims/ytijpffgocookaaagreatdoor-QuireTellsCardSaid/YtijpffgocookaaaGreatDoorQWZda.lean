import Derived.Test.YtijpffgocookaaaGreatDoorQWYb
import Derived.Test.YtijpffgocookaaaGreatDoorQWVca
import Derived.Test.YtijpffgocookaaaGreatDoorQWRfa
import Derived.Deep.RegionHeld3
import Derived.Deep.DrawnRows
import Derived.Test.YtijpffgocookaaaGreatDoorQWRva
set_option maxHeartbeats 32000000
set_option linter.unusedVariables false
set_option linter.unusedSimpArgs false
namespace Go.Proofs.YtijpffgocookaaaGreatDoor
open Go.RowKit
def Kx (k : Nat) (o : Bool) (w : World) (e : Ending) (w' : World) : Prop := e = .returned (.tuple #[u64 k, .bool o]) ∧ Up w w'
namespace M
theorem least {f : Fm} {X q : Nat} (hb : ¬ Byd f X q) : ∃ j, j ≤ q ∧ ¬ Byd f X j ∧ ∀ i, i < j → Byd f X i := by
 classical
 have : ∀ n j : Nat, j + n = q → (∀ i, i < j → Byd f X i) → ∃ j, j ≤ q ∧ ¬ Byd f X j ∧ ∀ i, i < j → Byd f X i := by
  intro n
  induction n with
  | zero =>
   intro j hj hi
   obtain rfl : j = q := by omega
   exact ⟨j, Nat.le_refl _, hb, hi⟩
  | succ n ih =>
   intro j hj hi
   by_cases h : Byd f X j
   ·refine ih (j + 1) (by omega) (fun i h2 => ?_)
    rcases Nat.eq_or_lt_of_le (Nat.le_of_lt_succ h2) with rfl | h2
    ·exact h
    ·exact hi i h2
   ·exact ⟨j, by omega, h, hi⟩
 exact this q 0 (by omega) (fun i h => absurd h (Nat.not_lt_zero i))
theorem least_nr {f : Fm} {X q j : Nat} (q1 : 1 ≤ q) (ok : Ok f) (ok2 : Ok2 f) (ok3 : Ok3 f) (qt : (q : Int) ≤ tp f) (h1 : j ≤ q) (h2 : ¬ Byd f X j) (h3 : ∀ i, i < j → Byd f X i) : Nr f q X (if f.k = 1 ∧ j = 0 ∧ X ≠ 0 then 1 else j) false := by
 by_cases c : f.k = 1 ∧ j = 0 ∧ X ≠ 0
 ·rw [if_pos c]
  obtain ⟨c1, rfl, c3⟩ := c
  exact .inr ⟨rfl, q1, fun e => h2 (byd_down ok ok2 ok3 (by omega) (Nat.zero_le _) e), fun _ _ => by decide, fun i hi => .inr ⟨c1, c3, by omega⟩⟩
 ·rw [if_neg c]
  exact .inr ⟨rfl, h1, h2, fun a b e => c ⟨a, e, b⟩, fun i hi => .inl (h3 i hi)⟩
end M
set_option maxRecDepth 100000 in
theorem rsize_any (w : World) (m : Nat) (mb : m < 18446744073709551616) (m0 : m ≠ 0) (z : Int) : Calls Tryz.prog 164 #[u64 m, .int .i64 z] w (Xr false 1 m z 0 w) := by
 have d1 : ((m : Int) == 0) = false := by rw [beq_eq_false_iff_ne]; omega
 have U := Up.refl w
 go_enter Tryz.func164, Tryz.ntmps164
 go_wp2_with fail
 exact bodyPost_ret (v := xv false (.slice (some ⟨w.heap.size + 1, 0, none⟩) 1 1) z 0) (by simp [results, Tryz.results164, go_sem]) rfl ⟨_, rfl, (lit1_at (.cells #[.bool false, .slice (some ⟨w.heap.size + 1, 0, none⟩) 1 1, .int .i64 z, .int .i64 0] 34) w m (m : Int) rfl mb m0).lower (Nat.le_succ _), ((Up.refl w).alloc _).alloc _⟩
set_option maxRecDepth 100000 in
theorem rnone_any (w : World) (lo s : Nat) (neg : Bool) (v : Value) (t g : Int) (a : Nat) (h : Nt w lo s v a) (r : Bool) (hr : Hid (decide (a = 0) = r)) : Calls Tryz.prog 100 #[xv neg v t g] w (Bz r w) := by
 obtain ⟨A, n, c, xs, rfl, h1⟩ := h
 have hi := Nt.nil_iff (w := w) (lo := lo) (s := s) ⟨A, n, c, xs, rfl, h1⟩
 have e : ((n : Int) == 0) = r := by
  rw [← hr.out]
  by_cases h : a = 0
  ·rw [decide_eq_true h, beq_iff_eq]; omega
  ·rw [decide_eq_false h, beq_eq_false_iff_ne]; omega
 clear hr hi h1
 have U := Up.refl w
 go_enter Tryz.func100, Tryz.ntmps100
 go_wp2_with fail
 obtain ⟨V1, hV1, B, uV1⟩ := Ob.nw w 34 #[.bool neg, .slice A n c, .int .i64 t, .int .i64 g]
 have ltB : w.heap.size ≤ w.heap.size := U.size
 rw [hV1]
 clear hV1
 replace U := U.trans uV1
 clear uV1
 obtain ⟨B0, B1, B2, B3, Bf0, Bf1, Bf2, Bf3, Bl⟩ := B.c4
 go_wp2_with fail
 clear B0 Bf0 B1 Bf1 B2 Bf2 B3 Bf3 Bl
 go_ret
 exact ⟨by first | rfl | exact ret_bool e, U⟩
set_option maxRecDepth 100000 in
theorem rahead_any (w : World) (i : Nat) (f : M.Fm) (hf : Hid (M.tb i = f)) (i1 : 1 ≤ i) (i2 : i ≤ 14) (k : Nat) (kb : k < 18446744073709551616) (hk : (k : Int) ≤ M.tp f) (lo s : Nat) (neg : Bool) (v : Value) (t g : Int) (a : Nat) (h : Nt w lo s v a) (hs : s ≤ 100000) (bt : -5000 ≤ t ∧ t ≤ 5000) (bg : -5000 ≤ g ∧ g ≤ 5000) (r : Bool) (hr : Hid (r = true ↔ ¬ M.Byd f (M.sz a t g) k)) : Calls Tryz.prog 132 #[.int .i64 (i : Int), xv neg v t g, u64 k] w (Bz r w) := by
 have ok := M.ok i i1 i2
 have ok2 := M.ok2 i i1 i2
 have ok3 := M.ok3 i i1 i2
 rw [hf.out] at ok ok2 ok3
 obtain ⟨m, z, hbd⟩ := M.bd_ex ok ok2 hk
 obtain ⟨m0, mb, zb⟩ := M.bd_z ok ok2 ok3 hk hbd
 obtain ⟨c, hc⟩ : ∃ c, M.cmp (M.sz a t g) (M.sz m z 0) = c := ⟨_, rfl⟩
 have CB := Lib.hid (fun W => rbetween_any W (i : Int) k kb m z 0 (.inr ⟨i, rfl, i1, i2, .inr ⟨by rw [hf.out]; exact hk, by rw [hf.out]; exact hbd, rfl⟩⟩))
 have CS := Lib.hid (fun W => rsize_any W m mb (by omega) z)
 have CC := Lib.hid (fun W (U : Up w W) (lo' : Nat) (v' : Value) (n' : Nt W lo' 1 v' m) => rxcmp_any (-5000) W lo lo' s 1 neg false v v' t g z 0 a m (h.nw.up U) n'.nw hs (by omega) ⟨by omega, by omega, by omega⟩ ⟨by omega, by omega, by omega⟩ ⟨by omega, by omega, by omega⟩ ⟨by omega, by omega, by omega⟩ c (by rw [M.sz_ov, M.sz_ov]; exact hc))
 obtain ⟨ev, hev⟩ : ∃ ev, decide (k % 2 = 0) = ev := ⟨_, rfl⟩
 have em : ((k : Int).tmod 2 == 0) = ev := by
  rw [← hev, Int.tmod_eq_emod_of_nonneg (by omega)]
  by_cases h : k % 2 = 0
  ·rw [decide_eq_true h, beq_iff_eq]; omega
  ·rw [decide_eq_false h, beq_eq_false_iff_ne]; omega
 have hb : M.Byd f (M.sz a t g) k ↔ (c = 1 ∨ (c = 0 ∧ ev = false)) := by
  rw [M.byd_iff ⟨m, z, hbd, rfl⟩, ← hev, ← hc]
  rcases Nat.lt_trichotomy (M.sz a t g) (M.sz m z 0) with e | e | e
  ·rw [M.cmp_lt e]; simp; omega
  ·rw [M.cmp_eq e]; simp [e]
  ·rw [M.cmp_gt e]; simp; omega
 have hr2 := hr.out
 rw [hb] at hr2
 have rc : c = -1 ∨ c = 0 ∨ c = 1 := by
  have := M.cmp_rng (M.sz a t g) (M.sz m z 0)
  omega
 clear hr hb hc hbd hev ok ok2 ok3 hf i1 i2 hk h bt bg zb mb m0 hs
 have U := Up.refl w
 go_enter Tryz.func132, Tryz.ntmps132
 go_wp2_with fail
 obtain ⟨V1, hV1, B, uV1⟩ := Ob.nw w 34 #[.bool neg, v, .int .i64 t, .int .i64 g]
 have ltB : w.heap.size ≤ w.heap.size := U.size
 rw [hV1]
 clear hV1
 replace U := U.trans uV1
 clear uV1
 refine (CB.out _).mono ?_
 rintro _ w2 ⟨rfl, h2⟩
 replace U := U.trans h2
 replace B := B.up h2
 clear h2
 obtain ⟨W, hW⟩ : ∃ W, w2 = W := ⟨_, rfl⟩
 rw [hW] at B U ⊢
 clear hW
 go_upto_region 2 with fail
 obtain ⟨B0, B1, B2, B3, Bf0, Bf1, Bf2, Bf3, Bl⟩ := B.c4
 go_region_held3 (fun w' => w'.cell? ⟨w.heap.size, 0, none⟩ = some (.bool neg) ∧ w'.cell? ⟨w.heap.size, 1, none⟩ = some (v) ∧ w'.cell? ⟨w.heap.size, 2, none⟩ = some (.int .i64 t) ∧ w'.cell? ⟨w.heap.size, 3, none⟩ = some (.int .i64 g)) (go_keep) (first
  | (go_at_call 164; (with_reducible refine (CS.out _).mono ?_); rintro _ wA ⟨vA, rfl, nA, hua⟩; have uA : Up W wA := Up.trans (by first | with_reducible assumption | exact Up.refl _ | exact (Up.refl W).drewN 1) hua; have A0 := cell_up_ uA B0; have A1 := cell_up_ uA B1; have A2 := cell_up_ uA B2; have A3 := cell_up_ uA B3)
  | (go_at_call 163; (with_reducible refine (CC.out _ (U.trans uA) _ _ nA).mono ?_); rintro _ wC ⟨rfl, huc⟩; have uC : Up W wC := uA.trans huc; have C0 := cell_up_ uC B0; have C1 := cell_up_ uC B1; have C2 := cell_up_ uC B2; have C3 := cell_up_ uC B3))
 replace U := U.trans uC
 clear CB CC CS A0 C0 B0 A1 C1 B1 A2 C2 B2 A3 C3 B3 nA uA uC hua huc
 rcases rc with rfl | rfl | rfl
 ·
  obtain rfl : r = true := hr2.2 (by omega)
  clear hr2
  go_wp2_with fail
  go_ret
  exact ⟨by first | rfl | exact ret_bool em | simp, by first | exact U | exact U.drewN _ | exact U.drew⟩
 ·
  obtain rfl : r = ev := by
   cases ev
   ·cases r
    ·rfl
    ·exact absurd (.inr ⟨rfl, rfl⟩) (hr2.1 rfl)
   ·exact hr2.2 (by simp)
  clear hr2
  go_wp2_with fail
  go_ret
  exact ⟨by first | rfl | exact ret_bool em | simp, by first | exact U | exact U.drewN _ | exact U.drew⟩
 ·
  obtain rfl : r = false := by
   cases r
   ·rfl
   ·exact absurd (.inl rfl) (hr2.1 rfl)
  clear hr2
  go_wp2_with fail
  go_ret
  exact ⟨by first | rfl | exact ret_bool em | simp, by first | exact U | exact U.drewN _ | exact U.drew⟩
set_option maxRecDepth 100000 in
theorem rnearest8_any (w : World) (i : Nat) (f : M.Fm) (hf : Hid (M.tb i = f)) (i1 : 1 ≤ i) (i2 : i ≤ 14) (sg : Bool) (h4 : ¬ (f.k = 4 ∧ sg = true)) (lo s : Nat) (neg : Bool) (v : Value) (t g : Int) (a : Nat) (h : Nt w lo s v a) (hs : s ≤ 100000) (bt : -5000 ≤ t ∧ t ≤ 5000) (bg : -5000 ≤ g ∧ g ≤ 5000) (q k : Nat) (o : Bool) (hq : M.mst f sg = q) (hn : M.Nr f q (M.sz a t g) k o) : Calls Tryz.prog 101 #[.int .i64 (i : Int), .bool sg, xv neg v t g] w (Kx k o w) := by
 have ok := M.ok i i1 i2
 have ok2 := M.ok2 i i1 i2
 have ok3 := M.ok3 i i1 i2
 have CM := Lib.hid (fun W => rmost_any W (i : Int) sg (q : Int) 0 (.inr ⟨i, rfl, i1, i2, .inr ⟨by rw [hf.out]; exact h4, by rw [hf.out]; exact hq.symm, rfl⟩⟩))
 rw [hf.out] at ok ok2 ok3
 obtain ⟨q', hq', q3, qb, qt⟩ := M.mst_rng ok ok2 ok3 sg
 obtain rfl : q = q' := by omega
 have X0 : M.sz a t g = 0 ↔ a = 0 := M.sz_zero
 have CA := Lib.hid (fun W (U : Up w W) (j : Nat) (hj : j ≤ q) (r : Bool) (hr : Hid (r = true ↔ ¬ M.Byd f (M.sz a t g) j)) => rahead_any W i f hf i1 i2 j (by omega) (by omega) lo s neg v t g a (h.up U) hs bt bg r hr)
 have CZ := Lib.hid (fun W (U : Up w W) (r : Bool) (hr : Hid (decide (a = 0) = r)) => rnone_any W lo s neg v t g a (h.up U) r hr)
 have CF := Lib.hid (fun W => rof_in W i f hf i1 i2)
 obtain ⟨X, hX⟩ : ∃ X, M.sz a t g = X := ⟨_, rfl⟩
 rw [hX] at hn CA X0
 clear hX h hs bt bg hf h4 hq hq'
 by_cases hb : M.Byd f X q
 ·
  obtain ⟨rfl, rfl⟩ := M.nr_uniq ok ok2 ok3 qt hn (.inl ⟨rfl, rfl, hb⟩)
  have CA1 := Lib.hid (fun W U => CA.out W U k (Nat.le_refl _) false ⟨fun e => (by cases e), fun e => absurd hb e⟩)
  clear CA CZ CF hn hb X0 ok ok2 ok3 qt
  have U := Up.refl w
  go_enter Tryz.func101, Tryz.ntmps101
  go_wp2_with fail
  obtain ⟨V1, hV1, B, uV1⟩ := Ob.nw w 34 #[.bool neg, v, .int .i64 t, .int .i64 g]
  have ltB : w.heap.size ≤ w.heap.size := U.size
  rw [hV1]
  clear hV1
  replace U := U.trans uV1
  clear uV1
  refine (CM.out _).mono ?_
  rintro _ w2 ⟨rfl, h2⟩
  replace U := U.trans h2
  replace B := B.up h2
  clear h2
  obtain ⟨B0, B1, B2, B3, Bf0, Bf1, Bf2, Bf3, Bl⟩ := B.c4
  go_wp2_with fail
  clear B0 Bf0 B1 Bf1 B2 Bf2 B3 Bf3 Bl
  refine (CA1.out _ U).mono ?_
  rintro _ w3 ⟨rfl, h3⟩
  replace U := U.trans h3
  replace B := B.up h3
  clear h3
  go_wp2_with fail
  go_ret2
  exact ⟨rfl, U⟩
 ·
  obtain ⟨j, jq, jb, jl⟩ := M.least hb
  obtain ⟨hk, rfl⟩ := M.nr_uniq ok ok2 ok3 qt hn (M.least_nr (by omega) ok ok2 ok3 qt jq jb jl)
  have HB : Hid (∀ i, i ≤ q → (¬ M.Byd f X i ↔ j ≤ i)) := fun i h1 => by
   constructor
   ·intro h3
    rcases Nat.lt_or_ge i j with e | e
    ·exact absurd (jl i e) h3
    ·exact e
   ·exact fun h2 h3 => jb (M.byd_down ok ok2 ok3 (by omega) h2 h3)
  have CA1 := Lib.hid (fun W U => CA.out W U q (Nat.le_refl _) true ⟨fun _ => hb, fun _ => rfl⟩)
  have HK := Lib.hid hk
  have HX := Lib.hid X0
  clear hn hb jb jl ok ok2 ok3 qt hk X0
  have U := Up.refl w
  go_enter Tryz.func101, Tryz.ntmps101
  go_wp2_with fail
  obtain ⟨V1, hV1, B, uV1⟩ := Ob.nw w 34 #[.bool neg, v, .int .i64 t, .int .i64 g]
  have ltB : w.heap.size ≤ w.heap.size := U.size
  rw [hV1]
  clear hV1
  replace U := U.trans uV1
  clear uV1
  refine (CM.out _).mono ?_
  rintro _ w2 ⟨rfl, h2⟩
  replace U := U.trans h2
  replace B := B.up h2
  clear h2
  obtain ⟨B0, B1, B2, B3, Bf0, Bf1, Bf2, Bf3, Bl⟩ := B.c4
  go_wp2_with fail
  clear B0 Bf0 B1 Bf1 B2 Bf2 B3 Bf3 Bl
  refine (CA1.out _ U).mono ?_
  rintro _ w3 ⟨rfl, h3⟩
  replace U := U.trans h3
  replace B := B.up h3
  clear h3
  go_wp2_with fail
  go_loopw [11, 12] (fun lv hv wr => ∃ l1 h1 : Nat, lv = u64 l1 ∧ hv = u64 h1 ∧ l1 ≤ j ∧ j ≤ h1 ∧ h1 ≤ q ∧ Up w wr ∧ Ob wr w.heap.size 34 #[.bool neg, v, .int .i64 t, .int .i64 g]) (fun lv hv _ => (intOf hv).toNat - (intOf lv).toNat)
  case atStart => exact ⟨0, q, rfl, rfl, Nat.zero_le _, jq, Nat.le_refl _, U, B⟩
  case round =>
   obtain ⟨l1, h1, rfl, rfl, b2, b3, b4, U, B⟩ := hrel
   by_cases c : l1 = h1
   ·subst c
    obtain rfl : j = l1 := by omega
    clear HB b2 b3 b4 CA CA1
    rcases (show (f.k = 1 ∧ j = 0 ∧ X = 0) ∨ (f.k = 1 ∧ j = 0 ∧ X ≠ 0) ∨ (f.k = 1 ∧ j ≠ 0) ∨ f.k ≠ 1 by omega) with c | c | c | c
    ·
     obtain ⟨c1, rfl, c3⟩ := c
     obtain rfl : k = 0 := by rw [HK.out, if_neg (fun e => e.2.2 c3)]
     have d1 : (f.k == 1) = true := by simpa using c1
     have CZ1 := Lib.hid (fun W U => CZ.out W U true (decide_eq_true (HX.out.1 c3)))
     clear CZ HK c1 c3 HX
     go_wp2_with fail
     refine (CF.out _).mono ?_
     rintro _ w4 ⟨rfl, h4⟩
     replace U := U.trans h4
     replace B := B.up h4
     clear h4
     obtain ⟨B0, B1, B2, B3, Bf0, Bf1, Bf2, Bf3, Bl⟩ := B.c4
     go_wp2_with fail
     clear B0 Bf0 B1 Bf1 B2 Bf2 B3 Bf3 Bl
     obtain ⟨V5, hV5, C, uV5⟩ := Bf.nw w4 f 79
     have ltC : w.heap.size ≤ w4.heap.size := U.size
     rw [hV5]
     clear hV5
     replace U := U.trans uV5
     replace B := B.up uV5
     clear uV5
     refine (CZ1.out _ U).mono ?_
     rintro _ w6 ⟨rfl, h6⟩
     replace U := U.trans h6
     replace C := C.up h6
     replace B := B.up h6
     clear h6
     obtain ⟨C0, C1, C2, C3, C4, C5, C6⟩ := Bf.cs C
     have C7 := Bf.lt C
     simp only [Nat.zero_add] at C0 C1 C2 C3 C4 C5 C6 C7
     go_wp2_with fail
     clear C0 C1 C2 C3 C4 C5 C6 C7
     go_ret2
     exact ⟨rfl, U⟩
    ·
     obtain ⟨c1, rfl, c3⟩ := c
     obtain rfl : k = 1 := by rw [HK.out, if_pos ⟨c1, rfl, c3⟩]
     have d1 : (f.k == 1) = true := by simpa using c1
     have CZ1 := Lib.hid (fun W U => CZ.out W U false (decide_eq_false (fun e => c3 (HX.out.2 e))))
     clear CZ HK c1 c3 HX
     go_wp2_with fail
     refine (CF.out _).mono ?_
     rintro _ w4 ⟨rfl, h4⟩
     replace U := U.trans h4
     replace B := B.up h4
     clear h4
     obtain ⟨B0, B1, B2, B3, Bf0, Bf1, Bf2, Bf3, Bl⟩ := B.c4
     go_wp2_with fail
     clear B0 Bf0 B1 Bf1 B2 Bf2 B3 Bf3 Bl
     obtain ⟨V5, hV5, C, uV5⟩ := Bf.nw w4 f 79
     have ltC : w.heap.size ≤ w4.heap.size := U.size
     rw [hV5]
     clear hV5
     replace U := U.trans uV5
     replace B := B.up uV5
     clear uV5
     refine (CZ1.out _ U).mono ?_
     rintro _ w6 ⟨rfl, h6⟩
     replace U := U.trans h6
     replace C := C.up h6
     replace B := B.up h6
     clear h6
     obtain ⟨C0, C1, C2, C3, C4, C5, C6⟩ := Bf.cs C
     have C7 := Bf.lt C
     simp only [Nat.zero_add] at C0 C1 C2 C3 C4 C5 C6 C7
     go_wp2_with fail
     clear C0 C1 C2 C3 C4 C5 C6 C7
     go_ret2
     exact ⟨rfl, U⟩
    ·
     obtain ⟨c1, c2⟩ := c
     obtain rfl : k = j := by rw [HK.out, if_neg (fun e => c2 e.2.1)]
     have d1 : (f.k == 1) = true := by simpa using c1
     have d2 : ((k : Int) == 0) = false := by rw [beq_eq_false_iff_ne]; omega
     obtain ⟨r, hr⟩ : ∃ r, decide (a = 0) = r := ⟨_, rfl⟩
     have CZ1 := Lib.hid (fun W U => CZ.out W U r hr)
     clear CZ HK c1 c2 HX hr
     go_wp2_with fail
     refine (CF.out _).mono ?_
     rintro _ w4 ⟨rfl, h4⟩
     replace U := U.trans h4
     replace B := B.up h4
     clear h4
     obtain ⟨B0, B1, B2, B3, Bf0, Bf1, Bf2, Bf3, Bl⟩ := B.c4
     go_wp2_with fail
     clear B0 Bf0 B1 Bf1 B2 Bf2 B3 Bf3 Bl
     obtain ⟨V5, hV5, C, uV5⟩ := Bf.nw w4 f 79
     have ltC : w.heap.size ≤ w4.heap.size := U.size
     rw [hV5]
     clear hV5
     replace U := U.trans uV5
     replace B := B.up uV5
     clear uV5
     refine (CZ1.out _ U).mono ?_
     rintro _ w6 ⟨rfl, h6⟩
     replace U := U.trans h6
     replace C := C.up h6
     replace B := B.up h6
     clear h6
     obtain ⟨C0, C1, C2, C3, C4, C5, C6⟩ := Bf.cs C
     have C7 := Bf.lt C
     simp only [Nat.zero_add] at C0 C1 C2 C3 C4 C5 C6 C7
     go_wp2_with fail
     clear C0 C1 C2 C3 C4 C5 C6 C7
     go_ret2
     exact ⟨rfl, U⟩
    ·
     obtain rfl : k = j := by rw [HK.out, if_neg (fun e => c e.1)]
     have d1 : (f.k == 1) = false := by simpa using c
     obtain ⟨r, hr⟩ : ∃ r, decide (a = 0) = r := ⟨_, rfl⟩
     have CZ1 := Lib.hid (fun W U => CZ.out W U r hr)
     clear CZ HK c HX hr
     go_wp2_with fail
     refine (CF.out _).mono ?_
     rintro _ w4 ⟨rfl, h4⟩
     replace U := U.trans h4
     replace B := B.up h4
     clear h4
     obtain ⟨B0, B1, B2, B3, Bf0, Bf1, Bf2, Bf3, Bl⟩ := B.c4
     go_wp2_with fail
     clear B0 Bf0 B1 Bf1 B2 Bf2 B3 Bf3 Bl
     obtain ⟨V5, hV5, C, uV5⟩ := Bf.nw w4 f 79
     have ltC : w.heap.size ≤ w4.heap.size := U.size
     rw [hV5]
     clear hV5
     replace U := U.trans uV5
     replace B := B.up uV5
     clear uV5
     refine (CZ1.out _ U).mono ?_
     rintro _ w6 ⟨rfl, h6⟩
     replace U := U.trans h6
     replace C := C.up h6
     replace B := B.up h6
     clear h6
     obtain ⟨C0, C1, C2, C3, C4, C5, C6⟩ := Bf.cs C
     have C7 := Bf.lt C
     simp only [Nat.zero_add] at C0 C1 C2 C3 C4 C5 C6 C7
     go_wp2_with fail
     clear C0 C1 C2 C3 C4 C5 C6 C7
     go_ret2
     exact ⟨rfl, U⟩
   ·have hlt : l1 < h1 := by omega
    obtain ⟨D, hD⟩ : ∃ D, h1 - l1 = D := ⟨_, rfl⟩
    obtain ⟨E, hE⟩ : ∃ E, D / 2 = E := ⟨_, rfl⟩
    obtain ⟨md, hmd⟩ : ∃ md, l1 + E = md := ⟨_, rfl⟩
    have e1 : IntKind.u64.wrap ((h1 : Int) - (l1 : Int)) = (D : Int) := wrap_u64 (by omega) (by omega)
    have e2 : (D : Int).tdiv 2 = (E : Int) := by rw [Int.tdiv_eq_ediv_of_nonneg (by omega)]; omega
    have e5 : IntKind.u64.wrap (E : Int) = (E : Int) := wrap_u64 rfl (by omega)
    have e3 : IntKind.u64.wrap ((l1 : Int) + (E : Int)) = (md : Int) := wrap_u64 (by omega) (by omega)
    have e4 : IntKind.u64.wrap ((md : Int) + 1) = ((md + 1 : Nat) : Int) := wrap_u64 (by omega) (by omega)
    have m1 : l1 ≤ md ∧ md < h1 := by omega
    have mb : md < 18446744073709551616 := by omega
    obtain ⟨r, hr⟩ : ∃ r, decide (j ≤ md) = r := ⟨_, rfl⟩
    have CB1 := Lib.hid (fun W (U : Up w W) => CA.out W U md (by omega) r (by show _ ↔ _; rw [HB.out md (by omega), ← hr, decide_eq_true_iff]))
    clear hD hE hmd c
    obtain ⟨B0, B1, B2, B3, Bf0, Bf1, Bf2, Bf3, Bl⟩ := B.c4
    go_wp2_with fail
    clear B0 Bf0 B1 Bf1 B2 Bf2 B3 Bf3 Bl
    refine (CB1.out _ U).mono ?_
    rintro _ w4 ⟨rfl, h4⟩
    replace U := U.trans h4
    replace B := B.up h4
    clear h4
    cases r
    ·
     have hr2 : ¬ j ≤ md := of_decide_eq_false hr
     clear hr CB1
     go_wp2_with fail
     go_roundw
     case rel => exact ⟨md + 1, h1, by first | rfl | (rw [e4]), rfl, by omega, by omega, by omega, U, B⟩
     case measure => simp [intOf]; omega
    ·
     have hr2 : j ≤ md := of_decide_eq_true hr
     clear hr CB1
     go_wp2_with fail
     go_roundw
     case rel => exact ⟨l1, md, rfl, rfl, by omega, by omega, by omega, U, B⟩
     case measure => simp [intOf]; omega
set_option maxRecDepth 100000 in
theorem rround8_any (w : World) (i : Nat) (f : M.Fm) (hf : Hid (M.tb i = f)) (i1 : 1 ≤ i) (i2 : i ≤ 14) (mode : Int) (lo s : Nat) (neg : Bool) (v : Value) (t g : Int) (a : Nat) (h : Nt w lo s v a) (hs : s ≤ 100000) (bt : -5000 ≤ t ∧ t ≤ 5000) (bg : -5000 ≤ g ∧ g ≤ 5000) (p : Int) (hp : M.Rv f mode neg (M.sz a t g) p) : Calls Tryz.prog 63 #[.int .i64 (i : Int), .int .i64 mode, xv neg v t g] w (Wz p w) := by
 have ok := M.ok i i1 i2
 have ok2 := M.ok2 i i1 i2
 have ok3 := M.ok3 i i1 i2
 rw [hf.out] at ok ok2 ok3
 have X0 : M.sz a t g = 0 ↔ a = 0 := M.sz_zero
 have CF := Lib.hid (fun W => rof_in W i f hf i1 i2)
 have CZ := Lib.hid (fun W (U : Up w W) (r : Bool) (hr : Hid (decide (a = 0) = r)) => rnone_any W lo s neg v t g a (h.up U) r hr)
 have CN := Lib.hid (fun W (U : Up w W) (h4 : ¬ (f.k = 4 ∧ neg = true)) (q k : Nat) (o : Bool) (hq : M.mst f neg = q) (hn : M.Nr f q (M.sz a t g) k o) => rnearest8_any W i f hf i1 i2 neg h4 lo s neg v t g a (h.up U) hs bt bg q k o hq hn)
 have CP := Lib.hid (fun W (k : Nat) (kb : k < 18446744073709551616) (y : Int) (hy : M.Pc (i : Int) neg k y 0) => rpattern_any W (i : Int) neg k kb y 0 hy)
 obtain ⟨X, hX⟩ : ∃ X, M.sz a t g = X := ⟨_, rfl⟩
 rw [hX] at hp CN X0
 clear hX h hs bt bg
 rcases hp with ⟨h4, hnx, rfl⟩ | ⟨h4, q, k, o, hq, hn, hp⟩
 ·
  have d1 : (f.k == 4) = true := by simpa using h4
  by_cases a0 : a = 0
  ·
   have CZ1 := Lib.hid (fun W U => CZ.out W U true (decide_eq_true a0))
   clear CZ CN CP X0 ok ok2 ok3 hnx a0 h4 hf
   have U := Up.refl w
   go_enter Tryz.func63, Tryz.ntmps63
   go_wp2_with fail
   obtain ⟨V1, hV1, B, uV1⟩ := Ob.nw w 34 #[.bool neg, v, .int .i64 t, .int .i64 g]
   have ltB : w.heap.size ≤ w.heap.size := U.size
   rw [hV1]
   clear hV1
   replace U := U.trans uV1
   clear uV1
   refine (CF.out _).mono ?_
   rintro _ w2 ⟨rfl, h2⟩
   replace U := U.trans h2
   replace B := B.up h2
   clear h2
   obtain ⟨B0, B1, B2, B3, Bf0, Bf1, Bf2, Bf3, Bl⟩ := B.c4
   go_wp2_with fail
   clear B0 Bf0 B1 Bf1 B2 Bf2 B3 Bf3 Bl
   obtain ⟨V3, hV3, C, uV3⟩ := Bf.nw w2 f 79
   have ltC : w.heap.size ≤ w2.heap.size := U.size
   rw [hV3]
   clear hV3
   replace U := U.trans uV3
   replace B := B.up uV3
   clear uV3
   refine (CZ1.out _ U).mono ?_
   rintro _ w4 ⟨rfl, h4⟩
   replace U := U.trans h4
   replace C := C.up h4
   replace B := B.up h4
   clear h4
   obtain ⟨C0, C1, C2, C3, C4, C5, C6⟩ := Bf.cs C
   have C7 := Bf.lt C
   simp only [Nat.zero_add] at C0 C1 C2 C3 C4 C5 C6 C7
   obtain ⟨B0, B1, B2, B3, Bf0, Bf1, Bf2, Bf3, Bl⟩ := B.c4
   go_wp2_with fail
   clear C0 C1 C2 C3 C4 C5 C6 C7
   clear B0 Bf0 B1 Bf1 B2 Bf2 B3 Bf3 Bl
   go_ret
   exact ⟨rfl, U⟩
  ·
   obtain rfl : neg = true := by
    rcases hnx with e | e
    ·exact e
    ·exact absurd (X0.1 e) a0
   have CZ1 := Lib.hid (fun W U => CZ.out W U false (decide_eq_false a0))
   clear CZ CN CP X0 ok ok2 ok3 hnx a0 h4 hf
   have U := Up.refl w
   go_enter Tryz.func63, Tryz.ntmps63
   go_wp2_with fail
   obtain ⟨V1, hV1, B, uV1⟩ := Ob.nw w 34 #[.bool true, v, .int .i64 t, .int .i64 g]
   have ltB : w.heap.size ≤ w.heap.size := U.size
   rw [hV1]
   clear hV1
   replace U := U.trans uV1
   clear uV1
   refine (CF.out _).mono ?_
   rintro _ w2 ⟨rfl, h2⟩
   replace U := U.trans h2
   replace B := B.up h2
   clear h2
   obtain ⟨B0, B1, B2, B3, Bf0, Bf1, Bf2, Bf3, Bl⟩ := B.c4
   go_wp2_with fail
   clear B0 Bf0 B1 Bf1 B2 Bf2 B3 Bf3 Bl
   obtain ⟨V3, hV3, C, uV3⟩ := Bf.nw w2 f 79
   have ltC : w.heap.size ≤ w2.heap.size := U.size
   rw [hV3]
   clear hV3
   replace U := U.trans uV3
   replace B := B.up uV3
   clear uV3
   refine (CZ1.out _ U).mono ?_
   rintro _ w4 ⟨rfl, h4⟩
   replace U := U.trans h4
   replace C := C.up h4
   replace B := B.up h4
   clear h4
   obtain ⟨C0, C1, C2, C3, C4, C5, C6⟩ := Bf.cs C
   have C7 := Bf.lt C
   simp only [Nat.zero_add] at C0 C1 C2 C3 C4 C5 C6 C7
   obtain ⟨B0, B1, B2, B3, Bf0, Bf1, Bf2, Bf3, Bl⟩ := B.c4
   go_wp2_with fail
   clear C0 C1 C2 C3 C4 C5 C6 C7
   clear B0 Bf0 B1 Bf1 B2 Bf2 B3 Bf3 Bl
   go_ret
   exact ⟨rfl, U⟩
 ·
  obtain ⟨q', hq', q3, qb, qt⟩ := M.mst_rng ok ok2 ok3 neg
  obtain rfl : q = q' := by omega
  have kq : k ≤ q := by
   rcases hn with ⟨_, rfl, _⟩ | ⟨_, h, _⟩
   ·exact Nat.le_refl _
   ·exact h
  have h4' : ¬ (f.k = 4 ∧ neg = true) := fun e => h4 ⟨e.1, .inl e.2⟩
  have CN1 := Lib.hid (fun W (U : Up w W) => CN.out W U h4' q k o hq hn)
  have CP1 := Lib.hid (fun W => CP.out W k (by omega) (M.pat f neg k) (.inr ⟨i, rfl, i1, i2, .inr ⟨by rw [hf.out]; exact h4', .inr ⟨by rw [hf.out, hq]; omega, by rw [hf.out], rfl⟩⟩⟩))
  obtain ⟨y, hy⟩ : ∃ y, M.pat f neg k = y := ⟨_, rfl⟩
  rw [hy] at CP1 hp
  obtain ⟨zr, hzr⟩ : ∃ zr, decide (a = 0) = zr := ⟨_, rfl⟩
  have CZ1 := Lib.hid (fun W U => CZ.out W U zr hzr)
  have kb : k < 18446744073709551616 := by omega
  have K4 : ((f.k == 4) = false) ∨ ((f.k == 4) = true ∧ neg = false ∧ zr = false) := by
   by_cases e : f.k = 4
   ·refine .inr ⟨by simpa using e, ?_, ?_⟩
    ·cases neg
     ·rfl
     ·exact absurd ⟨e, .inl rfl⟩ h4
    ·rw [← hzr]
     exact decide_eq_false (fun a0 => h4 ⟨e, .inr (X0.2 a0)⟩)
   ·exact .inl (by simpa using e)
  have HP : (o = false ∧ p = y) ∨ (o = true ∧ f.k = 1 ∧ p = y) ∨ (o = true ∧ f.k ≠ 1 ∧ mode = 1 ∧ p = y) ∨ (o = true ∧ f.k ≠ 1 ∧ mode ≠ 1 ∧ f.n = 0 ∧ f.x = 0 ∧ p = y) ∨ (o = true ∧ f.k ≠ 1 ∧ mode ≠ 1 ∧ f.n = 0 ∧ f.x ≠ 0 ∧ p = f.x) ∨ (o = true ∧ f.k ≠ 1 ∧ mode ≠ 1 ∧ f.n ≠ 0 ∧ p = if neg = true then f.n + M.half f else f.n) := by
   rcases hp with ⟨ho, hs, rfl⟩ | ⟨hs, rfl⟩
   ·unfold M.st at hs
    unfold M.tl
    by_cases n0 : f.n = 0
    ·rw [if_pos n0]
     exact .inr (.inr (.inr (.inr (.inl ⟨ho, fun e => hs (.inr (.inl e)), fun e => hs (.inl e), n0, fun e => hs (.inr (.inr ⟨n0, e⟩)), rfl⟩))))
    ·rw [if_neg n0]
     exact .inr (.inr (.inr (.inr (.inr ⟨ho, fun e => hs (.inr (.inl e)), fun e => hs (.inl e), n0, rfl⟩))))
   ·cases o with
    | false => exact .inl ⟨rfl, rfl⟩
    | true =>
     have h5 : M.st f mode := Classical.byContradiction (fun e => hs ⟨rfl, e⟩)
     unfold M.st at h5
     by_cases k1 : f.k = 1
     ·exact .inr (.inl ⟨rfl, k1, rfl⟩)
     ·by_cases m1 : mode = 1
      ·exact .inr (.inr (.inl ⟨rfl, k1, m1, rfl⟩))
      ·exact .inr (.inr (.inr (.inl ⟨rfl, k1, m1, by omega, by omega, rfl⟩)))
  obtain ⟨S, hS⟩ : ∃ z, M.sgn f = z := ⟨_, rfl⟩
  have CS := Lib.hid (fun W => rsign_any W f ok S (Lib.hid hS))
  have SF : f.n ≠ 0 → IntKind.u64.wrap (f.n + S) = f.n + M.half f := fun e => by
   obtain ⟨k2, _, n2⟩ := ok3.most e
   have e2 := ((M.sgn_ok ok).2 (by omega)).1
   rw [hS] at e2
   rw [e2]
   have := ok.hm
   have := ok.n
   simp [IntKind.wrap, IntKind.bits, IntKind.signed]
   omega
  clear hy hn hq hq' h4 h4' q3 qt kq CN CP CZ hzr ok ok2 ok3 X0 hf hp hS
  rcases HP with ⟨rfl, rfl⟩ | ⟨rfl, c1, rfl⟩ | ⟨rfl, c1, rfl, rfl⟩ | ⟨rfl, c1, c2, c3, c4, rfl⟩ | ⟨rfl, c1, c2, c3, c4, rfl⟩ | ⟨rfl, c1, c2, c3, hp⟩
  ·
   clear CS SF
   rcases K4 with d1 | ⟨d1, rfl, rfl⟩
   ·
    have U := Up.refl w
    go_enter Tryz.func63, Tryz.ntmps63
    go_wp2_with fail
    obtain ⟨V1, hV1, B, uV1⟩ := Ob.nw w 34 #[.bool neg, v, .int .i64 t, .int .i64 g]
    have ltB : w.heap.size ≤ w.heap.size := U.size
    rw [hV1]
    clear hV1
    replace U := U.trans uV1
    clear uV1
    refine (CF.out _).mono ?_
    rintro _ w2 ⟨rfl, h2⟩
    replace U := U.trans h2
    replace B := B.up h2
    clear h2
    obtain ⟨B0, B1, B2, B3, Bf0, Bf1, Bf2, Bf3, Bl⟩ := B.c4
    go_wp2_with fail
    clear B0 Bf0 B1 Bf1 B2 Bf2 B3 Bf3 Bl
    obtain ⟨V3, hV3, C, uV3⟩ := Bf.nw w2 f 79
    have ltC : w.heap.size ≤ w2.heap.size := U.size
    rw [hV3]
    clear hV3
    replace U := U.trans uV3
    replace B := B.up uV3
    clear uV3
    refine (CZ1.out _ U).mono ?_
    rintro _ w4 ⟨rfl, h4⟩
    replace U := U.trans h4
    replace C := C.up h4
    replace B := B.up h4
    clear h4
    obtain ⟨C0, C1, C2, C3, C4, C5, C6⟩ := Bf.cs C
    have C7 := Bf.lt C
    simp only [Nat.zero_add] at C0 C1 C2 C3 C4 C5 C6 C7
    obtain ⟨B0, B1, B2, B3, Bf0, Bf1, Bf2, Bf3, Bl⟩ := B.c4
    go_wp2_with fail
    clear C0 C1 C2 C3 C4 C5 C6 C7
    clear B0 Bf0 B1 Bf1 B2 Bf2 B3 Bf3 Bl
    refine (CN1.out _ U).mono ?_
    rintro _ w5 ⟨rfl, h5⟩
    replace U := U.trans h5
    replace C := C.up h5
    replace B := B.up h5
    clear h5
    obtain ⟨C0, C1, C2, C3, C4, C5, C6⟩ := Bf.cs C
    have C7 := Bf.lt C
    simp only [Nat.zero_add] at C0 C1 C2 C3 C4 C5 C6 C7
    obtain ⟨B0, B1, B2, B3, Bf0, Bf1, Bf2, Bf3, Bl⟩ := B.c4
    go_wp2_with fail
    clear C0 C1 C2 C3 C4 C5 C6 C7
    clear B0 Bf0 B1 Bf1 B2 Bf2 B3 Bf3 Bl
    refine (CP1.out _).mono ?_
    rintro _ w6 ⟨rfl, h6⟩
    replace U := U.trans h6
    replace C := C.up h6
    replace B := B.up h6
    clear h6
    obtain ⟨C0, C1, C2, C3, C4, C5, C6⟩ := Bf.cs C
    have C7 := Bf.lt C
    simp only [Nat.zero_add] at C0 C1 C2 C3 C4 C5 C6 C7
    obtain ⟨B0, B1, B2, B3, Bf0, Bf1, Bf2, Bf3, Bl⟩ := B.c4
    go_wp2_with fail
    clear C0 C1 C2 C3 C4 C5 C6 C7
    clear B0 Bf0 B1 Bf1 B2 Bf2 B3 Bf3 Bl
    go_ret
    exact ⟨by first | rfl | simp, U⟩
   ·
    have U := Up.refl w
    go_enter Tryz.func63, Tryz.ntmps63
    go_wp2_with fail
    obtain ⟨V1, hV1, B, uV1⟩ := Ob.nw w 34 #[.bool false, v, .int .i64 t, .int .i64 g]
    have ltB : w.heap.size ≤ w.heap.size := U.size
    rw [hV1]
    clear hV1
    replace U := U.trans uV1
    clear uV1
    refine (CF.out _).mono ?_
    rintro _ w2 ⟨rfl, h2⟩
    replace U := U.trans h2
    replace B := B.up h2
    clear h2
    obtain ⟨B0, B1, B2, B3, Bf0, Bf1, Bf2, Bf3, Bl⟩ := B.c4
    go_wp2_with fail
    clear B0 Bf0 B1 Bf1 B2 Bf2 B3 Bf3 Bl
    obtain ⟨V3, hV3, C, uV3⟩ := Bf.nw w2 f 79
    have ltC : w.heap.size ≤ w2.heap.size := U.size
    rw [hV3]
    clear hV3
    replace U := U.trans uV3
    replace B := B.up uV3
    clear uV3
    refine (CZ1.out _ U).mono ?_
    rintro _ w4 ⟨rfl, h4⟩
    replace U := U.trans h4
    replace C := C.up h4
    replace B := B.up h4
    clear h4
    obtain ⟨C0, C1, C2, C3, C4, C5, C6⟩ := Bf.cs C
    have C7 := Bf.lt C
    simp only [Nat.zero_add] at C0 C1 C2 C3 C4 C5 C6 C7
    obtain ⟨B0, B1, B2, B3, Bf0, Bf1, Bf2, Bf3, Bl⟩ := B.c4
    go_wp2_with fail
    clear C0 C1 C2 C3 C4 C5 C6 C7
    clear B0 Bf0 B1 Bf1 B2 Bf2 B3 Bf3 Bl
    refine (CN1.out _ U).mono ?_
    rintro _ w5 ⟨rfl, h5⟩
    replace U := U.trans h5
    replace C := C.up h5
    replace B := B.up h5
    clear h5
    obtain ⟨C0, C1, C2, C3, C4, C5, C6⟩ := Bf.cs C
    have C7 := Bf.lt C
    simp only [Nat.zero_add] at C0 C1 C2 C3 C4 C5 C6 C7
    obtain ⟨B0, B1, B2, B3, Bf0, Bf1, Bf2, Bf3, Bl⟩ := B.c4
    go_wp2_with fail
    clear C0 C1 C2 C3 C4 C5 C6 C7
    clear B0 Bf0 B1 Bf1 B2 Bf2 B3 Bf3 Bl
    refine (CP1.out _).mono ?_
    rintro _ w6 ⟨rfl, h6⟩
    replace U := U.trans h6
    replace C := C.up h6
    replace B := B.up h6
    clear h6
    obtain ⟨C0, C1, C2, C3, C4, C5, C6⟩ := Bf.cs C
    have C7 := Bf.lt C
    simp only [Nat.zero_add] at C0 C1 C2 C3 C4 C5 C6 C7
    obtain ⟨B0, B1, B2, B3, Bf0, Bf1, Bf2, Bf3, Bl⟩ := B.c4
    go_wp2_with fail
    clear C0 C1 C2 C3 C4 C5 C6 C7
    clear B0 Bf0 B1 Bf1 B2 Bf2 B3 Bf3 Bl
    go_ret
    exact ⟨by first | rfl | simp, U⟩
  ·
   have k1 : (f.k == 1) = true := by simpa using c1
   clear CS SF c1
   rcases K4 with d1 | ⟨d1, rfl, rfl⟩
   ·
    have U := Up.refl w
    go_enter Tryz.func63, Tryz.ntmps63
    go_wp2_with fail
    obtain ⟨V1, hV1, B, uV1⟩ := Ob.nw w 34 #[.bool neg, v, .int .i64 t, .int .i64 g]
    have ltB : w.heap.size ≤ w.heap.size := U.size
    rw [hV1]
    clear hV1
    replace U := U.trans uV1
    clear uV1
    refine (CF.out _).mono ?_
    rintro _ w2 ⟨rfl, h2⟩
    replace U := U.trans h2
    replace B := B.up h2
    clear h2
    obtain ⟨B0, B1, B2, B3, Bf0, Bf1, Bf2, Bf3, Bl⟩ := B.c4
    go_wp2_with fail
    clear B0 Bf0 B1 Bf1 B2 Bf2 B3 Bf3 Bl
    obtain ⟨V3, hV3, C, uV3⟩ := Bf.nw w2 f 79
    have ltC : w.heap.size ≤ w2.heap.size := U.size
    rw [hV3]
    clear hV3
    replace U := U.trans uV3
    replace B := B.up uV3
    clear uV3
    refine (CZ1.out _ U).mono ?_
    rintro _ w4 ⟨rfl, h4⟩
    replace U := U.trans h4
    replace C := C.up h4
    replace B := B.up h4
    clear h4
    obtain ⟨C0, C1, C2, C3, C4, C5, C6⟩ := Bf.cs C
    have C7 := Bf.lt C
    simp only [Nat.zero_add] at C0 C1 C2 C3 C4 C5 C6 C7
    obtain ⟨B0, B1, B2, B3, Bf0, Bf1, Bf2, Bf3, Bl⟩ := B.c4
    go_wp2_with fail
    clear C0 C1 C2 C3 C4 C5 C6 C7
    clear B0 Bf0 B1 Bf1 B2 Bf2 B3 Bf3 Bl
    refine (CN1.out _ U).mono ?_
    rintro _ w5 ⟨rfl, h5⟩
    replace U := U.trans h5
    replace C := C.up h5
    replace B := B.up h5
    clear h5
    obtain ⟨C0, C1, C2, C3, C4, C5, C6⟩ := Bf.cs C
    have C7 := Bf.lt C
    simp only [Nat.zero_add] at C0 C1 C2 C3 C4 C5 C6 C7
    obtain ⟨B0, B1, B2, B3, Bf0, Bf1, Bf2, Bf3, Bl⟩ := B.c4
    go_wp2_with fail
    clear C0 C1 C2 C3 C4 C5 C6 C7
    clear B0 Bf0 B1 Bf1 B2 Bf2 B3 Bf3 Bl
    refine (CP1.out _).mono ?_
    rintro _ w6 ⟨rfl, h6⟩
    replace U := U.trans h6
    replace C := C.up h6
    replace B := B.up h6
    clear h6
    obtain ⟨C0, C1, C2, C3, C4, C5, C6⟩ := Bf.cs C
    have C7 := Bf.lt C
    simp only [Nat.zero_add] at C0 C1 C2 C3 C4 C5 C6 C7
    obtain ⟨B0, B1, B2, B3, Bf0, Bf1, Bf2, Bf3, Bl⟩ := B.c4
    go_wp2_with fail
    clear C0 C1 C2 C3 C4 C5 C6 C7
    clear B0 Bf0 B1 Bf1 B2 Bf2 B3 Bf3 Bl
    go_ret
    exact ⟨by first | rfl | simp, U⟩
   ·
    have U := Up.refl w
    go_enter Tryz.func63, Tryz.ntmps63
    go_wp2_with fail
    obtain ⟨V1, hV1, B, uV1⟩ := Ob.nw w 34 #[.bool false, v, .int .i64 t, .int .i64 g]
    have ltB : w.heap.size ≤ w.heap.size := U.size
    rw [hV1]
    clear hV1
    replace U := U.trans uV1
    clear uV1
    refine (CF.out _).mono ?_
    rintro _ w2 ⟨rfl, h2⟩
    replace U := U.trans h2
    replace B := B.up h2
    clear h2
    obtain ⟨B0, B1, B2, B3, Bf0, Bf1, Bf2, Bf3, Bl⟩ := B.c4
    go_wp2_with fail
    clear B0 Bf0 B1 Bf1 B2 Bf2 B3 Bf3 Bl
    obtain ⟨V3, hV3, C, uV3⟩ := Bf.nw w2 f 79
    have ltC : w.heap.size ≤ w2.heap.size := U.size
    rw [hV3]
    clear hV3
    replace U := U.trans uV3
    replace B := B.up uV3
    clear uV3
    refine (CZ1.out _ U).mono ?_
    rintro _ w4 ⟨rfl, h4⟩
    replace U := U.trans h4
    replace C := C.up h4
    replace B := B.up h4
    clear h4
    obtain ⟨C0, C1, C2, C3, C4, C5, C6⟩ := Bf.cs C
    have C7 := Bf.lt C
    simp only [Nat.zero_add] at C0 C1 C2 C3 C4 C5 C6 C7
    obtain ⟨B0, B1, B2, B3, Bf0, Bf1, Bf2, Bf3, Bl⟩ := B.c4
    go_wp2_with fail
    clear C0 C1 C2 C3 C4 C5 C6 C7
    clear B0 Bf0 B1 Bf1 B2 Bf2 B3 Bf3 Bl
    refine (CN1.out _ U).mono ?_
    rintro _ w5 ⟨rfl, h5⟩
    replace U := U.trans h5
    replace C := C.up h5
    replace B := B.up h5
    clear h5
    obtain ⟨C0, C1, C2, C3, C4, C5, C6⟩ := Bf.cs C
    have C7 := Bf.lt C
    simp only [Nat.zero_add] at C0 C1 C2 C3 C4 C5 C6 C7
    obtain ⟨B0, B1, B2, B3, Bf0, Bf1, Bf2, Bf3, Bl⟩ := B.c4
    go_wp2_with fail
    clear C0 C1 C2 C3 C4 C5 C6 C7
    clear B0 Bf0 B1 Bf1 B2 Bf2 B3 Bf3 Bl
    refine (CP1.out _).mono ?_
    rintro _ w6 ⟨rfl, h6⟩
    replace U := U.trans h6
    replace C := C.up h6
    replace B := B.up h6
    clear h6
    obtain ⟨C0, C1, C2, C3, C4, C5, C6⟩ := Bf.cs C
    have C7 := Bf.lt C
    simp only [Nat.zero_add] at C0 C1 C2 C3 C4 C5 C6 C7
    obtain ⟨B0, B1, B2, B3, Bf0, Bf1, Bf2, Bf3, Bl⟩ := B.c4
    go_wp2_with fail
    clear C0 C1 C2 C3 C4 C5 C6 C7
    clear B0 Bf0 B1 Bf1 B2 Bf2 B3 Bf3 Bl
    go_ret
    exact ⟨by first | rfl | simp, U⟩
  ·
   have k1 : (f.k == 1) = false := by simpa using c1
   clear CS SF c1
   rcases K4 with d1 | ⟨d1, rfl, rfl⟩
   ·
    have U := Up.refl w
    go_enter Tryz.func63, Tryz.ntmps63
    go_wp2_with fail
    obtain ⟨V1, hV1, B, uV1⟩ := Ob.nw w 34 #[.bool neg, v, .int .i64 t, .int .i64 g]
    have ltB : w.heap.size ≤ w.heap.size := U.size
    rw [hV1]
    clear hV1
    replace U := U.trans uV1
    clear uV1
    refine (CF.out _).mono ?_
    rintro _ w2 ⟨rfl, h2⟩
    replace U := U.trans h2
    replace B := B.up h2
    clear h2
    obtain ⟨B0, B1, B2, B3, Bf0, Bf1, Bf2, Bf3, Bl⟩ := B.c4
    go_wp2_with fail
    clear B0 Bf0 B1 Bf1 B2 Bf2 B3 Bf3 Bl
    obtain ⟨V3, hV3, C, uV3⟩ := Bf.nw w2 f 79
    have ltC : w.heap.size ≤ w2.heap.size := U.size
    rw [hV3]
    clear hV3
    replace U := U.trans uV3
    replace B := B.up uV3
    clear uV3
    refine (CZ1.out _ U).mono ?_
    rintro _ w4 ⟨rfl, h4⟩
    replace U := U.trans h4
    replace C := C.up h4
    replace B := B.up h4
    clear h4
    obtain ⟨C0, C1, C2, C3, C4, C5, C6⟩ := Bf.cs C
    have C7 := Bf.lt C
    simp only [Nat.zero_add] at C0 C1 C2 C3 C4 C5 C6 C7
    obtain ⟨B0, B1, B2, B3, Bf0, Bf1, Bf2, Bf3, Bl⟩ := B.c4
    go_wp2_with fail
    clear C0 C1 C2 C3 C4 C5 C6 C7
    clear B0 Bf0 B1 Bf1 B2 Bf2 B3 Bf3 Bl
    refine (CN1.out _ U).mono ?_
    rintro _ w5 ⟨rfl, h5⟩
    replace U := U.trans h5
    replace C := C.up h5
    replace B := B.up h5
    clear h5
    obtain ⟨C0, C1, C2, C3, C4, C5, C6⟩ := Bf.cs C
    have C7 := Bf.lt C
    simp only [Nat.zero_add] at C0 C1 C2 C3 C4 C5 C6 C7
    obtain ⟨B0, B1, B2, B3, Bf0, Bf1, Bf2, Bf3, Bl⟩ := B.c4
    go_wp2_with fail
    clear C0 C1 C2 C3 C4 C5 C6 C7
    clear B0 Bf0 B1 Bf1 B2 Bf2 B3 Bf3 Bl
    refine (CP1.out _).mono ?_
    rintro _ w6 ⟨rfl, h6⟩
    replace U := U.trans h6
    replace C := C.up h6
    replace B := B.up h6
    clear h6
    obtain ⟨C0, C1, C2, C3, C4, C5, C6⟩ := Bf.cs C
    have C7 := Bf.lt C
    simp only [Nat.zero_add] at C0 C1 C2 C3 C4 C5 C6 C7
    obtain ⟨B0, B1, B2, B3, Bf0, Bf1, Bf2, Bf3, Bl⟩ := B.c4
    go_wp2_with fail
    clear C0 C1 C2 C3 C4 C5 C6 C7
    clear B0 Bf0 B1 Bf1 B2 Bf2 B3 Bf3 Bl
    go_ret
    exact ⟨by first | rfl | simp, U⟩
   ·
    have U := Up.refl w
    go_enter Tryz.func63, Tryz.ntmps63
    go_wp2_with fail
    obtain ⟨V1, hV1, B, uV1⟩ := Ob.nw w 34 #[.bool false, v, .int .i64 t, .int .i64 g]
    have ltB : w.heap.size ≤ w.heap.size := U.size
    rw [hV1]
    clear hV1
    replace U := U.trans uV1
    clear uV1
    refine (CF.out _).mono ?_
    rintro _ w2 ⟨rfl, h2⟩
    replace U := U.trans h2
    replace B := B.up h2
    clear h2
    obtain ⟨B0, B1, B2, B3, Bf0, Bf1, Bf2, Bf3, Bl⟩ := B.c4
    go_wp2_with fail
    clear B0 Bf0 B1 Bf1 B2 Bf2 B3 Bf3 Bl
    obtain ⟨V3, hV3, C, uV3⟩ := Bf.nw w2 f 79
    have ltC : w.heap.size ≤ w2.heap.size := U.size
    rw [hV3]
    clear hV3
    replace U := U.trans uV3
    replace B := B.up uV3
    clear uV3
    refine (CZ1.out _ U).mono ?_
    rintro _ w4 ⟨rfl, h4⟩
    replace U := U.trans h4
    replace C := C.up h4
    replace B := B.up h4
    clear h4
    obtain ⟨C0, C1, C2, C3, C4, C5, C6⟩ := Bf.cs C
    have C7 := Bf.lt C
    simp only [Nat.zero_add] at C0 C1 C2 C3 C4 C5 C6 C7
    obtain ⟨B0, B1, B2, B3, Bf0, Bf1, Bf2, Bf3, Bl⟩ := B.c4
    go_wp2_with fail
    clear C0 C1 C2 C3 C4 C5 C6 C7
    clear B0 Bf0 B1 Bf1 B2 Bf2 B3 Bf3 Bl
    refine (CN1.out _ U).mono ?_
    rintro _ w5 ⟨rfl, h5⟩
    replace U := U.trans h5
    replace C := C.up h5
    replace B := B.up h5
    clear h5
    obtain ⟨C0, C1, C2, C3, C4, C5, C6⟩ := Bf.cs C
    have C7 := Bf.lt C
    simp only [Nat.zero_add] at C0 C1 C2 C3 C4 C5 C6 C7
    obtain ⟨B0, B1, B2, B3, Bf0, Bf1, Bf2, Bf3, Bl⟩ := B.c4
    go_wp2_with fail
    clear C0 C1 C2 C3 C4 C5 C6 C7
    clear B0 Bf0 B1 Bf1 B2 Bf2 B3 Bf3 Bl
    refine (CP1.out _).mono ?_
    rintro _ w6 ⟨rfl, h6⟩
    replace U := U.trans h6
    replace C := C.up h6
    replace B := B.up h6
    clear h6
    obtain ⟨C0, C1, C2, C3, C4, C5, C6⟩ := Bf.cs C
    have C7 := Bf.lt C
    simp only [Nat.zero_add] at C0 C1 C2 C3 C4 C5 C6 C7
    obtain ⟨B0, B1, B2, B3, Bf0, Bf1, Bf2, Bf3, Bl⟩ := B.c4
    go_wp2_with fail
    clear C0 C1 C2 C3 C4 C5 C6 C7
    clear B0 Bf0 B1 Bf1 B2 Bf2 B3 Bf3 Bl
    go_ret
    exact ⟨by first | rfl | simp, U⟩
  ·
   have k1 : (f.k == 1) = false := by simpa using c1
   have m1 : (mode == 1) = false := by simpa using c2
   have n0 : (f.n == 0) = true := by simpa using c3
   have x0 : (f.x == 0) = true := by simpa using c4
   clear CS SF c1 c2 c3 c4
   rcases K4 with d1 | ⟨d1, rfl, rfl⟩
   ·
    have U := Up.refl w
    go_enter Tryz.func63, Tryz.ntmps63
    go_wp2_with fail
    obtain ⟨V1, hV1, B, uV1⟩ := Ob.nw w 34 #[.bool neg, v, .int .i64 t, .int .i64 g]
    have ltB : w.heap.size ≤ w.heap.size := U.size
    rw [hV1]
    clear hV1
    replace U := U.trans uV1
    clear uV1
    refine (CF.out _).mono ?_
    rintro _ w2 ⟨rfl, h2⟩
    replace U := U.trans h2
    replace B := B.up h2
    clear h2
    obtain ⟨B0, B1, B2, B3, Bf0, Bf1, Bf2, Bf3, Bl⟩ := B.c4
    go_wp2_with fail
    clear B0 Bf0 B1 Bf1 B2 Bf2 B3 Bf3 Bl
    obtain ⟨V3, hV3, C, uV3⟩ := Bf.nw w2 f 79
    have ltC : w.heap.size ≤ w2.heap.size := U.size
    rw [hV3]
    clear hV3
    replace U := U.trans uV3
    replace B := B.up uV3
    clear uV3
    refine (CZ1.out _ U).mono ?_
    rintro _ w4 ⟨rfl, h4⟩
    replace U := U.trans h4
    replace C := C.up h4
    replace B := B.up h4
    clear h4
    obtain ⟨C0, C1, C2, C3, C4, C5, C6⟩ := Bf.cs C
    have C7 := Bf.lt C
    simp only [Nat.zero_add] at C0 C1 C2 C3 C4 C5 C6 C7
    obtain ⟨B0, B1, B2, B3, Bf0, Bf1, Bf2, Bf3, Bl⟩ := B.c4
    go_wp2_with fail
    clear C0 C1 C2 C3 C4 C5 C6 C7
    clear B0 Bf0 B1 Bf1 B2 Bf2 B3 Bf3 Bl
    refine (CN1.out _ U).mono ?_
    rintro _ w5 ⟨rfl, h5⟩
    replace U := U.trans h5
    replace C := C.up h5
    replace B := B.up h5
    clear h5
    obtain ⟨C0, C1, C2, C3, C4, C5, C6⟩ := Bf.cs C
    have C7 := Bf.lt C
    simp only [Nat.zero_add] at C0 C1 C2 C3 C4 C5 C6 C7
    obtain ⟨B0, B1, B2, B3, Bf0, Bf1, Bf2, Bf3, Bl⟩ := B.c4
    go_wp2_with fail
    clear C0 C1 C2 C3 C4 C5 C6 C7
    clear B0 Bf0 B1 Bf1 B2 Bf2 B3 Bf3 Bl
    refine (CP1.out _).mono ?_
    rintro _ w6 ⟨rfl, h6⟩
    replace U := U.trans h6
    replace C := C.up h6
    replace B := B.up h6
    clear h6
    obtain ⟨C0, C1, C2, C3, C4, C5, C6⟩ := Bf.cs C
    have C7 := Bf.lt C
    simp only [Nat.zero_add] at C0 C1 C2 C3 C4 C5 C6 C7
    obtain ⟨B0, B1, B2, B3, Bf0, Bf1, Bf2, Bf3, Bl⟩ := B.c4
    go_wp2_with fail
    clear C0 C1 C2 C3 C4 C5 C6 C7
    clear B0 Bf0 B1 Bf1 B2 Bf2 B3 Bf3 Bl
    go_ret
    exact ⟨by first | rfl | simp, U⟩
   ·
    have U := Up.refl w
    go_enter Tryz.func63, Tryz.ntmps63
    go_wp2_with fail
    obtain ⟨V1, hV1, B, uV1⟩ := Ob.nw w 34 #[.bool false, v, .int .i64 t, .int .i64 g]
    have ltB : w.heap.size ≤ w.heap.size := U.size
    rw [hV1]
    clear hV1
    replace U := U.trans uV1
    clear uV1
    refine (CF.out _).mono ?_
    rintro _ w2 ⟨rfl, h2⟩
    replace U := U.trans h2
    replace B := B.up h2
    clear h2
    obtain ⟨B0, B1, B2, B3, Bf0, Bf1, Bf2, Bf3, Bl⟩ := B.c4
    go_wp2_with fail
    clear B0 Bf0 B1 Bf1 B2 Bf2 B3 Bf3 Bl
    obtain ⟨V3, hV3, C, uV3⟩ := Bf.nw w2 f 79
    have ltC : w.heap.size ≤ w2.heap.size := U.size
    rw [hV3]
    clear hV3
    replace U := U.trans uV3
    replace B := B.up uV3
    clear uV3
    refine (CZ1.out _ U).mono ?_
    rintro _ w4 ⟨rfl, h4⟩
    replace U := U.trans h4
    replace C := C.up h4
    replace B := B.up h4
    clear h4
    obtain ⟨C0, C1, C2, C3, C4, C5, C6⟩ := Bf.cs C
    have C7 := Bf.lt C
    simp only [Nat.zero_add] at C0 C1 C2 C3 C4 C5 C6 C7
    obtain ⟨B0, B1, B2, B3, Bf0, Bf1, Bf2, Bf3, Bl⟩ := B.c4
    go_wp2_with fail
    clear C0 C1 C2 C3 C4 C5 C6 C7
    clear B0 Bf0 B1 Bf1 B2 Bf2 B3 Bf3 Bl
    refine (CN1.out _ U).mono ?_
    rintro _ w5 ⟨rfl, h5⟩
    replace U := U.trans h5
    replace C := C.up h5
    replace B := B.up h5
    clear h5
    obtain ⟨C0, C1, C2, C3, C4, C5, C6⟩ := Bf.cs C
    have C7 := Bf.lt C
    simp only [Nat.zero_add] at C0 C1 C2 C3 C4 C5 C6 C7
    obtain ⟨B0, B1, B2, B3, Bf0, Bf1, Bf2, Bf3, Bl⟩ := B.c4
    go_wp2_with fail
    clear C0 C1 C2 C3 C4 C5 C6 C7
    clear B0 Bf0 B1 Bf1 B2 Bf2 B3 Bf3 Bl
    refine (CP1.out _).mono ?_
    rintro _ w6 ⟨rfl, h6⟩
    replace U := U.trans h6
    replace C := C.up h6
    replace B := B.up h6
    clear h6
    obtain ⟨C0, C1, C2, C3, C4, C5, C6⟩ := Bf.cs C
    have C7 := Bf.lt C
    simp only [Nat.zero_add] at C0 C1 C2 C3 C4 C5 C6 C7
    obtain ⟨B0, B1, B2, B3, Bf0, Bf1, Bf2, Bf3, Bl⟩ := B.c4
    go_wp2_with fail
    clear C0 C1 C2 C3 C4 C5 C6 C7
    clear B0 Bf0 B1 Bf1 B2 Bf2 B3 Bf3 Bl
    go_ret
    exact ⟨by first | rfl | simp, U⟩
  ·
   have k1 : (f.k == 1) = false := by simpa using c1
   have m1 : (mode == 1) = false := by simpa using c2
   have n0 : (f.n == 0) = true := by simpa using c3
   have x0 : (f.x == 0) = false := by simpa using c4
   clear CS SF c1 c2 c3 c4
   rcases K4 with d1 | ⟨d1, rfl, rfl⟩
   ·
    have U := Up.refl w
    go_enter Tryz.func63, Tryz.ntmps63
    go_wp2_with fail
    obtain ⟨V1, hV1, B, uV1⟩ := Ob.nw w 34 #[.bool neg, v, .int .i64 t, .int .i64 g]
    have ltB : w.heap.size ≤ w.heap.size := U.size
    rw [hV1]
    clear hV1
    replace U := U.trans uV1
    clear uV1
    refine (CF.out _).mono ?_
    rintro _ w2 ⟨rfl, h2⟩
    replace U := U.trans h2
    replace B := B.up h2
    clear h2
    obtain ⟨B0, B1, B2, B3, Bf0, Bf1, Bf2, Bf3, Bl⟩ := B.c4
    go_wp2_with fail
    clear B0 Bf0 B1 Bf1 B2 Bf2 B3 Bf3 Bl
    obtain ⟨V3, hV3, C, uV3⟩ := Bf.nw w2 f 79
    have ltC : w.heap.size ≤ w2.heap.size := U.size
    rw [hV3]
    clear hV3
    replace U := U.trans uV3
    replace B := B.up uV3
    clear uV3
    refine (CZ1.out _ U).mono ?_
    rintro _ w4 ⟨rfl, h4⟩
    replace U := U.trans h4
    replace C := C.up h4
    replace B := B.up h4
    clear h4
    obtain ⟨C0, C1, C2, C3, C4, C5, C6⟩ := Bf.cs C
    have C7 := Bf.lt C
    simp only [Nat.zero_add] at C0 C1 C2 C3 C4 C5 C6 C7
    obtain ⟨B0, B1, B2, B3, Bf0, Bf1, Bf2, Bf3, Bl⟩ := B.c4
    go_wp2_with fail
    clear C0 C1 C2 C3 C4 C5 C6 C7
    clear B0 Bf0 B1 Bf1 B2 Bf2 B3 Bf3 Bl
    refine (CN1.out _ U).mono ?_
    rintro _ w5 ⟨rfl, h5⟩
    replace U := U.trans h5
    replace C := C.up h5
    replace B := B.up h5
    clear h5
    obtain ⟨C0, C1, C2, C3, C4, C5, C6⟩ := Bf.cs C
    have C7 := Bf.lt C
    simp only [Nat.zero_add] at C0 C1 C2 C3 C4 C5 C6 C7
    obtain ⟨B0, B1, B2, B3, Bf0, Bf1, Bf2, Bf3, Bl⟩ := B.c4
    go_wp2_with fail
    clear C0 C1 C2 C3 C4 C5 C6 C7
    clear B0 Bf0 B1 Bf1 B2 Bf2 B3 Bf3 Bl
    refine (CP1.out _).mono ?_
    rintro _ w6 ⟨rfl, h6⟩
    replace U := U.trans h6
    replace C := C.up h6
    replace B := B.up h6
    clear h6
    obtain ⟨C0, C1, C2, C3, C4, C5, C6⟩ := Bf.cs C
    have C7 := Bf.lt C
    simp only [Nat.zero_add] at C0 C1 C2 C3 C4 C5 C6 C7
    obtain ⟨B0, B1, B2, B3, Bf0, Bf1, Bf2, Bf3, Bl⟩ := B.c4
    go_wp2_with fail
    clear C0 C1 C2 C3 C4 C5 C6 C7
    clear B0 Bf0 B1 Bf1 B2 Bf2 B3 Bf3 Bl
    go_ret
    exact ⟨by first | rfl | simp, U⟩
   ·
    have U := Up.refl w
    go_enter Tryz.func63, Tryz.ntmps63
    go_wp2_with fail
    obtain ⟨V1, hV1, B, uV1⟩ := Ob.nw w 34 #[.bool false, v, .int .i64 t, .int .i64 g]
    have ltB : w.heap.size ≤ w.heap.size := U.size
    rw [hV1]
    clear hV1
    replace U := U.trans uV1
    clear uV1
    refine (CF.out _).mono ?_
    rintro _ w2 ⟨rfl, h2⟩
    replace U := U.trans h2
    replace B := B.up h2
    clear h2
    obtain ⟨B0, B1, B2, B3, Bf0, Bf1, Bf2, Bf3, Bl⟩ := B.c4
    go_wp2_with fail
    clear B0 Bf0 B1 Bf1 B2 Bf2 B3 Bf3 Bl
    obtain ⟨V3, hV3, C, uV3⟩ := Bf.nw w2 f 79
    have ltC : w.heap.size ≤ w2.heap.size := U.size
    rw [hV3]
    clear hV3
    replace U := U.trans uV3
    replace B := B.up uV3
    clear uV3
    refine (CZ1.out _ U).mono ?_
    rintro _ w4 ⟨rfl, h4⟩
    replace U := U.trans h4
    replace C := C.up h4
    replace B := B.up h4
    clear h4
    obtain ⟨C0, C1, C2, C3, C4, C5, C6⟩ := Bf.cs C
    have C7 := Bf.lt C
    simp only [Nat.zero_add] at C0 C1 C2 C3 C4 C5 C6 C7
    obtain ⟨B0, B1, B2, B3, Bf0, Bf1, Bf2, Bf3, Bl⟩ := B.c4
    go_wp2_with fail
    clear C0 C1 C2 C3 C4 C5 C6 C7
    clear B0 Bf0 B1 Bf1 B2 Bf2 B3 Bf3 Bl
    refine (CN1.out _ U).mono ?_
    rintro _ w5 ⟨rfl, h5⟩
    replace U := U.trans h5
    replace C := C.up h5
    replace B := B.up h5
    clear h5
    obtain ⟨C0, C1, C2, C3, C4, C5, C6⟩ := Bf.cs C
    have C7 := Bf.lt C
    simp only [Nat.zero_add] at C0 C1 C2 C3 C4 C5 C6 C7
    obtain ⟨B0, B1, B2, B3, Bf0, Bf1, Bf2, Bf3, Bl⟩ := B.c4
    go_wp2_with fail
    clear C0 C1 C2 C3 C4 C5 C6 C7
    clear B0 Bf0 B1 Bf1 B2 Bf2 B3 Bf3 Bl
    refine (CP1.out _).mono ?_
    rintro _ w6 ⟨rfl, h6⟩
    replace U := U.trans h6
    replace C := C.up h6
    replace B := B.up h6
    clear h6
    obtain ⟨C0, C1, C2, C3, C4, C5, C6⟩ := Bf.cs C
    have C7 := Bf.lt C
    simp only [Nat.zero_add] at C0 C1 C2 C3 C4 C5 C6 C7
    obtain ⟨B0, B1, B2, B3, Bf0, Bf1, Bf2, Bf3, Bl⟩ := B.c4
    go_wp2_with fail
    clear C0 C1 C2 C3 C4 C5 C6 C7
    clear B0 Bf0 B1 Bf1 B2 Bf2 B3 Bf3 Bl
    go_ret
    exact ⟨by first | rfl | simp, U⟩
  ·
   have k1 : (f.k == 1) = false := by simpa using c1
   have m1 : (mode == 1) = false := by simpa using c2
   have n0 : (f.n == 0) = false := by simpa using c3
   have SF1 := SF c3
   clear SF c1 c2 c3
   cases neg
   ·
    rw [if_neg (by simp)] at hp
    subst hp
    clear SF1 CS
    have K4 : (f.k == 4) = false ∨ (f.k == 4) = true ∧ zr = false := by
     rcases K4 with e | ⟨e, _, e2⟩
     ·exact .inl e
     ·exact .inr ⟨e, e2⟩
    rcases K4 with d1 | ⟨d1, rfl⟩
    ·
     have U := Up.refl w
     go_enter Tryz.func63, Tryz.ntmps63
     go_wp2_with fail
     obtain ⟨V1, hV1, B, uV1⟩ := Ob.nw w 34 #[.bool false, v, .int .i64 t, .int .i64 g]
     have ltB : w.heap.size ≤ w.heap.size := U.size
     rw [hV1]
     clear hV1
     replace U := U.trans uV1
     clear uV1
     refine (CF.out _).mono ?_
     rintro _ w2 ⟨rfl, h2⟩
     replace U := U.trans h2
     replace B := B.up h2
     clear h2
     obtain ⟨B0, B1, B2, B3, Bf0, Bf1, Bf2, Bf3, Bl⟩ := B.c4
     go_wp2_with fail
     clear B0 Bf0 B1 Bf1 B2 Bf2 B3 Bf3 Bl
     obtain ⟨V3, hV3, C, uV3⟩ := Bf.nw w2 f 79
     have ltC : w.heap.size ≤ w2.heap.size := U.size
     rw [hV3]
     clear hV3
     replace U := U.trans uV3
     replace B := B.up uV3
     clear uV3
     refine (CZ1.out _ U).mono ?_
     rintro _ w4 ⟨rfl, h4⟩
     replace U := U.trans h4
     replace C := C.up h4
     replace B := B.up h4
     clear h4
     obtain ⟨C0, C1, C2, C3, C4, C5, C6⟩ := Bf.cs C
     have C7 := Bf.lt C
     simp only [Nat.zero_add] at C0 C1 C2 C3 C4 C5 C6 C7
     obtain ⟨B0, B1, B2, B3, Bf0, Bf1, Bf2, Bf3, Bl⟩ := B.c4
     go_wp2_with fail
     clear C0 C1 C2 C3 C4 C5 C6 C7
     clear B0 Bf0 B1 Bf1 B2 Bf2 B3 Bf3 Bl
     refine (CN1.out _ U).mono ?_
     rintro _ w5 ⟨rfl, h5⟩
     replace U := U.trans h5
     replace C := C.up h5
     replace B := B.up h5
     clear h5
     obtain ⟨C0, C1, C2, C3, C4, C5, C6⟩ := Bf.cs C
     have C7 := Bf.lt C
     simp only [Nat.zero_add] at C0 C1 C2 C3 C4 C5 C6 C7
     obtain ⟨B0, B1, B2, B3, Bf0, Bf1, Bf2, Bf3, Bl⟩ := B.c4
     go_wp2_with fail
     clear C0 C1 C2 C3 C4 C5 C6 C7
     clear B0 Bf0 B1 Bf1 B2 Bf2 B3 Bf3 Bl
     refine (CP1.out _).mono ?_
     rintro _ w6 ⟨rfl, h6⟩
     replace U := U.trans h6
     replace C := C.up h6
     replace B := B.up h6
     clear h6
     obtain ⟨C0, C1, C2, C3, C4, C5, C6⟩ := Bf.cs C
     have C7 := Bf.lt C
     simp only [Nat.zero_add] at C0 C1 C2 C3 C4 C5 C6 C7
     obtain ⟨B0, B1, B2, B3, Bf0, Bf1, Bf2, Bf3, Bl⟩ := B.c4
     go_wp2_with fail
     clear C0 C1 C2 C3 C4 C5 C6 C7
     clear B0 Bf0 B1 Bf1 B2 Bf2 B3 Bf3 Bl
     go_ret
     exact ⟨by first | rfl | simp, U⟩
    ·
     have U := Up.refl w
     go_enter Tryz.func63, Tryz.ntmps63
     go_wp2_with fail
     obtain ⟨V1, hV1, B, uV1⟩ := Ob.nw w 34 #[.bool false, v, .int .i64 t, .int .i64 g]
     have ltB : w.heap.size ≤ w.heap.size := U.size
     rw [hV1]
     clear hV1
     replace U := U.trans uV1
     clear uV1
     refine (CF.out _).mono ?_
     rintro _ w2 ⟨rfl, h2⟩
     replace U := U.trans h2
     replace B := B.up h2
     clear h2
     obtain ⟨B0, B1, B2, B3, Bf0, Bf1, Bf2, Bf3, Bl⟩ := B.c4
     go_wp2_with fail
     clear B0 Bf0 B1 Bf1 B2 Bf2 B3 Bf3 Bl
     obtain ⟨V3, hV3, C, uV3⟩ := Bf.nw w2 f 79
     have ltC : w.heap.size ≤ w2.heap.size := U.size
     rw [hV3]
     clear hV3
     replace U := U.trans uV3
     replace B := B.up uV3
     clear uV3
     refine (CZ1.out _ U).mono ?_
     rintro _ w4 ⟨rfl, h4⟩
     replace U := U.trans h4
     replace C := C.up h4
     replace B := B.up h4
     clear h4
     obtain ⟨C0, C1, C2, C3, C4, C5, C6⟩ := Bf.cs C
     have C7 := Bf.lt C
     simp only [Nat.zero_add] at C0 C1 C2 C3 C4 C5 C6 C7
     obtain ⟨B0, B1, B2, B3, Bf0, Bf1, Bf2, Bf3, Bl⟩ := B.c4
     go_wp2_with fail
     clear C0 C1 C2 C3 C4 C5 C6 C7
     clear B0 Bf0 B1 Bf1 B2 Bf2 B3 Bf3 Bl
     refine (CN1.out _ U).mono ?_
     rintro _ w5 ⟨rfl, h5⟩
     replace U := U.trans h5
     replace C := C.up h5
     replace B := B.up h5
     clear h5
     obtain ⟨C0, C1, C2, C3, C4, C5, C6⟩ := Bf.cs C
     have C7 := Bf.lt C
     simp only [Nat.zero_add] at C0 C1 C2 C3 C4 C5 C6 C7
     obtain ⟨B0, B1, B2, B3, Bf0, Bf1, Bf2, Bf3, Bl⟩ := B.c4
     go_wp2_with fail
     clear C0 C1 C2 C3 C4 C5 C6 C7
     clear B0 Bf0 B1 Bf1 B2 Bf2 B3 Bf3 Bl
     refine (CP1.out _).mono ?_
     rintro _ w6 ⟨rfl, h6⟩
     replace U := U.trans h6
     replace C := C.up h6
     replace B := B.up h6
     clear h6
     obtain ⟨C0, C1, C2, C3, C4, C5, C6⟩ := Bf.cs C
     have C7 := Bf.lt C
     simp only [Nat.zero_add] at C0 C1 C2 C3 C4 C5 C6 C7
     obtain ⟨B0, B1, B2, B3, Bf0, Bf1, Bf2, Bf3, Bl⟩ := B.c4
     go_wp2_with fail
     clear C0 C1 C2 C3 C4 C5 C6 C7
     clear B0 Bf0 B1 Bf1 B2 Bf2 B3 Bf3 Bl
     go_ret
     exact ⟨by first | rfl | simp, U⟩
   ·
    rw [if_pos rfl] at hp
    subst hp
    obtain d1 : (f.k == 4) = false := by
     rcases K4 with e | ⟨_, e, _⟩
     ·exact e
     ·cases e
    clear K4
    have U := Up.refl w
    go_enter Tryz.func63, Tryz.ntmps63
    go_wp2_with fail
    obtain ⟨V1, hV1, B, uV1⟩ := Ob.nw w 34 #[.bool true, v, .int .i64 t, .int .i64 g]
    have ltB : w.heap.size ≤ w.heap.size := U.size
    rw [hV1]
    clear hV1
    replace U := U.trans uV1
    clear uV1
    refine (CF.out _).mono ?_
    rintro _ w2 ⟨rfl, h2⟩
    replace U := U.trans h2
    replace B := B.up h2
    clear h2
    obtain ⟨B0, B1, B2, B3, Bf0, Bf1, Bf2, Bf3, Bl⟩ := B.c4
    go_wp2_with fail
    clear B0 Bf0 B1 Bf1 B2 Bf2 B3 Bf3 Bl
    obtain ⟨V3, hV3, C, uV3⟩ := Bf.nw w2 f 79
    have ltC : w.heap.size ≤ w2.heap.size := U.size
    rw [hV3]
    clear hV3
    replace U := U.trans uV3
    replace B := B.up uV3
    clear uV3
    refine (CZ1.out _ U).mono ?_
    rintro _ w4 ⟨rfl, h4⟩
    replace U := U.trans h4
    replace C := C.up h4
    replace B := B.up h4
    clear h4
    obtain ⟨C0, C1, C2, C3, C4, C5, C6⟩ := Bf.cs C
    have C7 := Bf.lt C
    simp only [Nat.zero_add] at C0 C1 C2 C3 C4 C5 C6 C7
    obtain ⟨B0, B1, B2, B3, Bf0, Bf1, Bf2, Bf3, Bl⟩ := B.c4
    go_wp2_with fail
    clear C0 C1 C2 C3 C4 C5 C6 C7
    clear B0 Bf0 B1 Bf1 B2 Bf2 B3 Bf3 Bl
    refine (CN1.out _ U).mono ?_
    rintro _ w5 ⟨rfl, h5⟩
    replace U := U.trans h5
    replace C := C.up h5
    replace B := B.up h5
    clear h5
    obtain ⟨C0, C1, C2, C3, C4, C5, C6⟩ := Bf.cs C
    have C7 := Bf.lt C
    simp only [Nat.zero_add] at C0 C1 C2 C3 C4 C5 C6 C7
    obtain ⟨B0, B1, B2, B3, Bf0, Bf1, Bf2, Bf3, Bl⟩ := B.c4
    go_wp2_with fail
    clear C0 C1 C2 C3 C4 C5 C6 C7
    clear B0 Bf0 B1 Bf1 B2 Bf2 B3 Bf3 Bl
    refine (CP1.out _).mono ?_
    rintro _ w6 ⟨rfl, h6⟩
    replace U := U.trans h6
    replace C := C.up h6
    replace B := B.up h6
    clear h6
    obtain ⟨C0, C1, C2, C3, C4, C5, C6⟩ := Bf.cs C
    have C7 := Bf.lt C
    simp only [Nat.zero_add] at C0 C1 C2 C3 C4 C5 C6 C7
    obtain ⟨B0, B1, B2, B3, Bf0, Bf1, Bf2, Bf3, Bl⟩ := B.c4
    go_upto_region 12 with fail
    clear B0 Bf0 B1 Bf1 B2 Bf2 B3 Bf3 Bl
    go_region_held3 (fun w' => w'.cell? ⟨w2.heap.size, 0, none⟩ = some (.int .i64 f.k) ∧ w'.cell? ⟨w2.heap.size, 1, none⟩ = some (.int .i64 f.W) ∧ w'.cell? ⟨w2.heap.size, 2, none⟩ = some (.int .i64 f.m) ∧ w'.cell? ⟨w2.heap.size, 3, none⟩ = some (.int .i64 f.b) ∧ w'.cell? ⟨w2.heap.size, 4, none⟩ = some (.int .u64 f.t) ∧ w'.cell? ⟨w2.heap.size, 5, none⟩ = some (.int .u64 f.n) ∧ w'.cell? ⟨w2.heap.size, 6, none⟩ = some (.int .u64 f.x)) (go_keep) ((go_at_call 103; (with_reducible refine (CS.out _).mono ?_); rintro _ w30 ⟨rfl, h30⟩; have uw30 : Up w6 w30 := Up.trans (by first | with_reducible assumption | exact (Up.refl w6).drewN 1) h30; have cc0 := cell_up_ uw30 C0; have cc1 := cell_up_ uw30 C1; have cc2 := cell_up_ uw30 C2; have cc3 := cell_up_ uw30 C3; have cc4 := cell_up_ uw30 C4; have cc5 := cell_up_ uw30 C5; have cc6 := cell_up_ uw30 C6))
    clear C0 cc0 C1 cc1 C2 cc2 C3 cc3 C4 cc4 C5 cc5 C6 cc6
    go_wp2_with fail
    go_ret
    exact ⟨by first | rfl | exact ret_int SF1, U.trans uw30⟩
end Go.Proofs.YtijpffgocookaaaGreatDoor
