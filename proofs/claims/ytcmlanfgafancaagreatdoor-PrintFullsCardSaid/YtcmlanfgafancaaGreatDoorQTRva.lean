import Derived.Test.YtcmlanfgafancaaGreatDoorQTRn
import Derived.Test.YtcmlanfgafancaaGreatDoorQTVwa
import Derived.BigQuiet
import Derived.Deep.RegionHeld3
import Derived.Deep.DrawnRows
import Derived.OwnWalk
set_option maxHeartbeats 32000000
set_option linter.unusedVariables false
set_option linter.unusedSimpArgs false
namespace Go.Proofs.YtcmlanfgafancaaGreatDoor
open Go.RowKit
def Xr (neg : Bool) (s a : Nat) (t f : Int) (w : World) (e : Ending) (w' : World) : Prop := ∃ v, e = .returned (xv neg v t f) ∧ Nt w' w.heap.size s v a ∧ Up w w'
theorem Nt.nil_iff {w : World} {lo s : Nat} {A : Option Addr} {n c a : Nat} (h : Nt w lo s (.slice A n c) a) : n = 0 ↔ a = 0 := by
 obtain ⟨A', n', c', xs, e, h1, h2, h3, h4⟩ := h
 cases e
 subst h2
 constructor
 ·intro e
  have hx : xs = [] := List.eq_nil_of_length_eq_zero (by rw [h1.num, e])
  rw [hx]; rfl
 ·intro e
  have := M.len_of_lt (k := 0) h4 (by rw [e]; simp)
  rw [h1.num] at this
  omega
set_option maxRecDepth 100000 in
theorem iseven_any (w : World) (k : Nat) (kb : k < 18446744073709551616) (r : Bool) (hr : Hid (decide (k % 2 = 0) = r)) : Calls Tryz.prog 82 #[u64 k] w (Same (.bool r) w) := by
 have e : ((k : Int).tmod 2 == 0) = r := by
  rw [← hr.out, Int.tmod_eq_emod_of_nonneg (by omega)]
  by_cases h : k % 2 = 0
  ·rw [decide_eq_true h, beq_iff_eq]; omega
  ·rw [decide_eq_false h, beq_eq_false_iff_ne]; omega
 clear hr
 go_enter Tryz.func82, Tryz.ntmps82
 go_wp2_with fail
 go_ret
 exact ⟨by first | rfl | exact ret_bool e, rfl⟩
set_option maxRecDepth 100000 in
theorem least_any (w : World) (TF : Hid (TabF w)) (i : Nat) (f : M.Fm) (hf : Hid (M.tb i = f)) (i1 : 1 ≤ i) (i2 : i ≤ 14) (z : Nat) (hz : Hid ((if f.k = 1 then 1 else 0) = z)) : Calls Tryz.prog 79 #[.int .i64 (i : Int)] w (Wz z w) := by
 have CO := Lib.hid (fun W (F : TabF W) => of_in W F i f hf i1 i2)
 have e := hz.out
 clear hf hz i1 i2
 by_cases hk : f.k = 1
 ·
  rw [if_pos hk] at e
  subst e
  have d1 : (f.k == 1) = true := by simpa using hk
  clear hk
  have U := Up.refl w
  go_enter Tryz.func79, Tryz.ntmps79
  go_wp2_with fail
  refine (CO.out _ (TF.out.up U)).mono ?_
  rintro _ w1 ⟨rfl, h1⟩
  replace U := U.trans h1
  clear h1
  go_wp2_with fail
  obtain ⟨V2, hV2, C, uV2⟩ := Bf.nw w1 f 53
  have ltC : w.heap.size ≤ w1.heap.size := U.size
  rw [hV2]
  clear hV2
  replace U := U.trans uV2
  clear uV2
  obtain ⟨C0, C1, C2, C3, C4, C5, C6⟩ := Bf.cs C
  have C7 := Bf.lt C
  simp only [Nat.zero_add] at C0 C1 C2 C3 C4 C5 C6 C7
  go_wp2_with fail
  clear C0 C1 C2 C3 C4 C5 C6 C7
  go_ret
  exact ⟨by first | rfl | simp, U⟩
 ·
  rw [if_neg hk] at e
  subst e
  have d1 : (f.k == 1) = false := by simpa using hk
  clear hk
  have U := Up.refl w
  go_enter Tryz.func79, Tryz.ntmps79
  go_wp2_with fail
  refine (CO.out _ (TF.out.up U)).mono ?_
  rintro _ w1 ⟨rfl, h1⟩
  replace U := U.trans h1
  clear h1
  go_wp2_with fail
  obtain ⟨V2, hV2, C, uV2⟩ := Bf.nw w1 f 53
  have ltC : w.heap.size ≤ w1.heap.size := U.size
  rw [hV2]
  clear hV2
  replace U := U.trans uV2
  clear uV2
  obtain ⟨C0, C1, C2, C3, C4, C5, C6⟩ := Bf.cs C
  have C7 := Bf.lt C
  simp only [Nat.zero_add] at C0 C1 C2 C3 C4 C5 C6 C7
  go_wp2_with fail
  clear C0 C1 C2 C3 C4 C5 C6 C7
  go_ret
  exact ⟨by first | rfl | simp, U⟩
theorem M.pw_of {z : Int} (h : -3000 ≤ z ∧ z ≤ 3000) : M.pw z := by unfold M.pw; omega
set_option maxRecDepth 100000 in
theorem rnd_behind (w : World) (TT : Hid (Tz w)) (TF : Hid (TabF w)) (i : Nat) (f : M.Fm) (hf : Hid (M.tb i = f)) (i1 : 1 ≤ i) (i2 : i ≤ 14) (k : Nat) (kb : k < 18446744073709551616) (hk : (k : Int) ≤ M.tp f) (m : Nat) (z : Int) (hbd : M.Bd f k m z) (mb : m < 18446744073709551616) (zb : -3000 ≤ z ∧ z ≤ 3000) : Calls Tryz.prog 80 #[.int .i64 (i : Int), u64 k] w (Xr false 1 m z 0 w) := by
 have CB := Lib.hid (fun W (T : Tz W) (F : TabF W) => vbetween_any W (Lib.hid T) (Lib.hid F) (i : Int) k kb m z 0 (.inr ⟨i, rfl, i1, i2, .inr ⟨by rw [hf.out]; exact hk, by rw [hf.out]; exact hbd, rfl⟩⟩))
 have CX := Lib.hid (fun W => xof_fin W false m z mb (M.pw_of zb))
 clear hf i1 i2 hk hbd
 have U := Up.refl w
 go_enter Tryz.func80, Tryz.ntmps80
 go_wp2_with fail
 obtain ⟨V1, hV1, R, uV1⟩ := Ob.nw w 84 #[.bool false, .slice none 0 0, .int .i64 0, .int .i64 0]
 have ltR : w.heap.size ≤ w.heap.size := U.size
 rw [hV1]
 clear hV1
 replace U := U.trans uV1
 clear uV1
 refine (CB.out _ (TT.out.up U) (TF.out.up U)).mono ?_
 rintro _ w2 ⟨rfl, h2⟩
 replace U := U.trans h2
 replace R := R.up h2
 clear h2
 go_wp2_with fail
 have gl := R.lt
 refine (CX.out _).mono ?_
 rintro _ w3 ⟨_, rfl, ⟨A1, n1, c1, ys1, rfl, N⟩, h3⟩
 replace U := U.trans h3
 replace R := R.up h3
 clear h3
 replace N : Nt w3 _ 1 (.slice A1 n1 c1) m := ⟨_, _, _, _, rfl, N⟩
 go_wp2_with (first | (refine store_ob rfl 84 (.tmp 8) (.tmp 22) rfl _ #[.bool false, .slice none 0 0, .int .i64 0, .int .i64 0] #[.bool false, .slice A1 n1 c1, .int .i64 z, .int .i64 0] rfl rfl 4 (by kernel_rfl) rfl rfl (by simp [Value.oneCell']) w3 ((Up.refl _).alloc _) (Nat.le_refl _) 84 (Ob.mk_ _ _ _) ?_; intro V4 C uV4; have ltC : w.heap.size ≤ w3.heap.size := U.size; replace U := U.trans uV4; replace R := R.up uV4; replace N := N.up uV4; clear uV4; have C0 := C.get 0; have C1 := C.get 1; have C2 := C.get 2; have C3 := C.get 3; simp only [M.z7, M.z8, M.z9] at C0 C1 C2 C3) | (refine store_ob2 rfl 84 (.tmp 4) (.tmp 24) rfl _ #[.bool false, .slice none 0 0, .int .i64 0, .int .i64 0] #[.bool false, .slice A1 n1 c1, .int .i64 z, .int .i64 0] rfl rfl 4 (by kernel_rfl) rfl rfl (by simp [Value.oneCell']) w (by first | exact U | exact U.alloc _) ltR 84 (by first | exact R | exact R.up ((Up.refl _).alloc _)) ?_; clear U; intro V9 Z9 U ho; replace N := Nt.other (by first | exact N | exact N.up ((Up.refl _).alloc _)) ho (by omega)))
 obtain ⟨Z90, Z91, Z92, Z93⟩ := Z9.g4
 refine bodyPost_ret (v := xv false (.slice A1 n1 c1) z 0) (by simp [results, Tryz.results80, go_sem, Z90, Z91, Z92, Z93]) rfl ?_
 exact ⟨_, rfl, N.lower (by omega), U⟩
theorem M.sz_ov {a : Nat} {t g : Int} : M.ov a t g (-5000) = M.sz a t g := rfl
namespace M
def st (f : Fm) (mode : Int) : Prop := mode = 1 ∨ f.k = 1 ∨ (f.n = 0 ∧ f.x = 0)
def tl (f : Fm) (neg : Bool) : Int := if f.n = 0 then f.x else if neg = true then f.n + half f else f.n
def Rv (f : Fm) (mode : Int) (neg : Bool) (X : Nat) (p : Int) : Prop :=
 (f.k = 4 ∧ (neg = true ∨ X = 0) ∧ p = f.x) ∨
 (¬ (f.k = 4 ∧ (neg = true ∨ X = 0)) ∧ ∃ q k o, mst f neg = (q : Nat) ∧ Nr f q X k o ∧ ((o = true ∧ ¬ st f mode ∧ p = tl f neg) ∨ (¬ (o = true ∧ ¬ st f mode) ∧ p = pat f neg k)))
theorem mst_rng {f : Fm} (ok : Ok f) (ok2 : Ok2 f) (ok3 : Ok3 f) (neg : Bool) : ∃ q : Nat, mst f neg = q ∧ 3 ≤ q ∧ q < 18446744073709551616 ∧ (q : Int) ≤ tp f := by
 have hb := ok3.big
 have o1 := ok2.one
 have o3 := ok2.tri
 have o4 := ok2.four
 have o2 := ok.two
 have hm := ok.hm
 have ht := ok.t
 unfold mst tp
 refine ⟨(mst f neg).toNat, ?_, ?_, ?_, ?_⟩ <;> unfold mst <;> rcases ok.k with e | e | e | e <;> by_cases c : f.k = 3 ∧ neg = true <;> (try rw [if_pos c]) <;> (try rw [if_neg c]) <;> (try split) <;> omega
theorem rv_ex {f : Fm} (ok : Ok f) (ok2 : Ok2 f) (ok3 : Ok3 f) (mode : Int) (neg : Bool) (X : Nat) : ∃ p, Rv f mode neg X p := by
 classical
 by_cases c : f.k = 4 ∧ (neg = true ∨ X = 0)
 ·exact ⟨_, .inl ⟨c.1, c.2, rfl⟩⟩
 ·obtain ⟨q, hq, q3, _, ht⟩ := mst_rng ok ok2 ok3 neg
  obtain ⟨k, o, hn⟩ := nr_ex ok ok2 ok3 (q := q) (X := X) ht (fun _ => by omega)
  by_cases d : o = true ∧ ¬ st f mode
  ·exact ⟨_, .inr ⟨c, q, k, o, hq, hn, .inl ⟨d.1, d.2, rfl⟩⟩⟩
  ·exact ⟨_, .inr ⟨c, q, k, o, hq, hn, .inr ⟨d, rfl⟩⟩⟩
end M
set_option maxRecDepth 100000 in
theorem rnd_stays (w : World) (f : M.Fm) (mode : Int) (r : Bool) (hr : Hid (r = true ↔ M.st f mode)) : Calls Tryz.prog 115 #[fv f, .int .i64 mode] w (Bz r w) := by
 have e := hr.out
 unfold M.st at e
 clear hr
 rcases (show (f.n = 0 ∧ f.x = 0) ∨ (f.n = 0 ∧ f.x ≠ 0) ∨ f.n ≠ 0 by omega) with c | c | c
 ·
  have n1 : (f.n == 0) = true := by simpa using c.1
  have n2 : (f.x == 0) = true := by simpa using c.2
  rcases (show mode = 1 ∨ (mode ≠ 1 ∧ f.k = 1) ∨ (mode ≠ 1 ∧ f.k ≠ 1) by omega) with d | d | d
  ·
   have d1 : (mode == 1) = true := by simpa using d
   obtain rfl : r = true := by
    exact e.2 (by omega)
   clear e c d
   have U := Up.refl w
   go_enter Tryz.func115, Tryz.ntmps115
   go_wp2_with fail
   obtain ⟨V1, hV1, C, uV1⟩ := Bf.nw w f 53
   have ltC : w.heap.size ≤ w.heap.size := U.size
   rw [hV1]
   clear hV1
   replace U := U.trans uV1
   clear uV1
   obtain ⟨C0, C1, C2, C3, C4, C5, C6⟩ := Bf.cs C
   have C7 := Bf.lt C
   simp only [Nat.zero_add] at C0 C1 C2 C3 C4 C5 C6 C7
   go_wp2_with fail
   clear C0 C1 C2 C3 C4 C5 C6 C7
   go_ret
   exact ⟨by first | rfl | simp, U⟩
  ·
   have d1 : (mode == 1) = false := by simpa using d.1
   have d2 : (f.k == 1) = true := by simpa using d.2
   obtain rfl : r = true := by
    exact e.2 (by omega)
   clear e c d
   have U := Up.refl w
   go_enter Tryz.func115, Tryz.ntmps115
   go_wp2_with fail
   obtain ⟨V1, hV1, C, uV1⟩ := Bf.nw w f 53
   have ltC : w.heap.size ≤ w.heap.size := U.size
   rw [hV1]
   clear hV1
   replace U := U.trans uV1
   clear uV1
   obtain ⟨C0, C1, C2, C3, C4, C5, C6⟩ := Bf.cs C
   have C7 := Bf.lt C
   simp only [Nat.zero_add] at C0 C1 C2 C3 C4 C5 C6 C7
   go_wp2_with fail
   clear C0 C1 C2 C3 C4 C5 C6 C7
   go_ret
   exact ⟨by first | rfl | simp, U⟩
  ·
   have d1 : (mode == 1) = false := by simpa using d.1
   have d2 : (f.k == 1) = false := by simpa using d.2
   obtain rfl : r = true := by
    exact e.2 (by omega)
   clear e c d
   have U := Up.refl w
   go_enter Tryz.func115, Tryz.ntmps115
   go_wp2_with fail
   obtain ⟨V1, hV1, C, uV1⟩ := Bf.nw w f 53
   have ltC : w.heap.size ≤ w.heap.size := U.size
   rw [hV1]
   clear hV1
   replace U := U.trans uV1
   clear uV1
   obtain ⟨C0, C1, C2, C3, C4, C5, C6⟩ := Bf.cs C
   have C7 := Bf.lt C
   simp only [Nat.zero_add] at C0 C1 C2 C3 C4 C5 C6 C7
   go_wp2_with fail
   clear C0 C1 C2 C3 C4 C5 C6 C7
   go_ret
   exact ⟨by first | rfl | simp, U⟩
 ·
  have n1 : (f.n == 0) = true := by simpa using c.1
  have n2 : (f.x == 0) = false := by simpa using c.2
  rcases (show mode = 1 ∨ (mode ≠ 1 ∧ f.k = 1) ∨ (mode ≠ 1 ∧ f.k ≠ 1) by omega) with d | d | d
  ·
   have d1 : (mode == 1) = true := by simpa using d
   obtain rfl : r = true := by
    exact e.2 (by omega)
   clear e c d
   have U := Up.refl w
   go_enter Tryz.func115, Tryz.ntmps115
   go_wp2_with fail
   obtain ⟨V1, hV1, C, uV1⟩ := Bf.nw w f 53
   have ltC : w.heap.size ≤ w.heap.size := U.size
   rw [hV1]
   clear hV1
   replace U := U.trans uV1
   clear uV1
   obtain ⟨C0, C1, C2, C3, C4, C5, C6⟩ := Bf.cs C
   have C7 := Bf.lt C
   simp only [Nat.zero_add] at C0 C1 C2 C3 C4 C5 C6 C7
   go_wp2_with fail
   clear C0 C1 C2 C3 C4 C5 C6 C7
   go_ret
   exact ⟨by first | rfl | simp, U⟩
  ·
   have d1 : (mode == 1) = false := by simpa using d.1
   have d2 : (f.k == 1) = true := by simpa using d.2
   obtain rfl : r = true := by
    exact e.2 (by omega)
   clear e c d
   have U := Up.refl w
   go_enter Tryz.func115, Tryz.ntmps115
   go_wp2_with fail
   obtain ⟨V1, hV1, C, uV1⟩ := Bf.nw w f 53
   have ltC : w.heap.size ≤ w.heap.size := U.size
   rw [hV1]
   clear hV1
   replace U := U.trans uV1
   clear uV1
   obtain ⟨C0, C1, C2, C3, C4, C5, C6⟩ := Bf.cs C
   have C7 := Bf.lt C
   simp only [Nat.zero_add] at C0 C1 C2 C3 C4 C5 C6 C7
   go_wp2_with fail
   clear C0 C1 C2 C3 C4 C5 C6 C7
   go_ret
   exact ⟨by first | rfl | simp, U⟩
  ·
   have d1 : (mode == 1) = false := by simpa using d.1
   have d2 : (f.k == 1) = false := by simpa using d.2
   obtain rfl : r = false := by
    cases r
    ·rfl
    ·have := e.1 rfl; omega
   clear e c d
   have U := Up.refl w
   go_enter Tryz.func115, Tryz.ntmps115
   go_wp2_with fail
   obtain ⟨V1, hV1, C, uV1⟩ := Bf.nw w f 53
   have ltC : w.heap.size ≤ w.heap.size := U.size
   rw [hV1]
   clear hV1
   replace U := U.trans uV1
   clear uV1
   obtain ⟨C0, C1, C2, C3, C4, C5, C6⟩ := Bf.cs C
   have C7 := Bf.lt C
   simp only [Nat.zero_add] at C0 C1 C2 C3 C4 C5 C6 C7
   go_wp2_with fail
   clear C0 C1 C2 C3 C4 C5 C6 C7
   go_ret
   exact ⟨by first | rfl | simp, U⟩
 ·
  have n1 : (f.n == 0) = false := by simpa using c
  rcases (show mode = 1 ∨ (mode ≠ 1 ∧ f.k = 1) ∨ (mode ≠ 1 ∧ f.k ≠ 1) by omega) with d | d | d
  ·
   have d1 : (mode == 1) = true := by simpa using d
   obtain rfl : r = true := by
    exact e.2 (by omega)
   clear e c d
   have U := Up.refl w
   go_enter Tryz.func115, Tryz.ntmps115
   go_wp2_with fail
   obtain ⟨V1, hV1, C, uV1⟩ := Bf.nw w f 53
   have ltC : w.heap.size ≤ w.heap.size := U.size
   rw [hV1]
   clear hV1
   replace U := U.trans uV1
   clear uV1
   obtain ⟨C0, C1, C2, C3, C4, C5, C6⟩ := Bf.cs C
   have C7 := Bf.lt C
   simp only [Nat.zero_add] at C0 C1 C2 C3 C4 C5 C6 C7
   go_wp2_with fail
   clear C0 C1 C2 C3 C4 C5 C6 C7
   go_ret
   exact ⟨by first | rfl | simp, U⟩
  ·
   have d1 : (mode == 1) = false := by simpa using d.1
   have d2 : (f.k == 1) = true := by simpa using d.2
   obtain rfl : r = true := by
    exact e.2 (by omega)
   clear e c d
   have U := Up.refl w
   go_enter Tryz.func115, Tryz.ntmps115
   go_wp2_with fail
   obtain ⟨V1, hV1, C, uV1⟩ := Bf.nw w f 53
   have ltC : w.heap.size ≤ w.heap.size := U.size
   rw [hV1]
   clear hV1
   replace U := U.trans uV1
   clear uV1
   obtain ⟨C0, C1, C2, C3, C4, C5, C6⟩ := Bf.cs C
   have C7 := Bf.lt C
   simp only [Nat.zero_add] at C0 C1 C2 C3 C4 C5 C6 C7
   go_wp2_with fail
   clear C0 C1 C2 C3 C4 C5 C6 C7
   go_ret
   exact ⟨by first | rfl | simp, U⟩
  ·
   have d1 : (mode == 1) = false := by simpa using d.1
   have d2 : (f.k == 1) = false := by simpa using d.2
   obtain rfl : r = false := by
    cases r
    ·rfl
    ·have := e.1 rfl; omega
   clear e c d
   have U := Up.refl w
   go_enter Tryz.func115, Tryz.ntmps115
   go_wp2_with fail
   obtain ⟨V1, hV1, C, uV1⟩ := Bf.nw w f 53
   have ltC : w.heap.size ≤ w.heap.size := U.size
   rw [hV1]
   clear hV1
   replace U := U.trans uV1
   clear uV1
   obtain ⟨C0, C1, C2, C3, C4, C5, C6⟩ := Bf.cs C
   have C7 := Bf.lt C
   simp only [Nat.zero_add] at C0 C1 C2 C3 C4 C5 C6 C7
   go_wp2_with fail
   clear C0 C1 C2 C3 C4 C5 C6 C7
   go_ret
   exact ⟨by first | rfl | simp, U⟩
namespace M
def Fc (ii : Int) (p : Nat) (g : Bool) (k : Nat) (x : Int) : Prop :=
 ((ii < 1 ∨ 15 ≤ ii) ∧ g = false ∧ k = 0 ∧ x = 3) ∨
 ∃ i : Nat, ii = i ∧ 1 ≤ i ∧ i ≤ 14 ∧ ((msk (tb i) < p ∧ g = false ∧ k = 0 ∧ x = 1) ∨ ((p : Int) ≤ msk (tb i) ∧ ((cls (tb i) p ≠ 2 ∧ g = false ∧ k = 0 ∧ x = 5) ∨ (cls (tb i) p = 2 ∧ g = ngs (tb i) p ∧ kyf (tb i) p = k ∧ x = 0))))
def lst (f : Fm) : Nat := if f.k = 1 then 1 else 0
def Lm (f : Fm) (g : Bool) (k m1 : Nat) (z1 : Int) (m2 : Nat) (z2 : Int) : Prop :=
 ((k ≤ lst f ∧ m1 = 0 ∧ z1 = 0) ∨ (lst f < k ∧ Bd f (k - 1) m1 z1)) ∧
 (((mst f g = k ∧ st f 2) ∧ m2 = 0 ∧ z2 = 0) ∨ (¬ (mst f g = k ∧ st f 2) ∧ Bd f k m2 z2))
def Lc (ii : Int) (p m1 : Nat) (z1 : Int) (m2 : Nat) (z2 : Int) (e : Bool) (x : Int) : Prop :=
 ∃ g k, Fc ii p g k x ∧ ((x ≠ 0 ∧ m1 = 0 ∧ z1 = 0 ∧ m2 = 0 ∧ z2 = 0 ∧ e = false) ∨ (x = 0 ∧ (∀ i : Nat, ii = i → Lm (tb i) g k m1 z1 m2 z2) ∧ e = decide (k % 2 = 0)))
theorem lm_ex {f : Fm} (ok : Ok f) (ok2 : Ok2 f) (ok3 : Ok3 f) (g : Bool) {k : Nat} (hk : (k : Int) ≤ tp f) : ∃ m1 z1 m2 z2, Lm f g k m1 z1 m2 z2 := by
 classical
 obtain ⟨m2, z2, h2⟩ := bd_ex ok ok2 hk
 obtain ⟨m1, z1, h1⟩ := bd_ex ok ok2 (k := k - 1) (by omega)
 by_cases a : k ≤ lst f <;> by_cases b : mst f g = k ∧ st f 2
 ·exact ⟨_, _, _, _, .inl ⟨a, rfl, rfl⟩, .inl ⟨b, rfl, rfl⟩⟩
 ·exact ⟨_, _, _, _, .inl ⟨a, rfl, rfl⟩, .inr ⟨b, h2⟩⟩
 ·exact ⟨_, _, _, _, .inr ⟨by omega, h1⟩, .inl ⟨b, rfl, rfl⟩⟩
 ·exact ⟨_, _, _, _, .inr ⟨by omega, h1⟩, .inr ⟨b, h2⟩⟩
theorem fc_in {ii : Int} {p : Nat} {g : Bool} {k : Nat} (h : Fc ii p g k 0) : ∃ i : Nat, ii = i ∧ 1 ≤ i ∧ i ≤ 14 ∧ (p : Int) ≤ msk (tb i) ∧ cls (tb i) p = 2 ∧ g = ngs (tb i) p ∧ kyf (tb i) p = k ∧ (k : Int) ≤ mst (tb i) g ∧ (k : Int) ≤ tp (tb i) ∧ (k ≠ 0 ∨ (tb i).k = 4) := by
 rcases h with ⟨_, _, _, h⟩ | ⟨i, e, a, b, ⟨_, _, _, h⟩ | ⟨hp, ⟨_, _, _, h⟩ | ⟨hc, hg, hk, _⟩⟩⟩
 ·omega
 ·omega
 ·omega
 ·obtain ⟨c1, c2, c3, c4⟩ := cls_key (ok i a b) (ok2 i a b) (p := p) (by omega) hp (.inr hc)
  refine ⟨i, e, a, b, hp, hc, hg, hk, ?_, by omega, by have := c4 hc; omega⟩
  unfold mst
  cases g with
  | false =>
   have := c3 hg.symm
   rw [if_neg (by simp)]
   omega
  | true =>
   unfold tp at c2
   by_cases d : (tb i).k = 3
   ·rw [if_pos d] at c2
    rw [if_pos ⟨d, rfl⟩]
    omega
   ·rw [if_neg d] at c2
    rw [if_neg (fun e => d e.1)]
    omega
end M
def Lx (m1 : Nat) (z1 : Int) (m2 : Nat) (z2 : Int) (ev : Bool) (x : Int) (w : World) (e : Ending) (w' : World) : Prop :=
 ∃ v1 v2, e = .returned (.tuple #[xv false v1 z1 0, xv false v2 z2 0, .bool ev, .int .i64 x]) ∧ Nt w' w.heap.size 1 v1 m1 ∧ Nt w' w.heap.size 1 v2 m2 ∧ Up w w'
set_option maxRecDepth 100000 in
theorem rnd_finite (w : World) (TT : Hid (Tz w)) (TF : Hid (TabF w)) (ii : Int) (p : Nat) (pb : p < 18446744073709551616) (g : Bool) (k : Nat) (x : Int) (h : M.Fc ii p g k x) : Calls Tryz.prog 78 #[.int .i64 ii, u64 p] w (Bkx g k x w) := by
 rcases h with ⟨e, rfl, rfl, rfl⟩ | ⟨i, rfl, i1, i2, ⟨e, rfl, rfl, rfl⟩ | ⟨hp, ⟨hc, rfl, rfl, rfl⟩ | ⟨hc, rfl, hk, rfl⟩⟩⟩
 ·
  have CD := Lib.hid (fun W (T : Tz W) (F : TabF W) => vdecode_any W (Lib.hid T) (Lib.hid F) ii p pb 0 false 0 0 3 (.inl ⟨e, rfl, rfl, rfl, rfl, rfl⟩))
  clear e
  have U := Up.refl w
  go_enter Tryz.func78, Tryz.ntmps78
  go_wp2_with fail
  refine (CD.out _ (TT.out.up U) (TF.out.up U)).mono ?_
  rintro _ w1 ⟨rfl, h1⟩
  replace U := U.trans h1
  clear h1
  go_wp2_with fail
  obtain ⟨V2, hV2, Y, uV2⟩ := Ob.nw w1 38 #[.int .i64 0, .bool false, .int .u64 0, .int .i64 0]
  have ltY : w.heap.size ≤ w1.heap.size := U.size
  rw [hV2]
  clear hV2
  replace U := U.trans uV2
  clear uV2
  obtain ⟨Y0, Y1, Y2, Y3, Yf0, Yf1, Yf2, Yf3, Yl⟩ := Y.c4
  go_wp2_with fail
  clear Y0 Yf0 Y1 Yf1 Y2 Yf2 Y3 Yf3 Yl
  go_ret3
  exact ⟨rfl, U⟩
 ·
  have CD := Lib.hid (fun W (T : Tz W) (F : TabF W) => vdecode_any W (Lib.hid T) (Lib.hid F) (i : Int) p pb 0 false 0 0 1 (.inr ⟨i, rfl, i1, i2, .inl ⟨e, rfl, rfl, rfl, rfl, rfl⟩⟩))
  clear e
  have U := Up.refl w
  go_enter Tryz.func78, Tryz.ntmps78
  go_wp2_with fail
  refine (CD.out _ (TT.out.up U) (TF.out.up U)).mono ?_
  rintro _ w1 ⟨rfl, h1⟩
  replace U := U.trans h1
  clear h1
  go_wp2_with fail
  obtain ⟨V2, hV2, Y, uV2⟩ := Ob.nw w1 38 #[.int .i64 0, .bool false, .int .u64 0, .int .i64 0]
  have ltY : w.heap.size ≤ w1.heap.size := U.size
  rw [hV2]
  clear hV2
  replace U := U.trans uV2
  clear uV2
  obtain ⟨Y0, Y1, Y2, Y3, Yf0, Yf1, Yf2, Yf3, Yl⟩ := Y.c4
  go_wp2_with fail
  clear Y0 Yf0 Y1 Yf1 Y2 Yf2 Y3 Yf3 Yl
  go_ret3
  exact ⟨rfl, U⟩
 ·
  obtain ⟨c, g', m, z, hd⟩ := M.dv_ex (M.ok i i1 i2) (M.ok2 i i1 i2) (p := p) (by omega) hp
  have CD := Lib.hid (fun W (T : Tz W) (F : TabF W) => vdecode_any W (Lib.hid T) (Lib.hid F) (i : Int) p pb c g' m z 0 (.inr ⟨i, rfl, i1, i2, .inr ⟨hp, hd, rfl⟩⟩))
  have c2 : c ≠ 2 := by
   rcases hd with ⟨_, rfl, _⟩ | ⟨_, rfl, _⟩ | ⟨_, rfl, _⟩ | ⟨h, _⟩
   ·decide
   ·decide
   ·decide
   ·exact absurd h hc
  have d1 : (c != 2) = true := by simpa using c2
  clear hd hp hc c2
  have U := Up.refl w
  go_enter Tryz.func78, Tryz.ntmps78
  go_wp2_with fail
  refine (CD.out _ (TT.out.up U) (TF.out.up U)).mono ?_
  rintro _ w1 ⟨rfl, h1⟩
  replace U := U.trans h1
  clear h1
  go_wp2_with fail
  obtain ⟨V2, hV2, Y, uV2⟩ := Ob.nw w1 38 #[.int .i64 c, .bool g', .int .u64 (m : Int), .int .i64 z]
  have ltY : w.heap.size ≤ w1.heap.size := U.size
  rw [hV2]
  clear hV2
  replace U := U.trans uV2
  clear uV2
  obtain ⟨Y0, Y1, Y2, Y3, Yf0, Yf1, Yf2, Yf3, Yl⟩ := Y.c4
  go_wp2_with fail
  clear Y0 Yf0 Y1 Yf1 Y2 Yf2 Y3 Yf3 Yl
  go_ret3
  exact ⟨rfl, U⟩
 ·
  obtain ⟨c, g', m, z, hd⟩ := M.dv_ex (M.ok i i1 i2) (M.ok2 i i1 i2) (p := p) (by omega) hp
  have CD := Lib.hid (fun W (T : Tz W) (F : TabF W) => vdecode_any W (Lib.hid T) (Lib.hid F) (i : Int) p pb c g' m z 0 (.inr ⟨i, rfl, i1, i2, .inr ⟨hp, hd, rfl⟩⟩))
  have CK := Lib.hid (fun W (T : Tz W) (F : TabF W) => vkey_any W (Lib.hid T) (Lib.hid F) (i : Int) p pb _ k 0 (.inr ⟨i, rfl, i1, i2, .inr ⟨hp, .inr (.inr ⟨hc, rfl, hk, rfl⟩)⟩⟩))
  obtain rfl : c = 2 := by
   rcases hd with ⟨h, _⟩ | ⟨h, _⟩ | ⟨h, _⟩ | ⟨_, h, _⟩ <;> omega
  obtain ⟨gg, hgg⟩ : ∃ gg, M.ngs (M.tb i) p = gg := ⟨_, rfl⟩
  rw [hgg] at CK ⊢
  clear hd hp hc hk hgg
  have U := Up.refl w
  go_enter Tryz.func78, Tryz.ntmps78
  go_wp2_with fail
  refine (CD.out _ (TT.out.up U) (TF.out.up U)).mono ?_
  rintro _ w1 ⟨rfl, h1⟩
  replace U := U.trans h1
  clear h1
  go_wp2_with fail
  obtain ⟨V2, hV2, Y, uV2⟩ := Ob.nw w1 38 #[.int .i64 2, .bool g', .int .u64 (m : Int), .int .i64 z]
  have ltY : w.heap.size ≤ w1.heap.size := U.size
  rw [hV2]
  clear hV2
  replace U := U.trans uV2
  clear uV2
  obtain ⟨Y0, Y1, Y2, Y3, Yf0, Yf1, Yf2, Yf3, Yl⟩ := Y.c4
  go_wp2_with fail
  clear Y0 Yf0 Y1 Yf1 Y2 Yf2 Y3 Yf3 Yl
  refine (CK.out _ (TT.out.up U) (TF.out.up U)).mono ?_
  rintro _ w3 ⟨rfl, h3⟩
  replace U := U.trans h3
  replace Y := Y.up h3
  clear h3
  obtain ⟨Y0, Y1, Y2, Y3, Yf0, Yf1, Yf2, Yf3, Yl⟩ := Y.c4
  go_wp2_with fail
  clear Y0 Yf0 Y1 Yf1 Y2 Yf2 Y3 Yf3 Yl
  go_ret3
  exact ⟨rfl, U⟩
set_option maxRecDepth 100000 in
theorem rnd_endless (w : World) (TF : Hid (TabF w)) (i : Nat) (f : M.Fm) (hf : Hid (M.tb i = f)) (i1 : 1 ≤ i) (i2 : i ≤ 14) (neg : Bool) (h4 : ¬ (f.k = 4 ∧ neg = true)) (k : Nat) (kb : k < 18446744073709551616) (r : Bool) (hr : Hid (r = true ↔ (M.mst f neg = k ∧ M.st f 2))) : Calls Tryz.prog 81 #[.int .i64 (i : Int), .bool neg, u64 k] w (Bz r w) := by
 have CO := Lib.hid (fun W (F : TabF W) => of_in W F i f hf i1 i2)
 have CM := Lib.hid (fun W (F : TabF W) => vmost_any W (Lib.hid F) (i : Int) neg _ 0 (.inr ⟨i, rfl, i1, i2, .inr ⟨by rw [hf.out]; exact h4, rfl, rfl⟩⟩))
 rw [hf.out] at CM
 obtain ⟨q, hq⟩ : ∃ q, M.mst f neg = q := ⟨_, rfl⟩
 have e := hr.out
 rw [hq] at CM e
 clear hr hq h4 hf
 by_cases c : q = k
 ·
  subst c
  have d1 : ((k : Int) == (k : Int)) = true := by simp
  have CS := Lib.hid (fun W => rnd_stays W f 2 r (by show _ ↔ _; rw [e]; simp))
  clear e
  have U := Up.refl w
  go_enter Tryz.func81, Tryz.ntmps81
  go_wp2_with fail
  refine (CO.out _ (TF.out.up U)).mono ?_
  rintro _ w1 ⟨rfl, h1⟩
  replace U := U.trans h1
  clear h1
  go_wp2_with fail
  obtain ⟨V2, hV2, C, uV2⟩ := Bf.nw w1 f 53
  have ltC : w.heap.size ≤ w1.heap.size := U.size
  rw [hV2]
  clear hV2
  replace U := U.trans uV2
  clear uV2
  refine (CM.out _ (TF.out.up U)).mono ?_
  rintro _ w3 ⟨rfl, h3⟩
  replace U := U.trans h3
  replace C := C.up h3
  clear h3
  obtain ⟨C0, C1, C2, C3, C4, C5, C6⟩ := Bf.cs C
  have C7 := Bf.lt C
  simp only [Nat.zero_add] at C0 C1 C2 C3 C4 C5 C6 C7
  go_wp2_with fail
  clear C0 C1 C2 C3 C4 C5 C6 C7
  refine (CS.out _).mono ?_
  rintro _ w4 ⟨rfl, h4⟩
  replace U := U.trans h4
  replace C := C.up h4
  clear h4
  obtain ⟨C0, C1, C2, C3, C4, C5, C6⟩ := Bf.cs C
  have C7 := Bf.lt C
  simp only [Nat.zero_add] at C0 C1 C2 C3 C4 C5 C6 C7
  go_wp2_with fail
  clear C0 C1 C2 C3 C4 C5 C6 C7
  go_ret
  exact ⟨by first | rfl | simp, U⟩
 ·
  obtain rfl : r = false := by
   cases r
   ·rfl
   ·exact absurd (e.1 rfl).1 c
  have d1 : ((k : Int) == q) = false := by simpa using fun h : (k : Int) = q => c h.symm
  clear e c
  have U := Up.refl w
  go_enter Tryz.func81, Tryz.ntmps81
  go_wp2_with fail
  refine (CO.out _ (TF.out.up U)).mono ?_
  rintro _ w1 ⟨rfl, h1⟩
  replace U := U.trans h1
  clear h1
  go_wp2_with fail
  obtain ⟨V2, hV2, C, uV2⟩ := Bf.nw w1 f 53
  have ltC : w.heap.size ≤ w1.heap.size := U.size
  rw [hV2]
  clear hV2
  replace U := U.trans uV2
  clear uV2
  refine (CM.out _ (TF.out.up U)).mono ?_
  rintro _ w3 ⟨rfl, h3⟩
  replace U := U.trans h3
  replace C := C.up h3
  clear h3
  obtain ⟨C0, C1, C2, C3, C4, C5, C6⟩ := Bf.cs C
  have C7 := Bf.lt C
  simp only [Nat.zero_add] at C0 C1 C2 C3 C4 C5 C6 C7
  go_wp2_with fail
  clear C0 C1 C2 C3 C4 C5 C6 C7
  go_ret
  exact ⟨by first | rfl | simp, U⟩
set_option maxRecDepth 100000 in
theorem rnd_limits (w : World) (TT : Hid (Tz w)) (TF : Hid (TabF w)) (ii : Int) (p : Nat) (pb : p < 18446744073709551616) (m1 : Nat) (z1 : Int) (m2 : Nat) (z2 : Int) (ev : Bool) (x : Int) (h : M.Lc ii p m1 z1 m2 z2 ev x) : Calls Tryz.prog 41 #[.int .i64 ii, u64 p] w (Lx m1 z1 m2 z2 ev x w) := by
 obtain ⟨gg, k, hF, h⟩ := h
 have CF := Lib.hid (fun W (T : Tz W) (F : TabF W) => rnd_finite W (Lib.hid T) (Lib.hid F) ii p pb gg k x hF)
 rcases h with ⟨hx, rfl, rfl, rfl, rfl, rfl⟩ | ⟨rfl, hl, hev⟩
 ·
  have d1 : (x != 0) = true := by simpa using hx
  clear hx hF pb
  have U := Up.refl w
  go_enter Tryz.func41, Tryz.ntmps41
  go_wp2_with fail
  obtain ⟨V1, hV1, R1, uV1⟩ := Ob.nw w 84 #[.bool false, .slice none 0 0, .int .i64 0, .int .i64 0]
  have sV1 : V1.heap.size = w.heap.size + 1 := by rw [← hV1]; exact Array.size_push _
  have ltR1 : w.heap.size ≤ w.heap.size := U.size
  have ltR2 : w.heap.size ≤ w.heap.size + 1 := Nat.le_succ_of_le U.size
  rw [hV1]
  clear hV1
  obtain ⟨V2, hV2⟩ : ∃ V2, V1.alloc (.cells #[.bool false, .slice none 0 0, .int .i64 0, .int .i64 0] 84) = V2 := ⟨_, rfl⟩
  have R2 : Ob V2 (w.heap.size + 1) 84 #[.bool false, .slice none 0 0, .int .i64 0, .int .i64 0] := by rw [← sV1, ← hV2]; exact Ob.mk_ _ _ _
  have uV2 : Up V1 V2 := Up.al hV2
  rw [hV2]
  clear hV2 sV1
  replace R1 := R1.up uV2
  replace uV2 := uV1.trans uV2
  clear uV1
  replace U := U.trans uV2
  clear uV2
  refine (CF.out _ (TT.out.up U) (TF.out.up U)).mono ?_
  rintro _ w3 ⟨rfl, h3⟩
  replace U := U.trans h3
  replace R1 := R1.up h3
  replace R2 := R2.up h3
  clear h3
  go_wp2_with (first | (refine store_ob2 rfl 84 (.tmp 4) (.tmp 22) rfl _ #[.bool false, .slice none 0 0, .int .i64 0, .int .i64 0] #[.bool false, .slice none 0 0, .int .i64 0, .int .i64 0] rfl rfl 4 (by kernel_rfl) rfl rfl (by simp [Value.oneCell']) w U ltR1 84 R1 ?_; clear U; intro V9 Z9 U ho; replace R2 := Ob.oth R2 ho (by omega); clear ho R1; have R1 := Z9; clear Z9) | (refine store_ob2 rfl 84 (.tmp 5) (.tmp 23) rfl _ #[.bool false, .slice none 0 0, .int .i64 0, .int .i64 0] #[.bool false, .slice none 0 0, .int .i64 0, .int .i64 0] rfl rfl 4 (by kernel_rfl) rfl rfl (by simp [Value.oneCell']) w U ltR2 84 R2 ?_; clear U; intro V9 Z9 U ho; replace R1 := Ob.oth R1 ho (by omega); clear ho R2; have R2 := Z9; clear Z9))
  obtain ⟨yy0, yy1, yy2, yy3⟩ := R1.g4
  obtain ⟨zz0, zz1, zz2, zz3⟩ := R2.g4
  refine bodyPost_ret (v := .tuple #[xv false (.slice none 0 0) 0 0, xv false (.slice none 0 0) 0 0, .bool false, .int .i64 x]) (by simp [results, Tryz.results41, go_sem, yy0, yy1, yy2, yy3, zz0, zz1, zz2, zz3]) rfl ?_
  exact ⟨_, _, rfl, Nt.nil _ _ _, Nt.nil _ _ _, U⟩
 ·
  obtain ⟨i, rfl, i1, i2, hp, hc, hg, hk, km, kt, k0⟩ := M.fc_in hF
  have hl := hl i rfl
  have ok := M.ok i i1 i2
  have ok2 := M.ok2 i i1 i2
  have ok3 := M.ok3 i i1 i2
  have h4 : ¬ ((M.tb i).k = 4 ∧ gg = true) := fun e => by
   have := M.ngs_four ok e.1 p
   rw [← hg, e.2] at this
   cases this
  have kb : k < 18446744073709551616 := by
   obtain ⟨q, hq, _, qb, _⟩ := M.mst_rng ok ok2 ok3 gg
   omega
  clear hF hp hc hg hk km
  obtain ⟨f, hf⟩ : ∃ f, M.tb i = f := ⟨_, rfl⟩
  rw [hf] at ok ok2 ok3 h4 hl kt k0
  have HF := Lib.hid hf
  clear hf
  obtain ⟨l, hll⟩ : ∃ l, M.lst f = l := ⟨_, rfl⟩
  have CL := Lib.hid (fun W (F : TabF W) => least_any W (Lib.hid F) i f HF i1 i2 l (Lib.hid hll))
  have CE := Lib.hid (fun W (r : Bool) (hr : Hid (r = true ↔ (M.mst f gg = k ∧ M.st f 2))) (F : TabF W) => rnd_endless W (Lib.hid F) i f HF i1 i2 gg h4 k kb r hr)
  have CV := Lib.hid (fun W => iseven_any W k kb ev (Lib.hid hev.symm))
  have CB := Lib.hid (fun W (T : Tz W) (F : TabF W) (j m : Nat) (z : Int) (jb : j < 18446744073709551616) (hj : (j : Int) ≤ M.tp f) (hbd : M.Bd f j m z) => rnd_behind W (Lib.hid T) (Lib.hid F) i f HF i1 i2 j jb hj m z hbd (M.bd_z ok ok2 ok3 hj hbd).2.1 (M.bd_z ok ok2 ok3 hj hbd).2.2)
  obtain ⟨l1, l2⟩ := hl
  rw [hll] at l1
  rcases l1 with ⟨c1, rfl, rfl⟩ | ⟨c1, b1⟩ <;> rcases l2 with ⟨c2, rfl, rfl⟩ | ⟨c2, b2⟩
  ·
   replace c1 : ¬ l < k := by omega
   have CE1 := Lib.hid (fun W F => CE.out W true ⟨fun _ => c2, fun _ => rfl⟩ F)
   clear CB CE c2 kt k0 h4 ok ok2 ok3 hll hev
   have U := Up.refl w
   go_enter Tryz.func41, Tryz.ntmps41
   go_wp2_with fail
   obtain ⟨V1, hV1, R1, uV1⟩ := Ob.nw w 84 #[.bool false, .slice none 0 0, .int .i64 0, .int .i64 0]
   have sV1 : V1.heap.size = w.heap.size + 1 := by rw [← hV1]; exact Array.size_push _
   have ltR1 : w.heap.size ≤ w.heap.size := U.size
   have ltR2 : w.heap.size ≤ w.heap.size + 1 := Nat.le_succ_of_le U.size
   rw [hV1]
   clear hV1
   obtain ⟨V2, hV2⟩ : ∃ V2, V1.alloc (.cells #[.bool false, .slice none 0 0, .int .i64 0, .int .i64 0] 84) = V2 := ⟨_, rfl⟩
   have R2 : Ob V2 (w.heap.size + 1) 84 #[.bool false, .slice none 0 0, .int .i64 0, .int .i64 0] := by rw [← sV1, ← hV2]; exact Ob.mk_ _ _ _
   have uV2 : Up V1 V2 := Up.al hV2
   rw [hV2]
   clear hV2 sV1
   replace R1 := R1.up uV2
   replace uV2 := uV1.trans uV2
   clear uV1
   replace U := U.trans uV2
   clear uV2
   refine (CF.out _ (TT.out.up U) (TF.out.up U)).mono ?_
   rintro _ w3 ⟨rfl, h3⟩
   replace U := U.trans h3
   replace R1 := R1.up h3
   replace R2 := R2.up h3
   clear h3
   go_wp2_with fail
   obtain ⟨V4, hV4⟩ : ∃ V4, w3.alloc (.cells #[.bool false, .slice none 0 0, .int .i64 0, .int .i64 0] 84) = V4 := ⟨_, rfl⟩
   have sV4 : V4.heap.size = w3.heap.size + 1 := by rw [← hV4]; exact Array.size_push _
   have A : Ob V4 w3.heap.size 84 #[.bool false, .slice none 0 0, .int .i64 0, .int .i64 0] := by rw [← hV4]; exact Ob.mk_ _ _ _
   have uV4 : Up w3 V4 := Up.al hV4
   have ltA : w.heap.size ≤ w3.heap.size := U.size
   have ltB : w.heap.size ≤ w3.heap.size + 1 := Nat.le_succ_of_le U.size
   have gAR1 := R1.lt
   have gAR2 := R2.lt
   rw [hV4]
   clear hV4
   obtain ⟨V5, hV5⟩ : ∃ V5, V4.alloc (.cells #[.bool false, .slice none 0 0, .int .i64 0, .int .i64 0] 84) = V5 := ⟨_, rfl⟩
   have B : Ob V5 (w3.heap.size + 1) 84 #[.bool false, .slice none 0 0, .int .i64 0, .int .i64 0] := by rw [← sV4, ← hV5]; exact Ob.mk_ _ _ _
   have uV5 : Up V4 V5 := Up.al hV5
   rw [hV5]
   clear hV5 sV4
   replace A := A.up uV5
   replace uV5 := uV4.trans uV5
   clear uV4
   replace U := U.trans uV5
   replace R1 := R1.up uV5
   replace R2 := R2.up uV5
   clear uV5
   refine (CL.out _ (TF.out.up U)).mono ?_
   rintro _ w6 ⟨rfl, h6⟩
   replace U := U.trans h6
   replace R1 := R1.up h6
   replace R2 := R2.up h6
   replace A := A.up h6
   replace B := B.up h6
   clear h6
   go_wp2_with fail
   refine (CE1.out _ (TF.out.up U)).mono ?_
   rintro _ w7 ⟨rfl, h7⟩
   replace U := U.trans h7
   replace R1 := R1.up h7
   replace R2 := R2.up h7
   replace A := A.up h7
   replace B := B.up h7
   clear h7
   go_wp2_with fail
   refine wp_region_held_drew (S := fun w' => Ob w' (w3.heap.size) 84 #[.bool false, .slice none 0 0, .int .i64 0, .int .i64 0] ∧ Ob w' (w3.heap.size + 1) 84 #[.bool false, .slice none 0 0, .int .i64 0, .int .i64 0]) (by kernel_rfl) ⟨A.up ((Up.refl _).drew), B.up ((Up.refl _).drew)⟩ (fun hHeld => ?_)
   refine wpAnyH_take (i := 0) (v := ?_) rfl (by kernel_rfl) (by kernel_rfl) (by kernel_rfl) (fun _ _ _ h => h) (Or.inl ⟨by rfl, ?_⟩) (by assumption) ?_
   rotate_left
   ·intro w hSw
    obtain ⟨hA, hB⟩ := hSw
    obtain ⟨A0, A1, A2, A3⟩ := hA.g4
    obtain ⟨B0, B1, B2, B3⟩ := hB.g4
    go_simp
    all_goals with_reducible rfl
   try simp only [Act.put, M.z1, M.z2, M.z3, M.z4, M.z5, M.z6]
   refine wpAnyH_take (i := 1) (v := ?_) rfl (by kernel_rfl) (by kernel_rfl) (by kernel_rfl) (fun _ _ _ h => h) (Or.inl ⟨by rfl, ?_⟩) (by assumption) ?_
   rotate_left
   ·intro w hSw
    obtain ⟨hA, hB⟩ := hSw
    obtain ⟨A0, A1, A2, A3⟩ := hA.g4
    obtain ⟨B0, B1, B2, B3⟩ := hB.g4
    go_simp
    all_goals with_reducible rfl
   try simp only [Act.put, M.z1, M.z2, M.z3, M.z4, M.z5, M.z6]
   refine wpAnyH_take (i := 2) (v := ?_) rfl (by kernel_rfl) (by kernel_rfl) (by kernel_rfl) (fun _ _ _ h => h) (Or.inl ⟨by rfl, ?_⟩) (by assumption) ?_
   rotate_left
   ·intro w hSw
    obtain ⟨hA, hB⟩ := hSw
    obtain ⟨A0, A1, A2, A3⟩ := hA.g4
    obtain ⟨B0, B1, B2, B3⟩ := hB.g4
    go_simp
    all_goals with_reducible rfl
   try simp only [Act.put, M.z1, M.z2, M.z3, M.z4, M.z5, M.z6]
   refine wpAnyH_ready (rs := [3]) (by kernel_rfl) (by simp) ?_
   refine AllReadyH.cons rfl (fun K hK => ?_) AllReadyH.nil
   go_simp
   refine (CV.out _).mono ?_
   rintro _ _ ⟨rfl, rfl⟩
   have R1d := R1.up ((Up.refl _).drew)
   have R2d := R2.up ((Up.refl _).drew)
   have Ad := A.up ((Up.refl _).drew)
   have Bd := B.up ((Up.refl _).drew)
   have Ud := U.drew
   refine hK.out _ _ ⟨Ad, Bd⟩ (fun _ => ?_)
   try simp only [Act.put, M.z1, M.z2, M.z3, M.z4, M.z5, M.z6]
   clear hK
   replace R1 := R1d
   clear R1d
   replace R2 := R2d
   clear R2d
   replace A := Ad
   clear Ad
   replace B := Bd
   clear Bd
   replace U := Ud
   clear Ud hHeld
   refine wpAnyH_ready (rs := [4]) (by kernel_rfl) (by simp) ?_
   refine AllReadyH.cons rfl (fun K hK => ?_) AllReadyH.nil
   rw [if_pos (by rfl)]
   refine wp_store_row 84 (.tmp 4) (.tmp 41) rfl w.heap.size #[.bool false, .slice none 0 0, .int .i64 0, .int .i64 0] rfl rfl 84 #[.bool false, .slice none 0 0, .int .i64 0, .int .i64 0] R1 (by kernel_rfl) rfl (by simp [Value.oneCell']) ?_
   have oS : ∀ b', b' ≠ w.heap.size → (w7.drew.setRow w.heap.size #[.bool false, .slice none 0 0, .int .i64 0, .int .i64 0]).heap[b']? = w7.drew.heap[b']? := fun b' h => setRow_other _ _ _ _ h
   replace R1 : Ob (w7.drew.setRow w.heap.size #[.bool false, .slice none 0 0, .int .i64 0, .int .i64 0]) w.heap.size 84 #[.bool false, .slice none 0 0, .int .i64 0, .int .i64 0] := setRow_heap _ _ _ _ _ _ R1
   replace U : Up w (w7.drew.setRow w.heap.size #[.bool false, .slice none 0 0, .int .i64 0, .int .i64 0]) := U.setRow_ ltR1 _
   replace R2 := Ob.oth R2 oS (by omega)
   replace A := Ob.oth A oS (by omega)
   replace B := Ob.oth B oS (by omega)
   refine hK.out _ _ ⟨A, B⟩ (fun _ => ?_)
   try simp only [Act.put, M.z1, M.z2, M.z3, M.z4, M.z5, M.z6]
   clear hK oS
   obtain ⟨VC, hVC⟩ : ∃ VC, w7.drew.setRow w.heap.size #[.bool false, .slice none 0 0, .int .i64 0, .int .i64 0] = VC := ⟨_, rfl⟩
   rw [hVC] at U R1 R2 A B  ⊢
   clear hVC
   refine wpAnyH_ready (rs := [5]) (by kernel_rfl) (by simp) ?_
   refine AllReadyH.cons rfl (fun K hK => ?_) AllReadyH.nil
   rw [if_pos (by rfl)]
   refine wp_store_row 84 (.tmp 5) (.tmp 42) rfl (w.heap.size + 1) #[.bool false, .slice none 0 0, .int .i64 0, .int .i64 0] rfl rfl 84 #[.bool false, .slice none 0 0, .int .i64 0, .int .i64 0] R2 (by kernel_rfl) rfl (by simp [Value.oneCell']) ?_
   have oS : ∀ b', b' ≠ (w.heap.size + 1) → (VC.setRow (w.heap.size + 1) #[.bool false, .slice none 0 0, .int .i64 0, .int .i64 0]).heap[b']? = VC.heap[b']? := fun b' h => setRow_other _ _ _ _ h
   replace R2 : Ob (VC.setRow (w.heap.size + 1) #[.bool false, .slice none 0 0, .int .i64 0, .int .i64 0]) (w.heap.size + 1) 84 #[.bool false, .slice none 0 0, .int .i64 0, .int .i64 0] := setRow_heap _ _ _ _ _ _ R2
   replace U : Up w (VC.setRow (w.heap.size + 1) #[.bool false, .slice none 0 0, .int .i64 0, .int .i64 0]) := U.setRow_ ltR2 _
   replace R1 := Ob.oth R1 oS (by omega)
   replace A := Ob.oth A oS (by omega)
   replace B := Ob.oth B oS (by omega)
   refine hK.out _ _ ⟨A, B⟩ (fun _ => ?_)
   try simp only [Act.put, M.z1, M.z2, M.z3, M.z4, M.z5, M.z6]
   clear hK oS
   obtain ⟨VD, hVD⟩ : ∃ VD, VC.setRow (w.heap.size + 1) #[.bool false, .slice none 0 0, .int .i64 0, .int .i64 0] = VD := ⟨_, rfl⟩
   rw [hVD] at U R1 R2 A B  ⊢
   clear hVD
   refine wpAnyH_ready (rs := [6]) (by kernel_rfl) (by simp) ?_
   refine AllReadyH.cons rfl (fun K hK => ?_) AllReadyH.nil
   go_simp
   refine hK.out _ _ ⟨A, B⟩ (fun _ => ?_)
   try simp only [Act.put, M.z1, M.z2, M.z3, M.z4, M.z5, M.z6]
   clear hK
   refine wpAnyH_ready (rs := [7]) (by kernel_rfl) (by simp) ?_
   refine AllReadyH.cons rfl (fun K hK => ?_) AllReadyH.nil
   go_simp
   refine hK.out _ _ ⟨A, B⟩ (fun _ => ?_)
   try simp only [Act.put, M.z1, M.z2, M.z3, M.z4, M.z5, M.z6]
   clear hK
   refine wpAnyH_done (by kernel_rfl) ?_ _
   go_wp2_with fail
   obtain ⟨yy0, yy1, yy2, yy3⟩ := R1.g4
   obtain ⟨zz0, zz1, zz2, zz3⟩ := R2.g4
   refine bodyPost_ret (v := .tuple #[xv false (.slice none 0 0) 0 0, xv false (.slice none 0 0) 0 0, .bool ev, .int .i64 0]) (by simp [results, Tryz.results41, go_sem, yy0, yy1, yy2, yy3, zz0, zz1, zz2, zz3]) rfl ?_
   exact ⟨_, _, rfl, Nt.nil _ _ _, Nt.nil _ _ _, U⟩
  ·
   replace c1 : ¬ l < k := by omega
   have CE1 := Lib.hid (fun W F => CE.out W false ⟨fun e => (by cases e), fun e => absurd e c2⟩ F)
   have CD := Lib.hid (fun W T F => CB.out W T F k m2 z2 kb kt b2)
   clear CB CE c2 kt k0 h4 ok ok2 ok3 hll hev b2
   have U := Up.refl w
   go_enter Tryz.func41, Tryz.ntmps41
   go_wp2_with fail
   obtain ⟨V1, hV1, R1, uV1⟩ := Ob.nw w 84 #[.bool false, .slice none 0 0, .int .i64 0, .int .i64 0]
   have sV1 : V1.heap.size = w.heap.size + 1 := by rw [← hV1]; exact Array.size_push _
   have ltR1 : w.heap.size ≤ w.heap.size := U.size
   have ltR2 : w.heap.size ≤ w.heap.size + 1 := Nat.le_succ_of_le U.size
   rw [hV1]
   clear hV1
   obtain ⟨V2, hV2⟩ : ∃ V2, V1.alloc (.cells #[.bool false, .slice none 0 0, .int .i64 0, .int .i64 0] 84) = V2 := ⟨_, rfl⟩
   have R2 : Ob V2 (w.heap.size + 1) 84 #[.bool false, .slice none 0 0, .int .i64 0, .int .i64 0] := by rw [← sV1, ← hV2]; exact Ob.mk_ _ _ _
   have uV2 : Up V1 V2 := Up.al hV2
   rw [hV2]
   clear hV2 sV1
   replace R1 := R1.up uV2
   replace uV2 := uV1.trans uV2
   clear uV1
   replace U := U.trans uV2
   clear uV2
   refine (CF.out _ (TT.out.up U) (TF.out.up U)).mono ?_
   rintro _ w3 ⟨rfl, h3⟩
   replace U := U.trans h3
   replace R1 := R1.up h3
   replace R2 := R2.up h3
   clear h3
   go_wp2_with fail
   obtain ⟨V4, hV4⟩ : ∃ V4, w3.alloc (.cells #[.bool false, .slice none 0 0, .int .i64 0, .int .i64 0] 84) = V4 := ⟨_, rfl⟩
   have sV4 : V4.heap.size = w3.heap.size + 1 := by rw [← hV4]; exact Array.size_push _
   have A : Ob V4 w3.heap.size 84 #[.bool false, .slice none 0 0, .int .i64 0, .int .i64 0] := by rw [← hV4]; exact Ob.mk_ _ _ _
   have uV4 : Up w3 V4 := Up.al hV4
   have ltA : w.heap.size ≤ w3.heap.size := U.size
   have ltB : w.heap.size ≤ w3.heap.size + 1 := Nat.le_succ_of_le U.size
   have gAR1 := R1.lt
   have gAR2 := R2.lt
   rw [hV4]
   clear hV4
   obtain ⟨V5, hV5⟩ : ∃ V5, V4.alloc (.cells #[.bool false, .slice none 0 0, .int .i64 0, .int .i64 0] 84) = V5 := ⟨_, rfl⟩
   have B : Ob V5 (w3.heap.size + 1) 84 #[.bool false, .slice none 0 0, .int .i64 0, .int .i64 0] := by rw [← sV4, ← hV5]; exact Ob.mk_ _ _ _
   have uV5 : Up V4 V5 := Up.al hV5
   rw [hV5]
   clear hV5 sV4
   replace A := A.up uV5
   replace uV5 := uV4.trans uV5
   clear uV4
   replace U := U.trans uV5
   replace R1 := R1.up uV5
   replace R2 := R2.up uV5
   clear uV5
   refine (CL.out _ (TF.out.up U)).mono ?_
   rintro _ w6 ⟨rfl, h6⟩
   replace U := U.trans h6
   replace R1 := R1.up h6
   replace R2 := R2.up h6
   replace A := A.up h6
   replace B := B.up h6
   clear h6
   go_wp2_with fail
   refine (CE1.out _ (TF.out.up U)).mono ?_
   rintro _ w7 ⟨rfl, h7⟩
   replace U := U.trans h7
   replace R1 := R1.up h7
   replace R2 := R2.up h7
   replace A := A.up h7
   replace B := B.up h7
   clear h7
   go_wp2_with fail
   have gM := B.lt
   refine (CD.out _ (TT.out.up U) (TF.out.up U)).mono ?_
   rintro _ w8 ⟨_, rfl, ⟨A2, n2, k2, ys2, rfl, N2⟩, h8⟩
   replace U := U.trans h8
   replace R1 := R1.up h8
   replace R2 := R2.up h8
   replace A := A.up h8
   replace B := B.up h8
   clear h8
   replace N2 : Nt w8 _ 1 (.slice A2 n2 k2) m2 := ⟨_, _, _, _, rfl, N2⟩
   go_upto_region 9 with (refine store_ob2 rfl 84 (.tmp 12) (.tmp 40) rfl _ #[.bool false, .slice none 0 0, .int .i64 0, .int .i64 0] #[.bool false, .slice A2 n2 k2, .int .i64 z2, .int .i64 0] rfl rfl 4 (by kernel_rfl) rfl rfl (by simp [Value.oneCell']) w U ltB 84 B ?_; clear U; intro VB Z9 U ho; replace N2 := Nt.other N2 ho (by omega); replace R1 := Ob.oth R1 ho (by omega); replace R2 := Ob.oth R2 ho (by omega); replace A := Ob.oth A ho (by omega); clear ho B; have B := Z9; clear Z9)
   refine wp_region_held_drew (S := fun w' => Ob w' (w3.heap.size) 84 #[.bool false, .slice none 0 0, .int .i64 0, .int .i64 0] ∧ Ob w' (w3.heap.size + 1) 84 #[.bool false, .slice A2 n2 k2, .int .i64 z2, .int .i64 0]) (by kernel_rfl) ⟨A.up ((Up.refl _).drew), B.up ((Up.refl _).drew)⟩ (fun hHeld => ?_)
   refine wpAnyH_take (i := 0) (v := ?_) rfl (by kernel_rfl) (by kernel_rfl) (by kernel_rfl) (fun _ _ _ h => h) (Or.inl ⟨by rfl, ?_⟩) (by assumption) ?_
   rotate_left
   ·intro w hSw
    obtain ⟨hA, hB⟩ := hSw
    obtain ⟨A0, A1, A2, A3⟩ := hA.g4
    obtain ⟨B0, B1, B2, B3⟩ := hB.g4
    go_simp
    all_goals with_reducible rfl
   try simp only [Act.put, M.z1, M.z2, M.z3, M.z4, M.z5, M.z6]
   refine wpAnyH_take (i := 1) (v := ?_) rfl (by kernel_rfl) (by kernel_rfl) (by kernel_rfl) (fun _ _ _ h => h) (Or.inl ⟨by rfl, ?_⟩) (by assumption) ?_
   rotate_left
   ·intro w hSw
    obtain ⟨hA, hB⟩ := hSw
    obtain ⟨A0, A1, A2, A3⟩ := hA.g4
    obtain ⟨B0, B1, B2, B3⟩ := hB.g4
    go_simp
    all_goals with_reducible rfl
   try simp only [Act.put, M.z1, M.z2, M.z3, M.z4, M.z5, M.z6]
   refine wpAnyH_take (i := 2) (v := ?_) rfl (by kernel_rfl) (by kernel_rfl) (by kernel_rfl) (fun _ _ _ h => h) (Or.inl ⟨by rfl, ?_⟩) (by assumption) ?_
   rotate_left
   ·intro w hSw
    obtain ⟨hA, hB⟩ := hSw
    obtain ⟨A0, A1, A2, A3⟩ := hA.g4
    obtain ⟨B0, B1, B2, B3⟩ := hB.g4
    go_simp
    all_goals with_reducible rfl
   try simp only [Act.put, M.z1, M.z2, M.z3, M.z4, M.z5, M.z6]
   refine wpAnyH_ready (rs := [3]) (by kernel_rfl) (by simp) ?_
   refine AllReadyH.cons rfl (fun K hK => ?_) AllReadyH.nil
   go_simp
   refine (CV.out _).mono ?_
   rintro _ _ ⟨rfl, rfl⟩
   have R1d := R1.up ((Up.refl _).drew)
   have R2d := R2.up ((Up.refl _).drew)
   have Ad := A.up ((Up.refl _).drew)
   have Bd := B.up ((Up.refl _).drew)
   have Ud := U.drew
   replace N2 := N2.up ((Up.refl _).drew)
   refine hK.out _ _ ⟨Ad, Bd⟩ (fun _ => ?_)
   try simp only [Act.put, M.z1, M.z2, M.z3, M.z4, M.z5, M.z6]
   clear hK
   replace R1 := R1d
   clear R1d
   replace R2 := R2d
   clear R2d
   replace A := Ad
   clear Ad
   replace B := Bd
   clear Bd
   replace U := Ud
   clear Ud hHeld
   refine wpAnyH_ready (rs := [4]) (by kernel_rfl) (by simp) ?_
   refine AllReadyH.cons rfl (fun K hK => ?_) AllReadyH.nil
   rw [if_pos (by rfl)]
   refine wp_store_row 84 (.tmp 4) (.tmp 41) rfl w.heap.size #[.bool false, .slice none 0 0, .int .i64 0, .int .i64 0] rfl rfl 84 #[.bool false, .slice none 0 0, .int .i64 0, .int .i64 0] R1 (by kernel_rfl) rfl (by simp [Value.oneCell']) ?_
   have oS : ∀ b', b' ≠ w.heap.size → (VB.drew.setRow w.heap.size #[.bool false, .slice none 0 0, .int .i64 0, .int .i64 0]).heap[b']? = VB.drew.heap[b']? := fun b' h => setRow_other _ _ _ _ h
   replace R1 : Ob (VB.drew.setRow w.heap.size #[.bool false, .slice none 0 0, .int .i64 0, .int .i64 0]) w.heap.size 84 #[.bool false, .slice none 0 0, .int .i64 0, .int .i64 0] := setRow_heap _ _ _ _ _ _ R1
   replace U : Up w (VB.drew.setRow w.heap.size #[.bool false, .slice none 0 0, .int .i64 0, .int .i64 0]) := U.setRow_ ltR1 _
   replace R2 := Ob.oth R2 oS (by omega)
   replace A := Ob.oth A oS (by omega)
   replace B := Ob.oth B oS (by omega)
   replace N2 := Nt.other N2 oS (by omega)
   refine hK.out _ _ ⟨A, B⟩ (fun _ => ?_)
   try simp only [Act.put, M.z1, M.z2, M.z3, M.z4, M.z5, M.z6]
   clear hK oS
   obtain ⟨VC, hVC⟩ : ∃ VC, VB.drew.setRow w.heap.size #[.bool false, .slice none 0 0, .int .i64 0, .int .i64 0] = VC := ⟨_, rfl⟩
   rw [hVC] at U R1 R2 A B N2 ⊢
   clear hVC
   refine wpAnyH_ready (rs := [5]) (by kernel_rfl) (by simp) ?_
   refine AllReadyH.cons rfl (fun K hK => ?_) AllReadyH.nil
   rw [if_pos (by rfl)]
   refine wp_store_row 84 (.tmp 5) (.tmp 42) rfl (w.heap.size + 1) #[.bool false, .slice A2 n2 k2, .int .i64 z2, .int .i64 0] rfl rfl 84 #[.bool false, .slice none 0 0, .int .i64 0, .int .i64 0] R2 (by kernel_rfl) rfl (by simp [Value.oneCell']) ?_
   have oS : ∀ b', b' ≠ (w.heap.size + 1) → (VC.setRow (w.heap.size + 1) #[.bool false, .slice A2 n2 k2, .int .i64 z2, .int .i64 0]).heap[b']? = VC.heap[b']? := fun b' h => setRow_other _ _ _ _ h
   replace R2 : Ob (VC.setRow (w.heap.size + 1) #[.bool false, .slice A2 n2 k2, .int .i64 z2, .int .i64 0]) (w.heap.size + 1) 84 #[.bool false, .slice A2 n2 k2, .int .i64 z2, .int .i64 0] := setRow_heap _ _ _ _ _ _ R2
   replace U : Up w (VC.setRow (w.heap.size + 1) #[.bool false, .slice A2 n2 k2, .int .i64 z2, .int .i64 0]) := U.setRow_ ltR2 _
   replace R1 := Ob.oth R1 oS (by omega)
   replace A := Ob.oth A oS (by omega)
   replace B := Ob.oth B oS (by omega)
   replace N2 := Nt.other N2 oS (by omega)
   refine hK.out _ _ ⟨A, B⟩ (fun _ => ?_)
   try simp only [Act.put, M.z1, M.z2, M.z3, M.z4, M.z5, M.z6]
   clear hK oS
   obtain ⟨VD, hVD⟩ : ∃ VD, VC.setRow (w.heap.size + 1) #[.bool false, .slice A2 n2 k2, .int .i64 z2, .int .i64 0] = VD := ⟨_, rfl⟩
   rw [hVD] at U R1 R2 A B N2 ⊢
   clear hVD
   refine wpAnyH_ready (rs := [6]) (by kernel_rfl) (by simp) ?_
   refine AllReadyH.cons rfl (fun K hK => ?_) AllReadyH.nil
   go_simp
   refine hK.out _ _ ⟨A, B⟩ (fun _ => ?_)
   try simp only [Act.put, M.z1, M.z2, M.z3, M.z4, M.z5, M.z6]
   clear hK
   refine wpAnyH_ready (rs := [7]) (by kernel_rfl) (by simp) ?_
   refine AllReadyH.cons rfl (fun K hK => ?_) AllReadyH.nil
   go_simp
   refine hK.out _ _ ⟨A, B⟩ (fun _ => ?_)
   try simp only [Act.put, M.z1, M.z2, M.z3, M.z4, M.z5, M.z6]
   clear hK
   refine wpAnyH_done (by kernel_rfl) ?_ _
   go_wp2_with fail
   obtain ⟨yy0, yy1, yy2, yy3⟩ := R1.g4
   obtain ⟨zz0, zz1, zz2, zz3⟩ := R2.g4
   refine bodyPost_ret (v := .tuple #[xv false (.slice none 0 0) 0 0, xv false (.slice A2 n2 k2) z2 0, .bool ev, .int .i64 0]) (by simp [results, Tryz.results41, go_sem, yy0, yy1, yy2, yy3, zz0, zz1, zz2, zz3]) rfl ?_
   exact ⟨_, _, rfl, Nt.nil _ _ _, N2.lower (by omega), U⟩
  ·
   obtain ⟨k', hk'⟩ : ∃ k', k - 1 = k' := ⟨_, rfl⟩
   rw [hk'] at b1
   have e1 : IntKind.u64.wrap ((k : Int) - 1) = (k' : Int) := wrap_u64 (by omega) (by omega)
   have CA := Lib.hid (fun W T F => CB.out W T F k' m1 z1 (by omega) (by omega) b1)
   have CE1 := Lib.hid (fun W F => CE.out W true ⟨fun _ => c2, fun _ => rfl⟩ F)
   clear CB CE c2 kt k0 h4 ok ok2 ok3 hll hev b1 hk'
   have U := Up.refl w
   go_enter Tryz.func41, Tryz.ntmps41
   go_wp2_with fail
   obtain ⟨V1, hV1, R1, uV1⟩ := Ob.nw w 84 #[.bool false, .slice none 0 0, .int .i64 0, .int .i64 0]
   have sV1 : V1.heap.size = w.heap.size + 1 := by rw [← hV1]; exact Array.size_push _
   have ltR1 : w.heap.size ≤ w.heap.size := U.size
   have ltR2 : w.heap.size ≤ w.heap.size + 1 := Nat.le_succ_of_le U.size
   rw [hV1]
   clear hV1
   obtain ⟨V2, hV2⟩ : ∃ V2, V1.alloc (.cells #[.bool false, .slice none 0 0, .int .i64 0, .int .i64 0] 84) = V2 := ⟨_, rfl⟩
   have R2 : Ob V2 (w.heap.size + 1) 84 #[.bool false, .slice none 0 0, .int .i64 0, .int .i64 0] := by rw [← sV1, ← hV2]; exact Ob.mk_ _ _ _
   have uV2 : Up V1 V2 := Up.al hV2
   rw [hV2]
   clear hV2 sV1
   replace R1 := R1.up uV2
   replace uV2 := uV1.trans uV2
   clear uV1
   replace U := U.trans uV2
   clear uV2
   refine (CF.out _ (TT.out.up U) (TF.out.up U)).mono ?_
   rintro _ w3 ⟨rfl, h3⟩
   replace U := U.trans h3
   replace R1 := R1.up h3
   replace R2 := R2.up h3
   clear h3
   go_wp2_with fail
   obtain ⟨V4, hV4⟩ : ∃ V4, w3.alloc (.cells #[.bool false, .slice none 0 0, .int .i64 0, .int .i64 0] 84) = V4 := ⟨_, rfl⟩
   have sV4 : V4.heap.size = w3.heap.size + 1 := by rw [← hV4]; exact Array.size_push _
   have A : Ob V4 w3.heap.size 84 #[.bool false, .slice none 0 0, .int .i64 0, .int .i64 0] := by rw [← hV4]; exact Ob.mk_ _ _ _
   have uV4 : Up w3 V4 := Up.al hV4
   have ltA : w.heap.size ≤ w3.heap.size := U.size
   have ltB : w.heap.size ≤ w3.heap.size + 1 := Nat.le_succ_of_le U.size
   have gAR1 := R1.lt
   have gAR2 := R2.lt
   rw [hV4]
   clear hV4
   obtain ⟨V5, hV5⟩ : ∃ V5, V4.alloc (.cells #[.bool false, .slice none 0 0, .int .i64 0, .int .i64 0] 84) = V5 := ⟨_, rfl⟩
   have B : Ob V5 (w3.heap.size + 1) 84 #[.bool false, .slice none 0 0, .int .i64 0, .int .i64 0] := by rw [← sV4, ← hV5]; exact Ob.mk_ _ _ _
   have uV5 : Up V4 V5 := Up.al hV5
   rw [hV5]
   clear hV5 sV4
   replace A := A.up uV5
   replace uV5 := uV4.trans uV5
   clear uV4
   replace U := U.trans uV5
   replace R1 := R1.up uV5
   replace R2 := R2.up uV5
   clear uV5
   refine (CL.out _ (TF.out.up U)).mono ?_
   rintro _ w6 ⟨rfl, h6⟩
   replace U := U.trans h6
   replace R1 := R1.up h6
   replace R2 := R2.up h6
   replace A := A.up h6
   replace B := B.up h6
   clear h6
   go_wp2_with fail
   have gN := B.lt
   refine (CA.out _ (TT.out.up U) (TF.out.up U)).mono ?_
   rintro _ w7 ⟨_, rfl, ⟨A1, n1, k1, ys1, rfl, N⟩, h7⟩
   replace U := U.trans h7
   replace R1 := R1.up h7
   replace R2 := R2.up h7
   replace A := A.up h7
   replace B := B.up h7
   clear h7
   replace N : Nt w7 _ 1 (.slice A1 n1 k1) m1 := ⟨_, _, _, _, rfl, N⟩
   go_wp2_with (refine store_ob2 rfl 84 (.tmp 11) (.tmp 32) rfl _ #[.bool false, .slice none 0 0, .int .i64 0, .int .i64 0] #[.bool false, .slice A1 n1 k1, .int .i64 z1, .int .i64 0] rfl rfl 4 (by kernel_rfl) rfl rfl (by simp [Value.oneCell']) w U ltA 84 A ?_; clear U; intro VA Z9 U ho; replace N := Nt.other N ho (by omega); replace R1 := Ob.oth R1 ho (by omega); replace R2 := Ob.oth R2 ho (by omega); replace B := Ob.oth B ho (by omega); clear ho A; have A := Z9; clear Z9)
   refine (CE1.out _ (TF.out.up U)).mono ?_
   rintro _ w8 ⟨rfl, h8⟩
   replace U := U.trans h8
   replace R1 := R1.up h8
   replace R2 := R2.up h8
   replace A := A.up h8
   replace B := B.up h8
   replace N := N.up h8
   clear h8
   go_wp2_with fail
   refine wp_region_held_drew (S := fun w' => Ob w' (w3.heap.size) 84 #[.bool false, .slice A1 n1 k1, .int .i64 z1, .int .i64 0] ∧ Ob w' (w3.heap.size + 1) 84 #[.bool false, .slice none 0 0, .int .i64 0, .int .i64 0]) (by kernel_rfl) ⟨A.up ((Up.refl _).drew), B.up ((Up.refl _).drew)⟩ (fun hHeld => ?_)
   refine wpAnyH_take (i := 0) (v := ?_) rfl (by kernel_rfl) (by kernel_rfl) (by kernel_rfl) (fun _ _ _ h => h) (Or.inl ⟨by rfl, ?_⟩) (by assumption) ?_
   rotate_left
   ·intro w hSw
    obtain ⟨hA, hB⟩ := hSw
    obtain ⟨A0, A1, A2, A3⟩ := hA.g4
    obtain ⟨B0, B1, B2, B3⟩ := hB.g4
    go_simp
    all_goals with_reducible rfl
   try simp only [Act.put, M.z1, M.z2, M.z3, M.z4, M.z5, M.z6]
   refine wpAnyH_take (i := 1) (v := ?_) rfl (by kernel_rfl) (by kernel_rfl) (by kernel_rfl) (fun _ _ _ h => h) (Or.inl ⟨by rfl, ?_⟩) (by assumption) ?_
   rotate_left
   ·intro w hSw
    obtain ⟨hA, hB⟩ := hSw
    obtain ⟨A0, A1, A2, A3⟩ := hA.g4
    obtain ⟨B0, B1, B2, B3⟩ := hB.g4
    go_simp
    all_goals with_reducible rfl
   try simp only [Act.put, M.z1, M.z2, M.z3, M.z4, M.z5, M.z6]
   refine wpAnyH_take (i := 2) (v := ?_) rfl (by kernel_rfl) (by kernel_rfl) (by kernel_rfl) (fun _ _ _ h => h) (Or.inl ⟨by rfl, ?_⟩) (by assumption) ?_
   rotate_left
   ·intro w hSw
    obtain ⟨hA, hB⟩ := hSw
    obtain ⟨A0, A1, A2, A3⟩ := hA.g4
    obtain ⟨B0, B1, B2, B3⟩ := hB.g4
    go_simp
    all_goals with_reducible rfl
   try simp only [Act.put, M.z1, M.z2, M.z3, M.z4, M.z5, M.z6]
   refine wpAnyH_ready (rs := [3]) (by kernel_rfl) (by simp) ?_
   refine AllReadyH.cons rfl (fun K hK => ?_) AllReadyH.nil
   go_simp
   refine (CV.out _).mono ?_
   rintro _ _ ⟨rfl, rfl⟩
   have R1d := R1.up ((Up.refl _).drew)
   have R2d := R2.up ((Up.refl _).drew)
   have Ad := A.up ((Up.refl _).drew)
   have Bd := B.up ((Up.refl _).drew)
   have Ud := U.drew
   replace N := N.up ((Up.refl _).drew)
   refine hK.out _ _ ⟨Ad, Bd⟩ (fun _ => ?_)
   try simp only [Act.put, M.z1, M.z2, M.z3, M.z4, M.z5, M.z6]
   clear hK
   replace R1 := R1d
   clear R1d
   replace R2 := R2d
   clear R2d
   replace A := Ad
   clear Ad
   replace B := Bd
   clear Bd
   replace U := Ud
   clear Ud hHeld
   refine wpAnyH_ready (rs := [4]) (by kernel_rfl) (by simp) ?_
   refine AllReadyH.cons rfl (fun K hK => ?_) AllReadyH.nil
   rw [if_pos (by rfl)]
   refine wp_store_row 84 (.tmp 4) (.tmp 41) rfl w.heap.size #[.bool false, .slice A1 n1 k1, .int .i64 z1, .int .i64 0] rfl rfl 84 #[.bool false, .slice none 0 0, .int .i64 0, .int .i64 0] R1 (by kernel_rfl) rfl (by simp [Value.oneCell']) ?_
   have oS : ∀ b', b' ≠ w.heap.size → (w8.drew.setRow w.heap.size #[.bool false, .slice A1 n1 k1, .int .i64 z1, .int .i64 0]).heap[b']? = w8.drew.heap[b']? := fun b' h => setRow_other _ _ _ _ h
   replace R1 : Ob (w8.drew.setRow w.heap.size #[.bool false, .slice A1 n1 k1, .int .i64 z1, .int .i64 0]) w.heap.size 84 #[.bool false, .slice A1 n1 k1, .int .i64 z1, .int .i64 0] := setRow_heap _ _ _ _ _ _ R1
   replace U : Up w (w8.drew.setRow w.heap.size #[.bool false, .slice A1 n1 k1, .int .i64 z1, .int .i64 0]) := U.setRow_ ltR1 _
   replace R2 := Ob.oth R2 oS (by omega)
   replace A := Ob.oth A oS (by omega)
   replace B := Ob.oth B oS (by omega)
   replace N := Nt.other N oS (by omega)
   refine hK.out _ _ ⟨A, B⟩ (fun _ => ?_)
   try simp only [Act.put, M.z1, M.z2, M.z3, M.z4, M.z5, M.z6]
   clear hK oS
   obtain ⟨VC, hVC⟩ : ∃ VC, w8.drew.setRow w.heap.size #[.bool false, .slice A1 n1 k1, .int .i64 z1, .int .i64 0] = VC := ⟨_, rfl⟩
   rw [hVC] at U R1 R2 A B N ⊢
   clear hVC
   refine wpAnyH_ready (rs := [5]) (by kernel_rfl) (by simp) ?_
   refine AllReadyH.cons rfl (fun K hK => ?_) AllReadyH.nil
   rw [if_pos (by rfl)]
   refine wp_store_row 84 (.tmp 5) (.tmp 42) rfl (w.heap.size + 1) #[.bool false, .slice none 0 0, .int .i64 0, .int .i64 0] rfl rfl 84 #[.bool false, .slice none 0 0, .int .i64 0, .int .i64 0] R2 (by kernel_rfl) rfl (by simp [Value.oneCell']) ?_
   have oS : ∀ b', b' ≠ (w.heap.size + 1) → (VC.setRow (w.heap.size + 1) #[.bool false, .slice none 0 0, .int .i64 0, .int .i64 0]).heap[b']? = VC.heap[b']? := fun b' h => setRow_other _ _ _ _ h
   replace R2 : Ob (VC.setRow (w.heap.size + 1) #[.bool false, .slice none 0 0, .int .i64 0, .int .i64 0]) (w.heap.size + 1) 84 #[.bool false, .slice none 0 0, .int .i64 0, .int .i64 0] := setRow_heap _ _ _ _ _ _ R2
   replace U : Up w (VC.setRow (w.heap.size + 1) #[.bool false, .slice none 0 0, .int .i64 0, .int .i64 0]) := U.setRow_ ltR2 _
   replace R1 := Ob.oth R1 oS (by omega)
   replace A := Ob.oth A oS (by omega)
   replace B := Ob.oth B oS (by omega)
   replace N := Nt.other N oS (by omega)
   refine hK.out _ _ ⟨A, B⟩ (fun _ => ?_)
   try simp only [Act.put, M.z1, M.z2, M.z3, M.z4, M.z5, M.z6]
   clear hK oS
   obtain ⟨VD, hVD⟩ : ∃ VD, VC.setRow (w.heap.size + 1) #[.bool false, .slice none 0 0, .int .i64 0, .int .i64 0] = VD := ⟨_, rfl⟩
   rw [hVD] at U R1 R2 A B N ⊢
   clear hVD
   refine wpAnyH_ready (rs := [6]) (by kernel_rfl) (by simp) ?_
   refine AllReadyH.cons rfl (fun K hK => ?_) AllReadyH.nil
   go_simp
   refine hK.out _ _ ⟨A, B⟩ (fun _ => ?_)
   try simp only [Act.put, M.z1, M.z2, M.z3, M.z4, M.z5, M.z6]
   clear hK
   refine wpAnyH_ready (rs := [7]) (by kernel_rfl) (by simp) ?_
   refine AllReadyH.cons rfl (fun K hK => ?_) AllReadyH.nil
   go_simp
   refine hK.out _ _ ⟨A, B⟩ (fun _ => ?_)
   try simp only [Act.put, M.z1, M.z2, M.z3, M.z4, M.z5, M.z6]
   clear hK
   refine wpAnyH_done (by kernel_rfl) ?_ _
   go_wp2_with fail
   obtain ⟨yy0, yy1, yy2, yy3⟩ := R1.g4
   obtain ⟨zz0, zz1, zz2, zz3⟩ := R2.g4
   refine bodyPost_ret (v := .tuple #[xv false (.slice A1 n1 k1) z1 0, xv false (.slice none 0 0) 0 0, .bool ev, .int .i64 0]) (by simp [results, Tryz.results41, go_sem, yy0, yy1, yy2, yy3, zz0, zz1, zz2, zz3]) rfl ?_
   exact ⟨_, _, rfl, N.lower (by omega), Nt.nil _ _ _, U⟩
  ·
   obtain ⟨k', hk'⟩ : ∃ k', k - 1 = k' := ⟨_, rfl⟩
   rw [hk'] at b1
   have e1 : IntKind.u64.wrap ((k : Int) - 1) = (k' : Int) := wrap_u64 (by omega) (by omega)
   have CA := Lib.hid (fun W T F => CB.out W T F k' m1 z1 (by omega) (by omega) b1)
   have CE1 := Lib.hid (fun W F => CE.out W false ⟨fun e => (by cases e), fun e => absurd e c2⟩ F)
   have CD := Lib.hid (fun W T F => CB.out W T F k m2 z2 kb kt b2)
   clear CB CE c2 kt k0 h4 ok ok2 ok3 hll hev b1 hk' b2
   have U := Up.refl w
   go_enter Tryz.func41, Tryz.ntmps41
   go_wp2_with fail
   obtain ⟨V1, hV1, R1, uV1⟩ := Ob.nw w 84 #[.bool false, .slice none 0 0, .int .i64 0, .int .i64 0]
   have sV1 : V1.heap.size = w.heap.size + 1 := by rw [← hV1]; exact Array.size_push _
   have ltR1 : w.heap.size ≤ w.heap.size := U.size
   have ltR2 : w.heap.size ≤ w.heap.size + 1 := Nat.le_succ_of_le U.size
   rw [hV1]
   clear hV1
   obtain ⟨V2, hV2⟩ : ∃ V2, V1.alloc (.cells #[.bool false, .slice none 0 0, .int .i64 0, .int .i64 0] 84) = V2 := ⟨_, rfl⟩
   have R2 : Ob V2 (w.heap.size + 1) 84 #[.bool false, .slice none 0 0, .int .i64 0, .int .i64 0] := by rw [← sV1, ← hV2]; exact Ob.mk_ _ _ _
   have uV2 : Up V1 V2 := Up.al hV2
   rw [hV2]
   clear hV2 sV1
   replace R1 := R1.up uV2
   replace uV2 := uV1.trans uV2
   clear uV1
   replace U := U.trans uV2
   clear uV2
   refine (CF.out _ (TT.out.up U) (TF.out.up U)).mono ?_
   rintro _ w3 ⟨rfl, h3⟩
   replace U := U.trans h3
   replace R1 := R1.up h3
   replace R2 := R2.up h3
   clear h3
   go_wp2_with fail
   obtain ⟨V4, hV4⟩ : ∃ V4, w3.alloc (.cells #[.bool false, .slice none 0 0, .int .i64 0, .int .i64 0] 84) = V4 := ⟨_, rfl⟩
   have sV4 : V4.heap.size = w3.heap.size + 1 := by rw [← hV4]; exact Array.size_push _
   have A : Ob V4 w3.heap.size 84 #[.bool false, .slice none 0 0, .int .i64 0, .int .i64 0] := by rw [← hV4]; exact Ob.mk_ _ _ _
   have uV4 : Up w3 V4 := Up.al hV4
   have ltA : w.heap.size ≤ w3.heap.size := U.size
   have ltB : w.heap.size ≤ w3.heap.size + 1 := Nat.le_succ_of_le U.size
   have gAR1 := R1.lt
   have gAR2 := R2.lt
   rw [hV4]
   clear hV4
   obtain ⟨V5, hV5⟩ : ∃ V5, V4.alloc (.cells #[.bool false, .slice none 0 0, .int .i64 0, .int .i64 0] 84) = V5 := ⟨_, rfl⟩
   have B : Ob V5 (w3.heap.size + 1) 84 #[.bool false, .slice none 0 0, .int .i64 0, .int .i64 0] := by rw [← sV4, ← hV5]; exact Ob.mk_ _ _ _
   have uV5 : Up V4 V5 := Up.al hV5
   rw [hV5]
   clear hV5 sV4
   replace A := A.up uV5
   replace uV5 := uV4.trans uV5
   clear uV4
   replace U := U.trans uV5
   replace R1 := R1.up uV5
   replace R2 := R2.up uV5
   clear uV5
   refine (CL.out _ (TF.out.up U)).mono ?_
   rintro _ w6 ⟨rfl, h6⟩
   replace U := U.trans h6
   replace R1 := R1.up h6
   replace R2 := R2.up h6
   replace A := A.up h6
   replace B := B.up h6
   clear h6
   go_wp2_with fail
   have gN := B.lt
   refine (CA.out _ (TT.out.up U) (TF.out.up U)).mono ?_
   rintro _ w7 ⟨_, rfl, ⟨A1, n1, k1, ys1, rfl, N⟩, h7⟩
   replace U := U.trans h7
   replace R1 := R1.up h7
   replace R2 := R2.up h7
   replace A := A.up h7
   replace B := B.up h7
   clear h7
   replace N : Nt w7 _ 1 (.slice A1 n1 k1) m1 := ⟨_, _, _, _, rfl, N⟩
   go_wp2_with (refine store_ob2 rfl 84 (.tmp 11) (.tmp 32) rfl _ #[.bool false, .slice none 0 0, .int .i64 0, .int .i64 0] #[.bool false, .slice A1 n1 k1, .int .i64 z1, .int .i64 0] rfl rfl 4 (by kernel_rfl) rfl rfl (by simp [Value.oneCell']) w U ltA 84 A ?_; clear U; intro VA Z9 U ho; replace N := Nt.other N ho (by omega); replace R1 := Ob.oth R1 ho (by omega); replace R2 := Ob.oth R2 ho (by omega); replace B := Ob.oth B ho (by omega); clear ho A; have A := Z9; clear Z9)
   refine (CE1.out _ (TF.out.up U)).mono ?_
   rintro _ w8 ⟨rfl, h8⟩
   replace U := U.trans h8
   replace R1 := R1.up h8
   replace R2 := R2.up h8
   replace A := A.up h8
   replace B := B.up h8
   replace N := N.up h8
   clear h8
   go_wp2_with fail
   have gM := B.lt
   refine (CD.out _ (TT.out.up U) (TF.out.up U)).mono ?_
   rintro _ w9 ⟨_, rfl, ⟨A2, n2, k2, ys2, rfl, N2⟩, h9⟩
   replace U := U.trans h9
   replace R1 := R1.up h9
   replace R2 := R2.up h9
   replace A := A.up h9
   replace B := B.up h9
   replace N := N.up h9
   clear h9
   replace N2 : Nt w9 _ 1 (.slice A2 n2 k2) m2 := ⟨_, _, _, _, rfl, N2⟩
   go_upto_region 9 with (refine store_ob2 rfl 84 (.tmp 12) (.tmp 40) rfl _ #[.bool false, .slice none 0 0, .int .i64 0, .int .i64 0] #[.bool false, .slice A2 n2 k2, .int .i64 z2, .int .i64 0] rfl rfl 4 (by kernel_rfl) rfl rfl (by simp [Value.oneCell']) w U ltB 84 B ?_; clear U; intro VB Z9 U ho; replace N := Nt.other N ho (by omega); replace N2 := Nt.other N2 ho (by omega); replace R1 := Ob.oth R1 ho (by omega); replace R2 := Ob.oth R2 ho (by omega); replace A := Ob.oth A ho (by omega); clear ho B; have B := Z9; clear Z9)
   refine wp_region_held_drew (S := fun w' => Ob w' (w3.heap.size) 84 #[.bool false, .slice A1 n1 k1, .int .i64 z1, .int .i64 0] ∧ Ob w' (w3.heap.size + 1) 84 #[.bool false, .slice A2 n2 k2, .int .i64 z2, .int .i64 0]) (by kernel_rfl) ⟨A.up ((Up.refl _).drew), B.up ((Up.refl _).drew)⟩ (fun hHeld => ?_)
   refine wpAnyH_take (i := 0) (v := ?_) rfl (by kernel_rfl) (by kernel_rfl) (by kernel_rfl) (fun _ _ _ h => h) (Or.inl ⟨by rfl, ?_⟩) (by assumption) ?_
   rotate_left
   ·intro w hSw
    obtain ⟨hA, hB⟩ := hSw
    obtain ⟨A0, A1, A2, A3⟩ := hA.g4
    obtain ⟨B0, B1, B2, B3⟩ := hB.g4
    go_simp
    all_goals with_reducible rfl
   try simp only [Act.put, M.z1, M.z2, M.z3, M.z4, M.z5, M.z6]
   refine wpAnyH_take (i := 1) (v := ?_) rfl (by kernel_rfl) (by kernel_rfl) (by kernel_rfl) (fun _ _ _ h => h) (Or.inl ⟨by rfl, ?_⟩) (by assumption) ?_
   rotate_left
   ·intro w hSw
    obtain ⟨hA, hB⟩ := hSw
    obtain ⟨A0, A1, A2, A3⟩ := hA.g4
    obtain ⟨B0, B1, B2, B3⟩ := hB.g4
    go_simp
    all_goals with_reducible rfl
   try simp only [Act.put, M.z1, M.z2, M.z3, M.z4, M.z5, M.z6]
   refine wpAnyH_take (i := 2) (v := ?_) rfl (by kernel_rfl) (by kernel_rfl) (by kernel_rfl) (fun _ _ _ h => h) (Or.inl ⟨by rfl, ?_⟩) (by assumption) ?_
   rotate_left
   ·intro w hSw
    obtain ⟨hA, hB⟩ := hSw
    obtain ⟨A0, A1, A2, A3⟩ := hA.g4
    obtain ⟨B0, B1, B2, B3⟩ := hB.g4
    go_simp
    all_goals with_reducible rfl
   try simp only [Act.put, M.z1, M.z2, M.z3, M.z4, M.z5, M.z6]
   refine wpAnyH_ready (rs := [3]) (by kernel_rfl) (by simp) ?_
   refine AllReadyH.cons rfl (fun K hK => ?_) AllReadyH.nil
   go_simp
   refine (CV.out _).mono ?_
   rintro _ _ ⟨rfl, rfl⟩
   have R1d := R1.up ((Up.refl _).drew)
   have R2d := R2.up ((Up.refl _).drew)
   have Ad := A.up ((Up.refl _).drew)
   have Bd := B.up ((Up.refl _).drew)
   have Ud := U.drew
   replace N := N.up ((Up.refl _).drew)
   replace N2 := N2.up ((Up.refl _).drew)
   refine hK.out _ _ ⟨Ad, Bd⟩ (fun _ => ?_)
   try simp only [Act.put, M.z1, M.z2, M.z3, M.z4, M.z5, M.z6]
   clear hK
   replace R1 := R1d
   clear R1d
   replace R2 := R2d
   clear R2d
   replace A := Ad
   clear Ad
   replace B := Bd
   clear Bd
   replace U := Ud
   clear Ud hHeld
   refine wpAnyH_ready (rs := [4]) (by kernel_rfl) (by simp) ?_
   refine AllReadyH.cons rfl (fun K hK => ?_) AllReadyH.nil
   rw [if_pos (by rfl)]
   refine wp_store_row 84 (.tmp 4) (.tmp 41) rfl w.heap.size #[.bool false, .slice A1 n1 k1, .int .i64 z1, .int .i64 0] rfl rfl 84 #[.bool false, .slice none 0 0, .int .i64 0, .int .i64 0] R1 (by kernel_rfl) rfl (by simp [Value.oneCell']) ?_
   have oS : ∀ b', b' ≠ w.heap.size → (VB.drew.setRow w.heap.size #[.bool false, .slice A1 n1 k1, .int .i64 z1, .int .i64 0]).heap[b']? = VB.drew.heap[b']? := fun b' h => setRow_other _ _ _ _ h
   replace R1 : Ob (VB.drew.setRow w.heap.size #[.bool false, .slice A1 n1 k1, .int .i64 z1, .int .i64 0]) w.heap.size 84 #[.bool false, .slice A1 n1 k1, .int .i64 z1, .int .i64 0] := setRow_heap _ _ _ _ _ _ R1
   replace U : Up w (VB.drew.setRow w.heap.size #[.bool false, .slice A1 n1 k1, .int .i64 z1, .int .i64 0]) := U.setRow_ ltR1 _
   replace R2 := Ob.oth R2 oS (by omega)
   replace A := Ob.oth A oS (by omega)
   replace B := Ob.oth B oS (by omega)
   replace N := Nt.other N oS (by omega)
   replace N2 := Nt.other N2 oS (by omega)
   refine hK.out _ _ ⟨A, B⟩ (fun _ => ?_)
   try simp only [Act.put, M.z1, M.z2, M.z3, M.z4, M.z5, M.z6]
   clear hK oS
   obtain ⟨VC, hVC⟩ : ∃ VC, VB.drew.setRow w.heap.size #[.bool false, .slice A1 n1 k1, .int .i64 z1, .int .i64 0] = VC := ⟨_, rfl⟩
   rw [hVC] at U R1 R2 A B N N2 ⊢
   clear hVC
   refine wpAnyH_ready (rs := [5]) (by kernel_rfl) (by simp) ?_
   refine AllReadyH.cons rfl (fun K hK => ?_) AllReadyH.nil
   rw [if_pos (by rfl)]
   refine wp_store_row 84 (.tmp 5) (.tmp 42) rfl (w.heap.size + 1) #[.bool false, .slice A2 n2 k2, .int .i64 z2, .int .i64 0] rfl rfl 84 #[.bool false, .slice none 0 0, .int .i64 0, .int .i64 0] R2 (by kernel_rfl) rfl (by simp [Value.oneCell']) ?_
   have oS : ∀ b', b' ≠ (w.heap.size + 1) → (VC.setRow (w.heap.size + 1) #[.bool false, .slice A2 n2 k2, .int .i64 z2, .int .i64 0]).heap[b']? = VC.heap[b']? := fun b' h => setRow_other _ _ _ _ h
   replace R2 : Ob (VC.setRow (w.heap.size + 1) #[.bool false, .slice A2 n2 k2, .int .i64 z2, .int .i64 0]) (w.heap.size + 1) 84 #[.bool false, .slice A2 n2 k2, .int .i64 z2, .int .i64 0] := setRow_heap _ _ _ _ _ _ R2
   replace U : Up w (VC.setRow (w.heap.size + 1) #[.bool false, .slice A2 n2 k2, .int .i64 z2, .int .i64 0]) := U.setRow_ ltR2 _
   replace R1 := Ob.oth R1 oS (by omega)
   replace A := Ob.oth A oS (by omega)
   replace B := Ob.oth B oS (by omega)
   replace N := Nt.other N oS (by omega)
   replace N2 := Nt.other N2 oS (by omega)
   refine hK.out _ _ ⟨A, B⟩ (fun _ => ?_)
   try simp only [Act.put, M.z1, M.z2, M.z3, M.z4, M.z5, M.z6]
   clear hK oS
   obtain ⟨VD, hVD⟩ : ∃ VD, VC.setRow (w.heap.size + 1) #[.bool false, .slice A2 n2 k2, .int .i64 z2, .int .i64 0] = VD := ⟨_, rfl⟩
   rw [hVD] at U R1 R2 A B N N2 ⊢
   clear hVD
   refine wpAnyH_ready (rs := [6]) (by kernel_rfl) (by simp) ?_
   refine AllReadyH.cons rfl (fun K hK => ?_) AllReadyH.nil
   go_simp
   refine hK.out _ _ ⟨A, B⟩ (fun _ => ?_)
   try simp only [Act.put, M.z1, M.z2, M.z3, M.z4, M.z5, M.z6]
   clear hK
   refine wpAnyH_ready (rs := [7]) (by kernel_rfl) (by simp) ?_
   refine AllReadyH.cons rfl (fun K hK => ?_) AllReadyH.nil
   go_simp
   refine hK.out _ _ ⟨A, B⟩ (fun _ => ?_)
   try simp only [Act.put, M.z1, M.z2, M.z3, M.z4, M.z5, M.z6]
   clear hK
   refine wpAnyH_done (by kernel_rfl) ?_ _
   go_wp2_with fail
   obtain ⟨yy0, yy1, yy2, yy3⟩ := R1.g4
   obtain ⟨zz0, zz1, zz2, zz3⟩ := R2.g4
   refine bodyPost_ret (v := .tuple #[xv false (.slice A1 n1 k1) z1 0, xv false (.slice A2 n2 k2) z2 0, .bool ev, .int .i64 0]) (by simp [results, Tryz.results41, go_sem, yy0, yy1, yy2, yy3, zz0, zz1, zz2, zz3]) rfl ?_
   exact ⟨_, _, rfl, N.lower (by omega), N2.lower (by omega), U⟩
end Go.Proofs.YtcmlanfgafancaaGreatDoor
