/-
  The laws of layer 8: what each shows first; a number that is cut.
-/
import Derived.Test.YtlogglhonlannaaGreatDoorRv
import Derived.Test.YtlogglhonlannaaGreatDoorRt
namespace Go.Proofs.YtlogglhonlannaaGreatDoor
open Go.RowKit
set_option linter.unusedSimpArgs false
set_option linter.unusedVariables false

/-- What came in may be written. -/
def Fz (w : World) (A : Option Addr) (n : Nat) : Prop := ∀ ad, A = some ad → ∀ j, j < n → w.frozen? (ad.add j) = false
theorem Src.wd0 {w : World} {A : Option Addr} {n c : Nat} {xs : List Nat} (h : Src w A n c xs) (hz : Fz w A n) (hn : n ≤ 1099511627776) : Wd w 0 A n c xs := by
  refine ⟨h.num, h.len, hn, h.wds, fun h0 => ?_⟩
  rcases A with _ | ⟨b, o, sp⟩
  · have := h.none_ rfl
    have := h.len
    omega
  · have c0 := h.at_ _ rfl 0 h0
    have e : sp = none := by
      rcases sp with _ | sp
      · rfl
      · exfalso
        simp only [Addr.add, if_pos rfl, World.cell?] at c0
        split at c0 <;> simp at c0
    subst e
    refine ⟨b, o, rfl, Nat.zero_le _, fun j hj => ?_⟩
    have e : (Addr.mk b o none).add j = ⟨b, o + j, none⟩ := by
      unfold Addr.add
      split
      · rename_i e; subst e; rfl
      · rfl
    rw [← e]
    exact ⟨h.at_ _ rfl j hj, hz _ rfl j hj⟩
theorem M.trimmed (xs : List Nat) (k : Nat) : ∃ m, m ≤ k ∧ (0 < m → xs.getD (m - 1) 0 ≠ 0) ∧ ∀ j, m ≤ j → j < k → xs.getD j 0 = 0 := by
  induction k with
  | zero => exact ⟨0, Nat.le_refl _, fun h => by omega, fun j _ h => by omega⟩
  | succ k ih =>
    by_cases h : xs.getD k 0 = 0
    · obtain ⟨m, h1, h2, h3⟩ := ih
      refine ⟨m, by omega, h2, fun j a b => ?_⟩
      rcases Nat.eq_or_lt_of_le (Nat.le_of_lt_succ b) with rfl | e
      · exact h
      · exact h3 j a e
    · exact ⟨k + 1, Nat.le_refl _, fun _ => h, fun j a b => by omega⟩
/-- What is told is v, and nothing that was there has turned. -/
def Xe (v : Value) (w : World) (e : Ending) (w' : World) : Prop := e = .returned v ∧ Up w w'
namespace M
theorem isk7_1 : IsK 7 1 1 (-24) := ⟨by decide, -6, 0, 0, 0, by unfold Ps; decide, by decide, by decide⟩
theorem bd5 : Bd (tb 5) 126 29 4 := .inr (.inl ⟨rfl, 3, by decide, rfl, by unfold mok; decide, .inr ⟨by decide, 0, by decide, by decide⟩⟩)
theorem bd12 : Bd (tb 12) 31743 4095 4 := .inr (.inl ⟨rfl, 10, by decide, rfl, by unfold mok; decide, .inr ⟨by decide, 0, by decide +kernel, by decide +kernel⟩⟩)
theorem mg1 : Mg0 (tb 1) 1 1 (-24) := .inr ⟨.inl (by decide), .inl ⟨rfl, 7, by decide, rfl, isk7_1⟩⟩
theorem nr_on {f : Fm} (ok : Ok f) (ok2 : Ok2 f) (ok3 : Ok3 f) {q k m : Nat} {z : Int} (hq : (q : Int) ≤ tp f) (hk : k ≤ q) (k0 : k ≠ 0) (he : k % 2 = 0) (h : Bd f k m z) : Nr f q (sz m z 0) k false := by
  refine .inr ⟨rfl, hk, ?_, fun _ _ => k0, fun j hj => .inl ?_⟩
  · rw [byd_iff ⟨m, z, h, rfl⟩]
    omega
  · obtain ⟨Y, hy⟩ := bo_ex ok ok2 (k := j) (by omega)
    obtain ⟨d, rfl⟩ : ∃ d, k = j + d + 1 := ⟨k - j - 1, by omega⟩
    exact (byd_iff hy).2 (.inl (bo_lt ok ok2 ok3 d j _ _ (by omega) hy ⟨m, z, h, rfl⟩))
theorem nr_over {f : Fm} {q m a : Nat} {z t : Int} (zb : -5000 ≤ z) (tb' : -5000 ≤ t) (h : Bd f q m z) (g : Gt a t m z) : Nr f q (sz a t 0) q true :=
  .inl ⟨rfl, rfl, _, ⟨m, z, h, rfl⟩, .inl (gt_sz tb' zb g)⟩
theorem s1 : Rc 5 2 false (sz 29 4 0) 126 0 := .inr ⟨5, rfl, by decide, by decide, .inr ⟨.inr rfl, .inr ⟨by decide, 126, 126, false, by decide, nr_on (ok 5 (by decide) (by decide)) (ok2 5 (by decide) (by decide)) (ok3 5 (by decide) (by decide)) (by decide) (by decide) (by decide) (by decide) bd5, .inr ⟨fun e => (by cases e.1), by decide⟩⟩, rfl⟩⟩
theorem o5 : Nr (tb 5) 126 (sz 465 0 0) 126 true := nr_over (by decide) (by decide) bd5 ⟨0, by decide, by decide, by decide⟩
theorem s2 : Rc 5 2 true (sz 465 0 0) 127 0 := .inr ⟨5, rfl, by decide, by decide, .inr ⟨.inr rfl, .inr ⟨by decide, 126, 126, true, by decide, o5, .inl ⟨rfl, by unfold st; decide, by decide⟩⟩, rfl⟩⟩
theorem s3 : Rc 5 1 true (sz 465 0 0) 254 0 := .inr ⟨5, rfl, by decide, by decide, .inr ⟨.inl rfl, .inr ⟨by decide, 126, 126, true, by decide, o5, .inr ⟨fun e => e.2 (.inl rfl), by decide⟩⟩, rfl⟩⟩
theorem o1 : Nr (tb 1) 127 (sz 1 (-300) 0) 1 false := by
  have g : Gt 1 (-24) 1 (-300) := ⟨300, by decide, by decide, by decide +kernel⟩
  have h1 := gt_sz (by decide) (by decide) g
  refine .inr ⟨rfl, by decide, ?_, fun _ _ => by decide, fun j hj => .inr ⟨rfl, fun e => ?_, by omega⟩⟩
  · rintro ⟨Y, ⟨m, z, h, rfl⟩, h2⟩
    have zb := bd_z (ok 1 (by decide) (by decide)) (ok2 1 (by decide) (by decide)) (ok3 1 (by decide) (by decide)) (k := 1) (by decide) h
    rcases gt_mid mg1 h with e | ⟨_, e⟩
    · omega
    · have := gt_sz (by omega) (by decide) e
      omega
  · have := sz_zero.1 e
    omega
theorem s4 : Rc 1 2 false (sz 1 (-300) 0) 1 0 := .inr ⟨1, rfl, by decide, by decide, .inr ⟨.inr rfl, .inr ⟨by decide, 127, 1, false, by decide, o1, .inr ⟨fun e => (by cases e.1), by decide⟩⟩, rfl⟩⟩
theorem s5 : Rc 12 2 true (sz 1 16 0) 64512 0 := .inr ⟨12, rfl, by decide, by decide, .inr ⟨.inr rfl, .inr ⟨by decide, 31743, 31743, true, by decide, nr_over (by decide) (by decide) bd12 ⟨0, by decide, by decide, by decide⟩, .inl ⟨rfl, by unfold st; decide, by decide⟩⟩, rfl⟩⟩
theorem s6 : Rc 1 3 false (sz 0 0 0) 0 1 := .inr ⟨1, rfl, by decide, by decide, .inl ⟨by decide, rfl, rfl⟩⟩
theorem s7 : Rc 14 2 true (sz 0 0 0) 9223372036854775808 0 := by
  rw [sz_zero.2 rfl]
  exact .inr ⟨14, rfl, by decide, by decide, .inr ⟨.inr rfl, .inr ⟨by decide, 9218868437227405311, 0, false, by decide, nr_zero, .inr ⟨fun e => (by cases e.1), by decide⟩⟩, rfl⟩⟩
end M
set_option maxHeartbeats 1500000 in
set_option maxRecDepth 100000 in
theorem number8_any (w : World) (neg : Bool) (n : Nat) (nb : n < 18446744073709551616) (n0 : n ≠ 0) (two : Int) : Calls Tryz.prog 17 #[.bool neg, u64 n, .int .i64 two] w (Xr neg 1 n two 0 w) := by
  have U := Up.refl w
  go_enter Tryz.func17, Tryz.ntmps17
  go_wp2_with fail
  exact bodyPost_ret (v := xv neg (.slice (some ⟨w.heap.size + 1, 0, none⟩) 1 1) two 0) (by simp [results, Tryz.results17, go_sem]) rfl ⟨_, rfl, (lit1_at (.cells #[.bool neg, .slice (some ⟨w.heap.size + 1, 0, none⟩) 1 1, .int .i64 two, .int .i64 0] 25) w n (n : Int) rfl nb n0).lower (Nat.le_succ _), ((Up.refl w).alloc _).alloc _⟩
set_option maxHeartbeats 1500000 in
set_option maxRecDepth 100000 in
theorem small8_walk (w : World) (neg : Bool) (A : Option Addr) (n c : Nat) (t g : Int) (k m : Nat) (ys : List Nat) (hk : min (n : Int) 40 = (k : Int)) (hkn : k ≤ n) (hnc : n ≤ c) (hwd : Wd w 0 A k c ys) (hm : m ≤ k) (h1 : 0 < m → ys.getD (m - 1) 0 ≠ 0) (h2 : ∀ j, m ≤ j → j < k → ys.getD j 0 = 0) (T G t1 g1 : Int) (e1 : min t 1000 = t1) (e2 : max t1 (-1000) = T) (e3 : min g 1000 = g1) (e4 : max g1 (-1000) = G) : Calls Tryz.prog 6 #[xv neg (.slice A n c) t g] w (Xe (xv neg (.slice A m c) T G) w) := by
  have H1 := Lib.hid h1
  have H2 := Lib.hid h2
  have HA := Lib.hid hwd.at_
  have k40 : k ≤ 40 := by omega
  clear h1 h2
  have U := Up.refl w
  go_enter Tryz.func6, Tryz.ntmps6
  go_wp2_with fail
  obtain ⟨V1, hV1⟩ : ∃ V1, w.alloc (.cells #[.bool neg, .slice A n c, .int .i64 t, .int .i64 g] 25) = V1 := ⟨_, rfl⟩
  have sV1 : V1.heap.size = w.heap.size + 1 := by rw [← hV1]; exact Array.size_push _
  have B : Ob V1 w.heap.size 25 #[.bool neg, .slice A n c, .int .i64 t, .int .i64 g] := by rw [← hV1]; exact Ob.mk_ _ _ _
  have uV1 : Up w V1 := by rw [← hV1]; exact (Up.refl _).alloc _
  have ltB : w.heap.size ≤ w.heap.size := U.size
  have ltR : w.heap.size ≤ w.heap.size + 1 := Nat.le_succ_of_le U.size
  rw [hV1]
  clear hV1
  obtain ⟨V2, hV2⟩ : ∃ V2, V1.alloc (.cells #[.bool false, .slice none 0 0, .int .i64 0, .int .i64 0] 25) = V2 := ⟨_, rfl⟩
  have R : Ob V2 (w.heap.size + 1) 25 #[.bool false, .slice none 0 0, .int .i64 0, .int .i64 0] := by rw [← sV1, ← hV2]; exact Ob.mk_ _ _ _
  have uV2 : Up V1 V2 := by rw [← hV2]; exact (Up.refl _).alloc _
  rw [hV2]
  clear hV2 sV1
  replace B := B.up uV2
  replace uV2 := uV1.trans uV2
  clear uV1
  replace U := U.trans uV2
  clear uV2
  have HW : Hid (∀ p v, w.cell? p = some v → V2.cell? p = some v) := fun p v h => cell_up_ U h
  have B0 := B.get 0
  have B1 := B.get 1
  have B2 := B.get 2
  have B3 := B.get 3
  have Bf0 := B.fr 0
  have Bf1 := B.fr 1
  have Bf2 := B.fr 2
  have Bf3 := B.fr 3
  have Bl := B.lt
  simp only [List.getElem?_toArray, List.getElem?_cons_zero, List.getElem?_cons_succ] at B0 B1 B2 B3
  go_wp2_with fail
  go_loop [3] (fun s => ∃ j : Nat, m ≤ j ∧ j ≤ k ∧ s = .slice A j c) (fun s => lenOf s)
  case atStart => exact ⟨k, hm, Nat.le_refl _, rfl⟩
  case round =>
    obtain ⟨j, j1, j2, rfl⟩ := hrel
    by_cases e : j = m
    ·
      have e := e.symm
      subst e
      clear j1 hm
      by_cases e0 : m = 0
      ·
        subst e0
        go_wp2_with (refine store_ob2 rfl 25 (.tmp 2) (.tmp 39) rfl _ #[.bool false, .slice none 0 0, .int .i64 0, .int .i64 0] #[.bool neg, .slice A 0 c, .int .i64 T, .int .i64 G] rfl rfl 4 (by kernel_rfl) rfl rfl (by simp [Value.oneCell']) w U ltR 25 R ?_; clear U; intro V9 Z9 U ho; clear ho R; have R := Z9; clear Z9)
        have zz0 := R.get 0
        have zz1 := R.get 1
        have zz2 := R.get 2
        have zz3 := R.get 3
        simp only [List.getElem?_toArray, List.getElem?_cons_zero, List.getElem?_cons_succ] at zz0 zz1 zz2 zz3
        refine bodyPost_ret (v := xv neg (.slice A 0 c) T G) (by simp [results, Tryz.results6, go_sem, zz0, zz1, zz2, zz3]) rfl ?_
        exact ⟨rfl, U⟩
      ·
        obtain ⟨b, o, rfl, _, hc⟩ := HA.out (by omega)
        obtain ⟨x, hx⟩ : ∃ x, ys.getD (m - 1) 0 = x := ⟨_, rfl⟩
        have hc1 := HW.out _ _ (hc (m - 1) (by omega)).1
        have x0 := H1.out (by omega)
        rw [hx] at hc1 x0
        have d1 : ((x : Int) == 0) = false := by rw [beq_eq_false_iff_ne]; omega
        have hp : 0 < m := by omega
        clear hc hx x0 e0
        go_wp2_with (refine store_ob2 rfl 25 (.tmp 2) (.tmp 39) rfl _ #[.bool false, .slice none 0 0, .int .i64 0, .int .i64 0] #[.bool neg, .slice (some ⟨b, o, none⟩) m c, .int .i64 T, .int .i64 G] rfl rfl 4 (by kernel_rfl) rfl rfl (by simp [Value.oneCell']) w U ltR 25 R ?_; clear U; intro V9 Z9 U ho; clear ho R; have R := Z9; clear Z9)
        have zz0 := R.get 0
        have zz1 := R.get 1
        have zz2 := R.get 2
        have zz3 := R.get 3
        simp only [List.getElem?_toArray, List.getElem?_cons_zero, List.getElem?_cons_succ] at zz0 zz1 zz2 zz3
        refine bodyPost_ret (v := xv neg (.slice (some ⟨b, o, none⟩) m c) T G) (by simp [results, Tryz.results6, go_sem, zz0, zz1, zz2, zz3]) rfl ?_
        exact ⟨rfl, U⟩
    ·
      obtain ⟨b, o, rfl, _, hc⟩ := HA.out (by omega)
      have hc1 := HW.out _ _ (hc (j - 1) (by omega)).1
      rw [H2.out (j - 1) (by omega) (by omega)] at hc1
      have hp : 0 < j := by omega
      have hjm : m ≤ j - 1 := by omega
      clear hc e j1
      go_wp2_with fail
      go_round
      case rel => exact ⟨j - 1, hjm, by omega, by congr 1⟩
      case measure => simp [lenOf]; omega
theorem small8_ex (w : World) (neg : Bool) (A : Option Addr) (n c : Nat) (xs : List Nat) (t g : Int) (h : Src w A n c xs) (hz : Fz w A n) (T G : Int) (hT : max (min t 1000) (-1000) = T) (hG : max (min g 1000) (-1000) = G) :
    ∃ m a, Nt w 0 40 (.slice A m c) a ∧ Hid (∀ W, Up w W → Calls Tryz.prog 6 #[xv neg (.slice A n c) t g] W (Xe (xv neg (.slice A m c) T G) W)) := by
  obtain ⟨k, hk⟩ : ∃ k : Nat, min (n : Int) 40 = (k : Int) := ⟨min n 40, by omega⟩
  have hwd := (h.take (m := k) (by omega)).wd0 (fun ad e j hj => hz ad e j (by omega)) (by omega)
  have hnc := h.len
  obtain ⟨ys, hys⟩ : ∃ ys, xs.take k = ys := ⟨_, rfl⟩
  rw [hys] at hwd
  obtain ⟨m, h1, h2, h3⟩ := M.trimmed ys k
  have hl := hwd.num
  refine ⟨m, _, ⟨A, m, c, ys.take m, rfl, hwd.take h1, rfl, by omega, M.Nrm.take (by omega) h2⟩, fun W U => ?_⟩
  exact small8_walk W neg A n c t g k m ys hk (by omega) hnc (hwd.up U) h1 h2 h3 T G _ _ rfl hT rfl hG
/-- What a law comes to that is true. -/
def True8 (w : World) (e : Ending) (w' : World) : Prop := e = .returned (.bool true) ∧ Up w w'
set_option maxHeartbeats 1500000 in
set_option maxRecDepth 100000 in
theorem shown8_any (w : World) (TT : Hid (Tz w)) (TF : Hid (TabF w)) : Calls Tryz.prog 5 #[] w (True8 w) := by
  have CN0 := Lib.hid (fun W => show Calls Tryz.prog 17 #[.bool false, .int .u64 29, .int .i64 4] W (Xr false 1 29 4 0 W) from number8_any W false 29 (by decide) (by decide) 4)
  have CR0 := Lib.hid (fun W (T : Tz W) (F : TabF W) (lo : Nat) (v : Value) (h : Nt W lo 1 v 29) => show Calls Tryz.prog 7 #[.int .i64 5, .int .i64 2, xv false v 4 0] W (Wn 126 0 W) from rnd_round W (Lib.hid T) (Lib.hid F) 5 2 lo 1 false v 4 0 29 h (by decide) ⟨by decide, by decide⟩ ⟨by decide, by decide⟩ (lt_w128 (by decide)) 126 0 M.s1)
  have CN1 := Lib.hid (fun W => show Calls Tryz.prog 17 #[.bool true, .int .u64 465, .int .i64 0] W (Xr true 1 465 0 0 W) from number8_any W true 465 (by decide) (by decide) 0)
  have CR1 := Lib.hid (fun W (T : Tz W) (F : TabF W) (lo : Nat) (v : Value) (h : Nt W lo 1 v 465) => show Calls Tryz.prog 7 #[.int .i64 5, .int .i64 2, xv true v 0 0] W (Wn 127 0 W) from rnd_round W (Lib.hid T) (Lib.hid F) 5 2 lo 1 true v 0 0 465 h (by decide) ⟨by decide, by decide⟩ ⟨by decide, by decide⟩ (lt_w128 (by decide)) 127 0 M.s2)
  have CN2 := Lib.hid (fun W => show Calls Tryz.prog 17 #[.bool true, .int .u64 465, .int .i64 0] W (Xr true 1 465 0 0 W) from number8_any W true 465 (by decide) (by decide) 0)
  have CR2 := Lib.hid (fun W (T : Tz W) (F : TabF W) (lo : Nat) (v : Value) (h : Nt W lo 1 v 465) => show Calls Tryz.prog 7 #[.int .i64 5, .int .i64 1, xv true v 0 0] W (Wn 254 0 W) from rnd_round W (Lib.hid T) (Lib.hid F) 5 1 lo 1 true v 0 0 465 h (by decide) ⟨by decide, by decide⟩ ⟨by decide, by decide⟩ (lt_w128 (by decide)) 254 0 M.s3)
  have CN3 := Lib.hid (fun W => show Calls Tryz.prog 17 #[.bool false, .int .u64 1, .int .i64 (-300)] W (Xr false 1 1 (-300) 0 W) from number8_any W false 1 (by decide) (by decide) (-300))
  have CR3 := Lib.hid (fun W (T : Tz W) (F : TabF W) (lo : Nat) (v : Value) (h : Nt W lo 1 v 1) => show Calls Tryz.prog 7 #[.int .i64 1, .int .i64 2, xv false v (-300) 0] W (Wn 1 0 W) from rnd_round W (Lib.hid T) (Lib.hid F) 1 2 lo 1 false v (-300) 0 1 h (by decide) ⟨by decide, by decide⟩ ⟨by decide, by decide⟩ (lt_w128 (by decide)) 1 0 M.s4)
  have CN4 := Lib.hid (fun W => show Calls Tryz.prog 17 #[.bool true, .int .u64 1, .int .i64 16] W (Xr true 1 1 16 0 W) from number8_any W true 1 (by decide) (by decide) 16)
  have CR4 := Lib.hid (fun W (T : Tz W) (F : TabF W) (lo : Nat) (v : Value) (h : Nt W lo 1 v 1) => show Calls Tryz.prog 7 #[.int .i64 12, .int .i64 2, xv true v 16 0] W (Wn 64512 0 W) from rnd_round W (Lib.hid T) (Lib.hid F) 12 2 lo 1 true v 16 0 1 h (by decide) ⟨by decide, by decide⟩ ⟨by decide, by decide⟩ (lt_w128 (by decide)) 64512 0 M.s5)
  have CR5 := Lib.hid (fun W (T : Tz W) (F : TabF W) (lo : Nat) (v : Value) (h : Nt W lo 1 v 0) => show Calls Tryz.prog 7 #[.int .i64 1, .int .i64 3, xv false v 0 0] W (Wn 0 1 W) from rnd_round W (Lib.hid T) (Lib.hid F) 1 3 lo 1 false v 0 0 0 h (by decide) ⟨by decide, by decide⟩ ⟨by decide, by decide⟩ (lt_w128 (by decide)) 0 1 M.s6)
  have CR6 := Lib.hid (fun W (T : Tz W) (F : TabF W) (lo : Nat) (v : Value) (h : Nt W lo 1 v 0) => show Calls Tryz.prog 7 #[.int .i64 14, .int .i64 2, xv true v 0 0] W (Wn 9223372036854775808 0 W) from rnd_round W (Lib.hid T) (Lib.hid F) 14 2 lo 1 true v 0 0 0 h (by decide) ⟨by decide, by decide⟩ ⟨by decide, by decide⟩ (lt_w128 (by decide)) 9223372036854775808 0 M.s7)
  have U := Up.refl w
  go_enter Tryz.func5, Tryz.ntmps5
  go_wp2_with fail
  refine (CN0.out _).mono ?_
  rintro _ w1 ⟨v0, rfl, N0, h1⟩
  replace U := U.trans h1
  clear h1
  go_wp2_with fail
  refine (CR0.out _ (TT.out.up U) (TF.out.up U) _ _ N0).mono ?_
  rintro _ w2 ⟨rfl, h2⟩
  replace U := U.trans h2
  clear h2
  clear CR0 CN0 N0
  go_wp2_with fail
  refine (CN1.out _).mono ?_
  rintro _ w3 ⟨v1, rfl, N1, h3⟩
  replace U := U.trans h3
  clear h3
  go_wp2_with fail
  refine (CR1.out _ (TT.out.up U) (TF.out.up U) _ _ N1).mono ?_
  rintro _ w4 ⟨rfl, h4⟩
  replace U := U.trans h4
  clear h4
  clear CR1 CN1 N1
  go_wp2_with fail
  refine (CN2.out _).mono ?_
  rintro _ w5 ⟨v2, rfl, N2, h5⟩
  replace U := U.trans h5
  clear h5
  go_wp2_with fail
  refine (CR2.out _ (TT.out.up U) (TF.out.up U) _ _ N2).mono ?_
  rintro _ w6 ⟨rfl, h6⟩
  replace U := U.trans h6
  clear h6
  clear CR2 CN2 N2
  go_wp2_with fail
  refine (CN3.out _).mono ?_
  rintro _ w7 ⟨v3, rfl, N3, h7⟩
  replace U := U.trans h7
  clear h7
  go_wp2_with fail
  refine (CR3.out _ (TT.out.up U) (TF.out.up U) _ _ N3).mono ?_
  rintro _ w8 ⟨rfl, h8⟩
  replace U := U.trans h8
  clear h8
  clear CR3 CN3 N3
  go_wp2_with fail
  refine (CN4.out _).mono ?_
  rintro _ w9 ⟨v4, rfl, N4, h9⟩
  replace U := U.trans h9
  clear h9
  go_wp2_with fail
  refine (CR4.out _ (TT.out.up U) (TF.out.up U) _ _ N4).mono ?_
  rintro _ w10 ⟨rfl, h10⟩
  replace U := U.trans h10
  clear h10
  clear CR4 CN4 N4
  go_wp2_with fail
  refine (CR5.out _ (TT.out.up U) (TF.out.up U) 0 _ (Nt.nil _ _ _)).mono ?_
  rintro _ w11 ⟨rfl, h11⟩
  replace U := U.trans h11
  clear h11
  clear CR5
  go_wp2_with fail
  refine (CR6.out _ (TT.out.up U) (TF.out.up U) 0 _ (Nt.nil _ _ _)).mono ?_
  rintro _ w12 ⟨rfl, h12⟩
  replace U := U.trans h12
  clear h12
  clear CR6
  go_wp2_with fail
  go_ret
  exact ⟨by first | rfl | simp, U⟩
end Go.Proofs.YtlogglhonlannaaGreatDoor
