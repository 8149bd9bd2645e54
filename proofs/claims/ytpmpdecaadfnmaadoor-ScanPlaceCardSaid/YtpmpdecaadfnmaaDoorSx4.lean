/-
  The walk of ScanFar: true, and nothing that was there has turned.
-/
import Derived.Test.YtpmpdecaadfnmaaDoorSx3
namespace Go.Proofs.YtpmpdecaadfnmaaDoor
open Go.RowKit Go.Shelf
set_option linter.unusedVariables false

namespace M
theorem vsa_ge : ∀ (l : List UInt8) (a : Nat), a ≤ vsa a l
  | [], a => Nat.le_refl _
  | c :: r, a => by rw [vsa_cons]; exact Nat.le_trans (by omega) (vsa_ge r _)
theorem nines_ge (n : Nat) (h : 4 ≤ n) : 9999 ≤ vsa 0 (List.replicate n 57) := by
  obtain ⟨j, rfl⟩ : ∃ j, n = j + 4 := ⟨n - 4, by omega⟩
  show 9999 ≤ vsa 9999 (List.replicate j 57)
  exact vsa_ge _ _
theorem nines_all (n : Nat) : allD (List.replicate n 57) = true := by
  induction n with
  | zero => rfl
  | succ n ih => rw [List.replicate_succ]; exact ih
theorem nines_ne (n : Nat) (h : 4 ≤ n) : (List.replicate n 57 : List UInt8) ≠ [] := by
  intro e
  have := congrArg List.length e
  simp at this
  omega
def sg (b : Bool) : List UInt8 := if b then [45] else []
theorem far_a (b : Bool) (c : UInt8) (h1 : allD [c] = true) (h2 : c ≠ 48) (n : Nat) (h : 4 ≤ n) : rs ([c] ++ (101 :: (sg b ++ List.replicate n 57))) = (⟨1, false, ⟨0, 0, if b then -1 else 1, false⟩⟩, 0, 0) := by
  rw [rs_ok (scan_plain [c] 101 (sg b) _ h1 (by simp) (.inl rfl) (by cases b <;> simp [sg]) (nines_all n) (nines_ne n h))]
  have hg := nines_ge n h
  have e1 : lz [c] = [c] := by rw [lz_cons, if_neg h2]
  have e2 : tz [c] = [c] := by show (lz [c].reverse).reverse = [c]; rw [show [c].reverse = [c] from rfl, e1]; rfl
  have e3 : num [c] (pwr ⟨8, false, [c], 0, decide (sg b = [45]), List.replicate n 57⟩ - ((0 : Nat) : Int)) = ⟨0, 0, if b then -1 else 1, false⟩ := by
    unfold num nm
    rw [e1, e2, if_neg (by simp)]
    cases b
    · have : pwr ⟨8, false, [c], 0, decide (sg false = [45]), List.replicate n 57⟩ = (vsa 0 (List.replicate n 57) : Int) := by simp [pwr, sg]
      rw [this, if_pos (by simp; omega)]
      rfl
    · have : pwr ⟨8, false, [c], 0, decide (sg true = [45]), List.replicate n 57⟩ = -(vsa 0 (List.replicate n 57) : Int) := by simp [pwr, sg]
      rw [this, if_neg (by simp; omega), if_pos (by simp; omega)]
      rfl
  show (itm _, 0, 0) = _
  unfold itm
  rw [if_neg (by simp)]
  rw [e3]
theorem far_b (b : Bool) (n : Nat) (h : 4 ≤ n) : rs (45 :: ([48] ++ (46 :: ([48, 48] ++ (101 :: (sg b ++ List.replicate n 57)))))) = (⟨1, true, ⟨0, 0, 0, false⟩⟩, 0, 0) := by
  have e := scan_point [48] [48, 48] 101 (sg b) (List.replicate n 57) rfl rfl (.inl (by simp)) (.inl rfl) (by cases b <;> simp [sg]) (nines_all n) (nines_ne n h)
  have e2 := scan_sign ([48] ++ (46 :: ([48, 48] ++ (101 :: (sg b ++ List.replicate n 57))))) (.inl (by simp))
  rw [e] at e2
  rw [rs_ok e2]
  rfl
end M
theorem nrm_none {xs : List Nat} {n : Nat} (hn : xs.length = n) (h : M.Nrm xs) (h0 : M.val xs = 0) : n = 0 := by
  rw [M.val_zero h h0] at hn
  exact hn.symm

set_option maxHeartbeats 16000000 in
set_option maxRecDepth 100000 in
theorem sfar_walk (w : World) (hTW : TabW w) (hEW : ErrW w) (x0 : Int) (_wx0 : (Lit.int .i64 x0).wf = true) (x1 : Bool) (x2 : Int) (wx2 : (Lit.int .u8 x2).wf = true) :
    Calls Tryd.prog 5 #[.int .i64 x0, .bool x1, .int .u8 x2] w (True9 w) := by
  have TW := Lib.hid hTW
  have EW := Lib.hid hEW
  have CH := Lib.hid (shown9_any w TW EW)
  obtain ⟨m, q, f1, f2, f3', f4', f5⟩ := few_16 x0 57 (by omega)
  have f3 : (m : Int).tmod 57 = (q : Int) := f3'
  have f4 : (m : Int) % 57 = (q : Int) := f4'
  obtain ⟨d, rfl, hd⟩ := wf_u8 wx2
  obtain ⟨r, hr⟩ : ∃ r, d % 9 = r := ⟨_, rfl⟩
  have hr9 : r < 9 := by omega
  have p1 : (d : Int) % 9 = (r : Int) := by omega
  have p2 : (d : Int).tmod 9 = (r : Int) := by rw [Int.tmod_eq_emod_of_nonneg (by omega)]; exact p1
  obtain ⟨c, hc⟩ : ∃ c : UInt8, (c.toNat : Int) = 49 + (r : Int) := ⟨UInt8.ofNat (49 + r), by rw [UInt8.toNat_ofNat']; omega⟩
  have hc1 : M.allD [c] = true := by
    have : 48 ≤ c.toNat ∧ c.toNat ≤ 57 := by omega
    simp [M.allD, M.isD, this.1, this.2]
  have hc2 : c ≠ 48 := by
    rintro rfl
    have e : ((48 : UInt8).toNat : Int) = 48 := rfl
    omega
  obtain ⟨S1, hS1⟩ : ∃ S1 : ByteArray, (⟨([c] : List UInt8).toArray⟩ : ByteArray) = S1 := ⟨_, rfl⟩
  have HS1 := Lib.hid hS1
  obtain ⟨n, hn⟩ : ∃ n : Nat, 4 + (q : Int) = (n : Int) := ⟨4 + q, by omega⟩
  have hn4 : 4 ≤ n := by omega
  have hn60 : n ≤ 60 := by omega
  clear hTW hEW f3' f4' f5 f2 hS1 hr hd wx2 _wx0
  cases x1
  · go_enter Tryd.func5, Tryd.ntmps5
    go_upto_region 2 with (go_at_call 10; refine CH.out.mono ?_; rintro _ w1 ⟨rfl, u1⟩)
    go_upto_region 9 with fail
    go_loop [8, 10] (fun sv iv => ∃ (j : Nat) (S : ByteArray), sv = .string S ∧ iv = .int .i64 (j : Int) ∧ j ≤ n ∧ Hid (S.data.toList = 101 :: (M.sg false ++ List.replicate j 57))) (fun _ iv => n - (intOf iv).toNat)
    case atStart => exact ⟨0, _, rfl, rfl, by omega, rfl⟩
    case round =>
      obtain ⟨j, S, rfl, rfl, hj, HJ⟩ := hrel
      have hSz : S.size ≤ 100 := by
        have e : S.size = S.data.toList.length := rfl
        rw [e, HJ.out]
        simp [M.sg]
        omega
      by_cases hjn : j < n
      · have dj : decide ((j : Int) < (n : Int)) = true := decide_eq_true (by omega)
        have HJ2 : Hid ((S ++ (⟨#[57]⟩ : ByteArray)).data.toList = 101 :: (M.sg false ++ List.replicate (j + 1) 57)) := by
          show _ = _
          rw [ByteArray.data_append, Array.toList_append, HJ.out, List.replicate_succ']
          simp
        clear HJ
        go_wp2_with fail
        go_round
        case rel => exact ⟨j + 1, _, rfl, by go_num, by omega, HJ2⟩
        case measure => simp [intOf]; omega
      · obtain rfl : j = n := by omega
        have dj : decide ((j : Int) < (j : Int)) = false := decide_eq_false (by omega)
        have hS1z : S1.size ≤ 1 := by
          rw [← HS1.out]
          exact Nat.le_refl _
        have hv1 := conv_sb (sb_lit w1 #[.int .u8 (49 + (r : Int))] (0, 0) [c] 1 rfl (by simp [hc])) (by omega) S1 HS1
        obtain ⟨R1, hR1⟩ : ∃ R1, S1 ++ S = R1 := ⟨_, rfl⟩
        obtain ⟨R2, hR2⟩ : ∃ R2, (⟨#[45, 48, 46, 48, 48]⟩ : ByteArray) ++ S = R2 := ⟨_, rfl⟩
        have a1 : Hid (R1.data.toList = [c] ++ (101 :: (M.sg false ++ List.replicate j 57))) := by
          show _ = _
          rw [← hR1, ByteArray.data_append, Array.toList_append, HJ.out, ← HS1.out]
        have a2 : Hid (R2.data.toList = 45 :: ([48] ++ (46 :: ([48, 48] ++ (101 :: (M.sg false ++ List.replicate j 57)))))) := by
          show _ = _
          rw [← hR2, ByteArray.data_append, Array.toList_append, HJ.out]
          rfl
        have z1 : R1.size ≤ 1000000 := by
          have e : R1.size = R1.data.toList.length := rfl
          rw [e, a1.out]
          simp [M.sg]
          omega
        have z2 : R2.size ≤ 1000000 := by
          have e : R2.size = R2.data.toList.length := rfl
          rw [e, a2.out]
          simp [M.sg]
          omega
        have r1 := Lib.hid (M.far_a false c hc1 hc2 j hn4)
        have r2 := Lib.hid (M.far_b false j hn4)
        have C2 := Lib.hid (fun V (u : Up w V) => of_val V (Lib.hid (EW.out.up u)) R2 _ a2 z2 _ 0 0 r2 1 true 0 0 0 false rfl rfl rfl)
        have C1 := Lib.hid (fun V (u : Up w V) => of_val V (Lib.hid (EW.out.up u)) R1 _ a1 z1 _ 0 0 r1 1 false 0 0 1 false rfl rfl rfl)
        clear HJ a1 a2 z1 z2 r1 r2 hj hjn hc hc1 hc2 HS1
        have U1 := u1.alloc (.cells #[.int .u8 (49 + (r : Int))] 5)
        go_upto_region 13 with (first
          | (go_at_call 12; refine (C1.out _ U1).mono ?_; rintro _ V1 ⟨A1, n1, c1, xs1, rfl, a1, b1, d1, e1, u2⟩)
          | (refine store_ob rfl 27 (.tmp 11) (.tmp 33) rfl _ #[.int .i64 0, .bool false, .slice none 0 0, .int .i64 0, .int .i64 0, .bool false] #[.int .i64 1, .bool false, .slice A1 n1 c1, .int .i64 0, .int .i64 1, .bool false] rfl rfl 6 (by kernel_rfl) rfl rfl (by simp [Value.oneCell']) V1 ((Up.refl _).alloc _) (Nat.le_refl _) 27 (Ob.mk_ _ _ _) ?_; intro W1 I1 q1))
        have o1 := nrm_none a1.num e1 b1
        subst o1
        have gw : w.heap.size ≤ V1.heap.size := Up.size (U1.trans u2)
        have g1 : V1.heap.size < W1.heap.size := I1.lt
        have U2 : Up w W1 := (U1.trans u2).trans q1
        clear a1 b1 d1 e1 u2 q1 C1
        go_upto_region 14 with (first
          | (go_at_call 12; refine (C2.out _ U2).mono ?_; rintro _ V2 ⟨A2, n2, c2, xs2, rfl, a2, b2, d2, e2, u3⟩)
          | (refine store_ob rfl 27 (.tmp 12) (.tmp 36) rfl _ #[.int .i64 0, .bool false, .slice none 0 0, .int .i64 0, .int .i64 0, .bool false] #[.int .i64 1, .bool true, .slice A2 n2 c2, .int .i64 0, .int .i64 0, .bool false] rfl rfl 6 (by kernel_rfl) rfl rfl (by simp [Value.oneCell']) V2 ((Up.refl _).alloc _) (Nat.le_refl _) 27 (Ob.mk_ _ _ _) ?_; intro W2 I2 q2))
        have o2 := nrm_none a2.num e2 b2
        subst o2
        have U3 : Up w W2 := (U2.trans u3).trans q2
        have I1' := I1.up (u3.trans q2)
        obtain ⟨i0, i1, i2, i3, i4, i5⟩ := I1'.six
        obtain ⟨j0, j1, j2, j3, j4, j5⟩ := I2.six
        clear a2 b2 d2 e2 u3 q2 C2 I1 I2 I1'
        go_wp2_with fail
        go_ret
        exact ⟨rfl, U3⟩
  · go_enter Tryd.func5, Tryd.ntmps5
    go_upto_region 2 with (go_at_call 10; refine CH.out.mono ?_; rintro _ w1 ⟨rfl, u1⟩)
    go_upto_region 9 with fail
    go_loop [8, 10] (fun sv iv => ∃ (j : Nat) (S : ByteArray), sv = .string S ∧ iv = .int .i64 (j : Int) ∧ j ≤ n ∧ Hid (S.data.toList = 101 :: (M.sg true ++ List.replicate j 57))) (fun _ iv => n - (intOf iv).toNat)
    case atStart => exact ⟨0, _, rfl, rfl, by omega, rfl⟩
    case round =>
      obtain ⟨j, S, rfl, rfl, hj, HJ⟩ := hrel
      have hSz : S.size ≤ 100 := by
        have e : S.size = S.data.toList.length := rfl
        rw [e, HJ.out]
        simp [M.sg]
        omega
      by_cases hjn : j < n
      · have dj : decide ((j : Int) < (n : Int)) = true := decide_eq_true (by omega)
        have HJ2 : Hid ((S ++ (⟨#[57]⟩ : ByteArray)).data.toList = 101 :: (M.sg true ++ List.replicate (j + 1) 57)) := by
          show _ = _
          rw [ByteArray.data_append, Array.toList_append, HJ.out, List.replicate_succ']
          simp
        clear HJ
        go_wp2_with fail
        go_round
        case rel => exact ⟨j + 1, _, rfl, by go_num, by omega, HJ2⟩
        case measure => simp [intOf]; omega
      · obtain rfl : j = n := by omega
        have dj : decide ((j : Int) < (j : Int)) = false := decide_eq_false (by omega)
        have hS1z : S1.size ≤ 1 := by
          rw [← HS1.out]
          exact Nat.le_refl _
        have hv1 := conv_sb (sb_lit w1 #[.int .u8 (49 + (r : Int))] (0, 0) [c] 1 rfl (by simp [hc])) (by omega) S1 HS1
        obtain ⟨R1, hR1⟩ : ∃ R1, S1 ++ S = R1 := ⟨_, rfl⟩
        obtain ⟨R2, hR2⟩ : ∃ R2, (⟨#[45, 48, 46, 48, 48]⟩ : ByteArray) ++ S = R2 := ⟨_, rfl⟩
        have a1 : Hid (R1.data.toList = [c] ++ (101 :: (M.sg true ++ List.replicate j 57))) := by
          show _ = _
          rw [← hR1, ByteArray.data_append, Array.toList_append, HJ.out, ← HS1.out]
        have a2 : Hid (R2.data.toList = 45 :: ([48] ++ (46 :: ([48, 48] ++ (101 :: (M.sg true ++ List.replicate j 57)))))) := by
          show _ = _
          rw [← hR2, ByteArray.data_append, Array.toList_append, HJ.out]
          rfl
        have z1 : R1.size ≤ 1000000 := by
          have e : R1.size = R1.data.toList.length := rfl
          rw [e, a1.out]
          simp [M.sg]
          omega
        have z2 : R2.size ≤ 1000000 := by
          have e : R2.size = R2.data.toList.length := rfl
          rw [e, a2.out]
          simp [M.sg]
          omega
        have r1 := Lib.hid (M.far_a true c hc1 hc2 j hn4)
        have r2 := Lib.hid (M.far_b true j hn4)
        have C2 := Lib.hid (fun V (u : Up w V) => of_val V (Lib.hid (EW.out.up u)) R2 _ a2 z2 _ 0 0 r2 1 true 0 0 0 false rfl rfl rfl)
        have C1 := Lib.hid (fun V (u : Up w V) => of_val V (Lib.hid (EW.out.up u)) R1 _ a1 z1 _ 0 0 r1 1 false 0 0 (-1) false rfl rfl rfl)
        clear HJ a1 a2 z1 z2 r1 r2 hj hjn hc hc1 hc2 HS1
        have U1 := u1.alloc (.cells #[.int .u8 (49 + (r : Int))] 5)
        go_upto_region 13 with (first
          | (go_at_call 12; refine (C1.out _ U1).mono ?_; rintro _ V1 ⟨A1, n1, c1, xs1, rfl, a1, b1, d1, e1, u2⟩)
          | (refine store_ob rfl 27 (.tmp 11) (.tmp 33) rfl _ #[.int .i64 0, .bool false, .slice none 0 0, .int .i64 0, .int .i64 0, .bool false] #[.int .i64 1, .bool false, .slice A1 n1 c1, .int .i64 0, .int .i64 (-1), .bool false] rfl rfl 6 (by kernel_rfl) rfl rfl (by simp [Value.oneCell']) V1 ((Up.refl _).alloc _) (Nat.le_refl _) 27 (Ob.mk_ _ _ _) ?_; intro W1 I1 q1))
        have o1 := nrm_none a1.num e1 b1
        subst o1
        have gw : w.heap.size ≤ V1.heap.size := Up.size (U1.trans u2)
        have g1 : V1.heap.size < W1.heap.size := I1.lt
        have U2 : Up w W1 := (U1.trans u2).trans q1
        clear a1 b1 d1 e1 u2 q1 C1
        go_upto_region 14 with (first
          | (go_at_call 12; refine (C2.out _ U2).mono ?_; rintro _ V2 ⟨A2, n2, c2, xs2, rfl, a2, b2, d2, e2, u3⟩)
          | (refine store_ob rfl 27 (.tmp 12) (.tmp 36) rfl _ #[.int .i64 0, .bool false, .slice none 0 0, .int .i64 0, .int .i64 0, .bool false] #[.int .i64 1, .bool true, .slice A2 n2 c2, .int .i64 0, .int .i64 0, .bool false] rfl rfl 6 (by kernel_rfl) rfl rfl (by simp [Value.oneCell']) V2 ((Up.refl _).alloc _) (Nat.le_refl _) 27 (Ob.mk_ _ _ _) ?_; intro W2 I2 q2))
        have o2 := nrm_none a2.num e2 b2
        subst o2
        have U3 : Up w W2 := (U2.trans u3).trans q2
        have I1' := I1.up (u3.trans q2)
        obtain ⟨i0, i1, i2, i3, i4, i5⟩ := I1'.six
        obtain ⟨j0, j1, j2, j3, j4, j5⟩ := I2.six
        clear a2 b2 d2 e2 u3 q2 C2 I1 I2 I1'
        go_wp2_with fail
        go_ret
        exact ⟨rfl, U3⟩
end Go.Proofs.YtpmpdecaadfnmaaDoor
