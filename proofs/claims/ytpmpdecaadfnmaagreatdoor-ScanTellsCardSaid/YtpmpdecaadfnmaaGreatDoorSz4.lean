/-
  The reference of layer 9: Scan: its contract.
-/
import Derived.Test.YtpmpdecaadfnmaaGreatDoorSz2
import Derived.Test.YtpmpdecaadfnmaaGreatDoorSz3
namespace Go.Proofs.YtpmpdecaadfnmaaGreatDoor
open Go.RowKit Go.Shelf
set_option linter.unusedVariables false

/-- One byte of a text. -/
theorem str_one {s : ByteArray} {l : List UInt8} (h : s.data.toList = l) (i : Nat) (hi : i < s.size) : Hid ((s.extract i (i + 1)).data.toList = [l.getD i 0]) ∧ (s.extract i (i + 1)).size ≤ 1 := by
  have hl : i < l.length := by rw [← h, Array.length_toList]; exact hi
  constructor
  · show _ = _
    have e : (s.extract i (i + 1)).data.toList = (s.data.toList.drop i).take 1 := by
      rw [ByteArray.data_extract, Array.toList_extract]
      simp [List.extract]
    rw [e, h, M.drop_at hl]
    rfl
  · simp
    omega
/-- What the reference's Scan answers. -/
def Rsc (l : List UInt8) (w : World) (e : Ending) (w' : World) : Prop := ∃ r i er, M.rs l = (r, i, er) ∧ Scn r i er w e w'

set_option maxHeartbeats 16000000 in
set_option maxRecDepth 100000 in
theorem rscan_any (w : World) (S : ByteArray) (l : List UInt8) (hS : Hid (S.data.toList = l)) (hl : l.length ≤ 3000) :
    Calls Tryz.prog 6 #[.string S] w (Rsc l w) := by
  have hSz : S.size = l.length := str_size hS
  have hS3 : S.size ≤ 3000 := by omega
  have HSZ := Lib.hid hSz
  have hget : ∀ (i : Nat) (h : i < S.size), S[i] = l.getD i 0 := by
    intro i h
    rw [str_get hS.out i h (by omega), List.getD_eq_getElem?_getD, List.getElem?_eq_getElem (by omega)]
    rfl
  have HGET := Lib.hid hget
  clear hSz hget hl
  have U := Up.refl w
  go_enter Tryz.func6, Tryz.ntmps6
  go_upto_region 2 with fail
  obtain ⟨V1, hV1⟩ : ∃ V1, w.alloc (.cells #[.int .i64 0, .bool false, .slice none 0 0, .int .i64 0, .int .i64 0, .bool false] 31) = V1 := ⟨_, rfl⟩
  have R : Ob V1 w.heap.size 31 #[.int .i64 0, .bool false, .slice none 0 0, .int .i64 0, .int .i64 0, .bool false] := by rw [← hV1]; exact Ob.mk_ _ _ _
  replace U : Up w V1 := by rw [← hV1]; exact U.alloc _
  rw [hV1]
  clear hV1
  go_upto_block 0 with (refine store_ob rfl 31 (.tmp 6) (.tmp 12) rfl _ #[.int .i64 0, .bool false, .slice none 0 0, .int .i64 0, .int .i64 0, .bool false] #[.int .i64 0, .bool false, .slice none 0 0, .int .i64 0, .int .i64 0, .bool false] rfl rfl 6 (by kernel_rfl) rfl rfl (by simp [Value.oneCell']) V1 ((Up.refl _).alloc _) (Nat.le_refl _) 31 (Ob.mk_ _ _ _) ?_; intro V2 X q2)
  have gl : w.heap.size < V1.heap.size := R.lt
  obtain ⟨g, hg⟩ : ∃ g, V1.heap.size = g := ⟨_, rfl⟩
  rw [hg] at X gl ⊢
  replace R := R.up q2
  replace U := U.trans q2
  clear hg q2
  go_wp2_with fail
  go_loopw [5, 7, 8, 9, 10, 11] (fun sv dv ev bv lv iv wr => ∃ (i : Nat) (x : M.Sc) (D : ByteArray), i ≤ S.size ∧ sv = .int .i64 (x.st : Int) ∧ dv = .string D ∧ ev = .int .i64 (M.pwc x : Int) ∧ bv = .int .i64 (x.bh : Int) ∧ lv = .bool x.dn ∧ iv = .int .i64 (i : Int) ∧ Hid (D.data.toList = x.ds) ∧ Hid (M.Rd l i x) ∧ Hid (M.Bd x i) ∧ Ob wr g 31 #[.int .i64 0, .bool x.neg, .slice none 0 0, .int .i64 0, .int .i64 0, .bool false] ∧ Ob wr w.heap.size 31 #[.int .i64 0, .bool false, .slice none 0 0, .int .i64 0, .int .i64 0, .bool false] ∧ Up w wr) (fun _ _ _ _ _ iv _ => S.size - (intOf iv).toNat)
  case atStart => exact ⟨0, M.sc0, _, Nat.zero_le _, rfl, rfl, rfl, rfl, rfl, rfl, rfl, M.Rd.start l, M.Bd.start, X, R, U⟩
  case round =>
    clear X R U
    obtain ⟨i, x, D, hi, rfl, rfl, rfl, rfl, rfl, rfl, HD, HR, HB, X, R, U⟩ := hrel
    obtain ⟨st, hst⟩ : ∃ st, x.st = st := ⟨_, rfl⟩
    obtain ⟨ng, hng⟩ : ∃ ng, x.neg = ng := ⟨_, rfl⟩
    obtain ⟨bh, hbh⟩ : ∃ bh, x.bh = bh := ⟨_, rfl⟩
    obtain ⟨dn, hdn⟩ : ∃ dn, x.dn = dn := ⟨_, rfl⟩
    obtain ⟨pp, hpp⟩ : ∃ pp, M.pwc x = pp := ⟨_, rfl⟩
    have hDs : D.size ≤ 3000 := by rw [str_size HD]; exact Nat.le_trans HB.out.ds (by omega)
    have hbb : bh ≤ 3000 := by rw [← hbh]; exact Nat.le_trans HB.out.bh (Nat.le_trans HB.out.ds (by omega))
    have hpb : pp ≤ 1099511627776 := by rw [← hpp]; exact Nat.min_le_right _ _
    have hlv : M.lv st = true := by rw [← hst]; exact HB.out.lv
    have hs32 : st ≤ 32 := by rw [← hst]; exact HB.out.st
    rw [hst, hbh, hdn, hpp]
    rw [hng] at X
    have Hst := Lib.hid hst
    have Hng := Lib.hid hng
    have Hbh := Lib.hid hbh
    have Hdn := Lib.hid hdn
    have Hpp := Lib.hid hpp
    have Hlv := Lib.hid hlv
    clear hst hng hbh hdn hpp hlv
    have gl2 : g < wr.heap.size := X.lt
    by_cases hlt : i < S.size
    · have d1 : decide ((i : Int) < (S.size : Int)) = true := decide_eq_true (by omega)
      have d2 : decide (i < S.size) = true := decide_eq_true hlt
      obtain ⟨c, hc⟩ : ∃ c, l.getD i 0 = c := ⟨_, rfl⟩
      obtain ⟨C, hC⟩ : ∃ C : Nat, c.toNat = C := ⟨_, rfl⟩
      have hC2 : C < 256 := by rw [← hC]; exact c.toNat_lt
      have hix : ((S[i]).toNat : Int) = (C : Int) := by rw [HGET.out i hlt, hc, hC]
      obtain ⟨ns, hns⟩ : ∃ ns, M.nx st C = ns := ⟨_, rfl⟩
      have HNX := Lib.hid (show M.nx x.st c.toNat = ns by rw [Hst.out, hC]; exact hns)
      have CN := Lib.hid (rnext_any wr st Hlv.out C hC2 ns (Lib.hid hns))
      have HC := Lib.hid hc
      have HCC := Lib.hid hC
      clear hc hC hns
      have hns2 : ns = 99 ∨ ns = 1 ∨ ns = 2 ∨ ns = 5 ∨ ns = 7 ∨ ns = 8 ∨ (ns ≠ 99 ∧ ns ≠ 1 ∧ ns ≠ 2 ∧ ns ≠ 5 ∧ ns ≠ 7 ∧ ns ≠ 8) := by omega
      rcases hns2 with rfl | rfl | rfl | rfl | rfl | rfl | ⟨n1, n2, n3, n4, n5, n6⟩
      · have CN1 : Hid (Calls Tryz.prog 12 #[.int .i64 (st : Int), .int .u8 (C : Int)] wr (Same (.int .i64 99) wr)) := CN.out
        clear CN
        have HRS := Lib.hid (M.rs_error (HR.out.stop (by have := HSZ.out; omega) (by rw [HC.out]; exact HNX.out)))
        clear HR HB HD HC HNX
        go_wp2_with (first | (go_at_call 12; refine CN1.out.mono ?_; rintro _ _ ⟨rfl, rfl⟩) | (refine store_ob2 rfl 31 (.tmp 2) (.tmp 27) rfl _ #[.int .i64 0, .bool false, .slice none 0 0, .int .i64 0, .int .i64 0, .bool false] #[.int .i64 0, .bool false, .slice none 0 0, .int .i64 0, .int .i64 0, .bool false] rfl rfl 6 (by kernel_rfl) rfl rfl (by simp [Value.oneCell']) w U (Nat.le_refl _) 31 R ?_; intro V9 Z9 U9 ho))
        obtain ⟨z0, z1, z2, z3, z4, z5⟩ := Z9.six
        refine bodyPost_ret (v := .tuple #[itv 0 false (.slice none 0 0) 0 0 false, .int .i64 (i : Int), .int .i64 2]) (by simp [results, Tryz.results6, go_sem, z0, z1, z2, z3, z4, z5]) rfl ?_
        exact ⟨_, _, _, HRS.out, _, rfl, Nt.nil _ _ _, U9⟩
      · have CN1 : Hid (Calls Tryz.prog 12 #[.int .i64 (st : Int), .int .u8 (C : Int)] wr (Same (.int .i64 1) wr)) := CN.out
        clear CN
        have hne : M.nx x.st c.toNat ≠ 99 := by rw [HNX.out]; omega
        have RD : Hid (M.Rd l (i + 1) (M.stp x c)) := by have := HR.out.step (by have := HSZ.out; omega) (by rw [HC.out]; exact hne); rw [HC.out] at this; exact this
        have BD : Hid (M.Bd (M.stp x c) (i + 1)) := HB.out.step c hne
        clear hne
        have E1 : Hid (Value.int .i64 1 = .int .i64 ((M.stp x c).st : Int)) := by show _ = _; rw [show (M.stp x c).st = M.nx x.st c.toNat from rfl, HNX.out]; rfl
        have E2 : Hid (Value.int .i64 (pp : Int) = .int .i64 (M.pwc (M.stp x c) : Int)) := by show _ = _; rw [M.pwc_stay x c (by rw [HNX.out]; omega), Hpp.out]
        have E3 : Hid (Value.int .i64 (bh : Int) = .int .i64 ((M.stp x c).bh : Int)) := by show _ = _; rw [show (M.stp x c).bh = if M.nx x.st c.toNat = 5 then x.bh + 1 else x.bh from rfl, HNX.out, Hbh.out]; rw [if_neg (by omega)]
        have E4 : Hid (Value.bool dn = .bool (M.stp x c).dn) := by show _ = _; rw [show (M.stp x c).dn = if M.nx x.st c.toNat = 7 then c.toNat == 45 else x.dn from rfl, HNX.out]; rw [if_neg (by omega), Hdn.out]
        have E5 : Hid ((M.stp x c).neg = true) := by show _ = _; rw [show (M.stp x c).neg = if M.nx x.st c.toNat = 1 then true else x.neg from rfl, HNX.out]; rfl
        have E6 : Hid ((M.stp x c).ds = x.ds) := by show _ = _; rw [show (M.stp x c).ds = if M.nx x.st c.toNat = 2 ∨ M.nx x.st c.toNat = 5 then x.ds ++ [c] else x.ds from rfl, HNX.out]; rw [if_neg (by omega)]
        have HD2 : Hid (D.data.toList = (M.stp x c).ds) := by show _ = _; rw [E6.out]; exact HD.out
        clear HR HB HNX HC HCC Hst Hng Hbh Hdn Hpp Hlv
        obtain ⟨x0, x1, x2, x3, x4, x5⟩ := X.six
        obtain ⟨f0, f1, f2, f3, f4, f5⟩ := X.fsix
        go_wp2_with (go_at_call 12; refine CN1.out.mono ?_; rintro _ _ ⟨rfl, rfl⟩)
        have oV : ∀ b', b' ≠ g → (wr.setCell ⟨g, 1, none⟩ (.bool true)).heap[b']? = wr.heap[b']? := fun b' hne => Below.heap_setCell _ _ _ b' hne
        have X2 : Ob (wr.setCell ⟨g, 1, none⟩ (.bool true)) g 31 #[.int .i64 0, .bool (M.stp x c).neg, .slice none 0 0, .int .i64 0, .int .i64 0, .bool false] := by rw [E5.out]; exact X.put 1 (.bool true)
        have R2 := R.oth oV (by omega)
        have U2 : Up w (wr.setCell ⟨g, 1, none⟩ (.bool true)) := U.setCell (p := ⟨g, 1, none⟩) (Nat.le_of_lt gl) _
        go_roundw
        case rel => exact ⟨i + 1, M.stp x c, D, by omega, E1.out, rfl, E2.out, E3.out, E4.out, by go_num, HD2, RD, BD, X2, R2, U2⟩
        case measure => simp [intOf]; omega
      · have CN1 : Hid (Calls Tryz.prog 12 #[.int .i64 (st : Int), .int .u8 (C : Int)] wr (Same (.int .i64 2) wr)) := CN.out
        clear CN
        have hne : M.nx x.st c.toNat ≠ 99 := by rw [HNX.out]; omega
        have RD : Hid (M.Rd l (i + 1) (M.stp x c)) := by have := HR.out.step (by have := HSZ.out; omega) (by rw [HC.out]; exact hne); rw [HC.out] at this; exact this
        have BD : Hid (M.Bd (M.stp x c) (i + 1)) := HB.out.step c hne
        clear hne
        have E1 : Hid (Value.int .i64 2 = .int .i64 ((M.stp x c).st : Int)) := by show _ = _; rw [show (M.stp x c).st = M.nx x.st c.toNat from rfl, HNX.out]; rfl
        have E2 : Hid (Value.int .i64 (pp : Int) = .int .i64 (M.pwc (M.stp x c) : Int)) := by show _ = _; rw [M.pwc_stay x c (by rw [HNX.out]; omega), Hpp.out]
        have E3 : Hid (Value.int .i64 (bh : Int) = .int .i64 ((M.stp x c).bh : Int)) := by show _ = _; rw [show (M.stp x c).bh = if M.nx x.st c.toNat = 5 then x.bh + 1 else x.bh from rfl, HNX.out, Hbh.out]; rw [if_neg (by omega)]
        have E4 : Hid (Value.bool dn = .bool (M.stp x c).dn) := by show _ = _; rw [show (M.stp x c).dn = if M.nx x.st c.toNat = 7 then c.toNat == 45 else x.dn from rfl, HNX.out]; rw [if_neg (by omega), Hdn.out]
        have E5 : Hid ((M.stp x c).neg = ng) := by show _ = _; rw [show (M.stp x c).neg = if M.nx x.st c.toNat = 1 then true else x.neg from rfl, HNX.out]; rw [if_neg (by omega), Hng.out]
        have E6 : Hid ((M.stp x c).ds = x.ds ++ [c]) := by show _ = _; rw [show (M.stp x c).ds = if M.nx x.st c.toNat = 2 ∨ M.nx x.st c.toNat = 5 then x.ds ++ [c] else x.ds from rfl, HNX.out]; rfl
        obtain ⟨o1, o2⟩ := str_one hS.out i hlt
        obtain ⟨D2, hD2, HD2', zD2⟩ := cat9 D (S.extract i (i + 1)) _ _ 3001 HD o1 (by omega)
        have HD2 : Hid (D2.data.toList = (M.stp x c).ds) := by show _ = _; rw [E6.out, HD2'.out, HC.out]
        have X2 : Ob wr g 31 #[.int .i64 0, .bool (M.stp x c).neg, .slice none 0 0, .int .i64 0, .int .i64 0, .bool false] := by rw [E5.out]; exact X
        clear HD2' o1
        clear HR HB HNX HC HCC Hst Hng Hbh Hdn Hpp Hlv
        go_wp2_with (go_at_call 12; refine CN1.out.mono ?_; rintro _ _ ⟨rfl, rfl⟩)
        go_roundw
        case rel => exact ⟨i + 1, M.stp x c, _, by omega, E1.out, rfl, E2.out, E3.out, E4.out, by go_num, HD2, RD, BD, X2, R, U⟩
        case measure => simp [intOf]; omega
      · have CN1 : Hid (Calls Tryz.prog 12 #[.int .i64 (st : Int), .int .u8 (C : Int)] wr (Same (.int .i64 5) wr)) := CN.out
        clear CN
        have hne : M.nx x.st c.toNat ≠ 99 := by rw [HNX.out]; omega
        have RD : Hid (M.Rd l (i + 1) (M.stp x c)) := by have := HR.out.step (by have := HSZ.out; omega) (by rw [HC.out]; exact hne); rw [HC.out] at this; exact this
        have BD : Hid (M.Bd (M.stp x c) (i + 1)) := HB.out.step c hne
        clear hne
        have E1 : Hid (Value.int .i64 5 = .int .i64 ((M.stp x c).st : Int)) := by show _ = _; rw [show (M.stp x c).st = M.nx x.st c.toNat from rfl, HNX.out]; rfl
        have E2 : Hid (Value.int .i64 (pp : Int) = .int .i64 (M.pwc (M.stp x c) : Int)) := by show _ = _; rw [M.pwc_stay x c (by rw [HNX.out]; omega), Hpp.out]
        have E3 : Hid (Value.int .i64 ((bh : Int) + 1) = .int .i64 ((M.stp x c).bh : Int)) := by show _ = _; rw [show (M.stp x c).bh = if M.nx x.st c.toNat = 5 then x.bh + 1 else x.bh from rfl, HNX.out, Hbh.out]; rfl
        have E4 : Hid (Value.bool dn = .bool (M.stp x c).dn) := by show _ = _; rw [show (M.stp x c).dn = if M.nx x.st c.toNat = 7 then c.toNat == 45 else x.dn from rfl, HNX.out]; rw [if_neg (by omega), Hdn.out]
        have E5 : Hid ((M.stp x c).neg = ng) := by show _ = _; rw [show (M.stp x c).neg = if M.nx x.st c.toNat = 1 then true else x.neg from rfl, HNX.out]; rw [if_neg (by omega), Hng.out]
        have E6 : Hid ((M.stp x c).ds = x.ds ++ [c]) := by show _ = _; rw [show (M.stp x c).ds = if M.nx x.st c.toNat = 2 ∨ M.nx x.st c.toNat = 5 then x.ds ++ [c] else x.ds from rfl, HNX.out]; rfl
        obtain ⟨o1, o2⟩ := str_one hS.out i hlt
        obtain ⟨D2, hD2, HD2', zD2⟩ := cat9 D (S.extract i (i + 1)) _ _ 3001 HD o1 (by omega)
        have HD2 : Hid (D2.data.toList = (M.stp x c).ds) := by show _ = _; rw [E6.out, HD2'.out, HC.out]
        have X2 : Ob wr g 31 #[.int .i64 0, .bool (M.stp x c).neg, .slice none 0 0, .int .i64 0, .int .i64 0, .bool false] := by rw [E5.out]; exact X
        clear HD2' o1
        clear HR HB HNX HC HCC Hst Hng Hbh Hdn Hpp Hlv
        go_wp2_with (go_at_call 12; refine CN1.out.mono ?_; rintro _ _ ⟨rfl, rfl⟩)
        go_roundw
        case rel => exact ⟨i + 1, M.stp x c, _, by omega, E1.out, rfl, E2.out, E3.out, E4.out, by go_num, HD2, RD, BD, X2, R, U⟩
        case measure => simp [intOf]; omega
      · have CN1 : Hid (Calls Tryz.prog 12 #[.int .i64 (st : Int), .int .u8 (C : Int)] wr (Same (.int .i64 7) wr)) := CN.out
        clear CN
        have hne : M.nx x.st c.toNat ≠ 99 := by rw [HNX.out]; omega
        have RD : Hid (M.Rd l (i + 1) (M.stp x c)) := by have := HR.out.step (by have := HSZ.out; omega) (by rw [HC.out]; exact hne); rw [HC.out] at this; exact this
        have BD : Hid (M.Bd (M.stp x c) (i + 1)) := HB.out.step c hne
        clear hne
        have E1 : Hid (Value.int .i64 7 = .int .i64 ((M.stp x c).st : Int)) := by show _ = _; rw [show (M.stp x c).st = M.nx x.st c.toNat from rfl, HNX.out]; rfl
        have E2 : Hid (Value.int .i64 (pp : Int) = .int .i64 (M.pwc (M.stp x c) : Int)) := by show _ = _; rw [M.pwc_stay x c (by rw [HNX.out]; omega), Hpp.out]
        have E3 : Hid (Value.int .i64 (bh : Int) = .int .i64 ((M.stp x c).bh : Int)) := by show _ = _; rw [show (M.stp x c).bh = if M.nx x.st c.toNat = 5 then x.bh + 1 else x.bh from rfl, HNX.out, Hbh.out]; rw [if_neg (by omega)]
        have E4 : Hid (Value.bool ((C : Int) == 45) = .bool (M.stp x c).dn) := by show _ = _; rw [show (M.stp x c).dn = if M.nx x.st c.toNat = 7 then c.toNat == 45 else x.dn from rfl, HNX.out]; rw [if_pos rfl, HCC.out]; congr 1; rw [Bool.eq_iff_iff, beq_iff_eq, beq_iff_eq]; omega
        have E5 : Hid ((M.stp x c).neg = ng) := by show _ = _; rw [show (M.stp x c).neg = if M.nx x.st c.toNat = 1 then true else x.neg from rfl, HNX.out]; rw [if_neg (by omega), Hng.out]
        have E6 : Hid ((M.stp x c).ds = x.ds) := by show _ = _; rw [show (M.stp x c).ds = if M.nx x.st c.toNat = 2 ∨ M.nx x.st c.toNat = 5 then x.ds ++ [c] else x.ds from rfl, HNX.out]; rw [if_neg (by omega)]
        have HD2 : Hid (D.data.toList = (M.stp x c).ds) := by show _ = _; rw [E6.out]; exact HD.out
        have X2 : Ob wr g 31 #[.int .i64 0, .bool (M.stp x c).neg, .slice none 0 0, .int .i64 0, .int .i64 0, .bool false] := by rw [E5.out]; exact X
        clear HR HB HNX HC HCC Hst Hng Hbh Hdn Hpp Hlv
        go_wp2_with (go_at_call 12; refine CN1.out.mono ?_; rintro _ _ ⟨rfl, rfl⟩)
        go_roundw
        case rel => exact ⟨i + 1, M.stp x c, D, by omega, E1.out, rfl, E2.out, E3.out, E4.out, by go_num, HD2, RD, BD, X2, R, U⟩
        case measure => simp [intOf]; omega
      · have CN1 : Hid (Calls Tryz.prog 12 #[.int .i64 (st : Int), .int .u8 (C : Int)] wr (Same (.int .i64 8) wr)) := CN.out
        clear CN
        have hne : M.nx x.st c.toNat ≠ 99 := by rw [HNX.out]; omega
        have RD : Hid (M.Rd l (i + 1) (M.stp x c)) := by have := HR.out.step (by have := HSZ.out; omega) (by rw [HC.out]; exact hne); rw [HC.out] at this; exact this
        have BD : Hid (M.Bd (M.stp x c) (i + 1)) := HB.out.step c hne
        clear hne
        obtain ⟨m1, m2, m3⟩ := M.pwc_step x c HNX.out
        rw [Hpp.out, HCC.out] at m1 m2 m3
        obtain ⟨p2, hp2⟩ : ∃ p2, M.pwc (M.stp x c) = p2 := ⟨_, rfl⟩
        rw [hp2] at m1
        have E1 : Hid (Value.int .i64 8 = .int .i64 ((M.stp x c).st : Int)) := by show _ = _; rw [show (M.stp x c).st = M.nx x.st c.toNat from rfl, HNX.out]; rfl
        have E2 : Hid (Value.int .i64 (p2 : Int) = .int .i64 (M.pwc (M.stp x c) : Int)) := by show _ = _; rw [hp2]
        have E3 : Hid (Value.int .i64 (bh : Int) = .int .i64 ((M.stp x c).bh : Int)) := by show _ = _; rw [show (M.stp x c).bh = if M.nx x.st c.toNat = 5 then x.bh + 1 else x.bh from rfl, HNX.out, Hbh.out]; rw [if_neg (by omega)]
        have E4 : Hid (Value.bool dn = .bool (M.stp x c).dn) := by show _ = _; rw [show (M.stp x c).dn = if M.nx x.st c.toNat = 7 then c.toNat == 45 else x.dn from rfl, HNX.out]; rw [if_neg (by omega), Hdn.out]
        have E5 : Hid ((M.stp x c).neg = ng) := by show _ = _; rw [show (M.stp x c).neg = if M.nx x.st c.toNat = 1 then true else x.neg from rfl, HNX.out]; rw [if_neg (by omega), Hng.out]
        have E6 : Hid ((M.stp x c).ds = x.ds) := by show _ = _; rw [show (M.stp x c).ds = if M.nx x.st c.toNat = 2 ∨ M.nx x.st c.toNat = 5 then x.ds ++ [c] else x.ds from rfl, HNX.out]; rw [if_neg (by omega)]
        have HD2 : Hid (D.data.toList = (M.stp x c).ds) := by show _ = _; rw [E6.out]; exact HD.out
        have X2 : Ob wr g 31 #[.int .i64 0, .bool (M.stp x c).neg, .slice none 0 0, .int .i64 0, .int .i64 0, .bool false] := by rw [E5.out]; exact X
        clear hp2
        clear HR HB HNX HC HCC Hst Hng Hbh Hdn Hpp Hlv
        go_wp2_with (go_at_call 12; refine CN1.out.mono ?_; rintro _ _ ⟨rfl, rfl⟩)
        go_roundw
        case rel => exact ⟨i + 1, M.stp x c, D, by omega, E1.out, rfl, E2.out, E3.out, E4.out, by go_num, HD2, RD, BD, X2, R, U⟩
        case measure => simp [intOf]; omega
      · have CN1 := CN
        clear CN
        have b1 : ((ns : Int) == 99) = false := by rw [beq_eq_false_iff_ne]; omega
        have b2 : ((ns : Int) == 1) = false := by rw [beq_eq_false_iff_ne]; omega
        have b3 : ((ns : Int) == 2) = false := by rw [beq_eq_false_iff_ne]; omega
        have b4 : ((ns : Int) == 5) = false := by rw [beq_eq_false_iff_ne]; omega
        have b5 : ((ns : Int) == 7) = false := by rw [beq_eq_false_iff_ne]; omega
        have b6 : ((ns : Int) == 8) = false := by rw [beq_eq_false_iff_ne]; omega
        have hne : M.nx x.st c.toNat ≠ 99 := by rw [HNX.out]; omega
        have RD : Hid (M.Rd l (i + 1) (M.stp x c)) := by have := HR.out.step (by have := HSZ.out; omega) (by rw [HC.out]; exact hne); rw [HC.out] at this; exact this
        have BD : Hid (M.Bd (M.stp x c) (i + 1)) := HB.out.step c hne
        clear hne
        have E1 : Hid (Value.int .i64 (ns : Int) = .int .i64 ((M.stp x c).st : Int)) := by show _ = _; rw [show (M.stp x c).st = M.nx x.st c.toNat from rfl, HNX.out]
        have E2 : Hid (Value.int .i64 (pp : Int) = .int .i64 (M.pwc (M.stp x c) : Int)) := by show _ = _; rw [M.pwc_stay x c (by rw [HNX.out]; omega), Hpp.out]
        have E3 : Hid (Value.int .i64 (bh : Int) = .int .i64 ((M.stp x c).bh : Int)) := by show _ = _; rw [show (M.stp x c).bh = if M.nx x.st c.toNat = 5 then x.bh + 1 else x.bh from rfl, HNX.out, Hbh.out]; rw [if_neg (by omega)]
        have E4 : Hid (Value.bool dn = .bool (M.stp x c).dn) := by show _ = _; rw [show (M.stp x c).dn = if M.nx x.st c.toNat = 7 then c.toNat == 45 else x.dn from rfl, HNX.out]; rw [if_neg (by omega), Hdn.out]
        have E5 : Hid ((M.stp x c).neg = ng) := by show _ = _; rw [show (M.stp x c).neg = if M.nx x.st c.toNat = 1 then true else x.neg from rfl, HNX.out]; rw [if_neg (by omega), Hng.out]
        have E6 : Hid ((M.stp x c).ds = x.ds) := by show _ = _; rw [show (M.stp x c).ds = if M.nx x.st c.toNat = 2 ∨ M.nx x.st c.toNat = 5 then x.ds ++ [c] else x.ds from rfl, HNX.out]; rw [if_neg (by omega)]
        have HD2 : Hid (D.data.toList = (M.stp x c).ds) := by show _ = _; rw [E6.out]; exact HD.out
        have X2 : Ob wr g 31 #[.int .i64 0, .bool (M.stp x c).neg, .slice none 0 0, .int .i64 0, .int .i64 0, .bool false] := by rw [E5.out]; exact X
        clear HR HB HNX HC HCC Hst Hng Hbh Hdn Hpp Hlv
        clear n1 n2 n3 n4 n5 n6
        go_wp2_with (go_at_call 12; refine CN1.out.mono ?_; rintro _ _ ⟨rfl, rfl⟩)
        go_roundw
        case rel => exact ⟨i + 1, M.stp x c, D, by omega, E1.out, rfl, E2.out, E3.out, E4.out, by go_num, HD2, RD, BD, X2, R, U⟩
        case measure => simp [intOf]; omega
    · obtain rfl : i = S.size := by omega
      have d1 : decide ((S.size : Int) < (S.size : Int)) = false := decide_eq_false (by omega)
      obtain ⟨b, hb⟩ : ∃ b, M.wh st = b := ⟨_, rfl⟩
      have CW := Lib.hid (rwhole_any wr st Hlv.out b (Lib.hid hb))
      have HW := Lib.hid (show M.wh x.st = b by rw [Hst.out]; exact hb)
      clear hb hlt hi
      cases b
      · have HRS := Lib.hid (M.rs_error (HR.out.short HSZ.out HW.out))
        clear HR HB HD HW
        go_wp2_with (first | (go_at_call 13; refine CW.out.mono ?_; rintro _ _ ⟨rfl, rfl⟩) | (refine store_ob2 rfl 31 (.tmp 2) (.tmp 72) rfl _ #[.int .i64 0, .bool false, .slice none 0 0, .int .i64 0, .int .i64 0, .bool false] #[.int .i64 0, .bool false, .slice none 0 0, .int .i64 0, .int .i64 0, .bool false] rfl rfl 6 (by kernel_rfl) rfl rfl (by simp [Value.oneCell']) w U (Nat.le_refl _) 31 R ?_; intro V9 Z9 U9 ho))
        obtain ⟨z0, z1, z2, z3, z4, z5⟩ := Z9.six
        refine bodyPost_ret (v := .tuple #[itv 0 false (.slice none 0 0) 0 0 false, .int .i64 (S.size : Int), .int .i64 2]) (by simp [results, Tryz.results6, go_sem, z0, z1, z2, z3, z4, z5]) rfl ?_
        exact ⟨_, _, _, HRS.out, _, rfl, Nt.nil _ _ _, U9⟩
      · have HRS := Lib.hid (M.rs_ok (HR.out.fin HSZ.out HW.out))
        clear HR HW
        by_cases h10 : 10 ≤ st
        · have t1 : decide ((st : Int) ≥ 10) = true := decide_eq_true (by omega)
          have t2 : decide (10 ≤ st) = true := decide_eq_true h10
          obtain ⟨q, hq⟩ : ∃ q, st / 10 = q := ⟨_, rfl⟩
          have q1 : (st : Int) / 10 = (q : Int) := by omega
          have q2 : (st : Int).tdiv 10 = (q : Int) := by rw [Int.tdiv_eq_ediv_of_nonneg (by omega)]; exact q1
          have q3 : q ≤ 3 := by omega
          have HIT : Hid (M.itm x = ⟨q + 1, ng, ⟨0, 0, 0, false⟩⟩) := by show _ = _; rw [M.itm, Hst.out, if_pos h10, hq, Hng.out]
          clear hq HB HD h10
          obtain ⟨x0, x1, x2, x3, x4, x5⟩ := X.six
          obtain ⟨f0, f1, f2, f3, f4, f5⟩ := X.fsix
          go_upto_region 29 with (go_at_call 13; refine CW.out.mono ?_; rintro _ _ ⟨rfl, rfl⟩)
          obtain ⟨Vp, hVp⟩ : ∃ Vp, wr.setCell ⟨g, 0, none⟩ (.int .i64 ((q : Int) + 1)) = Vp := ⟨_, rfl⟩
          have oVp : ∀ b', b' ≠ g → Vp.heap[b']? = wr.heap[b']? := by rw [← hVp]; exact fun b' hne => Below.heap_setCell _ _ _ b' hne
          replace U : Up w Vp := by rw [← hVp]; exact U.setCell (p := ⟨g, 0, none⟩) (Nat.le_of_lt gl) _
          replace X : Ob Vp g 31 #[.int .i64 ((q : Int) + 1), .bool ng, .slice none 0 0, .int .i64 0, .int .i64 0, .bool false] := by rw [← hVp]; exact X.put 0 (.int .i64 ((q : Int) + 1))
          replace R := R.oth oVp (by omega)
          rw [hVp]
          clear hVp oVp x0 x1 x2 x3 x4 x5 f0 f1 f2 f3 f4 f5
          obtain ⟨x0, x1, x2, x3, x4, x5⟩ := X.six
          go_wp2_with (refine store_ob2 rfl 31 (.tmp 2) (.tmp 81) rfl _ #[.int .i64 0, .bool false, .slice none 0 0, .int .i64 0, .int .i64 0, .bool false] #[.int .i64 ((q : Int) + 1), .bool ng, .slice none 0 0, .int .i64 0, .int .i64 0, .bool false] rfl rfl 6 (by kernel_rfl) rfl rfl (by simp [Value.oneCell']) w U (Nat.le_refl _) 31 R ?_; intro V9 Z9 U9 ho)
          obtain ⟨z0, z1, z2, z3, z4, z5⟩ := Z9.six
          refine bodyPost_ret (v := .tuple #[itv ((q : Int) + 1) ng (.slice none 0 0) 0 0 false, .int .i64 0, .int .i64 0]) (by simp [results, Tryz.results6, go_sem, z0, z1, z2, z3, z4, z5]) rfl ?_
          refine ⟨_, _, _, HRS.out, .slice none 0 0, ?_, ?_, U9⟩
          · rw [HIT.out]; rfl
          · rw [HIT.out]; exact Nt.nil _ _ _
        · have t1 : decide ((st : Int) ≥ 10) = false := decide_eq_false (by omega)
          have t2 : decide (10 ≤ st) = false := decide_eq_false h10
          obtain ⟨K, hK⟩ : ∃ K : Int, M.kcut x = K := ⟨_, rfl⟩
          have hKr := M.kcut_rng x _ HB.out hS3
          rw [hK] at hKr
          have hKe : K = (if dn = true then -(pp : Int) else (pp : Int)) - (bh : Int) := by rw [← hK, M.kcut, Hdn.out, Hpp.out, Hbh.out]
          have HIT : Hid (M.itm x = ⟨1, ng, M.num x.ds K⟩) := by show _ = _; rw [M.itm, Hst.out, if_neg h10, Hng.out, M.num_cut x _ HB.out hS3, hK]
          have hLd : x.ds.length ≤ 3000 := Nat.le_trans HB.out.ds hS3
          have CO := Lib.hid (fun V => rof_any V ng D x.ds HD hLd HB.out.al K (by omega) _ (Lib.hid rfl))
          clear hK HB HD hLd h10
          obtain ⟨x0, x1, x2, x3, x4, x5⟩ := X.six
          obtain ⟨f0, f1, f2, f3, f4, f5⟩ := X.fsix
          go_upto_region 31 with (go_at_call 13; refine CW.out.mono ?_; rintro _ _ ⟨rfl, rfl⟩)
          obtain ⟨Vp, hVp⟩ : ∃ Vp, wr.setCell ⟨g, 0, none⟩ (.int .i64 1) = Vp := ⟨_, rfl⟩
          have oVp : ∀ b', b' ≠ g → Vp.heap[b']? = wr.heap[b']? := by rw [← hVp]; exact fun b' hne => Below.heap_setCell _ _ _ b' hne
          replace U : Up w Vp := by rw [← hVp]; exact U.setCell (p := ⟨g, 0, none⟩) (Nat.le_of_lt gl) _
          replace X : Ob Vp g 31 #[.int .i64 1, .bool ng, .slice none 0 0, .int .i64 0, .int .i64 0, .bool false] := by rw [← hVp]; exact X.put 0 (.int .i64 1)
          replace R := R.oth oVp (by omega)
          rw [hVp]
          have gw : w.heap.size < Vp.heap.size := R.lt
          clear hVp oVp x0 x1 x2 x3 x4 x5 f0 f1 f2 f3 f4 f5
          obtain ⟨x0, x1, x2, x3, x4, x5⟩ := X.six
          obtain ⟨mm, hmm⟩ : ∃ mm, M.num x.ds K = mm := ⟨_, rfl⟩
          rw [hmm] at CO HIT
          clear hmm
          obtain ⟨kk, hkk⟩ : ∃ kk, mm.k = kk := ⟨_, rfl⟩
          obtain ⟨bg, hbg⟩ : ∃ bg, mm.big = bg := ⟨_, rfl⟩
          obtain ⟨ct, hct⟩ : ∃ ct, mm.cut = ct := ⟨_, rfl⟩
          have Hkk := Lib.hid hkk
          have Hbg := Lib.hid hbg
          have Hct := Lib.hid hct
          clear hkk hbg hct
          cases dn
          · have hKe2 : (pp : Int) - (bh : Int) = K := by rw [hKe]; simp
            clear hKe
            go_wp2_with (first
              | (go_at_call 14; refine (CO.out _).mono ?_; rintro _ V8 ⟨v8, rfl, ⟨A8, n8, c8, xs8, rfl, N8⟩, u8⟩; have R8 := R.up u8; have U8 := U.trans u8; have N9 : Nt V8 Vp.heap.size 2001 (.slice A8 n8 c8) mm.d := ⟨_, _, _, _, rfl, N8⟩; clear N8; rw [Hkk.out, Hbg.out, Hct.out])
              | (refine store_ob2 rfl 31 (.tmp 2) (.tmp 91) rfl _ #[.int .i64 0, .bool false, .slice none 0 0, .int .i64 0, .int .i64 0, .bool false] #[.int .i64 1, .bool ng, .slice A8 n8 c8, .int .i64 kk, .int .i64 bg, .bool ct] rfl rfl 6 (by kernel_rfl) rfl rfl (by simp [Value.oneCell']) w U8 (Nat.le_refl _) 31 R8 ?_; intro V9 Z9 U9 ho))
            obtain ⟨z0, z1, z2, z3, z4, z5⟩ := Z9.six
            refine bodyPost_ret (v := .tuple #[itv 1 ng (.slice A8 n8 c8) kk bg ct, .int .i64 0, .int .i64 0]) (by simp [results, Tryz.results6, go_sem, z0, z1, z2, z3, z4, z5]) rfl ?_
            refine ⟨_, _, _, HRS.out, .slice A8 n8 c8, ?_, ?_, U9⟩
            · rw [HIT.out, ← Hkk.out, ← Hbg.out, ← Hct.out]; rfl
            · rw [HIT.out]; exact (N9.other ho gw).lower (by omega)
          · have hKe2 : -(pp : Int) - (bh : Int) = K := by rw [hKe]; simp
            clear hKe
            go_wp2_with (first
              | (go_at_call 14; refine (CO.out _).mono ?_; rintro _ V8 ⟨v8, rfl, ⟨A8, n8, c8, xs8, rfl, N8⟩, u8⟩; have R8 := R.up u8; have U8 := U.trans u8; have N9 : Nt V8 Vp.heap.size 2001 (.slice A8 n8 c8) mm.d := ⟨_, _, _, _, rfl, N8⟩; clear N8; rw [Hkk.out, Hbg.out, Hct.out])
              | (refine store_ob2 rfl 31 (.tmp 2) (.tmp 91) rfl _ #[.int .i64 0, .bool false, .slice none 0 0, .int .i64 0, .int .i64 0, .bool false] #[.int .i64 1, .bool ng, .slice A8 n8 c8, .int .i64 kk, .int .i64 bg, .bool ct] rfl rfl 6 (by kernel_rfl) rfl rfl (by simp [Value.oneCell']) w U8 (Nat.le_refl _) 31 R8 ?_; intro V9 Z9 U9 ho))
            obtain ⟨z0, z1, z2, z3, z4, z5⟩ := Z9.six
            refine bodyPost_ret (v := .tuple #[itv 1 ng (.slice A8 n8 c8) kk bg ct, .int .i64 0, .int .i64 0]) (by simp [results, Tryz.results6, go_sem, z0, z1, z2, z3, z4, z5]) rfl ?_
            refine ⟨_, _, _, HRS.out, .slice A8 n8 c8, ?_, ?_, U9⟩
            · rw [HIT.out, ← Hkk.out, ← Hbg.out, ← Hct.out]; rfl
            · rw [HIT.out]; exact (N9.other ho gw).lower (by omega)
end Go.Proofs.YtpmpdecaadfnmaaGreatDoor
