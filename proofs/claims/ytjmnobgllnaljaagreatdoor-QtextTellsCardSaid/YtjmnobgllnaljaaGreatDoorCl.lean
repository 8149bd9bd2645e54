/-
  The document's answer for package qtext: Is.
-/
import Derived.Test.YtjmnobgllnaljaaGreatDoorCp
import Derived.Test.YtjmnobgllnaljaaGreatDoorCj
namespace Go.Proofs.YtjmnobgllnaljaaGreatDoor
open Go.RowKit Go.Shelf
set_option linter.unusedVariables false
set_option linter.unusedSimpArgs false

theorem toList_tx {s : ByteArray} {l : List UInt8} (h : Tx s l) : s.toList = l := by
  rw [← Tx.uniq (Tx.lit l) h, Lib.toList_data]
theorem M.allD_drop16 {S : List UInt8} (h : M.allD S = true) (n : Nat) : M.allD (S.drop n) = true := (M.allD_take h n).2
set_option maxHeartbeats 16000000 in
set_option maxRecDepth 100000 in
theorem is16_any (w : World) (S : ByteArray) (l : List UInt8) (tS : Tx S l) (x0 : Bool) (lo : Nat) (A : Option Addr) (n c : Nat) (a : Nat) (e : Int) (N : Nt w lo 20 (.slice A n c) a) (h : M.Qt x0 a e l 0) : Calls Tryz.prog 12 #[.string S, .bool x0, .slice A n c, .int .i64 e] w (True16 w) := by
  have U := Up.refl w
  obtain ⟨W, R, hl, he, hW, hW0, hR, hhd, htl, hys, hdl, hlb⟩ := M.is16 h
  clear h
  obtain ⟨BD, hBD⟩ : ∃ BD, W ++ (if R = [] then [] else 46 :: R) = BD := ⟨_, rfl⟩
  have hpn := M.pnt_parts hW hR
  have hfl := M.fl_parts hW hR
  rw [hBD] at hl hlb hpn hfl
  have hby : ∀ i, i < BD.length → (BD.getD i 0 = 46 ∧ i = W.length ∧ M.pnt (BD.take i) = false) ∨ (48 ≤ (BD.getD i 0).toNat ∧ (BD.getD i 0).toNat ≤ 57) := fun i hi => M.bd_byte hW hR hBD hi
  have hWR : (R = [] ∧ BD = W) ∨ (R ≠ [] ∧ BD = W ++ 46 :: R) := by
    by_cases h : R = []
    · exact .inl ⟨h, by rw [← hBD, if_pos h]; simp⟩
    · exact .inr ⟨h, by rw [← hBD, if_neg h]⟩
  have hWp : 0 < W.length := List.length_pos_iff.2 hW0
  obtain ⟨X, hX⟩ : ∃ X, W ++ R = X := ⟨_, rfl⟩
  rw [hX] at hfl hys hdl
  have hXd : M.allD X = true := by rw [← hX, M.allD_append, hW, hR]; rfl
  have hXp : 0 < X.length := by rw [← hX, List.length_append]; omega
  have hXl : X.length ≤ 5000 := by
    rcases hWR with ⟨h1, h2⟩ | ⟨h1, h2⟩
    · rw [← hX, h1, List.append_nil, ← h2]; exact hlb
    · rw [h2, List.length_append, List.length_cons] at hlb
      rw [← hX, List.length_append]; omega
  obtain ⟨V, hV⟩ : ∃ V, M.vsa 0 X = V := ⟨_, rfl⟩
  rw [hV] at hys
  obtain ⟨K, hK⟩ : ∃ K : Int, -(R.length : Int) = K := ⟨_, rfl⟩
  rw [hK] at hys
  have hKb : -5000 ≤ K ∧ K ≤ 0 := by
    have : R.length ≤ X.length := by rw [← hX, List.length_append]; omega
    omega
  have CH1 := Lib.hid (fun Y (u : Up w Y) => halves_of Y lo 20 (.slice A n c) a (N.nw.up u) (by decide))
  have CNu := Lib.hid (fun Y (D : ByteArray) (l' : List UInt8) (tD : Tx D l') (h0 : l' ≠ []) (hlen : l'.length ≤ 2000) (hz : l'.headD 0 ≠ 48 ∨ l' = [48]) => number1_any Y D l' tD h0 hlen hz)
  have CW1 := Lib.hid (fun Y lo' v (M' : Nh Y lo' 2000 v V) => words_of Y lo' 2000 v V M' (by decide))
  have CW2 := Lib.hid (fun Y lo' v (M' : Nh Y lo' 40 v a) => words_of Y lo' 40 v a M' (by decide))
  have CC := Lib.hid (fun Y lo1 lo2 v1 v2 (N1 : Nt Y lo1 2001 v1 V) (N2 : Nt Y lo2 41 v2 a) => rxcmp_any (-5000) Y lo1 lo2 2001 41 false false v1 v2 K K e 0 V a N1.nw N2.nw (by decide) (by decide) (by omega) (by omega) (by omega) (by omega) 0 (Lib.hid (M.cmp_eq hys)))
  have hvs : ∀ j, X = List.replicate j 48 ++ X.drop j → M.vsa 0 (X.drop j) = V := fun j h => by rw [← hV, h, M.vsa_noughts, ← h]
  have HT0 := Lib.hid tS
  have HWd : Hid (M.allD W = true) := hW
  obtain ⟨dz, hdz⟩ : ∃ dz, decide (a ≠ 0) = dz := ⟨_, rfl⟩
  rw [hdz] at hl
  subst hl
  clear N tS hW hR hys hV hBD
  cases x0
  · go_enter Tryz.func12, Tryz.ntmps12
    go_wp2_with fail
    refine (CH1.out _ (by first | exact U | exact U.drew | exact U.drewN _)).mono ?_
    rintro _ w1 ⟨v1, rfl, H1, u1⟩
    replace U := Up.trans (by first | exact U | exact U.drew | exact U.drewN _) u1
    obtain ⟨A1, n1, c1, rfl, H1⟩ := H1.slr
    have hn1 := H1.nil16
    clear H1 u1
    clear hn1 hdz
    replace HT0 : Hid (Tx S ([] ++ BD)) := HT0
    have HSZ := HT0.out.size
    rw [List.length_append] at HSZ
    obtain ⟨TB, e1⟩ : ∃ TB, TB = S := ⟨_, rfl⟩
    subst e1
    have TT : Hid (Tx TB BD) := HT0
    have hTB := TT.out.size
    have hTs : TB.size ≤ 5000 := by rw [hTB]; exact hlb
    have HTB := Lib.hid hTB
    clear hTB HSZ
    go_wp2_with fail
    go_loopw [10, 11, 12] (fun pv dv iv wr => ∃ (i : Nat) (D : ByteArray), i ≤ BD.length ∧ pv = .int .i64 (if M.pnt (BD.take i) then (W.length : Int) else -1) ∧ dv = .string D ∧ iv = .int .i64 (i : Int) ∧ Hid (Tx D (M.fl (BD.take i))) ∧ Up w wr) (fun _ _ iv _ => BD.length - (Lib.intOf iv).toNat)
    case atStart => exact ⟨0, _, Nat.zero_le _, rfl, rfl, rfl, Lib.hid (Tx.lit []), by first | exact U | exact U.drewN _⟩
    case round =>
      clear U
      obtain ⟨i, D, hi, rfl, rfl, rfl, HD, U⟩ := hrel
      have hTB := HTB.out
      have hDs : D.size ≤ 5000 := by
        rw [HD.out.size]
        have := M.fl_len BD i
        omega
      by_cases hlt : i < BD.length
      · have d2 : decide ((i : Int) < (TB.size : Int)) = true := decide_eq_true (by omega)
        have d3 : decide (i < TB.size) = true := decide_eq_true (by omega)
        have hp := M.pnt_take hlt
        have hf := M.fl_take hlt
        have hb := hby i hlt
        have hit : i < TB.size := by omega
        obtain ⟨cc, hcc⟩ : ∃ cc, BD.getD i 0 = cc := ⟨_, rfl⟩
        have hix : ((TB[i]).toNat : Int) = (cc.toNat : Int) := by rw [TT.out.get i hit, hcc]
        have hone : (BD.drop i).take (i + 1 - i) = [cc] := by
          rw [M.drop_at hlt, show i + 1 - i = 1 by omega, hcc]
          rfl
        rw [hcc] at hp hf hb
        rcases hb with ⟨h1, h2, h3⟩ | ⟨h1, h2⟩
        · have k1 : ((cc.toNat : Int) == 46) = true := by rw [h1]; rfl
          rw [h3]
          rw [h1] at hp hf
          have E1 : M.pnt (BD.take (i + 1)) = true := by rw [hp]; simp
          have HD2 : Hid (Tx D (M.fl (BD.take (i + 1)))) := by rw [hf, if_pos rfl, List.append_nil]; exact HD
          have E2 := Lib.hid E1
          have h2' : (i : Int) = (W.length : Int) := by omega
          have E3 := Lib.hid h2'
          clear E1 hp hf HD h1 h2 h2' h3 hcc hTB hone
          go_wp2_with fail
          go_roundw
          case rel => exact ⟨i + 1, D, by omega, by rw [E2.out, if_pos rfl]; first | rfl | rw [E3.out], rfl, by go_num, HD2, U⟩
          case measure => simp [Lib.intOf]; omega
        · have k0 : cc ≠ 46 := fun e => by rw [e] at h1; revert h1; decide
          have k1 : ((cc.toNat : Int) == 46) = false := by rw [beq_eq_false_iff_ne]; intro h; exact k0 (UInt8.toNat_inj.1 (by show cc.toNat = 46; omega))
          have k2 : decide ((cc.toNat : Int) < 48) = false := decide_eq_false (by omega)
          have k3 : decide ((57 : Int) < (cc.toNat : Int)) = false := decide_eq_false (by omega)
          obtain ⟨P, hP⟩ : ∃ P : Int, (if M.pnt (BD.take i) then (W.length : Int) else -1) = P := ⟨_, rfl⟩
          obtain ⟨S1, g1, T1⟩ := ext16 TB BD TT i (i + 1)
          rw [hone] at T1
          have z1 : S1.size ≤ 1 := by rw [T1.out.size]; simp
          obtain ⟨D2, g2, T2, y2⟩ := cat16 D S1 _ _ 5001 HD T1 (by omega)
          rw [if_neg k0] at hf
          have HD2 : Hid (Tx D2 (M.fl (BD.take (i + 1)))) := by rw [hf]; exact T2
          have E1 : M.pnt (BD.take (i + 1)) = M.pnt (BD.take i) := by rw [hp, beq_eq_false_iff_ne.2 k0, Bool.or_false]
          have E2 : Hid ((if M.pnt (BD.take (i + 1)) then (W.length : Int) else -1) = P) := by rw [E1]; exact hP
          rw [hP]
          clear E1 hp hf HD h1 h2 k0 hcc hTB hone T1 T2 hP
          go_wp2_with fail
          go_roundw
          case rel => exact ⟨i + 1, D2, by omega, by rw [E2.out], by first | rfl | rw [g2], by go_num, HD2, U⟩
          case measure => simp [Lib.intOf]; omega
      · have d2 : decide ((i : Int) < (TB.size : Int)) = false := decide_eq_false (by omega)
        have d3 : decide (i < TB.size) = false := decide_eq_false (by omega)
        have hiE : BD.take i = BD := List.take_of_length_le (by omega)
        rw [hiE] at HD
        rw [hfl] at HD
        rw [hiE, hpn]
        clear hiE hlt hi hpn hfl hby
        rcases hWR with ⟨hR, hB⟩ | ⟨hR, hB⟩
        · have e5 : (if decide (R ≠ []) = true then (W.length : Int) else -1) = -1 := by rw [hR]; rfl
          rw [e5]
          have TW : Hid (Tx TB W) := by rw [← hB]; exact TT
          obtain rfl : K = 0 := by rw [← hK, hR]; rfl
          have hwz := TW.out.size
          have r0 : decide (0 < TB.size) = true := decide_eq_true (by omega)
          have hw0 : 0 < TB.size := by omega
          obtain ⟨c7, hc7⟩ : ∃ c7, W.headD 0 = c7 := ⟨_, rfl⟩
          have r1 : ((TB[0]).toNat : Int) = (c7.toNat : Int) := by
            rw [TW.out.get 0 hw0, ← hc7]
            cases W <;> rfl
          have r2 : TB.toList.isEmpty = false := by rw [toList_tx TW.out]; cases W; exact absurd rfl hW0; rfl
          have r3 : (TB.toList == []) = false := by rw [toList_tx TW.out]; cases W; exact absurd rfl hW0; rfl
          have r4 : ¬ TB.toList = [] := by rw [toList_tx TW.out]; exact hW0
          have hh : (c7 ≠ 48) ∨ (c7 = 48 ∧ TB.size = 1) := by
            rcases hhd with h | h
            · exact .inl (by rw [← hc7]; exact h)
            · exact .inr ⟨by rw [← hc7, h]; rfl, by rw [hwz, h]; rfl⟩
          clear hwz hc7 hhd htl hTB hX hW0 hK hR hB e5 TW
          rcases hh with hh | ⟨hh, hh2⟩
          · have r5 : ((c7.toNat : Int) == 48) = false := by rw [beq_eq_false_iff_ne]; intro h; exact hh (UInt8.toNat_inj.1 (by show c7.toNat = 48; omega))
            go_wp2_with fail
            go_loopw [11] (fun dv wr => ∃ (j : Nat) (D : ByteArray), X = List.replicate j 48 ++ X.drop j ∧ j < X.length ∧ dv = .string D ∧ Hid (Tx D (X.drop j)) ∧ Up w wr) (fun dv _ => (match dv with | .string s => s.size | _ => 0))
            case atStart => exact ⟨0, _, rfl, hXp, rfl, HD, by first | exact U | exact U.drewN _⟩
            case round =>
              clear U HD
              obtain ⟨j, D, hj, hjl, rfl, HD, U⟩ := hrel
              have hds := HD.out.size
              rw [List.length_drop] at hds
              have hDs : D.size ≤ 5000 := by omega
              have hD0 : 0 < D.size := by omega
              have f0 : decide (0 < D.size) = true := decide_eq_true hD0
              obtain ⟨ch, hch⟩ : ∃ ch, (X.drop j).headD 0 = ch := ⟨_, rfl⟩
              have hix : ((D[0]).toNat : Int) = (ch.toNat : Int) := by
                rw [HD.out.get 0 hD0, ← hch]
                cases X.drop j <;> rfl
              by_cases hgo : 1 < D.size ∧ ch = 48
              · obtain ⟨g1, g2⟩ := hgo
                have f1 : decide ((1 : Int) < (D.size : Int)) = true := decide_eq_true (by omega)
                have f2 : decide (1 < D.size) = true := decide_eq_true g1
                have f3 : ((ch.toNat : Int) == 48) = true := by rw [g2]; rfl
                obtain ⟨D2, e2, T2⟩ := ext16 D _ HD 1 D.size
                have hnx : X.drop j = 48 :: X.drop (j + 1) := by
                  have := M.drop_at hjl
                  rw [this] at hch ⊢
                  rw [show X.getD j 0 = 48 from hch.trans g2]
                have T3 : Hid (Tx D2 (X.drop (j + 1))) := by
                  have e : ((X.drop j).drop 1).take (D.size - 1) = X.drop (j + 1) := by
                    rw [hnx]
                    show (X.drop (j + 1)).take _ = _
                    exact List.take_of_length_le (by rw [List.length_drop]; omega)
                  rw [e] at T2
                  exact T2
                have hj2 : X = List.replicate (j + 1) 48 ++ X.drop (j + 1) := by
                  rw [List.replicate_succ', List.append_assoc]
                  show X = List.replicate j 48 ++ (48 :: X.drop (j + 1))
                  rw [← hnx]
                  exact hj
                have hz2 : D2.size < D.size := by
                  rw [T3.out.size, List.length_drop]; omega
                have hjn : j + 1 < X.length := by omega
                clear g2 hch hnx T2 hds
                go_wp2_with fail
                go_roundw
                case rel => exact ⟨j + 1, D2, hj2, hjn, by first | rfl | rw [e2], T3, U⟩
                case measure => first | exact hz2 | (simp only [e2]; exact hz2) | (rw [e2]; exact hz2)
              · have hcond : (X.drop j).headD 0 ≠ 48 ∨ (X.drop j).length = 1 := by
                  rw [hch, List.length_drop]
                  by_cases h : ch = 48
                  · exact .inr (by have : ¬ 1 < D.size := fun h1 => hgo ⟨h1, h⟩; omega)
                  · exact .inl h
                have hlen := hdl j hcond
                have hval := hvs j hj
                obtain ⟨Y, hY⟩ : ∃ Y, X.drop j = Y := ⟨_, rfl⟩
                have hYd : M.allD Y = true := by rw [← hY]; exact (M.allD_drop16 hXd j)
                have hY0 : Y ≠ [] := by
                  intro e
                  have : Y.length = 0 := by rw [e]; rfl
                  rw [← hY, List.length_drop] at this
                  omega
                rw [hY] at hcond hlen hval HD hch
                have hYl : Y.length = D.size := HD.out.size.symm
                have hhz : Y.headD 0 ≠ 48 ∨ Y = [48] := by
                  rcases hcond with h | h
                  · exact .inl h
                  · by_cases h3 : Y.headD 0 = 48
                    · right
                      obtain ⟨y, hy⟩ : ∃ y, Y = [y] := List.length_eq_one_iff.1 h
                      rw [hy] at h3 ⊢
                      rw [show y = 48 from h3]
                    · exact .inl h3
                have CN1 := Lib.hid (fun Z => CNu.out Z D Y HD.out hY0 hlen hhz)
                rw [hYl] at hlen
                have hexit : (¬ 1 < D.size) ∨ (1 < D.size ∧ ch ≠ 48) := by
                  by_cases h : 1 < D.size
                  · exact .inr ⟨h, fun e => hgo ⟨h, e⟩⟩
                  · exact .inl h
                clear hgo hcond hhz hY0 hch hds
                rcases hexit with g1 | ⟨g1, g2⟩
                · have f1 : decide ((1 : Int) < (D.size : Int)) = false := decide_eq_false (by omega)
                  have f2 : decide (1 < D.size) = false := decide_eq_false g1
                  go_wp2_with fail
                  refine (CN1.out _).mono ?_
                  rintro _ w2 ⟨v2, rfl, H2, u2⟩
                  replace H2 := (hval ▸ H2 hYd : Nh _ _ _ _ V).more (s' := 2000) (by omega)
                  replace U := Up.trans (by first | exact U | exact U.drew | exact U.drewN _) u2
                  obtain ⟨A2, n2, c2, rfl, H2⟩ := H2.slr
                  rw [hYd]
                  clear u2
                  go_wp2_with fail
                  refine (CW1.out _ _ _ (by first | exact H2 | exact H2.up ((Up.refl _).drew) | exact H2.up ((Up.refl _).drewN _))).mono ?_
                  rintro _ w3 ⟨v3, rfl, N3, u3⟩
                  replace U := Up.trans (by first | exact U | exact U.drew | exact U.drewN _) u3
                  obtain ⟨A3, n3, c3, rfl, N3⟩ := N3.slr
                  clear H2 u3
                  go_upto_region 31 with fail
                  obtain ⟨V1, hV1⟩ : ∃ V1, w3.alloc (.cells #[.bool false, .slice A3 n3 c3, .int .i64 0, .int .i64 0] 46) = V1 := ⟨_, rfl⟩
                  have XA : Ob V1 w3.heap.size 46 #[.bool false, .slice A3 n3 c3, .int .i64 0, .int .i64 0] := by rw [← hV1]; exact Ob.mk_ _ _ _
                  have uV : Up w3 V1 := by rw [← hV1]; exact (Up.refl _).alloc _
                  rw [hV1]
                  clear hV1
                  replace U := U.trans uV
                  replace N3 := N3.up uV
                  clear uV
                  go_wp2_with fail
                  refine (CH1.out _ (by first | exact U | exact U.drew | exact U.drewN _)).mono ?_
                  rintro _ w4 ⟨v4, rfl, H4, u4⟩
                  replace U := Up.trans (by first | exact U | exact U.drew | exact U.drewN _) u4
                  replace N3 := N3.up (Up.trans (by first | exact Up.refl _ | exact (Up.refl _).drew | exact (Up.refl _).drewN _) u4)
                  replace XA := XA.up (Up.trans (by first | exact Up.refl _ | exact (Up.refl _).drew | exact (Up.refl _).drewN _) u4)
                  obtain ⟨A4, n4, c4, rfl, H4⟩ := H4.slr
                  clear u4
                  go_wp2_with fail
                  refine (CW2.out _ _ _ (by first | exact H4 | exact H4.up ((Up.refl _).drew) | exact H4.up ((Up.refl _).drewN _))).mono ?_
                  rintro _ w5 ⟨v5, rfl, N5, u5⟩
                  replace U := Up.trans (by first | exact U | exact U.drew | exact U.drewN _) u5
                  replace N3 := N3.up (Up.trans (by first | exact Up.refl _ | exact (Up.refl _).drew | exact (Up.refl _).drewN _) u5)
                  replace XA := XA.up (Up.trans (by first | exact Up.refl _ | exact (Up.refl _).drew | exact (Up.refl _).drewN _) u5)
                  obtain ⟨A5, n5, c5, rfl, N5⟩ := N5.slr
                  clear u5 H4
                  go_upto_region 32 with fail
                  obtain ⟨V2, hV2⟩ : ∃ V2, w5.alloc (.cells #[.bool false, .slice A5 n5 c5, .int .i64 e, .int .i64 0] 46) = V2 := ⟨_, rfl⟩
                  have XB : Ob V2 w5.heap.size 46 #[.bool false, .slice A5 n5 c5, .int .i64 e, .int .i64 0] := by rw [← hV2]; exact Ob.mk_ _ _ _
                  have uV : Up w5 V2 := by rw [← hV2]; exact (Up.refl _).alloc _
                  rw [hV2]
                  clear hV2
                  replace U := U.trans uV
                  replace N3 := N3.up uV
                  replace N5 := N5.up uV
                  replace XA := XA.up uV
                  clear uV
                  have XA0 := XA.get 0
                  have XA1 := XA.get 1
                  have XA2 := XA.get 2
                  have XA3 := XA.get 3
                  have XB0 := XB.get 0
                  have XB1 := XB.get 1
                  have XB2 := XB.get 2
                  have XB3 := XB.get 3
                  simp only [List.getElem?_toArray, List.getElem?_cons_zero, List.getElem?_cons_succ] at XA0 XA1 XA2 XA3 XB0 XB1 XB2 XB3
                  go_wp2_with fail
                  clear XA0 XA1 XA2 XA3 XB0 XB1 XB2 XB3
                  refine (CC.out _ _ _ _ _ (by first | exact N3 | exact N3.up ((Up.refl _).drew) | exact N3.up ((Up.refl _).drewN _)) (by first | exact N5 | exact N5.up ((Up.refl _).drew) | exact N5.up ((Up.refl _).drewN _))).mono ?_
                  rintro _ w6 ⟨rfl, u6⟩
                  replace U := Up.trans (by first | exact U | exact U.drew | exact U.drewN _) u6
                  go_wp2_with fail
                  go_ret
                  exact ⟨by first | rfl | (simp; done), by first | exact U | exact U.drew | exact U.drewN _⟩
                · have f1 : decide ((1 : Int) < (D.size : Int)) = true := decide_eq_true (by omega)
                  have f2 : decide (1 < D.size) = true := decide_eq_true g1
                  have f3 : ((ch.toNat : Int) == 48) = false := by rw [beq_eq_false_iff_ne]; intro h; exact g2 (UInt8.toNat_inj.1 (by show ch.toNat = 48; omega))
                  go_wp2_with fail
                  refine (CN1.out _).mono ?_
                  rintro _ w2 ⟨v2, rfl, H2, u2⟩
                  replace H2 := (hval ▸ H2 hYd : Nh _ _ _ _ V).more (s' := 2000) (by omega)
                  replace U := Up.trans (by first | exact U | exact U.drew | exact U.drewN _) u2
                  obtain ⟨A2, n2, c2, rfl, H2⟩ := H2.slr
                  rw [hYd]
                  clear u2
                  go_wp2_with fail
                  refine (CW1.out _ _ _ (by first | exact H2 | exact H2.up ((Up.refl _).drew) | exact H2.up ((Up.refl _).drewN _))).mono ?_
                  rintro _ w3 ⟨v3, rfl, N3, u3⟩
                  replace U := Up.trans (by first | exact U | exact U.drew | exact U.drewN _) u3
                  obtain ⟨A3, n3, c3, rfl, N3⟩ := N3.slr
                  clear H2 u3
                  go_upto_region 31 with fail
                  obtain ⟨V1, hV1⟩ : ∃ V1, w3.alloc (.cells #[.bool false, .slice A3 n3 c3, .int .i64 0, .int .i64 0] 46) = V1 := ⟨_, rfl⟩
                  have XA : Ob V1 w3.heap.size 46 #[.bool false, .slice A3 n3 c3, .int .i64 0, .int .i64 0] := by rw [← hV1]; exact Ob.mk_ _ _ _
                  have uV : Up w3 V1 := by rw [← hV1]; exact (Up.refl _).alloc _
                  rw [hV1]
                  clear hV1
                  replace U := U.trans uV
                  replace N3 := N3.up uV
                  clear uV
                  go_wp2_with fail
                  refine (CH1.out _ (by first | exact U | exact U.drew | exact U.drewN _)).mono ?_
                  rintro _ w4 ⟨v4, rfl, H4, u4⟩
                  replace U := Up.trans (by first | exact U | exact U.drew | exact U.drewN _) u4
                  replace N3 := N3.up (Up.trans (by first | exact Up.refl _ | exact (Up.refl _).drew | exact (Up.refl _).drewN _) u4)
                  replace XA := XA.up (Up.trans (by first | exact Up.refl _ | exact (Up.refl _).drew | exact (Up.refl _).drewN _) u4)
                  obtain ⟨A4, n4, c4, rfl, H4⟩ := H4.slr
                  clear u4
                  go_wp2_with fail
                  refine (CW2.out _ _ _ (by first | exact H4 | exact H4.up ((Up.refl _).drew) | exact H4.up ((Up.refl _).drewN _))).mono ?_
                  rintro _ w5 ⟨v5, rfl, N5, u5⟩
                  replace U := Up.trans (by first | exact U | exact U.drew | exact U.drewN _) u5
                  replace N3 := N3.up (Up.trans (by first | exact Up.refl _ | exact (Up.refl _).drew | exact (Up.refl _).drewN _) u5)
                  replace XA := XA.up (Up.trans (by first | exact Up.refl _ | exact (Up.refl _).drew | exact (Up.refl _).drewN _) u5)
                  obtain ⟨A5, n5, c5, rfl, N5⟩ := N5.slr
                  clear u5 H4
                  go_upto_region 32 with fail
                  obtain ⟨V2, hV2⟩ : ∃ V2, w5.alloc (.cells #[.bool false, .slice A5 n5 c5, .int .i64 e, .int .i64 0] 46) = V2 := ⟨_, rfl⟩
                  have XB : Ob V2 w5.heap.size 46 #[.bool false, .slice A5 n5 c5, .int .i64 e, .int .i64 0] := by rw [← hV2]; exact Ob.mk_ _ _ _
                  have uV : Up w5 V2 := by rw [← hV2]; exact (Up.refl _).alloc _
                  rw [hV2]
                  clear hV2
                  replace U := U.trans uV
                  replace N3 := N3.up uV
                  replace N5 := N5.up uV
                  replace XA := XA.up uV
                  clear uV
                  have XA0 := XA.get 0
                  have XA1 := XA.get 1
                  have XA2 := XA.get 2
                  have XA3 := XA.get 3
                  have XB0 := XB.get 0
                  have XB1 := XB.get 1
                  have XB2 := XB.get 2
                  have XB3 := XB.get 3
                  simp only [List.getElem?_toArray, List.getElem?_cons_zero, List.getElem?_cons_succ] at XA0 XA1 XA2 XA3 XB0 XB1 XB2 XB3
                  go_wp2_with fail
                  clear XA0 XA1 XA2 XA3 XB0 XB1 XB2 XB3
                  refine (CC.out _ _ _ _ _ (by first | exact N3 | exact N3.up ((Up.refl _).drew) | exact N3.up ((Up.refl _).drewN _)) (by first | exact N5 | exact N5.up ((Up.refl _).drew) | exact N5.up ((Up.refl _).drewN _))).mono ?_
                  rintro _ w6 ⟨rfl, u6⟩
                  replace U := Up.trans (by first | exact U | exact U.drew | exact U.drewN _) u6
                  go_wp2_with fail
                  go_ret
                  exact ⟨by first | rfl | (simp; done), by first | exact U | exact U.drew | exact U.drewN _⟩
          · have r5 : ((c7.toNat : Int) == 48) = true := by rw [hh]; rfl
            have r6 : decide ((1 : Int) < (TB.size : Int)) = false := decide_eq_false (by omega)
            have r7 : decide (1 < TB.size) = false := decide_eq_false (by omega)
            clear hh2
            go_wp2_with fail
            go_loopw [11] (fun dv wr => ∃ (j : Nat) (D : ByteArray), X = List.replicate j 48 ++ X.drop j ∧ j < X.length ∧ dv = .string D ∧ Hid (Tx D (X.drop j)) ∧ Up w wr) (fun dv _ => (match dv with | .string s => s.size | _ => 0))
            case atStart => exact ⟨0, _, rfl, hXp, rfl, HD, by first | exact U | exact U.drewN _⟩
            case round =>
              clear U HD
              obtain ⟨j, D, hj, hjl, rfl, HD, U⟩ := hrel
              have hds := HD.out.size
              rw [List.length_drop] at hds
              have hDs : D.size ≤ 5000 := by omega
              have hD0 : 0 < D.size := by omega
              have f0 : decide (0 < D.size) = true := decide_eq_true hD0
              obtain ⟨ch, hch⟩ : ∃ ch, (X.drop j).headD 0 = ch := ⟨_, rfl⟩
              have hix : ((D[0]).toNat : Int) = (ch.toNat : Int) := by
                rw [HD.out.get 0 hD0, ← hch]
                cases X.drop j <;> rfl
              by_cases hgo : 1 < D.size ∧ ch = 48
              · obtain ⟨g1, g2⟩ := hgo
                have f1 : decide ((1 : Int) < (D.size : Int)) = true := decide_eq_true (by omega)
                have f2 : decide (1 < D.size) = true := decide_eq_true g1
                have f3 : ((ch.toNat : Int) == 48) = true := by rw [g2]; rfl
                obtain ⟨D2, e2, T2⟩ := ext16 D _ HD 1 D.size
                have hnx : X.drop j = 48 :: X.drop (j + 1) := by
                  have := M.drop_at hjl
                  rw [this] at hch ⊢
                  rw [show X.getD j 0 = 48 from hch.trans g2]
                have T3 : Hid (Tx D2 (X.drop (j + 1))) := by
                  have e : ((X.drop j).drop 1).take (D.size - 1) = X.drop (j + 1) := by
                    rw [hnx]
                    show (X.drop (j + 1)).take _ = _
                    exact List.take_of_length_le (by rw [List.length_drop]; omega)
                  rw [e] at T2
                  exact T2
                have hj2 : X = List.replicate (j + 1) 48 ++ X.drop (j + 1) := by
                  rw [List.replicate_succ', List.append_assoc]
                  show X = List.replicate j 48 ++ (48 :: X.drop (j + 1))
                  rw [← hnx]
                  exact hj
                have hz2 : D2.size < D.size := by
                  rw [T3.out.size, List.length_drop]; omega
                have hjn : j + 1 < X.length := by omega
                clear g2 hch hnx T2 hds
                go_wp2_with fail
                go_roundw
                case rel => exact ⟨j + 1, D2, hj2, hjn, by first | rfl | rw [e2], T3, U⟩
                case measure => first | exact hz2 | (simp only [e2]; exact hz2) | (rw [e2]; exact hz2)
              · have hcond : (X.drop j).headD 0 ≠ 48 ∨ (X.drop j).length = 1 := by
                  rw [hch, List.length_drop]
                  by_cases h : ch = 48
                  · exact .inr (by have : ¬ 1 < D.size := fun h1 => hgo ⟨h1, h⟩; omega)
                  · exact .inl h
                have hlen := hdl j hcond
                have hval := hvs j hj
                obtain ⟨Y, hY⟩ : ∃ Y, X.drop j = Y := ⟨_, rfl⟩
                have hYd : M.allD Y = true := by rw [← hY]; exact (M.allD_drop16 hXd j)
                have hY0 : Y ≠ [] := by
                  intro e
                  have : Y.length = 0 := by rw [e]; rfl
                  rw [← hY, List.length_drop] at this
                  omega
                rw [hY] at hcond hlen hval HD hch
                have hYl : Y.length = D.size := HD.out.size.symm
                have hhz : Y.headD 0 ≠ 48 ∨ Y = [48] := by
                  rcases hcond with h | h
                  · exact .inl h
                  · by_cases h3 : Y.headD 0 = 48
                    · right
                      obtain ⟨y, hy⟩ : ∃ y, Y = [y] := List.length_eq_one_iff.1 h
                      rw [hy] at h3 ⊢
                      rw [show y = 48 from h3]
                    · exact .inl h3
                have CN1 := Lib.hid (fun Z => CNu.out Z D Y HD.out hY0 hlen hhz)
                rw [hYl] at hlen
                have hexit : (¬ 1 < D.size) ∨ (1 < D.size ∧ ch ≠ 48) := by
                  by_cases h : 1 < D.size
                  · exact .inr ⟨h, fun e => hgo ⟨h, e⟩⟩
                  · exact .inl h
                clear hgo hcond hhz hY0 hch hds
                rcases hexit with g1 | ⟨g1, g2⟩
                · have f1 : decide ((1 : Int) < (D.size : Int)) = false := decide_eq_false (by omega)
                  have f2 : decide (1 < D.size) = false := decide_eq_false g1
                  go_wp2_with fail
                  refine (CN1.out _).mono ?_
                  rintro _ w2 ⟨v2, rfl, H2, u2⟩
                  replace H2 := (hval ▸ H2 hYd : Nh _ _ _ _ V).more (s' := 2000) (by omega)
                  replace U := Up.trans (by first | exact U | exact U.drew | exact U.drewN _) u2
                  obtain ⟨A2, n2, c2, rfl, H2⟩ := H2.slr
                  rw [hYd]
                  clear u2
                  go_wp2_with fail
                  refine (CW1.out _ _ _ (by first | exact H2 | exact H2.up ((Up.refl _).drew) | exact H2.up ((Up.refl _).drewN _))).mono ?_
                  rintro _ w3 ⟨v3, rfl, N3, u3⟩
                  replace U := Up.trans (by first | exact U | exact U.drew | exact U.drewN _) u3
                  obtain ⟨A3, n3, c3, rfl, N3⟩ := N3.slr
                  clear H2 u3
                  go_upto_region 31 with fail
                  obtain ⟨V1, hV1⟩ : ∃ V1, w3.alloc (.cells #[.bool false, .slice A3 n3 c3, .int .i64 0, .int .i64 0] 46) = V1 := ⟨_, rfl⟩
                  have XA : Ob V1 w3.heap.size 46 #[.bool false, .slice A3 n3 c3, .int .i64 0, .int .i64 0] := by rw [← hV1]; exact Ob.mk_ _ _ _
                  have uV : Up w3 V1 := by rw [← hV1]; exact (Up.refl _).alloc _
                  rw [hV1]
                  clear hV1
                  replace U := U.trans uV
                  replace N3 := N3.up uV
                  clear uV
                  go_wp2_with fail
                  refine (CH1.out _ (by first | exact U | exact U.drew | exact U.drewN _)).mono ?_
                  rintro _ w4 ⟨v4, rfl, H4, u4⟩
                  replace U := Up.trans (by first | exact U | exact U.drew | exact U.drewN _) u4
                  replace N3 := N3.up (Up.trans (by first | exact Up.refl _ | exact (Up.refl _).drew | exact (Up.refl _).drewN _) u4)
                  replace XA := XA.up (Up.trans (by first | exact Up.refl _ | exact (Up.refl _).drew | exact (Up.refl _).drewN _) u4)
                  obtain ⟨A4, n4, c4, rfl, H4⟩ := H4.slr
                  clear u4
                  go_wp2_with fail
                  refine (CW2.out _ _ _ (by first | exact H4 | exact H4.up ((Up.refl _).drew) | exact H4.up ((Up.refl _).drewN _))).mono ?_
                  rintro _ w5 ⟨v5, rfl, N5, u5⟩
                  replace U := Up.trans (by first | exact U | exact U.drew | exact U.drewN _) u5
                  replace N3 := N3.up (Up.trans (by first | exact Up.refl _ | exact (Up.refl _).drew | exact (Up.refl _).drewN _) u5)
                  replace XA := XA.up (Up.trans (by first | exact Up.refl _ | exact (Up.refl _).drew | exact (Up.refl _).drewN _) u5)
                  obtain ⟨A5, n5, c5, rfl, N5⟩ := N5.slr
                  clear u5 H4
                  go_upto_region 32 with fail
                  obtain ⟨V2, hV2⟩ : ∃ V2, w5.alloc (.cells #[.bool false, .slice A5 n5 c5, .int .i64 e, .int .i64 0] 46) = V2 := ⟨_, rfl⟩
                  have XB : Ob V2 w5.heap.size 46 #[.bool false, .slice A5 n5 c5, .int .i64 e, .int .i64 0] := by rw [← hV2]; exact Ob.mk_ _ _ _
                  have uV : Up w5 V2 := by rw [← hV2]; exact (Up.refl _).alloc _
                  rw [hV2]
                  clear hV2
                  replace U := U.trans uV
                  replace N3 := N3.up uV
                  replace N5 := N5.up uV
                  replace XA := XA.up uV
                  clear uV
                  have XA0 := XA.get 0
                  have XA1 := XA.get 1
                  have XA2 := XA.get 2
                  have XA3 := XA.get 3
                  have XB0 := XB.get 0
                  have XB1 := XB.get 1
                  have XB2 := XB.get 2
                  have XB3 := XB.get 3
                  simp only [List.getElem?_toArray, List.getElem?_cons_zero, List.getElem?_cons_succ] at XA0 XA1 XA2 XA3 XB0 XB1 XB2 XB3
                  go_wp2_with fail
                  clear XA0 XA1 XA2 XA3 XB0 XB1 XB2 XB3
                  refine (CC.out _ _ _ _ _ (by first | exact N3 | exact N3.up ((Up.refl _).drew) | exact N3.up ((Up.refl _).drewN _)) (by first | exact N5 | exact N5.up ((Up.refl _).drew) | exact N5.up ((Up.refl _).drewN _))).mono ?_
                  rintro _ w6 ⟨rfl, u6⟩
                  replace U := Up.trans (by first | exact U | exact U.drew | exact U.drewN _) u6
                  go_wp2_with fail
                  go_ret
                  exact ⟨by first | rfl | (simp; done), by first | exact U | exact U.drew | exact U.drewN _⟩
                · have f1 : decide ((1 : Int) < (D.size : Int)) = true := decide_eq_true (by omega)
                  have f2 : decide (1 < D.size) = true := decide_eq_true g1
                  have f3 : ((ch.toNat : Int) == 48) = false := by rw [beq_eq_false_iff_ne]; intro h; exact g2 (UInt8.toNat_inj.1 (by show ch.toNat = 48; omega))
                  go_wp2_with fail
                  refine (CN1.out _).mono ?_
                  rintro _ w2 ⟨v2, rfl, H2, u2⟩
                  replace H2 := (hval ▸ H2 hYd : Nh _ _ _ _ V).more (s' := 2000) (by omega)
                  replace U := Up.trans (by first | exact U | exact U.drew | exact U.drewN _) u2
                  obtain ⟨A2, n2, c2, rfl, H2⟩ := H2.slr
                  rw [hYd]
                  clear u2
                  go_wp2_with fail
                  refine (CW1.out _ _ _ (by first | exact H2 | exact H2.up ((Up.refl _).drew) | exact H2.up ((Up.refl _).drewN _))).mono ?_
                  rintro _ w3 ⟨v3, rfl, N3, u3⟩
                  replace U := Up.trans (by first | exact U | exact U.drew | exact U.drewN _) u3
                  obtain ⟨A3, n3, c3, rfl, N3⟩ := N3.slr
                  clear H2 u3
                  go_upto_region 31 with fail
                  obtain ⟨V1, hV1⟩ : ∃ V1, w3.alloc (.cells #[.bool false, .slice A3 n3 c3, .int .i64 0, .int .i64 0] 46) = V1 := ⟨_, rfl⟩
                  have XA : Ob V1 w3.heap.size 46 #[.bool false, .slice A3 n3 c3, .int .i64 0, .int .i64 0] := by rw [← hV1]; exact Ob.mk_ _ _ _
                  have uV : Up w3 V1 := by rw [← hV1]; exact (Up.refl _).alloc _
                  rw [hV1]
                  clear hV1
                  replace U := U.trans uV
                  replace N3 := N3.up uV
                  clear uV
                  go_wp2_with fail
                  refine (CH1.out _ (by first | exact U | exact U.drew | exact U.drewN _)).mono ?_
                  rintro _ w4 ⟨v4, rfl, H4, u4⟩
                  replace U := Up.trans (by first | exact U | exact U.drew | exact U.drewN _) u4
                  replace N3 := N3.up (Up.trans (by first | exact Up.refl _ | exact (Up.refl _).drew | exact (Up.refl _).drewN _) u4)
                  replace XA := XA.up (Up.trans (by first | exact Up.refl _ | exact (Up.refl _).drew | exact (Up.refl _).drewN _) u4)
                  obtain ⟨A4, n4, c4, rfl, H4⟩ := H4.slr
                  clear u4
                  go_wp2_with fail
                  refine (CW2.out _ _ _ (by first | exact H4 | exact H4.up ((Up.refl _).drew) | exact H4.up ((Up.refl _).drewN _))).mono ?_
                  rintro _ w5 ⟨v5, rfl, N5, u5⟩
                  replace U := Up.trans (by first | exact U | exact U.drew | exact U.drewN _) u5
                  replace N3 := N3.up (Up.trans (by first | exact Up.refl _ | exact (Up.refl _).drew | exact (Up.refl _).drewN _) u5)
                  replace XA := XA.up (Up.trans (by first | exact Up.refl _ | exact (Up.refl _).drew | exact (Up.refl _).drewN _) u5)
                  obtain ⟨A5, n5, c5, rfl, N5⟩ := N5.slr
                  clear u5 H4
                  go_upto_region 32 with fail
                  obtain ⟨V2, hV2⟩ : ∃ V2, w5.alloc (.cells #[.bool false, .slice A5 n5 c5, .int .i64 e, .int .i64 0] 46) = V2 := ⟨_, rfl⟩
                  have XB : Ob V2 w5.heap.size 46 #[.bool false, .slice A5 n5 c5, .int .i64 e, .int .i64 0] := by rw [← hV2]; exact Ob.mk_ _ _ _
                  have uV : Up w5 V2 := by rw [← hV2]; exact (Up.refl _).alloc _
                  rw [hV2]
                  clear hV2
                  replace U := U.trans uV
                  replace N3 := N3.up uV
                  replace N5 := N5.up uV
                  replace XA := XA.up uV
                  clear uV
                  have XA0 := XA.get 0
                  have XA1 := XA.get 1
                  have XA2 := XA.get 2
                  have XA3 := XA.get 3
                  have XB0 := XB.get 0
                  have XB1 := XB.get 1
                  have XB2 := XB.get 2
                  have XB3 := XB.get 3
                  simp only [List.getElem?_toArray, List.getElem?_cons_zero, List.getElem?_cons_succ] at XA0 XA1 XA2 XA3 XB0 XB1 XB2 XB3
                  go_wp2_with fail
                  clear XA0 XA1 XA2 XA3 XB0 XB1 XB2 XB3
                  refine (CC.out _ _ _ _ _ (by first | exact N3 | exact N3.up ((Up.refl _).drew) | exact N3.up ((Up.refl _).drewN _)) (by first | exact N5 | exact N5.up ((Up.refl _).drew) | exact N5.up ((Up.refl _).drewN _))).mono ?_
                  rintro _ w6 ⟨rfl, u6⟩
                  replace U := Up.trans (by first | exact U | exact U.drew | exact U.drewN _) u6
                  go_wp2_with fail
                  go_ret
                  exact ⟨by first | rfl | (simp; done), by first | exact U | exact U.drew | exact U.drewN _⟩
        · have e5 : (if decide (R ≠ []) = true then (W.length : Int) else -1) = (W.length : Int) := by rw [decide_eq_true hR]; rfl
          rw [e5]
          have hRp : 0 < R.length := List.length_pos_iff.2 hR
          have hBl : TB.size = W.length + 1 + R.length := by rw [hTB, hB, List.length_append, List.length_cons]; omega
          obtain ⟨q, hq⟩ : ∃ q : Nat, TB.size = q + 1 := ⟨TB.size - 1, by omega⟩
          have q1 : q < TB.size := by omega
          have q2 : decide (q < TB.size) = true := decide_eq_true q1
          have q3 : (TB.size : Int) - 1 = (q : Int) := by omega
          obtain ⟨c9, hc9⟩ : ∃ c9, BD.getD q 0 = c9 := ⟨_, rfl⟩
          have q4 : ((TB[q]).toNat : Int) = (c9.toNat : Int) := by rw [TT.out.get q q1, hc9]
          have hlast : c9 ≠ 48 := by
            rcases htl with h | h
            · exact absurd h hR
            · intro e9
              apply h
              have hne : (46 : UInt8) :: R ≠ [] := by simp
              have e10 := M.last_app (a := W) hne
              rw [← hB] at e10
              have e11 : ((46 : UInt8) :: R).getLast? = R.getLast? := M.last_app (a := [46]) hR
              rw [← e11, ← e10, List.getLast?_eq_getElem?, show BD.length - 1 = q by omega]
              rw [List.getD_eq_getElem?_getD, e9] at hc9
              rw [List.getElem?_eq_getElem (by omega)] at hc9 ⊢
              exact congrArg some hc9
          have q5 : ((c9.toNat : Int) == 48) = false := by rw [beq_eq_false_iff_ne]; intro h; exact hlast (UInt8.toNat_inj.1 (by show c9.toNat = 48; omega))
          obtain ⟨WT, e6, TW⟩ := ext16 TB BD TT 0 W.length
          replace TW : Hid (Tx WT W) := by
            have e : (BD.drop 0).take (W.length - 0) = W := by rw [hB]; simp
            rw [e] at TW
            exact TW
          have q6 : (W.length : Int) + 1 - (TB.size : Int) = K := by omega
          have q7 : (K == 0) = false := by rw [beq_eq_false_iff_ne]; omega
          have q8 : W.length ≤ TB.size := by omega
          have hWl5 : W.length ≤ 5000 := by omega
          clear hlast hc9 hq hBl
          have hwz := TW.out.size
          have r0 : decide (0 < WT.size) = true := decide_eq_true (by omega)
          have hw0 : 0 < WT.size := by omega
          obtain ⟨c7, hc7⟩ : ∃ c7, W.headD 0 = c7 := ⟨_, rfl⟩
          have r1 : ((WT[0]).toNat : Int) = (c7.toNat : Int) := by
            rw [TW.out.get 0 hw0, ← hc7]
            cases W <;> rfl
          have r2 : WT.toList.isEmpty = false := by rw [toList_tx TW.out]; cases W; exact absurd rfl hW0; rfl
          have r3 : (WT.toList == []) = false := by rw [toList_tx TW.out]; cases W; exact absurd rfl hW0; rfl
          have r4 : ¬ WT.toList = [] := by rw [toList_tx TW.out]; exact hW0
          have hh : (c7 ≠ 48) ∨ (c7 = 48 ∧ WT.size = 1) := by
            rcases hhd with h | h
            · exact .inl (by rw [← hc7]; exact h)
            · exact .inr ⟨by rw [← hc7, h]; rfl, by rw [hwz, h]; rfl⟩
          clear hwz hc7 hhd htl hTB hX hW0 hK hR hB e5 TW
          rcases hh with hh | ⟨hh, hh2⟩
          · have r5 : ((c7.toNat : Int) == 48) = false := by rw [beq_eq_false_iff_ne]; intro h; exact hh (UInt8.toNat_inj.1 (by show c7.toNat = 48; omega))
            go_wp2_with fail
            go_loopw [11] (fun dv wr => ∃ (j : Nat) (D : ByteArray), X = List.replicate j 48 ++ X.drop j ∧ j < X.length ∧ dv = .string D ∧ Hid (Tx D (X.drop j)) ∧ Up w wr) (fun dv _ => (match dv with | .string s => s.size | _ => 0))
            case atStart => exact ⟨0, _, rfl, hXp, rfl, HD, by first | exact U | exact U.drewN _⟩
            case round =>
              clear U HD
              obtain ⟨j, D, hj, hjl, rfl, HD, U⟩ := hrel
              have hds := HD.out.size
              rw [List.length_drop] at hds
              have hDs : D.size ≤ 5000 := by omega
              have hD0 : 0 < D.size := by omega
              have f0 : decide (0 < D.size) = true := decide_eq_true hD0
              obtain ⟨ch, hch⟩ : ∃ ch, (X.drop j).headD 0 = ch := ⟨_, rfl⟩
              have hix : ((D[0]).toNat : Int) = (ch.toNat : Int) := by
                rw [HD.out.get 0 hD0, ← hch]
                cases X.drop j <;> rfl
              by_cases hgo : 1 < D.size ∧ ch = 48
              · obtain ⟨g1, g2⟩ := hgo
                have f1 : decide ((1 : Int) < (D.size : Int)) = true := decide_eq_true (by omega)
                have f2 : decide (1 < D.size) = true := decide_eq_true g1
                have f3 : ((ch.toNat : Int) == 48) = true := by rw [g2]; rfl
                obtain ⟨D2, e2, T2⟩ := ext16 D _ HD 1 D.size
                have hnx : X.drop j = 48 :: X.drop (j + 1) := by
                  have := M.drop_at hjl
                  rw [this] at hch ⊢
                  rw [show X.getD j 0 = 48 from hch.trans g2]
                have T3 : Hid (Tx D2 (X.drop (j + 1))) := by
                  have e : ((X.drop j).drop 1).take (D.size - 1) = X.drop (j + 1) := by
                    rw [hnx]
                    show (X.drop (j + 1)).take _ = _
                    exact List.take_of_length_le (by rw [List.length_drop]; omega)
                  rw [e] at T2
                  exact T2
                have hj2 : X = List.replicate (j + 1) 48 ++ X.drop (j + 1) := by
                  rw [List.replicate_succ', List.append_assoc]
                  show X = List.replicate j 48 ++ (48 :: X.drop (j + 1))
                  rw [← hnx]
                  exact hj
                have hz2 : D2.size < D.size := by
                  rw [T3.out.size, List.length_drop]; omega
                have hjn : j + 1 < X.length := by omega
                clear g2 hch hnx T2 hds
                go_wp2_with fail
                go_roundw
                case rel => exact ⟨j + 1, D2, hj2, hjn, by first | rfl | rw [e2], T3, U⟩
                case measure => first | exact hz2 | (simp only [e2]; exact hz2) | (rw [e2]; exact hz2)
              · have hcond : (X.drop j).headD 0 ≠ 48 ∨ (X.drop j).length = 1 := by
                  rw [hch, List.length_drop]
                  by_cases h : ch = 48
                  · exact .inr (by have : ¬ 1 < D.size := fun h1 => hgo ⟨h1, h⟩; omega)
                  · exact .inl h
                have hlen := hdl j hcond
                have hval := hvs j hj
                obtain ⟨Y, hY⟩ : ∃ Y, X.drop j = Y := ⟨_, rfl⟩
                have hYd : M.allD Y = true := by rw [← hY]; exact (M.allD_drop16 hXd j)
                have hY0 : Y ≠ [] := by
                  intro e
                  have : Y.length = 0 := by rw [e]; rfl
                  rw [← hY, List.length_drop] at this
                  omega
                rw [hY] at hcond hlen hval HD hch
                have hYl : Y.length = D.size := HD.out.size.symm
                have hhz : Y.headD 0 ≠ 48 ∨ Y = [48] := by
                  rcases hcond with h | h
                  · exact .inl h
                  · by_cases h3 : Y.headD 0 = 48
                    · right
                      obtain ⟨y, hy⟩ : ∃ y, Y = [y] := List.length_eq_one_iff.1 h
                      rw [hy] at h3 ⊢
                      rw [show y = 48 from h3]
                    · exact .inl h3
                have CN1 := Lib.hid (fun Z => CNu.out Z D Y HD.out hY0 hlen hhz)
                rw [hYl] at hlen
                have hexit : (¬ 1 < D.size) ∨ (1 < D.size ∧ ch ≠ 48) := by
                  by_cases h : 1 < D.size
                  · exact .inr ⟨h, fun e => hgo ⟨h, e⟩⟩
                  · exact .inl h
                clear hgo hcond hhz hY0 hch hds
                rcases hexit with g1 | ⟨g1, g2⟩
                · have f1 : decide ((1 : Int) < (D.size : Int)) = false := decide_eq_false (by omega)
                  have f2 : decide (1 < D.size) = false := decide_eq_false g1
                  go_wp2_with fail
                  refine (CN1.out _).mono ?_
                  rintro _ w2 ⟨v2, rfl, H2, u2⟩
                  replace H2 := (hval ▸ H2 hYd : Nh _ _ _ _ V).more (s' := 2000) (by omega)
                  replace U := Up.trans (by first | exact U | exact U.drew | exact U.drewN _) u2
                  obtain ⟨A2, n2, c2, rfl, H2⟩ := H2.slr
                  rw [hYd]
                  clear u2
                  go_wp2_with fail
                  refine (CW1.out _ _ _ (by first | exact H2 | exact H2.up ((Up.refl _).drew) | exact H2.up ((Up.refl _).drewN _))).mono ?_
                  rintro _ w3 ⟨v3, rfl, N3, u3⟩
                  replace U := Up.trans (by first | exact U | exact U.drew | exact U.drewN _) u3
                  obtain ⟨A3, n3, c3, rfl, N3⟩ := N3.slr
                  clear H2 u3
                  go_upto_region 31 with fail
                  obtain ⟨V1, hV1⟩ : ∃ V1, w3.alloc (.cells #[.bool false, .slice A3 n3 c3, .int .i64 K, .int .i64 K] 46) = V1 := ⟨_, rfl⟩
                  have XA : Ob V1 w3.heap.size 46 #[.bool false, .slice A3 n3 c3, .int .i64 K, .int .i64 K] := by rw [← hV1]; exact Ob.mk_ _ _ _
                  have uV : Up w3 V1 := by rw [← hV1]; exact (Up.refl _).alloc _
                  rw [hV1]
                  clear hV1
                  replace U := U.trans uV
                  replace N3 := N3.up uV
                  clear uV
                  go_wp2_with fail
                  refine (CH1.out _ (by first | exact U | exact U.drew | exact U.drewN _)).mono ?_
                  rintro _ w4 ⟨v4, rfl, H4, u4⟩
                  replace U := Up.trans (by first | exact U | exact U.drew | exact U.drewN _) u4
                  replace N3 := N3.up (Up.trans (by first | exact Up.refl _ | exact (Up.refl _).drew | exact (Up.refl _).drewN _) u4)
                  replace XA := XA.up (Up.trans (by first | exact Up.refl _ | exact (Up.refl _).drew | exact (Up.refl _).drewN _) u4)
                  obtain ⟨A4, n4, c4, rfl, H4⟩ := H4.slr
                  clear u4
                  go_wp2_with fail
                  refine (CW2.out _ _ _ (by first | exact H4 | exact H4.up ((Up.refl _).drew) | exact H4.up ((Up.refl _).drewN _))).mono ?_
                  rintro _ w5 ⟨v5, rfl, N5, u5⟩
                  replace U := Up.trans (by first | exact U | exact U.drew | exact U.drewN _) u5
                  replace N3 := N3.up (Up.trans (by first | exact Up.refl _ | exact (Up.refl _).drew | exact (Up.refl _).drewN _) u5)
                  replace XA := XA.up (Up.trans (by first | exact Up.refl _ | exact (Up.refl _).drew | exact (Up.refl _).drewN _) u5)
                  obtain ⟨A5, n5, c5, rfl, N5⟩ := N5.slr
                  clear u5 H4
                  go_upto_region 32 with fail
                  obtain ⟨V2, hV2⟩ : ∃ V2, w5.alloc (.cells #[.bool false, .slice A5 n5 c5, .int .i64 e, .int .i64 0] 46) = V2 := ⟨_, rfl⟩
                  have XB : Ob V2 w5.heap.size 46 #[.bool false, .slice A5 n5 c5, .int .i64 e, .int .i64 0] := by rw [← hV2]; exact Ob.mk_ _ _ _
                  have uV : Up w5 V2 := by rw [← hV2]; exact (Up.refl _).alloc _
                  rw [hV2]
                  clear hV2
                  replace U := U.trans uV
                  replace N3 := N3.up uV
                  replace N5 := N5.up uV
                  replace XA := XA.up uV
                  clear uV
                  have XA0 := XA.get 0
                  have XA1 := XA.get 1
                  have XA2 := XA.get 2
                  have XA3 := XA.get 3
                  have XB0 := XB.get 0
                  have XB1 := XB.get 1
                  have XB2 := XB.get 2
                  have XB3 := XB.get 3
                  simp only [List.getElem?_toArray, List.getElem?_cons_zero, List.getElem?_cons_succ] at XA0 XA1 XA2 XA3 XB0 XB1 XB2 XB3
                  go_wp2_with fail
                  clear XA0 XA1 XA2 XA3 XB0 XB1 XB2 XB3
                  refine (CC.out _ _ _ _ _ (by first | exact N3 | exact N3.up ((Up.refl _).drew) | exact N3.up ((Up.refl _).drewN _)) (by first | exact N5 | exact N5.up ((Up.refl _).drew) | exact N5.up ((Up.refl _).drewN _))).mono ?_
                  rintro _ w6 ⟨rfl, u6⟩
                  replace U := Up.trans (by first | exact U | exact U.drew | exact U.drewN _) u6
                  go_wp2_with fail
                  go_ret
                  exact ⟨by first | rfl | (simp; done), by first | exact U | exact U.drew | exact U.drewN _⟩
                · have f1 : decide ((1 : Int) < (D.size : Int)) = true := decide_eq_true (by omega)
                  have f2 : decide (1 < D.size) = true := decide_eq_true g1
                  have f3 : ((ch.toNat : Int) == 48) = false := by rw [beq_eq_false_iff_ne]; intro h; exact g2 (UInt8.toNat_inj.1 (by show ch.toNat = 48; omega))
                  go_wp2_with fail
                  refine (CN1.out _).mono ?_
                  rintro _ w2 ⟨v2, rfl, H2, u2⟩
                  replace H2 := (hval ▸ H2 hYd : Nh _ _ _ _ V).more (s' := 2000) (by omega)
                  replace U := Up.trans (by first | exact U | exact U.drew | exact U.drewN _) u2
                  obtain ⟨A2, n2, c2, rfl, H2⟩ := H2.slr
                  rw [hYd]
                  clear u2
                  go_wp2_with fail
                  refine (CW1.out _ _ _ (by first | exact H2 | exact H2.up ((Up.refl _).drew) | exact H2.up ((Up.refl _).drewN _))).mono ?_
                  rintro _ w3 ⟨v3, rfl, N3, u3⟩
                  replace U := Up.trans (by first | exact U | exact U.drew | exact U.drewN _) u3
                  obtain ⟨A3, n3, c3, rfl, N3⟩ := N3.slr
                  clear H2 u3
                  go_upto_region 31 with fail
                  obtain ⟨V1, hV1⟩ : ∃ V1, w3.alloc (.cells #[.bool false, .slice A3 n3 c3, .int .i64 K, .int .i64 K] 46) = V1 := ⟨_, rfl⟩
                  have XA : Ob V1 w3.heap.size 46 #[.bool false, .slice A3 n3 c3, .int .i64 K, .int .i64 K] := by rw [← hV1]; exact Ob.mk_ _ _ _
                  have uV : Up w3 V1 := by rw [← hV1]; exact (Up.refl _).alloc _
                  rw [hV1]
                  clear hV1
                  replace U := U.trans uV
                  replace N3 := N3.up uV
                  clear uV
                  go_wp2_with fail
                  refine (CH1.out _ (by first | exact U | exact U.drew | exact U.drewN _)).mono ?_
                  rintro _ w4 ⟨v4, rfl, H4, u4⟩
                  replace U := Up.trans (by first | exact U | exact U.drew | exact U.drewN _) u4
                  replace N3 := N3.up (Up.trans (by first | exact Up.refl _ | exact (Up.refl _).drew | exact (Up.refl _).drewN _) u4)
                  replace XA := XA.up (Up.trans (by first | exact Up.refl _ | exact (Up.refl _).drew | exact (Up.refl _).drewN _) u4)
                  obtain ⟨A4, n4, c4, rfl, H4⟩ := H4.slr
                  clear u4
                  go_wp2_with fail
                  refine (CW2.out _ _ _ (by first | exact H4 | exact H4.up ((Up.refl _).drew) | exact H4.up ((Up.refl _).drewN _))).mono ?_
                  rintro _ w5 ⟨v5, rfl, N5, u5⟩
                  replace U := Up.trans (by first | exact U | exact U.drew | exact U.drewN _) u5
                  replace N3 := N3.up (Up.trans (by first | exact Up.refl _ | exact (Up.refl _).drew | exact (Up.refl _).drewN _) u5)
                  replace XA := XA.up (Up.trans (by first | exact Up.refl _ | exact (Up.refl _).drew | exact (Up.refl _).drewN _) u5)
                  obtain ⟨A5, n5, c5, rfl, N5⟩ := N5.slr
                  clear u5 H4
                  go_upto_region 32 with fail
                  obtain ⟨V2, hV2⟩ : ∃ V2, w5.alloc (.cells #[.bool false, .slice A5 n5 c5, .int .i64 e, .int .i64 0] 46) = V2 := ⟨_, rfl⟩
                  have XB : Ob V2 w5.heap.size 46 #[.bool false, .slice A5 n5 c5, .int .i64 e, .int .i64 0] := by rw [← hV2]; exact Ob.mk_ _ _ _
                  have uV : Up w5 V2 := by rw [← hV2]; exact (Up.refl _).alloc _
                  rw [hV2]
                  clear hV2
                  replace U := U.trans uV
                  replace N3 := N3.up uV
                  replace N5 := N5.up uV
                  replace XA := XA.up uV
                  clear uV
                  have XA0 := XA.get 0
                  have XA1 := XA.get 1
                  have XA2 := XA.get 2
                  have XA3 := XA.get 3
                  have XB0 := XB.get 0
                  have XB1 := XB.get 1
                  have XB2 := XB.get 2
                  have XB3 := XB.get 3
                  simp only [List.getElem?_toArray, List.getElem?_cons_zero, List.getElem?_cons_succ] at XA0 XA1 XA2 XA3 XB0 XB1 XB2 XB3
                  go_wp2_with fail
                  clear XA0 XA1 XA2 XA3 XB0 XB1 XB2 XB3
                  refine (CC.out _ _ _ _ _ (by first | exact N3 | exact N3.up ((Up.refl _).drew) | exact N3.up ((Up.refl _).drewN _)) (by first | exact N5 | exact N5.up ((Up.refl _).drew) | exact N5.up ((Up.refl _).drewN _))).mono ?_
                  rintro _ w6 ⟨rfl, u6⟩
                  replace U := Up.trans (by first | exact U | exact U.drew | exact U.drewN _) u6
                  go_wp2_with fail
                  go_ret
                  exact ⟨by first | rfl | (simp; done), by first | exact U | exact U.drew | exact U.drewN _⟩
          · have r5 : ((c7.toNat : Int) == 48) = true := by rw [hh]; rfl
            have r6 : decide ((1 : Int) < (WT.size : Int)) = false := decide_eq_false (by omega)
            have r7 : decide (1 < WT.size) = false := decide_eq_false (by omega)
            clear hh2
            go_wp2_with fail
            go_loopw [11] (fun dv wr => ∃ (j : Nat) (D : ByteArray), X = List.replicate j 48 ++ X.drop j ∧ j < X.length ∧ dv = .string D ∧ Hid (Tx D (X.drop j)) ∧ Up w wr) (fun dv _ => (match dv with | .string s => s.size | _ => 0))
            case atStart => exact ⟨0, _, rfl, hXp, rfl, HD, by first | exact U | exact U.drewN _⟩
            case round =>
              clear U HD
              obtain ⟨j, D, hj, hjl, rfl, HD, U⟩ := hrel
              have hds := HD.out.size
              rw [List.length_drop] at hds
              have hDs : D.size ≤ 5000 := by omega
              have hD0 : 0 < D.size := by omega
              have f0 : decide (0 < D.size) = true := decide_eq_true hD0
              obtain ⟨ch, hch⟩ : ∃ ch, (X.drop j).headD 0 = ch := ⟨_, rfl⟩
              have hix : ((D[0]).toNat : Int) = (ch.toNat : Int) := by
                rw [HD.out.get 0 hD0, ← hch]
                cases X.drop j <;> rfl
              by_cases hgo : 1 < D.size ∧ ch = 48
              · obtain ⟨g1, g2⟩ := hgo
                have f1 : decide ((1 : Int) < (D.size : Int)) = true := decide_eq_true (by omega)
                have f2 : decide (1 < D.size) = true := decide_eq_true g1
                have f3 : ((ch.toNat : Int) == 48) = true := by rw [g2]; rfl
                obtain ⟨D2, e2, T2⟩ := ext16 D _ HD 1 D.size
                have hnx : X.drop j = 48 :: X.drop (j + 1) := by
                  have := M.drop_at hjl
                  rw [this] at hch ⊢
                  rw [show X.getD j 0 = 48 from hch.trans g2]
                have T3 : Hid (Tx D2 (X.drop (j + 1))) := by
                  have e : ((X.drop j).drop 1).take (D.size - 1) = X.drop (j + 1) := by
                    rw [hnx]
                    show (X.drop (j + 1)).take _ = _
                    exact List.take_of_length_le (by rw [List.length_drop]; omega)
                  rw [e] at T2
                  exact T2
                have hj2 : X = List.replicate (j + 1) 48 ++ X.drop (j + 1) := by
                  rw [List.replicate_succ', List.append_assoc]
                  show X = List.replicate j 48 ++ (48 :: X.drop (j + 1))
                  rw [← hnx]
                  exact hj
                have hz2 : D2.size < D.size := by
                  rw [T3.out.size, List.length_drop]; omega
                have hjn : j + 1 < X.length := by omega
                clear g2 hch hnx T2 hds
                go_wp2_with fail
                go_roundw
                case rel => exact ⟨j + 1, D2, hj2, hjn, by first | rfl | rw [e2], T3, U⟩
                case measure => first | exact hz2 | (simp only [e2]; exact hz2) | (rw [e2]; exact hz2)
              · have hcond : (X.drop j).headD 0 ≠ 48 ∨ (X.drop j).length = 1 := by
                  rw [hch, List.length_drop]
                  by_cases h : ch = 48
                  · exact .inr (by have : ¬ 1 < D.size := fun h1 => hgo ⟨h1, h⟩; omega)
                  · exact .inl h
                have hlen := hdl j hcond
                have hval := hvs j hj
                obtain ⟨Y, hY⟩ : ∃ Y, X.drop j = Y := ⟨_, rfl⟩
                have hYd : M.allD Y = true := by rw [← hY]; exact (M.allD_drop16 hXd j)
                have hY0 : Y ≠ [] := by
                  intro e
                  have : Y.length = 0 := by rw [e]; rfl
                  rw [← hY, List.length_drop] at this
                  omega
                rw [hY] at hcond hlen hval HD hch
                have hYl : Y.length = D.size := HD.out.size.symm
                have hhz : Y.headD 0 ≠ 48 ∨ Y = [48] := by
                  rcases hcond with h | h
                  · exact .inl h
                  · by_cases h3 : Y.headD 0 = 48
                    · right
                      obtain ⟨y, hy⟩ : ∃ y, Y = [y] := List.length_eq_one_iff.1 h
                      rw [hy] at h3 ⊢
                      rw [show y = 48 from h3]
                    · exact .inl h3
                have CN1 := Lib.hid (fun Z => CNu.out Z D Y HD.out hY0 hlen hhz)
                rw [hYl] at hlen
                have hexit : (¬ 1 < D.size) ∨ (1 < D.size ∧ ch ≠ 48) := by
                  by_cases h : 1 < D.size
                  · exact .inr ⟨h, fun e => hgo ⟨h, e⟩⟩
                  · exact .inl h
                clear hgo hcond hhz hY0 hch hds
                rcases hexit with g1 | ⟨g1, g2⟩
                · have f1 : decide ((1 : Int) < (D.size : Int)) = false := decide_eq_false (by omega)
                  have f2 : decide (1 < D.size) = false := decide_eq_false g1
                  go_wp2_with fail
                  refine (CN1.out _).mono ?_
                  rintro _ w2 ⟨v2, rfl, H2, u2⟩
                  replace H2 := (hval ▸ H2 hYd : Nh _ _ _ _ V).more (s' := 2000) (by omega)
                  replace U := Up.trans (by first | exact U | exact U.drew | exact U.drewN _) u2
                  obtain ⟨A2, n2, c2, rfl, H2⟩ := H2.slr
                  rw [hYd]
                  clear u2
                  go_wp2_with fail
                  refine (CW1.out _ _ _ (by first | exact H2 | exact H2.up ((Up.refl _).drew) | exact H2.up ((Up.refl _).drewN _))).mono ?_
                  rintro _ w3 ⟨v3, rfl, N3, u3⟩
                  replace U := Up.trans (by first | exact U | exact U.drew | exact U.drewN _) u3
                  obtain ⟨A3, n3, c3, rfl, N3⟩ := N3.slr
                  clear H2 u3
                  go_upto_region 31 with fail
                  obtain ⟨V1, hV1⟩ : ∃ V1, w3.alloc (.cells #[.bool false, .slice A3 n3 c3, .int .i64 K, .int .i64 K] 46) = V1 := ⟨_, rfl⟩
                  have XA : Ob V1 w3.heap.size 46 #[.bool false, .slice A3 n3 c3, .int .i64 K, .int .i64 K] := by rw [← hV1]; exact Ob.mk_ _ _ _
                  have uV : Up w3 V1 := by rw [← hV1]; exact (Up.refl _).alloc _
                  rw [hV1]
                  clear hV1
                  replace U := U.trans uV
                  replace N3 := N3.up uV
                  clear uV
                  go_wp2_with fail
                  refine (CH1.out _ (by first | exact U | exact U.drew | exact U.drewN _)).mono ?_
                  rintro _ w4 ⟨v4, rfl, H4, u4⟩
                  replace U := Up.trans (by first | exact U | exact U.drew | exact U.drewN _) u4
                  replace N3 := N3.up (Up.trans (by first | exact Up.refl _ | exact (Up.refl _).drew | exact (Up.refl _).drewN _) u4)
                  replace XA := XA.up (Up.trans (by first | exact Up.refl _ | exact (Up.refl _).drew | exact (Up.refl _).drewN _) u4)
                  obtain ⟨A4, n4, c4, rfl, H4⟩ := H4.slr
                  clear u4
                  go_wp2_with fail
                  refine (CW2.out _ _ _ (by first | exact H4 | exact H4.up ((Up.refl _).drew) | exact H4.up ((Up.refl _).drewN _))).mono ?_
                  rintro _ w5 ⟨v5, rfl, N5, u5⟩
                  replace U := Up.trans (by first | exact U | exact U.drew | exact U.drewN _) u5
                  replace N3 := N3.up (Up.trans (by first | exact Up.refl _ | exact (Up.refl _).drew | exact (Up.refl _).drewN _) u5)
                  replace XA := XA.up (Up.trans (by first | exact Up.refl _ | exact (Up.refl _).drew | exact (Up.refl _).drewN _) u5)
                  obtain ⟨A5, n5, c5, rfl, N5⟩ := N5.slr
                  clear u5 H4
                  go_upto_region 32 with fail
                  obtain ⟨V2, hV2⟩ : ∃ V2, w5.alloc (.cells #[.bool false, .slice A5 n5 c5, .int .i64 e, .int .i64 0] 46) = V2 := ⟨_, rfl⟩
                  have XB : Ob V2 w5.heap.size 46 #[.bool false, .slice A5 n5 c5, .int .i64 e, .int .i64 0] := by rw [← hV2]; exact Ob.mk_ _ _ _
                  have uV : Up w5 V2 := by rw [← hV2]; exact (Up.refl _).alloc _
                  rw [hV2]
                  clear hV2
                  replace U := U.trans uV
                  replace N3 := N3.up uV
                  replace N5 := N5.up uV
                  replace XA := XA.up uV
                  clear uV
                  have XA0 := XA.get 0
                  have XA1 := XA.get 1
                  have XA2 := XA.get 2
                  have XA3 := XA.get 3
                  have XB0 := XB.get 0
                  have XB1 := XB.get 1
                  have XB2 := XB.get 2
                  have XB3 := XB.get 3
                  simp only [List.getElem?_toArray, List.getElem?_cons_zero, List.getElem?_cons_succ] at XA0 XA1 XA2 XA3 XB0 XB1 XB2 XB3
                  go_wp2_with fail
                  clear XA0 XA1 XA2 XA3 XB0 XB1 XB2 XB3
                  refine (CC.out _ _ _ _ _ (by first | exact N3 | exact N3.up ((Up.refl _).drew) | exact N3.up ((Up.refl _).drewN _)) (by first | exact N5 | exact N5.up ((Up.refl _).drew) | exact N5.up ((Up.refl _).drewN _))).mono ?_
                  rintro _ w6 ⟨rfl, u6⟩
                  replace U := Up.trans (by first | exact U | exact U.drew | exact U.drewN _) u6
                  go_wp2_with fail
                  go_ret
                  exact ⟨by first | rfl | (simp; done), by first | exact U | exact U.drew | exact U.drewN _⟩
                · have f1 : decide ((1 : Int) < (D.size : Int)) = true := decide_eq_true (by omega)
                  have f2 : decide (1 < D.size) = true := decide_eq_true g1
                  have f3 : ((ch.toNat : Int) == 48) = false := by rw [beq_eq_false_iff_ne]; intro h; exact g2 (UInt8.toNat_inj.1 (by show ch.toNat = 48; omega))
                  go_wp2_with fail
                  refine (CN1.out _).mono ?_
                  rintro _ w2 ⟨v2, rfl, H2, u2⟩
                  replace H2 := (hval ▸ H2 hYd : Nh _ _ _ _ V).more (s' := 2000) (by omega)
                  replace U := Up.trans (by first | exact U | exact U.drew | exact U.drewN _) u2
                  obtain ⟨A2, n2, c2, rfl, H2⟩ := H2.slr
                  rw [hYd]
                  clear u2
                  go_wp2_with fail
                  refine (CW1.out _ _ _ (by first | exact H2 | exact H2.up ((Up.refl _).drew) | exact H2.up ((Up.refl _).drewN _))).mono ?_
                  rintro _ w3 ⟨v3, rfl, N3, u3⟩
                  replace U := Up.trans (by first | exact U | exact U.drew | exact U.drewN _) u3
                  obtain ⟨A3, n3, c3, rfl, N3⟩ := N3.slr
                  clear H2 u3
                  go_upto_region 31 with fail
                  obtain ⟨V1, hV1⟩ : ∃ V1, w3.alloc (.cells #[.bool false, .slice A3 n3 c3, .int .i64 K, .int .i64 K] 46) = V1 := ⟨_, rfl⟩
                  have XA : Ob V1 w3.heap.size 46 #[.bool false, .slice A3 n3 c3, .int .i64 K, .int .i64 K] := by rw [← hV1]; exact Ob.mk_ _ _ _
                  have uV : Up w3 V1 := by rw [← hV1]; exact (Up.refl _).alloc _
                  rw [hV1]
                  clear hV1
                  replace U := U.trans uV
                  replace N3 := N3.up uV
                  clear uV
                  go_wp2_with fail
                  refine (CH1.out _ (by first | exact U | exact U.drew | exact U.drewN _)).mono ?_
                  rintro _ w4 ⟨v4, rfl, H4, u4⟩
                  replace U := Up.trans (by first | exact U | exact U.drew | exact U.drewN _) u4
                  replace N3 := N3.up (Up.trans (by first | exact Up.refl _ | exact (Up.refl _).drew | exact (Up.refl _).drewN _) u4)
                  replace XA := XA.up (Up.trans (by first | exact Up.refl _ | exact (Up.refl _).drew | exact (Up.refl _).drewN _) u4)
                  obtain ⟨A4, n4, c4, rfl, H4⟩ := H4.slr
                  clear u4
                  go_wp2_with fail
                  refine (CW2.out _ _ _ (by first | exact H4 | exact H4.up ((Up.refl _).drew) | exact H4.up ((Up.refl _).drewN _))).mono ?_
                  rintro _ w5 ⟨v5, rfl, N5, u5⟩
                  replace U := Up.trans (by first | exact U | exact U.drew | exact U.drewN _) u5
                  replace N3 := N3.up (Up.trans (by first | exact Up.refl _ | exact (Up.refl _).drew | exact (Up.refl _).drewN _) u5)
                  replace XA := XA.up (Up.trans (by first | exact Up.refl _ | exact (Up.refl _).drew | exact (Up.refl _).drewN _) u5)
                  obtain ⟨A5, n5, c5, rfl, N5⟩ := N5.slr
                  clear u5 H4
                  go_upto_region 32 with fail
                  obtain ⟨V2, hV2⟩ : ∃ V2, w5.alloc (.cells #[.bool false, .slice A5 n5 c5, .int .i64 e, .int .i64 0] 46) = V2 := ⟨_, rfl⟩
                  have XB : Ob V2 w5.heap.size 46 #[.bool false, .slice A5 n5 c5, .int .i64 e, .int .i64 0] := by rw [← hV2]; exact Ob.mk_ _ _ _
                  have uV : Up w5 V2 := by rw [← hV2]; exact (Up.refl _).alloc _
                  rw [hV2]
                  clear hV2
                  replace U := U.trans uV
                  replace N3 := N3.up uV
                  replace N5 := N5.up uV
                  replace XA := XA.up uV
                  clear uV
                  have XA0 := XA.get 0
                  have XA1 := XA.get 1
                  have XA2 := XA.get 2
                  have XA3 := XA.get 3
                  have XB0 := XB.get 0
                  have XB1 := XB.get 1
                  have XB2 := XB.get 2
                  have XB3 := XB.get 3
                  simp only [List.getElem?_toArray, List.getElem?_cons_zero, List.getElem?_cons_succ] at XA0 XA1 XA2 XA3 XB0 XB1 XB2 XB3
                  go_wp2_with fail
                  clear XA0 XA1 XA2 XA3 XB0 XB1 XB2 XB3
                  refine (CC.out _ _ _ _ _ (by first | exact N3 | exact N3.up ((Up.refl _).drew) | exact N3.up ((Up.refl _).drewN _)) (by first | exact N5 | exact N5.up ((Up.refl _).drew) | exact N5.up ((Up.refl _).drewN _))).mono ?_
                  rintro _ w6 ⟨rfl, u6⟩
                  replace U := Up.trans (by first | exact U | exact U.drew | exact U.drewN _) u6
                  go_wp2_with fail
                  go_ret
                  exact ⟨by first | rfl | (simp; done), by first | exact U | exact U.drew | exact U.drewN _⟩
  · cases dz
    · go_enter Tryz.func12, Tryz.ntmps12
      go_wp2_with fail
      refine (CH1.out _ (by first | exact U | exact U.drew | exact U.drewN _)).mono ?_
      rintro _ w1 ⟨v1, rfl, H1, u1⟩
      replace U := Up.trans (by first | exact U | exact U.drew | exact U.drewN _) u1
      obtain ⟨A1, n1, c1, rfl, H1⟩ := H1.slr
      have hn1 := H1.nil16
      clear H1 u1
      obtain rfl : n1 = 0 := hn1.2 (by simpa using hdz)
      clear hn1 hdz
      replace HT0 : Hid (Tx S ([] ++ BD)) := HT0
      have HSZ := HT0.out.size
      rw [List.length_append] at HSZ
      obtain ⟨TB, e1⟩ : ∃ TB, TB = S := ⟨_, rfl⟩
      subst e1
      have TT : Hid (Tx TB BD) := HT0
      have hTB := TT.out.size
      have hTs : TB.size ≤ 5000 := by rw [hTB]; exact hlb
      have HTB := Lib.hid hTB
      clear hTB HSZ
      go_wp2_with fail
      go_loopw [10, 11, 12] (fun pv dv iv wr => ∃ (i : Nat) (D : ByteArray), i ≤ BD.length ∧ pv = .int .i64 (if M.pnt (BD.take i) then (W.length : Int) else -1) ∧ dv = .string D ∧ iv = .int .i64 (i : Int) ∧ Hid (Tx D (M.fl (BD.take i))) ∧ Up w wr) (fun _ _ iv _ => BD.length - (Lib.intOf iv).toNat)
      case atStart => exact ⟨0, _, Nat.zero_le _, rfl, rfl, rfl, Lib.hid (Tx.lit []), by first | exact U | exact U.drewN _⟩
      case round =>
        clear U
        obtain ⟨i, D, hi, rfl, rfl, rfl, HD, U⟩ := hrel
        have hTB := HTB.out
        have hDs : D.size ≤ 5000 := by
          rw [HD.out.size]
          have := M.fl_len BD i
          omega
        by_cases hlt : i < BD.length
        · have d2 : decide ((i : Int) < (TB.size : Int)) = true := decide_eq_true (by omega)
          have d3 : decide (i < TB.size) = true := decide_eq_true (by omega)
          have hp := M.pnt_take hlt
          have hf := M.fl_take hlt
          have hb := hby i hlt
          have hit : i < TB.size := by omega
          obtain ⟨cc, hcc⟩ : ∃ cc, BD.getD i 0 = cc := ⟨_, rfl⟩
          have hix : ((TB[i]).toNat : Int) = (cc.toNat : Int) := by rw [TT.out.get i hit, hcc]
          have hone : (BD.drop i).take (i + 1 - i) = [cc] := by
            rw [M.drop_at hlt, show i + 1 - i = 1 by omega, hcc]
            rfl
          rw [hcc] at hp hf hb
          rcases hb with ⟨h1, h2, h3⟩ | ⟨h1, h2⟩
          · have k1 : ((cc.toNat : Int) == 46) = true := by rw [h1]; rfl
            rw [h3]
            rw [h1] at hp hf
            have E1 : M.pnt (BD.take (i + 1)) = true := by rw [hp]; simp
            have HD2 : Hid (Tx D (M.fl (BD.take (i + 1)))) := by rw [hf, if_pos rfl, List.append_nil]; exact HD
            have E2 := Lib.hid E1
            have h2' : (i : Int) = (W.length : Int) := by omega
            have E3 := Lib.hid h2'
            clear E1 hp hf HD h1 h2 h2' h3 hcc hTB hone
            go_wp2_with fail
            go_roundw
            case rel => exact ⟨i + 1, D, by omega, by rw [E2.out, if_pos rfl]; first | rfl | rw [E3.out], rfl, by go_num, HD2, U⟩
            case measure => simp [Lib.intOf]; omega
          · have k0 : cc ≠ 46 := fun e => by rw [e] at h1; revert h1; decide
            have k1 : ((cc.toNat : Int) == 46) = false := by rw [beq_eq_false_iff_ne]; intro h; exact k0 (UInt8.toNat_inj.1 (by show cc.toNat = 46; omega))
            have k2 : decide ((cc.toNat : Int) < 48) = false := decide_eq_false (by omega)
            have k3 : decide ((57 : Int) < (cc.toNat : Int)) = false := decide_eq_false (by omega)
            obtain ⟨P, hP⟩ : ∃ P : Int, (if M.pnt (BD.take i) then (W.length : Int) else -1) = P := ⟨_, rfl⟩
            obtain ⟨S1, g1, T1⟩ := ext16 TB BD TT i (i + 1)
            rw [hone] at T1
            have z1 : S1.size ≤ 1 := by rw [T1.out.size]; simp
            obtain ⟨D2, g2, T2, y2⟩ := cat16 D S1 _ _ 5001 HD T1 (by omega)
            rw [if_neg k0] at hf
            have HD2 : Hid (Tx D2 (M.fl (BD.take (i + 1)))) := by rw [hf]; exact T2
            have E1 : M.pnt (BD.take (i + 1)) = M.pnt (BD.take i) := by rw [hp, beq_eq_false_iff_ne.2 k0, Bool.or_false]
            have E2 : Hid ((if M.pnt (BD.take (i + 1)) then (W.length : Int) else -1) = P) := by rw [E1]; exact hP
            rw [hP]
            clear E1 hp hf HD h1 h2 k0 hcc hTB hone T1 T2 hP
            go_wp2_with fail
            go_roundw
            case rel => exact ⟨i + 1, D2, by omega, by rw [E2.out], by first | rfl | rw [g2], by go_num, HD2, U⟩
            case measure => simp [Lib.intOf]; omega
        · have d2 : decide ((i : Int) < (TB.size : Int)) = false := decide_eq_false (by omega)
          have d3 : decide (i < TB.size) = false := decide_eq_false (by omega)
          have hiE : BD.take i = BD := List.take_of_length_le (by omega)
          rw [hiE] at HD
          rw [hfl] at HD
          rw [hiE, hpn]
          clear hiE hlt hi hpn hfl hby
          rcases hWR with ⟨hR, hB⟩ | ⟨hR, hB⟩
          · have e5 : (if decide (R ≠ []) = true then (W.length : Int) else -1) = -1 := by rw [hR]; rfl
            rw [e5]
            have TW : Hid (Tx TB W) := by rw [← hB]; exact TT
            obtain rfl : K = 0 := by rw [← hK, hR]; rfl
            have hwz := TW.out.size
            have r0 : decide (0 < TB.size) = true := decide_eq_true (by omega)
            have hw0 : 0 < TB.size := by omega
            obtain ⟨c7, hc7⟩ : ∃ c7, W.headD 0 = c7 := ⟨_, rfl⟩
            have r1 : ((TB[0]).toNat : Int) = (c7.toNat : Int) := by
              rw [TW.out.get 0 hw0, ← hc7]
              cases W <;> rfl
            have r2 : TB.toList.isEmpty = false := by rw [toList_tx TW.out]; cases W; exact absurd rfl hW0; rfl
            have r3 : (TB.toList == []) = false := by rw [toList_tx TW.out]; cases W; exact absurd rfl hW0; rfl
            have r4 : ¬ TB.toList = [] := by rw [toList_tx TW.out]; exact hW0
            have hh : (c7 ≠ 48) ∨ (c7 = 48 ∧ TB.size = 1) := by
              rcases hhd with h | h
              · exact .inl (by rw [← hc7]; exact h)
              · exact .inr ⟨by rw [← hc7, h]; rfl, by rw [hwz, h]; rfl⟩
            clear hwz hc7 hhd htl hTB hX hW0 hK hR hB e5 TW
            rcases hh with hh | ⟨hh, hh2⟩
            · have r5 : ((c7.toNat : Int) == 48) = false := by rw [beq_eq_false_iff_ne]; intro h; exact hh (UInt8.toNat_inj.1 (by show c7.toNat = 48; omega))
              go_wp2_with fail
              go_loopw [11] (fun dv wr => ∃ (j : Nat) (D : ByteArray), X = List.replicate j 48 ++ X.drop j ∧ j < X.length ∧ dv = .string D ∧ Hid (Tx D (X.drop j)) ∧ Up w wr) (fun dv _ => (match dv with | .string s => s.size | _ => 0))
              case atStart => exact ⟨0, _, rfl, hXp, rfl, HD, by first | exact U | exact U.drewN _⟩
              case round =>
                clear U HD
                obtain ⟨j, D, hj, hjl, rfl, HD, U⟩ := hrel
                have hds := HD.out.size
                rw [List.length_drop] at hds
                have hDs : D.size ≤ 5000 := by omega
                have hD0 : 0 < D.size := by omega
                have f0 : decide (0 < D.size) = true := decide_eq_true hD0
                obtain ⟨ch, hch⟩ : ∃ ch, (X.drop j).headD 0 = ch := ⟨_, rfl⟩
                have hix : ((D[0]).toNat : Int) = (ch.toNat : Int) := by
                  rw [HD.out.get 0 hD0, ← hch]
                  cases X.drop j <;> rfl
                by_cases hgo : 1 < D.size ∧ ch = 48
                · obtain ⟨g1, g2⟩ := hgo
                  have f1 : decide ((1 : Int) < (D.size : Int)) = true := decide_eq_true (by omega)
                  have f2 : decide (1 < D.size) = true := decide_eq_true g1
                  have f3 : ((ch.toNat : Int) == 48) = true := by rw [g2]; rfl
                  obtain ⟨D2, e2, T2⟩ := ext16 D _ HD 1 D.size
                  have hnx : X.drop j = 48 :: X.drop (j + 1) := by
                    have := M.drop_at hjl
                    rw [this] at hch ⊢
                    rw [show X.getD j 0 = 48 from hch.trans g2]
                  have T3 : Hid (Tx D2 (X.drop (j + 1))) := by
                    have e : ((X.drop j).drop 1).take (D.size - 1) = X.drop (j + 1) := by
                      rw [hnx]
                      show (X.drop (j + 1)).take _ = _
                      exact List.take_of_length_le (by rw [List.length_drop]; omega)
                    rw [e] at T2
                    exact T2
                  have hj2 : X = List.replicate (j + 1) 48 ++ X.drop (j + 1) := by
                    rw [List.replicate_succ', List.append_assoc]
                    show X = List.replicate j 48 ++ (48 :: X.drop (j + 1))
                    rw [← hnx]
                    exact hj
                  have hz2 : D2.size < D.size := by
                    rw [T3.out.size, List.length_drop]; omega
                  have hjn : j + 1 < X.length := by omega
                  clear g2 hch hnx T2 hds
                  go_wp2_with fail
                  go_roundw
                  case rel => exact ⟨j + 1, D2, hj2, hjn, by first | rfl | rw [e2], T3, U⟩
                  case measure => first | exact hz2 | (simp only [e2]; exact hz2) | (rw [e2]; exact hz2)
                · have hcond : (X.drop j).headD 0 ≠ 48 ∨ (X.drop j).length = 1 := by
                    rw [hch, List.length_drop]
                    by_cases h : ch = 48
                    · exact .inr (by have : ¬ 1 < D.size := fun h1 => hgo ⟨h1, h⟩; omega)
                    · exact .inl h
                  have hlen := hdl j hcond
                  have hval := hvs j hj
                  obtain ⟨Y, hY⟩ : ∃ Y, X.drop j = Y := ⟨_, rfl⟩
                  have hYd : M.allD Y = true := by rw [← hY]; exact (M.allD_drop16 hXd j)
                  have hY0 : Y ≠ [] := by
                    intro e
                    have : Y.length = 0 := by rw [e]; rfl
                    rw [← hY, List.length_drop] at this
                    omega
                  rw [hY] at hcond hlen hval HD hch
                  have hYl : Y.length = D.size := HD.out.size.symm
                  have hhz : Y.headD 0 ≠ 48 ∨ Y = [48] := by
                    rcases hcond with h | h
                    · exact .inl h
                    · by_cases h3 : Y.headD 0 = 48
                      · right
                        obtain ⟨y, hy⟩ : ∃ y, Y = [y] := List.length_eq_one_iff.1 h
                        rw [hy] at h3 ⊢
                        rw [show y = 48 from h3]
                      · exact .inl h3
                  have CN1 := Lib.hid (fun Z => CNu.out Z D Y HD.out hY0 hlen hhz)
                  rw [hYl] at hlen
                  have hexit : (¬ 1 < D.size) ∨ (1 < D.size ∧ ch ≠ 48) := by
                    by_cases h : 1 < D.size
                    · exact .inr ⟨h, fun e => hgo ⟨h, e⟩⟩
                    · exact .inl h
                  clear hgo hcond hhz hY0 hch hds
                  rcases hexit with g1 | ⟨g1, g2⟩
                  · have f1 : decide ((1 : Int) < (D.size : Int)) = false := decide_eq_false (by omega)
                    have f2 : decide (1 < D.size) = false := decide_eq_false g1
                    go_wp2_with fail
                    refine (CN1.out _).mono ?_
                    rintro _ w2 ⟨v2, rfl, H2, u2⟩
                    replace H2 := (hval ▸ H2 hYd : Nh _ _ _ _ V).more (s' := 2000) (by omega)
                    replace U := Up.trans (by first | exact U | exact U.drew | exact U.drewN _) u2
                    obtain ⟨A2, n2, c2, rfl, H2⟩ := H2.slr
                    rw [hYd]
                    clear u2
                    go_wp2_with fail
                    refine (CW1.out _ _ _ (by first | exact H2 | exact H2.up ((Up.refl _).drew) | exact H2.up ((Up.refl _).drewN _))).mono ?_
                    rintro _ w3 ⟨v3, rfl, N3, u3⟩
                    replace U := Up.trans (by first | exact U | exact U.drew | exact U.drewN _) u3
                    obtain ⟨A3, n3, c3, rfl, N3⟩ := N3.slr
                    clear H2 u3
                    go_upto_region 31 with fail
                    obtain ⟨V1, hV1⟩ : ∃ V1, w3.alloc (.cells #[.bool false, .slice A3 n3 c3, .int .i64 0, .int .i64 0] 46) = V1 := ⟨_, rfl⟩
                    have XA : Ob V1 w3.heap.size 46 #[.bool false, .slice A3 n3 c3, .int .i64 0, .int .i64 0] := by rw [← hV1]; exact Ob.mk_ _ _ _
                    have uV : Up w3 V1 := by rw [← hV1]; exact (Up.refl _).alloc _
                    rw [hV1]
                    clear hV1
                    replace U := U.trans uV
                    replace N3 := N3.up uV
                    clear uV
                    go_wp2_with fail
                    refine (CH1.out _ (by first | exact U | exact U.drew | exact U.drewN _)).mono ?_
                    rintro _ w4 ⟨v4, rfl, H4, u4⟩
                    replace U := Up.trans (by first | exact U | exact U.drew | exact U.drewN _) u4
                    replace N3 := N3.up (Up.trans (by first | exact Up.refl _ | exact (Up.refl _).drew | exact (Up.refl _).drewN _) u4)
                    replace XA := XA.up (Up.trans (by first | exact Up.refl _ | exact (Up.refl _).drew | exact (Up.refl _).drewN _) u4)
                    obtain ⟨A4, n4, c4, rfl, H4⟩ := H4.slr
                    clear u4
                    go_wp2_with fail
                    refine (CW2.out _ _ _ (by first | exact H4 | exact H4.up ((Up.refl _).drew) | exact H4.up ((Up.refl _).drewN _))).mono ?_
                    rintro _ w5 ⟨v5, rfl, N5, u5⟩
                    replace U := Up.trans (by first | exact U | exact U.drew | exact U.drewN _) u5
                    replace N3 := N3.up (Up.trans (by first | exact Up.refl _ | exact (Up.refl _).drew | exact (Up.refl _).drewN _) u5)
                    replace XA := XA.up (Up.trans (by first | exact Up.refl _ | exact (Up.refl _).drew | exact (Up.refl _).drewN _) u5)
                    obtain ⟨A5, n5, c5, rfl, N5⟩ := N5.slr
                    clear u5 H4
                    go_upto_region 32 with fail
                    obtain ⟨V2, hV2⟩ : ∃ V2, w5.alloc (.cells #[.bool false, .slice A5 n5 c5, .int .i64 e, .int .i64 0] 46) = V2 := ⟨_, rfl⟩
                    have XB : Ob V2 w5.heap.size 46 #[.bool false, .slice A5 n5 c5, .int .i64 e, .int .i64 0] := by rw [← hV2]; exact Ob.mk_ _ _ _
                    have uV : Up w5 V2 := by rw [← hV2]; exact (Up.refl _).alloc _
                    rw [hV2]
                    clear hV2
                    replace U := U.trans uV
                    replace N3 := N3.up uV
                    replace N5 := N5.up uV
                    replace XA := XA.up uV
                    clear uV
                    have XA0 := XA.get 0
                    have XA1 := XA.get 1
                    have XA2 := XA.get 2
                    have XA3 := XA.get 3
                    have XB0 := XB.get 0
                    have XB1 := XB.get 1
                    have XB2 := XB.get 2
                    have XB3 := XB.get 3
                    simp only [List.getElem?_toArray, List.getElem?_cons_zero, List.getElem?_cons_succ] at XA0 XA1 XA2 XA3 XB0 XB1 XB2 XB3
                    go_wp2_with fail
                    clear XA0 XA1 XA2 XA3 XB0 XB1 XB2 XB3
                    refine (CC.out _ _ _ _ _ (by first | exact N3 | exact N3.up ((Up.refl _).drew) | exact N3.up ((Up.refl _).drewN _)) (by first | exact N5 | exact N5.up ((Up.refl _).drew) | exact N5.up ((Up.refl _).drewN _))).mono ?_
                    rintro _ w6 ⟨rfl, u6⟩
                    replace U := Up.trans (by first | exact U | exact U.drew | exact U.drewN _) u6
                    go_wp2_with fail
                    go_ret
                    exact ⟨by first | rfl | (simp; done), by first | exact U | exact U.drew | exact U.drewN _⟩
                  · have f1 : decide ((1 : Int) < (D.size : Int)) = true := decide_eq_true (by omega)
                    have f2 : decide (1 < D.size) = true := decide_eq_true g1
                    have f3 : ((ch.toNat : Int) == 48) = false := by rw [beq_eq_false_iff_ne]; intro h; exact g2 (UInt8.toNat_inj.1 (by show ch.toNat = 48; omega))
                    go_wp2_with fail
                    refine (CN1.out _).mono ?_
                    rintro _ w2 ⟨v2, rfl, H2, u2⟩
                    replace H2 := (hval ▸ H2 hYd : Nh _ _ _ _ V).more (s' := 2000) (by omega)
                    replace U := Up.trans (by first | exact U | exact U.drew | exact U.drewN _) u2
                    obtain ⟨A2, n2, c2, rfl, H2⟩ := H2.slr
                    rw [hYd]
                    clear u2
                    go_wp2_with fail
                    refine (CW1.out _ _ _ (by first | exact H2 | exact H2.up ((Up.refl _).drew) | exact H2.up ((Up.refl _).drewN _))).mono ?_
                    rintro _ w3 ⟨v3, rfl, N3, u3⟩
                    replace U := Up.trans (by first | exact U | exact U.drew | exact U.drewN _) u3
                    obtain ⟨A3, n3, c3, rfl, N3⟩ := N3.slr
                    clear H2 u3
                    go_upto_region 31 with fail
                    obtain ⟨V1, hV1⟩ : ∃ V1, w3.alloc (.cells #[.bool false, .slice A3 n3 c3, .int .i64 0, .int .i64 0] 46) = V1 := ⟨_, rfl⟩
                    have XA : Ob V1 w3.heap.size 46 #[.bool false, .slice A3 n3 c3, .int .i64 0, .int .i64 0] := by rw [← hV1]; exact Ob.mk_ _ _ _
                    have uV : Up w3 V1 := by rw [← hV1]; exact (Up.refl _).alloc _
                    rw [hV1]
                    clear hV1
                    replace U := U.trans uV
                    replace N3 := N3.up uV
                    clear uV
                    go_wp2_with fail
                    refine (CH1.out _ (by first | exact U | exact U.drew | exact U.drewN _)).mono ?_
                    rintro _ w4 ⟨v4, rfl, H4, u4⟩
                    replace U := Up.trans (by first | exact U | exact U.drew | exact U.drewN _) u4
                    replace N3 := N3.up (Up.trans (by first | exact Up.refl _ | exact (Up.refl _).drew | exact (Up.refl _).drewN _) u4)
                    replace XA := XA.up (Up.trans (by first | exact Up.refl _ | exact (Up.refl _).drew | exact (Up.refl _).drewN _) u4)
                    obtain ⟨A4, n4, c4, rfl, H4⟩ := H4.slr
                    clear u4
                    go_wp2_with fail
                    refine (CW2.out _ _ _ (by first | exact H4 | exact H4.up ((Up.refl _).drew) | exact H4.up ((Up.refl _).drewN _))).mono ?_
                    rintro _ w5 ⟨v5, rfl, N5, u5⟩
                    replace U := Up.trans (by first | exact U | exact U.drew | exact U.drewN _) u5
                    replace N3 := N3.up (Up.trans (by first | exact Up.refl _ | exact (Up.refl _).drew | exact (Up.refl _).drewN _) u5)
                    replace XA := XA.up (Up.trans (by first | exact Up.refl _ | exact (Up.refl _).drew | exact (Up.refl _).drewN _) u5)
                    obtain ⟨A5, n5, c5, rfl, N5⟩ := N5.slr
                    clear u5 H4
                    go_upto_region 32 with fail
                    obtain ⟨V2, hV2⟩ : ∃ V2, w5.alloc (.cells #[.bool false, .slice A5 n5 c5, .int .i64 e, .int .i64 0] 46) = V2 := ⟨_, rfl⟩
                    have XB : Ob V2 w5.heap.size 46 #[.bool false, .slice A5 n5 c5, .int .i64 e, .int .i64 0] := by rw [← hV2]; exact Ob.mk_ _ _ _
                    have uV : Up w5 V2 := by rw [← hV2]; exact (Up.refl _).alloc _
                    rw [hV2]
                    clear hV2
                    replace U := U.trans uV
                    replace N3 := N3.up uV
                    replace N5 := N5.up uV
                    replace XA := XA.up uV
                    clear uV
                    have XA0 := XA.get 0
                    have XA1 := XA.get 1
                    have XA2 := XA.get 2
                    have XA3 := XA.get 3
                    have XB0 := XB.get 0
                    have XB1 := XB.get 1
                    have XB2 := XB.get 2
                    have XB3 := XB.get 3
                    simp only [List.getElem?_toArray, List.getElem?_cons_zero, List.getElem?_cons_succ] at XA0 XA1 XA2 XA3 XB0 XB1 XB2 XB3
                    go_wp2_with fail
                    clear XA0 XA1 XA2 XA3 XB0 XB1 XB2 XB3
                    refine (CC.out _ _ _ _ _ (by first | exact N3 | exact N3.up ((Up.refl _).drew) | exact N3.up ((Up.refl _).drewN _)) (by first | exact N5 | exact N5.up ((Up.refl _).drew) | exact N5.up ((Up.refl _).drewN _))).mono ?_
                    rintro _ w6 ⟨rfl, u6⟩
                    replace U := Up.trans (by first | exact U | exact U.drew | exact U.drewN _) u6
                    go_wp2_with fail
                    go_ret
                    exact ⟨by first | rfl | (simp; done), by first | exact U | exact U.drew | exact U.drewN _⟩
            · have r5 : ((c7.toNat : Int) == 48) = true := by rw [hh]; rfl
              have r6 : decide ((1 : Int) < (TB.size : Int)) = false := decide_eq_false (by omega)
              have r7 : decide (1 < TB.size) = false := decide_eq_false (by omega)
              clear hh2
              go_wp2_with fail
              go_loopw [11] (fun dv wr => ∃ (j : Nat) (D : ByteArray), X = List.replicate j 48 ++ X.drop j ∧ j < X.length ∧ dv = .string D ∧ Hid (Tx D (X.drop j)) ∧ Up w wr) (fun dv _ => (match dv with | .string s => s.size | _ => 0))
              case atStart => exact ⟨0, _, rfl, hXp, rfl, HD, by first | exact U | exact U.drewN _⟩
              case round =>
                clear U HD
                obtain ⟨j, D, hj, hjl, rfl, HD, U⟩ := hrel
                have hds := HD.out.size
                rw [List.length_drop] at hds
                have hDs : D.size ≤ 5000 := by omega
                have hD0 : 0 < D.size := by omega
                have f0 : decide (0 < D.size) = true := decide_eq_true hD0
                obtain ⟨ch, hch⟩ : ∃ ch, (X.drop j).headD 0 = ch := ⟨_, rfl⟩
                have hix : ((D[0]).toNat : Int) = (ch.toNat : Int) := by
                  rw [HD.out.get 0 hD0, ← hch]
                  cases X.drop j <;> rfl
                by_cases hgo : 1 < D.size ∧ ch = 48
                · obtain ⟨g1, g2⟩ := hgo
                  have f1 : decide ((1 : Int) < (D.size : Int)) = true := decide_eq_true (by omega)
                  have f2 : decide (1 < D.size) = true := decide_eq_true g1
                  have f3 : ((ch.toNat : Int) == 48) = true := by rw [g2]; rfl
                  obtain ⟨D2, e2, T2⟩ := ext16 D _ HD 1 D.size
                  have hnx : X.drop j = 48 :: X.drop (j + 1) := by
                    have := M.drop_at hjl
                    rw [this] at hch ⊢
                    rw [show X.getD j 0 = 48 from hch.trans g2]
                  have T3 : Hid (Tx D2 (X.drop (j + 1))) := by
                    have e : ((X.drop j).drop 1).take (D.size - 1) = X.drop (j + 1) := by
                      rw [hnx]
                      show (X.drop (j + 1)).take _ = _
                      exact List.take_of_length_le (by rw [List.length_drop]; omega)
                    rw [e] at T2
                    exact T2
                  have hj2 : X = List.replicate (j + 1) 48 ++ X.drop (j + 1) := by
                    rw [List.replicate_succ', List.append_assoc]
                    show X = List.replicate j 48 ++ (48 :: X.drop (j + 1))
                    rw [← hnx]
                    exact hj
                  have hz2 : D2.size < D.size := by
                    rw [T3.out.size, List.length_drop]; omega
                  have hjn : j + 1 < X.length := by omega
                  clear g2 hch hnx T2 hds
                  go_wp2_with fail
                  go_roundw
                  case rel => exact ⟨j + 1, D2, hj2, hjn, by first | rfl | rw [e2], T3, U⟩
                  case measure => first | exact hz2 | (simp only [e2]; exact hz2) | (rw [e2]; exact hz2)
                · have hcond : (X.drop j).headD 0 ≠ 48 ∨ (X.drop j).length = 1 := by
                    rw [hch, List.length_drop]
                    by_cases h : ch = 48
                    · exact .inr (by have : ¬ 1 < D.size := fun h1 => hgo ⟨h1, h⟩; omega)
                    · exact .inl h
                  have hlen := hdl j hcond
                  have hval := hvs j hj
                  obtain ⟨Y, hY⟩ : ∃ Y, X.drop j = Y := ⟨_, rfl⟩
                  have hYd : M.allD Y = true := by rw [← hY]; exact (M.allD_drop16 hXd j)
                  have hY0 : Y ≠ [] := by
                    intro e
                    have : Y.length = 0 := by rw [e]; rfl
                    rw [← hY, List.length_drop] at this
                    omega
                  rw [hY] at hcond hlen hval HD hch
                  have hYl : Y.length = D.size := HD.out.size.symm
                  have hhz : Y.headD 0 ≠ 48 ∨ Y = [48] := by
                    rcases hcond with h | h
                    · exact .inl h
                    · by_cases h3 : Y.headD 0 = 48
                      · right
                        obtain ⟨y, hy⟩ : ∃ y, Y = [y] := List.length_eq_one_iff.1 h
                        rw [hy] at h3 ⊢
                        rw [show y = 48 from h3]
                      · exact .inl h3
                  have CN1 := Lib.hid (fun Z => CNu.out Z D Y HD.out hY0 hlen hhz)
                  rw [hYl] at hlen
                  have hexit : (¬ 1 < D.size) ∨ (1 < D.size ∧ ch ≠ 48) := by
                    by_cases h : 1 < D.size
                    · exact .inr ⟨h, fun e => hgo ⟨h, e⟩⟩
                    · exact .inl h
                  clear hgo hcond hhz hY0 hch hds
                  rcases hexit with g1 | ⟨g1, g2⟩
                  · have f1 : decide ((1 : Int) < (D.size : Int)) = false := decide_eq_false (by omega)
                    have f2 : decide (1 < D.size) = false := decide_eq_false g1
                    go_wp2_with fail
                    refine (CN1.out _).mono ?_
                    rintro _ w2 ⟨v2, rfl, H2, u2⟩
                    replace H2 := (hval ▸ H2 hYd : Nh _ _ _ _ V).more (s' := 2000) (by omega)
                    replace U := Up.trans (by first | exact U | exact U.drew | exact U.drewN _) u2
                    obtain ⟨A2, n2, c2, rfl, H2⟩ := H2.slr
                    rw [hYd]
                    clear u2
                    go_wp2_with fail
                    refine (CW1.out _ _ _ (by first | exact H2 | exact H2.up ((Up.refl _).drew) | exact H2.up ((Up.refl _).drewN _))).mono ?_
                    rintro _ w3 ⟨v3, rfl, N3, u3⟩
                    replace U := Up.trans (by first | exact U | exact U.drew | exact U.drewN _) u3
                    obtain ⟨A3, n3, c3, rfl, N3⟩ := N3.slr
                    clear H2 u3
                    go_upto_region 31 with fail
                    obtain ⟨V1, hV1⟩ : ∃ V1, w3.alloc (.cells #[.bool false, .slice A3 n3 c3, .int .i64 0, .int .i64 0] 46) = V1 := ⟨_, rfl⟩
                    have XA : Ob V1 w3.heap.size 46 #[.bool false, .slice A3 n3 c3, .int .i64 0, .int .i64 0] := by rw [← hV1]; exact Ob.mk_ _ _ _
                    have uV : Up w3 V1 := by rw [← hV1]; exact (Up.refl _).alloc _
                    rw [hV1]
                    clear hV1
                    replace U := U.trans uV
                    replace N3 := N3.up uV
                    clear uV
                    go_wp2_with fail
                    refine (CH1.out _ (by first | exact U | exact U.drew | exact U.drewN _)).mono ?_
                    rintro _ w4 ⟨v4, rfl, H4, u4⟩
                    replace U := Up.trans (by first | exact U | exact U.drew | exact U.drewN _) u4
                    replace N3 := N3.up (Up.trans (by first | exact Up.refl _ | exact (Up.refl _).drew | exact (Up.refl _).drewN _) u4)
                    replace XA := XA.up (Up.trans (by first | exact Up.refl _ | exact (Up.refl _).drew | exact (Up.refl _).drewN _) u4)
                    obtain ⟨A4, n4, c4, rfl, H4⟩ := H4.slr
                    clear u4
                    go_wp2_with fail
                    refine (CW2.out _ _ _ (by first | exact H4 | exact H4.up ((Up.refl _).drew) | exact H4.up ((Up.refl _).drewN _))).mono ?_
                    rintro _ w5 ⟨v5, rfl, N5, u5⟩
                    replace U := Up.trans (by first | exact U | exact U.drew | exact U.drewN _) u5
                    replace N3 := N3.up (Up.trans (by first | exact Up.refl _ | exact (Up.refl _).drew | exact (Up.refl _).drewN _) u5)
                    replace XA := XA.up (Up.trans (by first | exact Up.refl _ | exact (Up.refl _).drew | exact (Up.refl _).drewN _) u5)
                    obtain ⟨A5, n5, c5, rfl, N5⟩ := N5.slr
                    clear u5 H4
                    go_upto_region 32 with fail
                    obtain ⟨V2, hV2⟩ : ∃ V2, w5.alloc (.cells #[.bool false, .slice A5 n5 c5, .int .i64 e, .int .i64 0] 46) = V2 := ⟨_, rfl⟩
                    have XB : Ob V2 w5.heap.size 46 #[.bool false, .slice A5 n5 c5, .int .i64 e, .int .i64 0] := by rw [← hV2]; exact Ob.mk_ _ _ _
                    have uV : Up w5 V2 := by rw [← hV2]; exact (Up.refl _).alloc _
                    rw [hV2]
                    clear hV2
                    replace U := U.trans uV
                    replace N3 := N3.up uV
                    replace N5 := N5.up uV
                    replace XA := XA.up uV
                    clear uV
                    have XA0 := XA.get 0
                    have XA1 := XA.get 1
                    have XA2 := XA.get 2
                    have XA3 := XA.get 3
                    have XB0 := XB.get 0
                    have XB1 := XB.get 1
                    have XB2 := XB.get 2
                    have XB3 := XB.get 3
                    simp only [List.getElem?_toArray, List.getElem?_cons_zero, List.getElem?_cons_succ] at XA0 XA1 XA2 XA3 XB0 XB1 XB2 XB3
                    go_wp2_with fail
                    clear XA0 XA1 XA2 XA3 XB0 XB1 XB2 XB3
                    refine (CC.out _ _ _ _ _ (by first | exact N3 | exact N3.up ((Up.refl _).drew) | exact N3.up ((Up.refl _).drewN _)) (by first | exact N5 | exact N5.up ((Up.refl _).drew) | exact N5.up ((Up.refl _).drewN _))).mono ?_
                    rintro _ w6 ⟨rfl, u6⟩
                    replace U := Up.trans (by first | exact U | exact U.drew | exact U.drewN _) u6
                    go_wp2_with fail
                    go_ret
                    exact ⟨by first | rfl | (simp; done), by first | exact U | exact U.drew | exact U.drewN _⟩
                  · have f1 : decide ((1 : Int) < (D.size : Int)) = true := decide_eq_true (by omega)
                    have f2 : decide (1 < D.size) = true := decide_eq_true g1
                    have f3 : ((ch.toNat : Int) == 48) = false := by rw [beq_eq_false_iff_ne]; intro h; exact g2 (UInt8.toNat_inj.1 (by show ch.toNat = 48; omega))
                    go_wp2_with fail
                    refine (CN1.out _).mono ?_
                    rintro _ w2 ⟨v2, rfl, H2, u2⟩
                    replace H2 := (hval ▸ H2 hYd : Nh _ _ _ _ V).more (s' := 2000) (by omega)
                    replace U := Up.trans (by first | exact U | exact U.drew | exact U.drewN _) u2
                    obtain ⟨A2, n2, c2, rfl, H2⟩ := H2.slr
                    rw [hYd]
                    clear u2
                    go_wp2_with fail
                    refine (CW1.out _ _ _ (by first | exact H2 | exact H2.up ((Up.refl _).drew) | exact H2.up ((Up.refl _).drewN _))).mono ?_
                    rintro _ w3 ⟨v3, rfl, N3, u3⟩
                    replace U := Up.trans (by first | exact U | exact U.drew | exact U.drewN _) u3
                    obtain ⟨A3, n3, c3, rfl, N3⟩ := N3.slr
                    clear H2 u3
                    go_upto_region 31 with fail
                    obtain ⟨V1, hV1⟩ : ∃ V1, w3.alloc (.cells #[.bool false, .slice A3 n3 c3, .int .i64 0, .int .i64 0] 46) = V1 := ⟨_, rfl⟩
                    have XA : Ob V1 w3.heap.size 46 #[.bool false, .slice A3 n3 c3, .int .i64 0, .int .i64 0] := by rw [← hV1]; exact Ob.mk_ _ _ _
                    have uV : Up w3 V1 := by rw [← hV1]; exact (Up.refl _).alloc _
                    rw [hV1]
                    clear hV1
                    replace U := U.trans uV
                    replace N3 := N3.up uV
                    clear uV
                    go_wp2_with fail
                    refine (CH1.out _ (by first | exact U | exact U.drew | exact U.drewN _)).mono ?_
                    rintro _ w4 ⟨v4, rfl, H4, u4⟩
                    replace U := Up.trans (by first | exact U | exact U.drew | exact U.drewN _) u4
                    replace N3 := N3.up (Up.trans (by first | exact Up.refl _ | exact (Up.refl _).drew | exact (Up.refl _).drewN _) u4)
                    replace XA := XA.up (Up.trans (by first | exact Up.refl _ | exact (Up.refl _).drew | exact (Up.refl _).drewN _) u4)
                    obtain ⟨A4, n4, c4, rfl, H4⟩ := H4.slr
                    clear u4
                    go_wp2_with fail
                    refine (CW2.out _ _ _ (by first | exact H4 | exact H4.up ((Up.refl _).drew) | exact H4.up ((Up.refl _).drewN _))).mono ?_
                    rintro _ w5 ⟨v5, rfl, N5, u5⟩
                    replace U := Up.trans (by first | exact U | exact U.drew | exact U.drewN _) u5
                    replace N3 := N3.up (Up.trans (by first | exact Up.refl _ | exact (Up.refl _).drew | exact (Up.refl _).drewN _) u5)
                    replace XA := XA.up (Up.trans (by first | exact Up.refl _ | exact (Up.refl _).drew | exact (Up.refl _).drewN _) u5)
                    obtain ⟨A5, n5, c5, rfl, N5⟩ := N5.slr
                    clear u5 H4
                    go_upto_region 32 with fail
                    obtain ⟨V2, hV2⟩ : ∃ V2, w5.alloc (.cells #[.bool false, .slice A5 n5 c5, .int .i64 e, .int .i64 0] 46) = V2 := ⟨_, rfl⟩
                    have XB : Ob V2 w5.heap.size 46 #[.bool false, .slice A5 n5 c5, .int .i64 e, .int .i64 0] := by rw [← hV2]; exact Ob.mk_ _ _ _
                    have uV : Up w5 V2 := by rw [← hV2]; exact (Up.refl _).alloc _
                    rw [hV2]
                    clear hV2
                    replace U := U.trans uV
                    replace N3 := N3.up uV
                    replace N5 := N5.up uV
                    replace XA := XA.up uV
                    clear uV
                    have XA0 := XA.get 0
                    have XA1 := XA.get 1
                    have XA2 := XA.get 2
                    have XA3 := XA.get 3
                    have XB0 := XB.get 0
                    have XB1 := XB.get 1
                    have XB2 := XB.get 2
                    have XB3 := XB.get 3
                    simp only [List.getElem?_toArray, List.getElem?_cons_zero, List.getElem?_cons_succ] at XA0 XA1 XA2 XA3 XB0 XB1 XB2 XB3
                    go_wp2_with fail
                    clear XA0 XA1 XA2 XA3 XB0 XB1 XB2 XB3
                    refine (CC.out _ _ _ _ _ (by first | exact N3 | exact N3.up ((Up.refl _).drew) | exact N3.up ((Up.refl _).drewN _)) (by first | exact N5 | exact N5.up ((Up.refl _).drew) | exact N5.up ((Up.refl _).drewN _))).mono ?_
                    rintro _ w6 ⟨rfl, u6⟩
                    replace U := Up.trans (by first | exact U | exact U.drew | exact U.drewN _) u6
                    go_wp2_with fail
                    go_ret
                    exact ⟨by first | rfl | (simp; done), by first | exact U | exact U.drew | exact U.drewN _⟩
          · have e5 : (if decide (R ≠ []) = true then (W.length : Int) else -1) = (W.length : Int) := by rw [decide_eq_true hR]; rfl
            rw [e5]
            have hRp : 0 < R.length := List.length_pos_iff.2 hR
            have hBl : TB.size = W.length + 1 + R.length := by rw [hTB, hB, List.length_append, List.length_cons]; omega
            obtain ⟨q, hq⟩ : ∃ q : Nat, TB.size = q + 1 := ⟨TB.size - 1, by omega⟩
            have q1 : q < TB.size := by omega
            have q2 : decide (q < TB.size) = true := decide_eq_true q1
            have q3 : (TB.size : Int) - 1 = (q : Int) := by omega
            obtain ⟨c9, hc9⟩ : ∃ c9, BD.getD q 0 = c9 := ⟨_, rfl⟩
            have q4 : ((TB[q]).toNat : Int) = (c9.toNat : Int) := by rw [TT.out.get q q1, hc9]
            have hlast : c9 ≠ 48 := by
              rcases htl with h | h
              · exact absurd h hR
              · intro e9
                apply h
                have hne : (46 : UInt8) :: R ≠ [] := by simp
                have e10 := M.last_app (a := W) hne
                rw [← hB] at e10
                have e11 : ((46 : UInt8) :: R).getLast? = R.getLast? := M.last_app (a := [46]) hR
                rw [← e11, ← e10, List.getLast?_eq_getElem?, show BD.length - 1 = q by omega]
                rw [List.getD_eq_getElem?_getD, e9] at hc9
                rw [List.getElem?_eq_getElem (by omega)] at hc9 ⊢
                exact congrArg some hc9
            have q5 : ((c9.toNat : Int) == 48) = false := by rw [beq_eq_false_iff_ne]; intro h; exact hlast (UInt8.toNat_inj.1 (by show c9.toNat = 48; omega))
            obtain ⟨WT, e6, TW⟩ := ext16 TB BD TT 0 W.length
            replace TW : Hid (Tx WT W) := by
              have e : (BD.drop 0).take (W.length - 0) = W := by rw [hB]; simp
              rw [e] at TW
              exact TW
            have q6 : (W.length : Int) + 1 - (TB.size : Int) = K := by omega
            have q7 : (K == 0) = false := by rw [beq_eq_false_iff_ne]; omega
            have q8 : W.length ≤ TB.size := by omega
            have hWl5 : W.length ≤ 5000 := by omega
            clear hlast hc9 hq hBl
            have hwz := TW.out.size
            have r0 : decide (0 < WT.size) = true := decide_eq_true (by omega)
            have hw0 : 0 < WT.size := by omega
            obtain ⟨c7, hc7⟩ : ∃ c7, W.headD 0 = c7 := ⟨_, rfl⟩
            have r1 : ((WT[0]).toNat : Int) = (c7.toNat : Int) := by
              rw [TW.out.get 0 hw0, ← hc7]
              cases W <;> rfl
            have r2 : WT.toList.isEmpty = false := by rw [toList_tx TW.out]; cases W; exact absurd rfl hW0; rfl
            have r3 : (WT.toList == []) = false := by rw [toList_tx TW.out]; cases W; exact absurd rfl hW0; rfl
            have r4 : ¬ WT.toList = [] := by rw [toList_tx TW.out]; exact hW0
            have hh : (c7 ≠ 48) ∨ (c7 = 48 ∧ WT.size = 1) := by
              rcases hhd with h | h
              · exact .inl (by rw [← hc7]; exact h)
              · exact .inr ⟨by rw [← hc7, h]; rfl, by rw [hwz, h]; rfl⟩
            clear hwz hc7 hhd htl hTB hX hW0 hK hR hB e5 TW
            rcases hh with hh | ⟨hh, hh2⟩
            · have r5 : ((c7.toNat : Int) == 48) = false := by rw [beq_eq_false_iff_ne]; intro h; exact hh (UInt8.toNat_inj.1 (by show c7.toNat = 48; omega))
              go_wp2_with fail
              go_loopw [11] (fun dv wr => ∃ (j : Nat) (D : ByteArray), X = List.replicate j 48 ++ X.drop j ∧ j < X.length ∧ dv = .string D ∧ Hid (Tx D (X.drop j)) ∧ Up w wr) (fun dv _ => (match dv with | .string s => s.size | _ => 0))
              case atStart => exact ⟨0, _, rfl, hXp, rfl, HD, by first | exact U | exact U.drewN _⟩
              case round =>
                clear U HD
                obtain ⟨j, D, hj, hjl, rfl, HD, U⟩ := hrel
                have hds := HD.out.size
                rw [List.length_drop] at hds
                have hDs : D.size ≤ 5000 := by omega
                have hD0 : 0 < D.size := by omega
                have f0 : decide (0 < D.size) = true := decide_eq_true hD0
                obtain ⟨ch, hch⟩ : ∃ ch, (X.drop j).headD 0 = ch := ⟨_, rfl⟩
                have hix : ((D[0]).toNat : Int) = (ch.toNat : Int) := by
                  rw [HD.out.get 0 hD0, ← hch]
                  cases X.drop j <;> rfl
                by_cases hgo : 1 < D.size ∧ ch = 48
                · obtain ⟨g1, g2⟩ := hgo
                  have f1 : decide ((1 : Int) < (D.size : Int)) = true := decide_eq_true (by omega)
                  have f2 : decide (1 < D.size) = true := decide_eq_true g1
                  have f3 : ((ch.toNat : Int) == 48) = true := by rw [g2]; rfl
                  obtain ⟨D2, e2, T2⟩ := ext16 D _ HD 1 D.size
                  have hnx : X.drop j = 48 :: X.drop (j + 1) := by
                    have := M.drop_at hjl
                    rw [this] at hch ⊢
                    rw [show X.getD j 0 = 48 from hch.trans g2]
                  have T3 : Hid (Tx D2 (X.drop (j + 1))) := by
                    have e : ((X.drop j).drop 1).take (D.size - 1) = X.drop (j + 1) := by
                      rw [hnx]
                      show (X.drop (j + 1)).take _ = _
                      exact List.take_of_length_le (by rw [List.length_drop]; omega)
                    rw [e] at T2
                    exact T2
                  have hj2 : X = List.replicate (j + 1) 48 ++ X.drop (j + 1) := by
                    rw [List.replicate_succ', List.append_assoc]
                    show X = List.replicate j 48 ++ (48 :: X.drop (j + 1))
                    rw [← hnx]
                    exact hj
                  have hz2 : D2.size < D.size := by
                    rw [T3.out.size, List.length_drop]; omega
                  have hjn : j + 1 < X.length := by omega
                  clear g2 hch hnx T2 hds
                  go_wp2_with fail
                  go_roundw
                  case rel => exact ⟨j + 1, D2, hj2, hjn, by first | rfl | rw [e2], T3, U⟩
                  case measure => first | exact hz2 | (simp only [e2]; exact hz2) | (rw [e2]; exact hz2)
                · have hcond : (X.drop j).headD 0 ≠ 48 ∨ (X.drop j).length = 1 := by
                    rw [hch, List.length_drop]
                    by_cases h : ch = 48
                    · exact .inr (by have : ¬ 1 < D.size := fun h1 => hgo ⟨h1, h⟩; omega)
                    · exact .inl h
                  have hlen := hdl j hcond
                  have hval := hvs j hj
                  obtain ⟨Y, hY⟩ : ∃ Y, X.drop j = Y := ⟨_, rfl⟩
                  have hYd : M.allD Y = true := by rw [← hY]; exact (M.allD_drop16 hXd j)
                  have hY0 : Y ≠ [] := by
                    intro e
                    have : Y.length = 0 := by rw [e]; rfl
                    rw [← hY, List.length_drop] at this
                    omega
                  rw [hY] at hcond hlen hval HD hch
                  have hYl : Y.length = D.size := HD.out.size.symm
                  have hhz : Y.headD 0 ≠ 48 ∨ Y = [48] := by
                    rcases hcond with h | h
                    · exact .inl h
                    · by_cases h3 : Y.headD 0 = 48
                      · right
                        obtain ⟨y, hy⟩ : ∃ y, Y = [y] := List.length_eq_one_iff.1 h
                        rw [hy] at h3 ⊢
                        rw [show y = 48 from h3]
                      · exact .inl h3
                  have CN1 := Lib.hid (fun Z => CNu.out Z D Y HD.out hY0 hlen hhz)
                  rw [hYl] at hlen
                  have hexit : (¬ 1 < D.size) ∨ (1 < D.size ∧ ch ≠ 48) := by
                    by_cases h : 1 < D.size
                    · exact .inr ⟨h, fun e => hgo ⟨h, e⟩⟩
                    · exact .inl h
                  clear hgo hcond hhz hY0 hch hds
                  rcases hexit with g1 | ⟨g1, g2⟩
                  · have f1 : decide ((1 : Int) < (D.size : Int)) = false := decide_eq_false (by omega)
                    have f2 : decide (1 < D.size) = false := decide_eq_false g1
                    go_wp2_with fail
                    refine (CN1.out _).mono ?_
                    rintro _ w2 ⟨v2, rfl, H2, u2⟩
                    replace H2 := (hval ▸ H2 hYd : Nh _ _ _ _ V).more (s' := 2000) (by omega)
                    replace U := Up.trans (by first | exact U | exact U.drew | exact U.drewN _) u2
                    obtain ⟨A2, n2, c2, rfl, H2⟩ := H2.slr
                    rw [hYd]
                    clear u2
                    go_wp2_with fail
                    refine (CW1.out _ _ _ (by first | exact H2 | exact H2.up ((Up.refl _).drew) | exact H2.up ((Up.refl _).drewN _))).mono ?_
                    rintro _ w3 ⟨v3, rfl, N3, u3⟩
                    replace U := Up.trans (by first | exact U | exact U.drew | exact U.drewN _) u3
                    obtain ⟨A3, n3, c3, rfl, N3⟩ := N3.slr
                    clear H2 u3
                    go_upto_region 31 with fail
                    obtain ⟨V1, hV1⟩ : ∃ V1, w3.alloc (.cells #[.bool false, .slice A3 n3 c3, .int .i64 K, .int .i64 K] 46) = V1 := ⟨_, rfl⟩
                    have XA : Ob V1 w3.heap.size 46 #[.bool false, .slice A3 n3 c3, .int .i64 K, .int .i64 K] := by rw [← hV1]; exact Ob.mk_ _ _ _
                    have uV : Up w3 V1 := by rw [← hV1]; exact (Up.refl _).alloc _
                    rw [hV1]
                    clear hV1
                    replace U := U.trans uV
                    replace N3 := N3.up uV
                    clear uV
                    go_wp2_with fail
                    refine (CH1.out _ (by first | exact U | exact U.drew | exact U.drewN _)).mono ?_
                    rintro _ w4 ⟨v4, rfl, H4, u4⟩
                    replace U := Up.trans (by first | exact U | exact U.drew | exact U.drewN _) u4
                    replace N3 := N3.up (Up.trans (by first | exact Up.refl _ | exact (Up.refl _).drew | exact (Up.refl _).drewN _) u4)
                    replace XA := XA.up (Up.trans (by first | exact Up.refl _ | exact (Up.refl _).drew | exact (Up.refl _).drewN _) u4)
                    obtain ⟨A4, n4, c4, rfl, H4⟩ := H4.slr
                    clear u4
                    go_wp2_with fail
                    refine (CW2.out _ _ _ (by first | exact H4 | exact H4.up ((Up.refl _).drew) | exact H4.up ((Up.refl _).drewN _))).mono ?_
                    rintro _ w5 ⟨v5, rfl, N5, u5⟩
                    replace U := Up.trans (by first | exact U | exact U.drew | exact U.drewN _) u5
                    replace N3 := N3.up (Up.trans (by first | exact Up.refl _ | exact (Up.refl _).drew | exact (Up.refl _).drewN _) u5)
                    replace XA := XA.up (Up.trans (by first | exact Up.refl _ | exact (Up.refl _).drew | exact (Up.refl _).drewN _) u5)
                    obtain ⟨A5, n5, c5, rfl, N5⟩ := N5.slr
                    clear u5 H4
                    go_upto_region 32 with fail
                    obtain ⟨V2, hV2⟩ : ∃ V2, w5.alloc (.cells #[.bool false, .slice A5 n5 c5, .int .i64 e, .int .i64 0] 46) = V2 := ⟨_, rfl⟩
                    have XB : Ob V2 w5.heap.size 46 #[.bool false, .slice A5 n5 c5, .int .i64 e, .int .i64 0] := by rw [← hV2]; exact Ob.mk_ _ _ _
                    have uV : Up w5 V2 := by rw [← hV2]; exact (Up.refl _).alloc _
                    rw [hV2]
                    clear hV2
                    replace U := U.trans uV
                    replace N3 := N3.up uV
                    replace N5 := N5.up uV
                    replace XA := XA.up uV
                    clear uV
                    have XA0 := XA.get 0
                    have XA1 := XA.get 1
                    have XA2 := XA.get 2
                    have XA3 := XA.get 3
                    have XB0 := XB.get 0
                    have XB1 := XB.get 1
                    have XB2 := XB.get 2
                    have XB3 := XB.get 3
                    simp only [List.getElem?_toArray, List.getElem?_cons_zero, List.getElem?_cons_succ] at XA0 XA1 XA2 XA3 XB0 XB1 XB2 XB3
                    go_wp2_with fail
                    clear XA0 XA1 XA2 XA3 XB0 XB1 XB2 XB3
                    refine (CC.out _ _ _ _ _ (by first | exact N3 | exact N3.up ((Up.refl _).drew) | exact N3.up ((Up.refl _).drewN _)) (by first | exact N5 | exact N5.up ((Up.refl _).drew) | exact N5.up ((Up.refl _).drewN _))).mono ?_
                    rintro _ w6 ⟨rfl, u6⟩
                    replace U := Up.trans (by first | exact U | exact U.drew | exact U.drewN _) u6
                    go_wp2_with fail
                    go_ret
                    exact ⟨by first | rfl | (simp; done), by first | exact U | exact U.drew | exact U.drewN _⟩
                  · have f1 : decide ((1 : Int) < (D.size : Int)) = true := decide_eq_true (by omega)
                    have f2 : decide (1 < D.size) = true := decide_eq_true g1
                    have f3 : ((ch.toNat : Int) == 48) = false := by rw [beq_eq_false_iff_ne]; intro h; exact g2 (UInt8.toNat_inj.1 (by show ch.toNat = 48; omega))
                    go_wp2_with fail
                    refine (CN1.out _).mono ?_
                    rintro _ w2 ⟨v2, rfl, H2, u2⟩
                    replace H2 := (hval ▸ H2 hYd : Nh _ _ _ _ V).more (s' := 2000) (by omega)
                    replace U := Up.trans (by first | exact U | exact U.drew | exact U.drewN _) u2
                    obtain ⟨A2, n2, c2, rfl, H2⟩ := H2.slr
                    rw [hYd]
                    clear u2
                    go_wp2_with fail
                    refine (CW1.out _ _ _ (by first | exact H2 | exact H2.up ((Up.refl _).drew) | exact H2.up ((Up.refl _).drewN _))).mono ?_
                    rintro _ w3 ⟨v3, rfl, N3, u3⟩
                    replace U := Up.trans (by first | exact U | exact U.drew | exact U.drewN _) u3
                    obtain ⟨A3, n3, c3, rfl, N3⟩ := N3.slr
                    clear H2 u3
                    go_upto_region 31 with fail
                    obtain ⟨V1, hV1⟩ : ∃ V1, w3.alloc (.cells #[.bool false, .slice A3 n3 c3, .int .i64 K, .int .i64 K] 46) = V1 := ⟨_, rfl⟩
                    have XA : Ob V1 w3.heap.size 46 #[.bool false, .slice A3 n3 c3, .int .i64 K, .int .i64 K] := by rw [← hV1]; exact Ob.mk_ _ _ _
                    have uV : Up w3 V1 := by rw [← hV1]; exact (Up.refl _).alloc _
                    rw [hV1]
                    clear hV1
                    replace U := U.trans uV
                    replace N3 := N3.up uV
                    clear uV
                    go_wp2_with fail
                    refine (CH1.out _ (by first | exact U | exact U.drew | exact U.drewN _)).mono ?_
                    rintro _ w4 ⟨v4, rfl, H4, u4⟩
                    replace U := Up.trans (by first | exact U | exact U.drew | exact U.drewN _) u4
                    replace N3 := N3.up (Up.trans (by first | exact Up.refl _ | exact (Up.refl _).drew | exact (Up.refl _).drewN _) u4)
                    replace XA := XA.up (Up.trans (by first | exact Up.refl _ | exact (Up.refl _).drew | exact (Up.refl _).drewN _) u4)
                    obtain ⟨A4, n4, c4, rfl, H4⟩ := H4.slr
                    clear u4
                    go_wp2_with fail
                    refine (CW2.out _ _ _ (by first | exact H4 | exact H4.up ((Up.refl _).drew) | exact H4.up ((Up.refl _).drewN _))).mono ?_
                    rintro _ w5 ⟨v5, rfl, N5, u5⟩
                    replace U := Up.trans (by first | exact U | exact U.drew | exact U.drewN _) u5
                    replace N3 := N3.up (Up.trans (by first | exact Up.refl _ | exact (Up.refl _).drew | exact (Up.refl _).drewN _) u5)
                    replace XA := XA.up (Up.trans (by first | exact Up.refl _ | exact (Up.refl _).drew | exact (Up.refl _).drewN _) u5)
                    obtain ⟨A5, n5, c5, rfl, N5⟩ := N5.slr
                    clear u5 H4
                    go_upto_region 32 with fail
                    obtain ⟨V2, hV2⟩ : ∃ V2, w5.alloc (.cells #[.bool false, .slice A5 n5 c5, .int .i64 e, .int .i64 0] 46) = V2 := ⟨_, rfl⟩
                    have XB : Ob V2 w5.heap.size 46 #[.bool false, .slice A5 n5 c5, .int .i64 e, .int .i64 0] := by rw [← hV2]; exact Ob.mk_ _ _ _
                    have uV : Up w5 V2 := by rw [← hV2]; exact (Up.refl _).alloc _
                    rw [hV2]
                    clear hV2
                    replace U := U.trans uV
                    replace N3 := N3.up uV
                    replace N5 := N5.up uV
                    replace XA := XA.up uV
                    clear uV
                    have XA0 := XA.get 0
                    have XA1 := XA.get 1
                    have XA2 := XA.get 2
                    have XA3 := XA.get 3
                    have XB0 := XB.get 0
                    have XB1 := XB.get 1
                    have XB2 := XB.get 2
                    have XB3 := XB.get 3
                    simp only [List.getElem?_toArray, List.getElem?_cons_zero, List.getElem?_cons_succ] at XA0 XA1 XA2 XA3 XB0 XB1 XB2 XB3
                    go_wp2_with fail
                    clear XA0 XA1 XA2 XA3 XB0 XB1 XB2 XB3
                    refine (CC.out _ _ _ _ _ (by first | exact N3 | exact N3.up ((Up.refl _).drew) | exact N3.up ((Up.refl _).drewN _)) (by first | exact N5 | exact N5.up ((Up.refl _).drew) | exact N5.up ((Up.refl _).drewN _))).mono ?_
                    rintro _ w6 ⟨rfl, u6⟩
                    replace U := Up.trans (by first | exact U | exact U.drew | exact U.drewN _) u6
                    go_wp2_with fail
                    go_ret
                    exact ⟨by first | rfl | (simp; done), by first | exact U | exact U.drew | exact U.drewN _⟩
            · have r5 : ((c7.toNat : Int) == 48) = true := by rw [hh]; rfl
              have r6 : decide ((1 : Int) < (WT.size : Int)) = false := decide_eq_false (by omega)
              have r7 : decide (1 < WT.size) = false := decide_eq_false (by omega)
              clear hh2
              go_wp2_with fail
              go_loopw [11] (fun dv wr => ∃ (j : Nat) (D : ByteArray), X = List.replicate j 48 ++ X.drop j ∧ j < X.length ∧ dv = .string D ∧ Hid (Tx D (X.drop j)) ∧ Up w wr) (fun dv _ => (match dv with | .string s => s.size | _ => 0))
              case atStart => exact ⟨0, _, rfl, hXp, rfl, HD, by first | exact U | exact U.drewN _⟩
              case round =>
                clear U HD
                obtain ⟨j, D, hj, hjl, rfl, HD, U⟩ := hrel
                have hds := HD.out.size
                rw [List.length_drop] at hds
                have hDs : D.size ≤ 5000 := by omega
                have hD0 : 0 < D.size := by omega
                have f0 : decide (0 < D.size) = true := decide_eq_true hD0
                obtain ⟨ch, hch⟩ : ∃ ch, (X.drop j).headD 0 = ch := ⟨_, rfl⟩
                have hix : ((D[0]).toNat : Int) = (ch.toNat : Int) := by
                  rw [HD.out.get 0 hD0, ← hch]
                  cases X.drop j <;> rfl
                by_cases hgo : 1 < D.size ∧ ch = 48
                · obtain ⟨g1, g2⟩ := hgo
                  have f1 : decide ((1 : Int) < (D.size : Int)) = true := decide_eq_true (by omega)
                  have f2 : decide (1 < D.size) = true := decide_eq_true g1
                  have f3 : ((ch.toNat : Int) == 48) = true := by rw [g2]; rfl
                  obtain ⟨D2, e2, T2⟩ := ext16 D _ HD 1 D.size
                  have hnx : X.drop j = 48 :: X.drop (j + 1) := by
                    have := M.drop_at hjl
                    rw [this] at hch ⊢
                    rw [show X.getD j 0 = 48 from hch.trans g2]
                  have T3 : Hid (Tx D2 (X.drop (j + 1))) := by
                    have e : ((X.drop j).drop 1).take (D.size - 1) = X.drop (j + 1) := by
                      rw [hnx]
                      show (X.drop (j + 1)).take _ = _
                      exact List.take_of_length_le (by rw [List.length_drop]; omega)
                    rw [e] at T2
                    exact T2
                  have hj2 : X = List.replicate (j + 1) 48 ++ X.drop (j + 1) := by
                    rw [List.replicate_succ', List.append_assoc]
                    show X = List.replicate j 48 ++ (48 :: X.drop (j + 1))
                    rw [← hnx]
                    exact hj
                  have hz2 : D2.size < D.size := by
                    rw [T3.out.size, List.length_drop]; omega
                  have hjn : j + 1 < X.length := by omega
                  clear g2 hch hnx T2 hds
                  go_wp2_with fail
                  go_roundw
                  case rel => exact ⟨j + 1, D2, hj2, hjn, by first | rfl | rw [e2], T3, U⟩
                  case measure => first | exact hz2 | (simp only [e2]; exact hz2) | (rw [e2]; exact hz2)
                · have hcond : (X.drop j).headD 0 ≠ 48 ∨ (X.drop j).length = 1 := by
                    rw [hch, List.length_drop]
                    by_cases h : ch = 48
                    · exact .inr (by have : ¬ 1 < D.size := fun h1 => hgo ⟨h1, h⟩; omega)
                    · exact .inl h
                  have hlen := hdl j hcond
                  have hval := hvs j hj
                  obtain ⟨Y, hY⟩ : ∃ Y, X.drop j = Y := ⟨_, rfl⟩
                  have hYd : M.allD Y = true := by rw [← hY]; exact (M.allD_drop16 hXd j)
                  have hY0 : Y ≠ [] := by
                    intro e
                    have : Y.length = 0 := by rw [e]; rfl
                    rw [← hY, List.length_drop] at this
                    omega
                  rw [hY] at hcond hlen hval HD hch
                  have hYl : Y.length = D.size := HD.out.size.symm
                  have hhz : Y.headD 0 ≠ 48 ∨ Y = [48] := by
                    rcases hcond with h | h
                    · exact .inl h
                    · by_cases h3 : Y.headD 0 = 48
                      · right
                        obtain ⟨y, hy⟩ : ∃ y, Y = [y] := List.length_eq_one_iff.1 h
                        rw [hy] at h3 ⊢
                        rw [show y = 48 from h3]
                      · exact .inl h3
                  have CN1 := Lib.hid (fun Z => CNu.out Z D Y HD.out hY0 hlen hhz)
                  rw [hYl] at hlen
                  have hexit : (¬ 1 < D.size) ∨ (1 < D.size ∧ ch ≠ 48) := by
                    by_cases h : 1 < D.size
                    · exact .inr ⟨h, fun e => hgo ⟨h, e⟩⟩
                    · exact .inl h
                  clear hgo hcond hhz hY0 hch hds
                  rcases hexit with g1 | ⟨g1, g2⟩
                  · have f1 : decide ((1 : Int) < (D.size : Int)) = false := decide_eq_false (by omega)
                    have f2 : decide (1 < D.size) = false := decide_eq_false g1
                    go_wp2_with fail
                    refine (CN1.out _).mono ?_
                    rintro _ w2 ⟨v2, rfl, H2, u2⟩
                    replace H2 := (hval ▸ H2 hYd : Nh _ _ _ _ V).more (s' := 2000) (by omega)
                    replace U := Up.trans (by first | exact U | exact U.drew | exact U.drewN _) u2
                    obtain ⟨A2, n2, c2, rfl, H2⟩ := H2.slr
                    rw [hYd]
                    clear u2
                    go_wp2_with fail
                    refine (CW1.out _ _ _ (by first | exact H2 | exact H2.up ((Up.refl _).drew) | exact H2.up ((Up.refl _).drewN _))).mono ?_
                    rintro _ w3 ⟨v3, rfl, N3, u3⟩
                    replace U := Up.trans (by first | exact U | exact U.drew | exact U.drewN _) u3
                    obtain ⟨A3, n3, c3, rfl, N3⟩ := N3.slr
                    clear H2 u3
                    go_upto_region 31 with fail
                    obtain ⟨V1, hV1⟩ : ∃ V1, w3.alloc (.cells #[.bool false, .slice A3 n3 c3, .int .i64 K, .int .i64 K] 46) = V1 := ⟨_, rfl⟩
                    have XA : Ob V1 w3.heap.size 46 #[.bool false, .slice A3 n3 c3, .int .i64 K, .int .i64 K] := by rw [← hV1]; exact Ob.mk_ _ _ _
                    have uV : Up w3 V1 := by rw [← hV1]; exact (Up.refl _).alloc _
                    rw [hV1]
                    clear hV1
                    replace U := U.trans uV
                    replace N3 := N3.up uV
                    clear uV
                    go_wp2_with fail
                    refine (CH1.out _ (by first | exact U | exact U.drew | exact U.drewN _)).mono ?_
                    rintro _ w4 ⟨v4, rfl, H4, u4⟩
                    replace U := Up.trans (by first | exact U | exact U.drew | exact U.drewN _) u4
                    replace N3 := N3.up (Up.trans (by first | exact Up.refl _ | exact (Up.refl _).drew | exact (Up.refl _).drewN _) u4)
                    replace XA := XA.up (Up.trans (by first | exact Up.refl _ | exact (Up.refl _).drew | exact (Up.refl _).drewN _) u4)
                    obtain ⟨A4, n4, c4, rfl, H4⟩ := H4.slr
                    clear u4
                    go_wp2_with fail
                    refine (CW2.out _ _ _ (by first | exact H4 | exact H4.up ((Up.refl _).drew) | exact H4.up ((Up.refl _).drewN _))).mono ?_
                    rintro _ w5 ⟨v5, rfl, N5, u5⟩
                    replace U := Up.trans (by first | exact U | exact U.drew | exact U.drewN _) u5
                    replace N3 := N3.up (Up.trans (by first | exact Up.refl _ | exact (Up.refl _).drew | exact (Up.refl _).drewN _) u5)
                    replace XA := XA.up (Up.trans (by first | exact Up.refl _ | exact (Up.refl _).drew | exact (Up.refl _).drewN _) u5)
                    obtain ⟨A5, n5, c5, rfl, N5⟩ := N5.slr
                    clear u5 H4
                    go_upto_region 32 with fail
                    obtain ⟨V2, hV2⟩ : ∃ V2, w5.alloc (.cells #[.bool false, .slice A5 n5 c5, .int .i64 e, .int .i64 0] 46) = V2 := ⟨_, rfl⟩
                    have XB : Ob V2 w5.heap.size 46 #[.bool false, .slice A5 n5 c5, .int .i64 e, .int .i64 0] := by rw [← hV2]; exact Ob.mk_ _ _ _
                    have uV : Up w5 V2 := by rw [← hV2]; exact (Up.refl _).alloc _
                    rw [hV2]
                    clear hV2
                    replace U := U.trans uV
                    replace N3 := N3.up uV
                    replace N5 := N5.up uV
                    replace XA := XA.up uV
                    clear uV
                    have XA0 := XA.get 0
                    have XA1 := XA.get 1
                    have XA2 := XA.get 2
                    have XA3 := XA.get 3
                    have XB0 := XB.get 0
                    have XB1 := XB.get 1
                    have XB2 := XB.get 2
                    have XB3 := XB.get 3
                    simp only [List.getElem?_toArray, List.getElem?_cons_zero, List.getElem?_cons_succ] at XA0 XA1 XA2 XA3 XB0 XB1 XB2 XB3
                    go_wp2_with fail
                    clear XA0 XA1 XA2 XA3 XB0 XB1 XB2 XB3
                    refine (CC.out _ _ _ _ _ (by first | exact N3 | exact N3.up ((Up.refl _).drew) | exact N3.up ((Up.refl _).drewN _)) (by first | exact N5 | exact N5.up ((Up.refl _).drew) | exact N5.up ((Up.refl _).drewN _))).mono ?_
                    rintro _ w6 ⟨rfl, u6⟩
                    replace U := Up.trans (by first | exact U | exact U.drew | exact U.drewN _) u6
                    go_wp2_with fail
                    go_ret
                    exact ⟨by first | rfl | (simp; done), by first | exact U | exact U.drew | exact U.drewN _⟩
                  · have f1 : decide ((1 : Int) < (D.size : Int)) = true := decide_eq_true (by omega)
                    have f2 : decide (1 < D.size) = true := decide_eq_true g1
                    have f3 : ((ch.toNat : Int) == 48) = false := by rw [beq_eq_false_iff_ne]; intro h; exact g2 (UInt8.toNat_inj.1 (by show ch.toNat = 48; omega))
                    go_wp2_with fail
                    refine (CN1.out _).mono ?_
                    rintro _ w2 ⟨v2, rfl, H2, u2⟩
                    replace H2 := (hval ▸ H2 hYd : Nh _ _ _ _ V).more (s' := 2000) (by omega)
                    replace U := Up.trans (by first | exact U | exact U.drew | exact U.drewN _) u2
                    obtain ⟨A2, n2, c2, rfl, H2⟩ := H2.slr
                    rw [hYd]
                    clear u2
                    go_wp2_with fail
                    refine (CW1.out _ _ _ (by first | exact H2 | exact H2.up ((Up.refl _).drew) | exact H2.up ((Up.refl _).drewN _))).mono ?_
                    rintro _ w3 ⟨v3, rfl, N3, u3⟩
                    replace U := Up.trans (by first | exact U | exact U.drew | exact U.drewN _) u3
                    obtain ⟨A3, n3, c3, rfl, N3⟩ := N3.slr
                    clear H2 u3
                    go_upto_region 31 with fail
                    obtain ⟨V1, hV1⟩ : ∃ V1, w3.alloc (.cells #[.bool false, .slice A3 n3 c3, .int .i64 K, .int .i64 K] 46) = V1 := ⟨_, rfl⟩
                    have XA : Ob V1 w3.heap.size 46 #[.bool false, .slice A3 n3 c3, .int .i64 K, .int .i64 K] := by rw [← hV1]; exact Ob.mk_ _ _ _
                    have uV : Up w3 V1 := by rw [← hV1]; exact (Up.refl _).alloc _
                    rw [hV1]
                    clear hV1
                    replace U := U.trans uV
                    replace N3 := N3.up uV
                    clear uV
                    go_wp2_with fail
                    refine (CH1.out _ (by first | exact U | exact U.drew | exact U.drewN _)).mono ?_
                    rintro _ w4 ⟨v4, rfl, H4, u4⟩
                    replace U := Up.trans (by first | exact U | exact U.drew | exact U.drewN _) u4
                    replace N3 := N3.up (Up.trans (by first | exact Up.refl _ | exact (Up.refl _).drew | exact (Up.refl _).drewN _) u4)
                    replace XA := XA.up (Up.trans (by first | exact Up.refl _ | exact (Up.refl _).drew | exact (Up.refl _).drewN _) u4)
                    obtain ⟨A4, n4, c4, rfl, H4⟩ := H4.slr
                    clear u4
                    go_wp2_with fail
                    refine (CW2.out _ _ _ (by first | exact H4 | exact H4.up ((Up.refl _).drew) | exact H4.up ((Up.refl _).drewN _))).mono ?_
                    rintro _ w5 ⟨v5, rfl, N5, u5⟩
                    replace U := Up.trans (by first | exact U | exact U.drew | exact U.drewN _) u5
                    replace N3 := N3.up (Up.trans (by first | exact Up.refl _ | exact (Up.refl _).drew | exact (Up.refl _).drewN _) u5)
                    replace XA := XA.up (Up.trans (by first | exact Up.refl _ | exact (Up.refl _).drew | exact (Up.refl _).drewN _) u5)
                    obtain ⟨A5, n5, c5, rfl, N5⟩ := N5.slr
                    clear u5 H4
                    go_upto_region 32 with fail
                    obtain ⟨V2, hV2⟩ : ∃ V2, w5.alloc (.cells #[.bool false, .slice A5 n5 c5, .int .i64 e, .int .i64 0] 46) = V2 := ⟨_, rfl⟩
                    have XB : Ob V2 w5.heap.size 46 #[.bool false, .slice A5 n5 c5, .int .i64 e, .int .i64 0] := by rw [← hV2]; exact Ob.mk_ _ _ _
                    have uV : Up w5 V2 := by rw [← hV2]; exact (Up.refl _).alloc _
                    rw [hV2]
                    clear hV2
                    replace U := U.trans uV
                    replace N3 := N3.up uV
                    replace N5 := N5.up uV
                    replace XA := XA.up uV
                    clear uV
                    have XA0 := XA.get 0
                    have XA1 := XA.get 1
                    have XA2 := XA.get 2
                    have XA3 := XA.get 3
                    have XB0 := XB.get 0
                    have XB1 := XB.get 1
                    have XB2 := XB.get 2
                    have XB3 := XB.get 3
                    simp only [List.getElem?_toArray, List.getElem?_cons_zero, List.getElem?_cons_succ] at XA0 XA1 XA2 XA3 XB0 XB1 XB2 XB3
                    go_wp2_with fail
                    clear XA0 XA1 XA2 XA3 XB0 XB1 XB2 XB3
                    refine (CC.out _ _ _ _ _ (by first | exact N3 | exact N3.up ((Up.refl _).drew) | exact N3.up ((Up.refl _).drewN _)) (by first | exact N5 | exact N5.up ((Up.refl _).drew) | exact N5.up ((Up.refl _).drewN _))).mono ?_
                    rintro _ w6 ⟨rfl, u6⟩
                    replace U := Up.trans (by first | exact U | exact U.drew | exact U.drewN _) u6
                    go_wp2_with fail
                    go_ret
                    exact ⟨by first | rfl | (simp; done), by first | exact U | exact U.drew | exact U.drewN _⟩
    · go_enter Tryz.func12, Tryz.ntmps12
      go_wp2_with fail
      refine (CH1.out _ (by first | exact U | exact U.drew | exact U.drewN _)).mono ?_
      rintro _ w1 ⟨v1, rfl, H1, u1⟩
      replace U := Up.trans (by first | exact U | exact U.drew | exact U.drewN _) u1
      obtain ⟨A1, n1, c1, rfl, H1⟩ := H1.slr
      have hn1 := H1.nil16
      clear H1 u1
      have hz1 : (n1 : Int) ≠ 0 := by
        have : a ≠ 0 := by simpa using hdz
        omega
      have hz2 : ((n1 : Int) == 0) = false := by simpa using hz1
      clear hn1 hdz
      replace HT0 : Hid (Tx S ([45] ++ BD)) := HT0
      have HSZ := HT0.out.size
      rw [List.length_append] at HSZ
      replace HSZ : S.size = 1 + BD.length := HSZ
      have hs0 : 0 < S.size := by omega
      have b2 : decide (0 < S.size) = true := decide_eq_true hs0
      have b3 : ((S[0]).toNat : Int) = 45 := by rw [HT0.out.get 0 hs0]; rfl
      have b4 : S.toList.isEmpty = false := by rw [show S.toList = [45] ++ BD from (toList_tx HT0.out)]; rfl
      have b5 : (S.toList == []) = false := by rw [show S.toList = [45] ++ BD from (toList_tx HT0.out)]; rfl
      have b6 : ¬ S.toList = [] := by rw [show S.toList = [45] ++ BD from (toList_tx HT0.out)]; simp
      obtain ⟨TB, e1, TT⟩ := ext16 S _ HT0 1 S.size
      replace TT : Hid (Tx TB BD) := by
        have e : (([45] ++ BD).drop 1).take (S.size - 1) = BD := by
          show BD.take _ = BD
          exact List.take_of_length_le (by omega)
        rw [e] at TT
        exact TT
      have hTB := TT.out.size
      have hTs : TB.size ≤ 5000 := by rw [hTB]; exact hlb
      have HTB := Lib.hid hTB
      clear hTB HSZ
      go_wp2_with fail
      go_loopw [10, 11, 12] (fun pv dv iv wr => ∃ (i : Nat) (D : ByteArray), i ≤ BD.length ∧ pv = .int .i64 (if M.pnt (BD.take i) then (W.length : Int) else -1) ∧ dv = .string D ∧ iv = .int .i64 (i : Int) ∧ Hid (Tx D (M.fl (BD.take i))) ∧ Up w wr) (fun _ _ iv _ => BD.length - (Lib.intOf iv).toNat)
      case atStart => exact ⟨0, _, Nat.zero_le _, rfl, rfl, rfl, Lib.hid (Tx.lit []), by first | exact U | exact U.drewN _⟩
      case round =>
        clear U
        obtain ⟨i, D, hi, rfl, rfl, rfl, HD, U⟩ := hrel
        have hTB := HTB.out
        have hDs : D.size ≤ 5000 := by
          rw [HD.out.size]
          have := M.fl_len BD i
          omega
        by_cases hlt : i < BD.length
        · have d2 : decide ((i : Int) < (TB.size : Int)) = true := decide_eq_true (by omega)
          have d3 : decide (i < TB.size) = true := decide_eq_true (by omega)
          have hp := M.pnt_take hlt
          have hf := M.fl_take hlt
          have hb := hby i hlt
          have hit : i < TB.size := by omega
          obtain ⟨cc, hcc⟩ : ∃ cc, BD.getD i 0 = cc := ⟨_, rfl⟩
          have hix : ((TB[i]).toNat : Int) = (cc.toNat : Int) := by rw [TT.out.get i hit, hcc]
          have hone : (BD.drop i).take (i + 1 - i) = [cc] := by
            rw [M.drop_at hlt, show i + 1 - i = 1 by omega, hcc]
            rfl
          rw [hcc] at hp hf hb
          rcases hb with ⟨h1, h2, h3⟩ | ⟨h1, h2⟩
          · have k1 : ((cc.toNat : Int) == 46) = true := by rw [h1]; rfl
            rw [h3]
            rw [h1] at hp hf
            have E1 : M.pnt (BD.take (i + 1)) = true := by rw [hp]; simp
            have HD2 : Hid (Tx D (M.fl (BD.take (i + 1)))) := by rw [hf, if_pos rfl, List.append_nil]; exact HD
            have E2 := Lib.hid E1
            have h2' : (i : Int) = (W.length : Int) := by omega
            have E3 := Lib.hid h2'
            clear E1 hp hf HD h1 h2 h2' h3 hcc hTB hone
            go_wp2_with fail
            go_roundw
            case rel => exact ⟨i + 1, D, by omega, by rw [E2.out, if_pos rfl]; first | rfl | rw [E3.out], rfl, by go_num, HD2, U⟩
            case measure => simp [Lib.intOf]; omega
          · have k0 : cc ≠ 46 := fun e => by rw [e] at h1; revert h1; decide
            have k1 : ((cc.toNat : Int) == 46) = false := by rw [beq_eq_false_iff_ne]; intro h; exact k0 (UInt8.toNat_inj.1 (by show cc.toNat = 46; omega))
            have k2 : decide ((cc.toNat : Int) < 48) = false := decide_eq_false (by omega)
            have k3 : decide ((57 : Int) < (cc.toNat : Int)) = false := decide_eq_false (by omega)
            obtain ⟨P, hP⟩ : ∃ P : Int, (if M.pnt (BD.take i) then (W.length : Int) else -1) = P := ⟨_, rfl⟩
            obtain ⟨S1, g1, T1⟩ := ext16 TB BD TT i (i + 1)
            rw [hone] at T1
            have z1 : S1.size ≤ 1 := by rw [T1.out.size]; simp
            obtain ⟨D2, g2, T2, y2⟩ := cat16 D S1 _ _ 5001 HD T1 (by omega)
            rw [if_neg k0] at hf
            have HD2 : Hid (Tx D2 (M.fl (BD.take (i + 1)))) := by rw [hf]; exact T2
            have E1 : M.pnt (BD.take (i + 1)) = M.pnt (BD.take i) := by rw [hp, beq_eq_false_iff_ne.2 k0, Bool.or_false]
            have E2 : Hid ((if M.pnt (BD.take (i + 1)) then (W.length : Int) else -1) = P) := by rw [E1]; exact hP
            rw [hP]
            clear E1 hp hf HD h1 h2 k0 hcc hTB hone T1 T2 hP
            go_wp2_with fail
            go_roundw
            case rel => exact ⟨i + 1, D2, by omega, by rw [E2.out], by first | rfl | rw [g2], by go_num, HD2, U⟩
            case measure => simp [Lib.intOf]; omega
        · have d2 : decide ((i : Int) < (TB.size : Int)) = false := decide_eq_false (by omega)
          have d3 : decide (i < TB.size) = false := decide_eq_false (by omega)
          have hiE : BD.take i = BD := List.take_of_length_le (by omega)
          rw [hiE] at HD
          rw [hfl] at HD
          rw [hiE, hpn]
          clear hiE hlt hi hpn hfl hby
          rcases hWR with ⟨hR, hB⟩ | ⟨hR, hB⟩
          · have e5 : (if decide (R ≠ []) = true then (W.length : Int) else -1) = -1 := by rw [hR]; rfl
            rw [e5]
            have TW : Hid (Tx TB W) := by rw [← hB]; exact TT
            obtain rfl : K = 0 := by rw [← hK, hR]; rfl
            have hwz := TW.out.size
            have r0 : decide (0 < TB.size) = true := decide_eq_true (by omega)
            have hw0 : 0 < TB.size := by omega
            obtain ⟨c7, hc7⟩ : ∃ c7, W.headD 0 = c7 := ⟨_, rfl⟩
            have r1 : ((TB[0]).toNat : Int) = (c7.toNat : Int) := by
              rw [TW.out.get 0 hw0, ← hc7]
              cases W <;> rfl
            have r2 : TB.toList.isEmpty = false := by rw [toList_tx TW.out]; cases W; exact absurd rfl hW0; rfl
            have r3 : (TB.toList == []) = false := by rw [toList_tx TW.out]; cases W; exact absurd rfl hW0; rfl
            have r4 : ¬ TB.toList = [] := by rw [toList_tx TW.out]; exact hW0
            have hh : (c7 ≠ 48) ∨ (c7 = 48 ∧ TB.size = 1) := by
              rcases hhd with h | h
              · exact .inl (by rw [← hc7]; exact h)
              · exact .inr ⟨by rw [← hc7, h]; rfl, by rw [hwz, h]; rfl⟩
            clear hwz hc7 hhd htl hTB hX hW0 hK hR hB e5 TW
            rcases hh with hh | ⟨hh, hh2⟩
            · have r5 : ((c7.toNat : Int) == 48) = false := by rw [beq_eq_false_iff_ne]; intro h; exact hh (UInt8.toNat_inj.1 (by show c7.toNat = 48; omega))
              go_wp2_with fail
              go_loopw [11] (fun dv wr => ∃ (j : Nat) (D : ByteArray), X = List.replicate j 48 ++ X.drop j ∧ j < X.length ∧ dv = .string D ∧ Hid (Tx D (X.drop j)) ∧ Up w wr) (fun dv _ => (match dv with | .string s => s.size | _ => 0))
              case atStart => exact ⟨0, _, rfl, hXp, rfl, HD, by first | exact U | exact U.drewN _⟩
              case round =>
                clear U HD
                obtain ⟨j, D, hj, hjl, rfl, HD, U⟩ := hrel
                have hds := HD.out.size
                rw [List.length_drop] at hds
                have hDs : D.size ≤ 5000 := by omega
                have hD0 : 0 < D.size := by omega
                have f0 : decide (0 < D.size) = true := decide_eq_true hD0
                obtain ⟨ch, hch⟩ : ∃ ch, (X.drop j).headD 0 = ch := ⟨_, rfl⟩
                have hix : ((D[0]).toNat : Int) = (ch.toNat : Int) := by
                  rw [HD.out.get 0 hD0, ← hch]
                  cases X.drop j <;> rfl
                by_cases hgo : 1 < D.size ∧ ch = 48
                · obtain ⟨g1, g2⟩ := hgo
                  have f1 : decide ((1 : Int) < (D.size : Int)) = true := decide_eq_true (by omega)
                  have f2 : decide (1 < D.size) = true := decide_eq_true g1
                  have f3 : ((ch.toNat : Int) == 48) = true := by rw [g2]; rfl
                  obtain ⟨D2, e2, T2⟩ := ext16 D _ HD 1 D.size
                  have hnx : X.drop j = 48 :: X.drop (j + 1) := by
                    have := M.drop_at hjl
                    rw [this] at hch ⊢
                    rw [show X.getD j 0 = 48 from hch.trans g2]
                  have T3 : Hid (Tx D2 (X.drop (j + 1))) := by
                    have e : ((X.drop j).drop 1).take (D.size - 1) = X.drop (j + 1) := by
                      rw [hnx]
                      show (X.drop (j + 1)).take _ = _
                      exact List.take_of_length_le (by rw [List.length_drop]; omega)
                    rw [e] at T2
                    exact T2
                  have hj2 : X = List.replicate (j + 1) 48 ++ X.drop (j + 1) := by
                    rw [List.replicate_succ', List.append_assoc]
                    show X = List.replicate j 48 ++ (48 :: X.drop (j + 1))
                    rw [← hnx]
                    exact hj
                  have hz2 : D2.size < D.size := by
                    rw [T3.out.size, List.length_drop]; omega
                  have hjn : j + 1 < X.length := by omega
                  clear g2 hch hnx T2 hds
                  go_wp2_with fail
                  go_roundw
                  case rel => exact ⟨j + 1, D2, hj2, hjn, by first | rfl | rw [e2], T3, U⟩
                  case measure => first | exact hz2 | (simp only [e2]; exact hz2) | (rw [e2]; exact hz2)
                · have hcond : (X.drop j).headD 0 ≠ 48 ∨ (X.drop j).length = 1 := by
                    rw [hch, List.length_drop]
                    by_cases h : ch = 48
                    · exact .inr (by have : ¬ 1 < D.size := fun h1 => hgo ⟨h1, h⟩; omega)
                    · exact .inl h
                  have hlen := hdl j hcond
                  have hval := hvs j hj
                  obtain ⟨Y, hY⟩ : ∃ Y, X.drop j = Y := ⟨_, rfl⟩
                  have hYd : M.allD Y = true := by rw [← hY]; exact (M.allD_drop16 hXd j)
                  have hY0 : Y ≠ [] := by
                    intro e
                    have : Y.length = 0 := by rw [e]; rfl
                    rw [← hY, List.length_drop] at this
                    omega
                  rw [hY] at hcond hlen hval HD hch
                  have hYl : Y.length = D.size := HD.out.size.symm
                  have hhz : Y.headD 0 ≠ 48 ∨ Y = [48] := by
                    rcases hcond with h | h
                    · exact .inl h
                    · by_cases h3 : Y.headD 0 = 48
                      · right
                        obtain ⟨y, hy⟩ : ∃ y, Y = [y] := List.length_eq_one_iff.1 h
                        rw [hy] at h3 ⊢
                        rw [show y = 48 from h3]
                      · exact .inl h3
                  have CN1 := Lib.hid (fun Z => CNu.out Z D Y HD.out hY0 hlen hhz)
                  rw [hYl] at hlen
                  have hexit : (¬ 1 < D.size) ∨ (1 < D.size ∧ ch ≠ 48) := by
                    by_cases h : 1 < D.size
                    · exact .inr ⟨h, fun e => hgo ⟨h, e⟩⟩
                    · exact .inl h
                  clear hgo hcond hhz hY0 hch hds
                  rcases hexit with g1 | ⟨g1, g2⟩
                  · have f1 : decide ((1 : Int) < (D.size : Int)) = false := decide_eq_false (by omega)
                    have f2 : decide (1 < D.size) = false := decide_eq_false g1
                    go_wp2_with fail
                    refine (CN1.out _).mono ?_
                    rintro _ w2 ⟨v2, rfl, H2, u2⟩
                    replace H2 := (hval ▸ H2 hYd : Nh _ _ _ _ V).more (s' := 2000) (by omega)
                    replace U := Up.trans (by first | exact U | exact U.drew | exact U.drewN _) u2
                    obtain ⟨A2, n2, c2, rfl, H2⟩ := H2.slr
                    rw [hYd]
                    clear u2
                    go_wp2_with fail
                    refine (CW1.out _ _ _ (by first | exact H2 | exact H2.up ((Up.refl _).drew) | exact H2.up ((Up.refl _).drewN _))).mono ?_
                    rintro _ w3 ⟨v3, rfl, N3, u3⟩
                    replace U := Up.trans (by first | exact U | exact U.drew | exact U.drewN _) u3
                    obtain ⟨A3, n3, c3, rfl, N3⟩ := N3.slr
                    clear H2 u3
                    go_upto_region 31 with fail
                    obtain ⟨V1, hV1⟩ : ∃ V1, w3.alloc (.cells #[.bool false, .slice A3 n3 c3, .int .i64 0, .int .i64 0] 46) = V1 := ⟨_, rfl⟩
                    have XA : Ob V1 w3.heap.size 46 #[.bool false, .slice A3 n3 c3, .int .i64 0, .int .i64 0] := by rw [← hV1]; exact Ob.mk_ _ _ _
                    have uV : Up w3 V1 := by rw [← hV1]; exact (Up.refl _).alloc _
                    rw [hV1]
                    clear hV1
                    replace U := U.trans uV
                    replace N3 := N3.up uV
                    clear uV
                    go_wp2_with fail
                    refine (CH1.out _ (by first | exact U | exact U.drew | exact U.drewN _)).mono ?_
                    rintro _ w4 ⟨v4, rfl, H4, u4⟩
                    replace U := Up.trans (by first | exact U | exact U.drew | exact U.drewN _) u4
                    replace N3 := N3.up (Up.trans (by first | exact Up.refl _ | exact (Up.refl _).drew | exact (Up.refl _).drewN _) u4)
                    replace XA := XA.up (Up.trans (by first | exact Up.refl _ | exact (Up.refl _).drew | exact (Up.refl _).drewN _) u4)
                    obtain ⟨A4, n4, c4, rfl, H4⟩ := H4.slr
                    clear u4
                    go_wp2_with fail
                    refine (CW2.out _ _ _ (by first | exact H4 | exact H4.up ((Up.refl _).drew) | exact H4.up ((Up.refl _).drewN _))).mono ?_
                    rintro _ w5 ⟨v5, rfl, N5, u5⟩
                    replace U := Up.trans (by first | exact U | exact U.drew | exact U.drewN _) u5
                    replace N3 := N3.up (Up.trans (by first | exact Up.refl _ | exact (Up.refl _).drew | exact (Up.refl _).drewN _) u5)
                    replace XA := XA.up (Up.trans (by first | exact Up.refl _ | exact (Up.refl _).drew | exact (Up.refl _).drewN _) u5)
                    obtain ⟨A5, n5, c5, rfl, N5⟩ := N5.slr
                    clear u5 H4
                    go_upto_region 32 with fail
                    obtain ⟨V2, hV2⟩ : ∃ V2, w5.alloc (.cells #[.bool false, .slice A5 n5 c5, .int .i64 e, .int .i64 0] 46) = V2 := ⟨_, rfl⟩
                    have XB : Ob V2 w5.heap.size 46 #[.bool false, .slice A5 n5 c5, .int .i64 e, .int .i64 0] := by rw [← hV2]; exact Ob.mk_ _ _ _
                    have uV : Up w5 V2 := by rw [← hV2]; exact (Up.refl _).alloc _
                    rw [hV2]
                    clear hV2
                    replace U := U.trans uV
                    replace N3 := N3.up uV
                    replace N5 := N5.up uV
                    replace XA := XA.up uV
                    clear uV
                    have XA0 := XA.get 0
                    have XA1 := XA.get 1
                    have XA2 := XA.get 2
                    have XA3 := XA.get 3
                    have XB0 := XB.get 0
                    have XB1 := XB.get 1
                    have XB2 := XB.get 2
                    have XB3 := XB.get 3
                    simp only [List.getElem?_toArray, List.getElem?_cons_zero, List.getElem?_cons_succ] at XA0 XA1 XA2 XA3 XB0 XB1 XB2 XB3
                    go_wp2_with fail
                    clear XA0 XA1 XA2 XA3 XB0 XB1 XB2 XB3
                    refine (CC.out _ _ _ _ _ (by first | exact N3 | exact N3.up ((Up.refl _).drew) | exact N3.up ((Up.refl _).drewN _)) (by first | exact N5 | exact N5.up ((Up.refl _).drew) | exact N5.up ((Up.refl _).drewN _))).mono ?_
                    rintro _ w6 ⟨rfl, u6⟩
                    replace U := Up.trans (by first | exact U | exact U.drew | exact U.drewN _) u6
                    go_wp2_with fail
                    go_ret
                    exact ⟨by first | rfl | (simp; done), by first | exact U | exact U.drew | exact U.drewN _⟩
                  · have f1 : decide ((1 : Int) < (D.size : Int)) = true := decide_eq_true (by omega)
                    have f2 : decide (1 < D.size) = true := decide_eq_true g1
                    have f3 : ((ch.toNat : Int) == 48) = false := by rw [beq_eq_false_iff_ne]; intro h; exact g2 (UInt8.toNat_inj.1 (by show ch.toNat = 48; omega))
                    go_wp2_with fail
                    refine (CN1.out _).mono ?_
                    rintro _ w2 ⟨v2, rfl, H2, u2⟩
                    replace H2 := (hval ▸ H2 hYd : Nh _ _ _ _ V).more (s' := 2000) (by omega)
                    replace U := Up.trans (by first | exact U | exact U.drew | exact U.drewN _) u2
                    obtain ⟨A2, n2, c2, rfl, H2⟩ := H2.slr
                    rw [hYd]
                    clear u2
                    go_wp2_with fail
                    refine (CW1.out _ _ _ (by first | exact H2 | exact H2.up ((Up.refl _).drew) | exact H2.up ((Up.refl _).drewN _))).mono ?_
                    rintro _ w3 ⟨v3, rfl, N3, u3⟩
                    replace U := Up.trans (by first | exact U | exact U.drew | exact U.drewN _) u3
                    obtain ⟨A3, n3, c3, rfl, N3⟩ := N3.slr
                    clear H2 u3
                    go_upto_region 31 with fail
                    obtain ⟨V1, hV1⟩ : ∃ V1, w3.alloc (.cells #[.bool false, .slice A3 n3 c3, .int .i64 0, .int .i64 0] 46) = V1 := ⟨_, rfl⟩
                    have XA : Ob V1 w3.heap.size 46 #[.bool false, .slice A3 n3 c3, .int .i64 0, .int .i64 0] := by rw [← hV1]; exact Ob.mk_ _ _ _
                    have uV : Up w3 V1 := by rw [← hV1]; exact (Up.refl _).alloc _
                    rw [hV1]
                    clear hV1
                    replace U := U.trans uV
                    replace N3 := N3.up uV
                    clear uV
                    go_wp2_with fail
                    refine (CH1.out _ (by first | exact U | exact U.drew | exact U.drewN _)).mono ?_
                    rintro _ w4 ⟨v4, rfl, H4, u4⟩
                    replace U := Up.trans (by first | exact U | exact U.drew | exact U.drewN _) u4
                    replace N3 := N3.up (Up.trans (by first | exact Up.refl _ | exact (Up.refl _).drew | exact (Up.refl _).drewN _) u4)
                    replace XA := XA.up (Up.trans (by first | exact Up.refl _ | exact (Up.refl _).drew | exact (Up.refl _).drewN _) u4)
                    obtain ⟨A4, n4, c4, rfl, H4⟩ := H4.slr
                    clear u4
                    go_wp2_with fail
                    refine (CW2.out _ _ _ (by first | exact H4 | exact H4.up ((Up.refl _).drew) | exact H4.up ((Up.refl _).drewN _))).mono ?_
                    rintro _ w5 ⟨v5, rfl, N5, u5⟩
                    replace U := Up.trans (by first | exact U | exact U.drew | exact U.drewN _) u5
                    replace N3 := N3.up (Up.trans (by first | exact Up.refl _ | exact (Up.refl _).drew | exact (Up.refl _).drewN _) u5)
                    replace XA := XA.up (Up.trans (by first | exact Up.refl _ | exact (Up.refl _).drew | exact (Up.refl _).drewN _) u5)
                    obtain ⟨A5, n5, c5, rfl, N5⟩ := N5.slr
                    clear u5 H4
                    go_upto_region 32 with fail
                    obtain ⟨V2, hV2⟩ : ∃ V2, w5.alloc (.cells #[.bool false, .slice A5 n5 c5, .int .i64 e, .int .i64 0] 46) = V2 := ⟨_, rfl⟩
                    have XB : Ob V2 w5.heap.size 46 #[.bool false, .slice A5 n5 c5, .int .i64 e, .int .i64 0] := by rw [← hV2]; exact Ob.mk_ _ _ _
                    have uV : Up w5 V2 := by rw [← hV2]; exact (Up.refl _).alloc _
                    rw [hV2]
                    clear hV2
                    replace U := U.trans uV
                    replace N3 := N3.up uV
                    replace N5 := N5.up uV
                    replace XA := XA.up uV
                    clear uV
                    have XA0 := XA.get 0
                    have XA1 := XA.get 1
                    have XA2 := XA.get 2
                    have XA3 := XA.get 3
                    have XB0 := XB.get 0
                    have XB1 := XB.get 1
                    have XB2 := XB.get 2
                    have XB3 := XB.get 3
                    simp only [List.getElem?_toArray, List.getElem?_cons_zero, List.getElem?_cons_succ] at XA0 XA1 XA2 XA3 XB0 XB1 XB2 XB3
                    go_wp2_with fail
                    clear XA0 XA1 XA2 XA3 XB0 XB1 XB2 XB3
                    refine (CC.out _ _ _ _ _ (by first | exact N3 | exact N3.up ((Up.refl _).drew) | exact N3.up ((Up.refl _).drewN _)) (by first | exact N5 | exact N5.up ((Up.refl _).drew) | exact N5.up ((Up.refl _).drewN _))).mono ?_
                    rintro _ w6 ⟨rfl, u6⟩
                    replace U := Up.trans (by first | exact U | exact U.drew | exact U.drewN _) u6
                    go_wp2_with fail
                    go_ret
                    exact ⟨by first | rfl | (simp; done), by first | exact U | exact U.drew | exact U.drewN _⟩
            · have r5 : ((c7.toNat : Int) == 48) = true := by rw [hh]; rfl
              have r6 : decide ((1 : Int) < (TB.size : Int)) = false := decide_eq_false (by omega)
              have r7 : decide (1 < TB.size) = false := decide_eq_false (by omega)
              clear hh2
              go_wp2_with fail
              go_loopw [11] (fun dv wr => ∃ (j : Nat) (D : ByteArray), X = List.replicate j 48 ++ X.drop j ∧ j < X.length ∧ dv = .string D ∧ Hid (Tx D (X.drop j)) ∧ Up w wr) (fun dv _ => (match dv with | .string s => s.size | _ => 0))
              case atStart => exact ⟨0, _, rfl, hXp, rfl, HD, by first | exact U | exact U.drewN _⟩
              case round =>
                clear U HD
                obtain ⟨j, D, hj, hjl, rfl, HD, U⟩ := hrel
                have hds := HD.out.size
                rw [List.length_drop] at hds
                have hDs : D.size ≤ 5000 := by omega
                have hD0 : 0 < D.size := by omega
                have f0 : decide (0 < D.size) = true := decide_eq_true hD0
                obtain ⟨ch, hch⟩ : ∃ ch, (X.drop j).headD 0 = ch := ⟨_, rfl⟩
                have hix : ((D[0]).toNat : Int) = (ch.toNat : Int) := by
                  rw [HD.out.get 0 hD0, ← hch]
                  cases X.drop j <;> rfl
                by_cases hgo : 1 < D.size ∧ ch = 48
                · obtain ⟨g1, g2⟩ := hgo
                  have f1 : decide ((1 : Int) < (D.size : Int)) = true := decide_eq_true (by omega)
                  have f2 : decide (1 < D.size) = true := decide_eq_true g1
                  have f3 : ((ch.toNat : Int) == 48) = true := by rw [g2]; rfl
                  obtain ⟨D2, e2, T2⟩ := ext16 D _ HD 1 D.size
                  have hnx : X.drop j = 48 :: X.drop (j + 1) := by
                    have := M.drop_at hjl
                    rw [this] at hch ⊢
                    rw [show X.getD j 0 = 48 from hch.trans g2]
                  have T3 : Hid (Tx D2 (X.drop (j + 1))) := by
                    have e : ((X.drop j).drop 1).take (D.size - 1) = X.drop (j + 1) := by
                      rw [hnx]
                      show (X.drop (j + 1)).take _ = _
                      exact List.take_of_length_le (by rw [List.length_drop]; omega)
                    rw [e] at T2
                    exact T2
                  have hj2 : X = List.replicate (j + 1) 48 ++ X.drop (j + 1) := by
                    rw [List.replicate_succ', List.append_assoc]
                    show X = List.replicate j 48 ++ (48 :: X.drop (j + 1))
                    rw [← hnx]
                    exact hj
                  have hz2 : D2.size < D.size := by
                    rw [T3.out.size, List.length_drop]; omega
                  have hjn : j + 1 < X.length := by omega
                  clear g2 hch hnx T2 hds
                  go_wp2_with fail
                  go_roundw
                  case rel => exact ⟨j + 1, D2, hj2, hjn, by first | rfl | rw [e2], T3, U⟩
                  case measure => first | exact hz2 | (simp only [e2]; exact hz2) | (rw [e2]; exact hz2)
                · have hcond : (X.drop j).headD 0 ≠ 48 ∨ (X.drop j).length = 1 := by
                    rw [hch, List.length_drop]
                    by_cases h : ch = 48
                    · exact .inr (by have : ¬ 1 < D.size := fun h1 => hgo ⟨h1, h⟩; omega)
                    · exact .inl h
                  have hlen := hdl j hcond
                  have hval := hvs j hj
                  obtain ⟨Y, hY⟩ : ∃ Y, X.drop j = Y := ⟨_, rfl⟩
                  have hYd : M.allD Y = true := by rw [← hY]; exact (M.allD_drop16 hXd j)
                  have hY0 : Y ≠ [] := by
                    intro e
                    have : Y.length = 0 := by rw [e]; rfl
                    rw [← hY, List.length_drop] at this
                    omega
                  rw [hY] at hcond hlen hval HD hch
                  have hYl : Y.length = D.size := HD.out.size.symm
                  have hhz : Y.headD 0 ≠ 48 ∨ Y = [48] := by
                    rcases hcond with h | h
                    · exact .inl h
                    · by_cases h3 : Y.headD 0 = 48
                      · right
                        obtain ⟨y, hy⟩ : ∃ y, Y = [y] := List.length_eq_one_iff.1 h
                        rw [hy] at h3 ⊢
                        rw [show y = 48 from h3]
                      · exact .inl h3
                  have CN1 := Lib.hid (fun Z => CNu.out Z D Y HD.out hY0 hlen hhz)
                  rw [hYl] at hlen
                  have hexit : (¬ 1 < D.size) ∨ (1 < D.size ∧ ch ≠ 48) := by
                    by_cases h : 1 < D.size
                    · exact .inr ⟨h, fun e => hgo ⟨h, e⟩⟩
                    · exact .inl h
                  clear hgo hcond hhz hY0 hch hds
                  rcases hexit with g1 | ⟨g1, g2⟩
                  · have f1 : decide ((1 : Int) < (D.size : Int)) = false := decide_eq_false (by omega)
                    have f2 : decide (1 < D.size) = false := decide_eq_false g1
                    go_wp2_with fail
                    refine (CN1.out _).mono ?_
                    rintro _ w2 ⟨v2, rfl, H2, u2⟩
                    replace H2 := (hval ▸ H2 hYd : Nh _ _ _ _ V).more (s' := 2000) (by omega)
                    replace U := Up.trans (by first | exact U | exact U.drew | exact U.drewN _) u2
                    obtain ⟨A2, n2, c2, rfl, H2⟩ := H2.slr
                    rw [hYd]
                    clear u2
                    go_wp2_with fail
                    refine (CW1.out _ _ _ (by first | exact H2 | exact H2.up ((Up.refl _).drew) | exact H2.up ((Up.refl _).drewN _))).mono ?_
                    rintro _ w3 ⟨v3, rfl, N3, u3⟩
                    replace U := Up.trans (by first | exact U | exact U.drew | exact U.drewN _) u3
                    obtain ⟨A3, n3, c3, rfl, N3⟩ := N3.slr
                    clear H2 u3
                    go_upto_region 31 with fail
                    obtain ⟨V1, hV1⟩ : ∃ V1, w3.alloc (.cells #[.bool false, .slice A3 n3 c3, .int .i64 0, .int .i64 0] 46) = V1 := ⟨_, rfl⟩
                    have XA : Ob V1 w3.heap.size 46 #[.bool false, .slice A3 n3 c3, .int .i64 0, .int .i64 0] := by rw [← hV1]; exact Ob.mk_ _ _ _
                    have uV : Up w3 V1 := by rw [← hV1]; exact (Up.refl _).alloc _
                    rw [hV1]
                    clear hV1
                    replace U := U.trans uV
                    replace N3 := N3.up uV
                    clear uV
                    go_wp2_with fail
                    refine (CH1.out _ (by first | exact U | exact U.drew | exact U.drewN _)).mono ?_
                    rintro _ w4 ⟨v4, rfl, H4, u4⟩
                    replace U := Up.trans (by first | exact U | exact U.drew | exact U.drewN _) u4
                    replace N3 := N3.up (Up.trans (by first | exact Up.refl _ | exact (Up.refl _).drew | exact (Up.refl _).drewN _) u4)
                    replace XA := XA.up (Up.trans (by first | exact Up.refl _ | exact (Up.refl _).drew | exact (Up.refl _).drewN _) u4)
                    obtain ⟨A4, n4, c4, rfl, H4⟩ := H4.slr
                    clear u4
                    go_wp2_with fail
                    refine (CW2.out _ _ _ (by first | exact H4 | exact H4.up ((Up.refl _).drew) | exact H4.up ((Up.refl _).drewN _))).mono ?_
                    rintro _ w5 ⟨v5, rfl, N5, u5⟩
                    replace U := Up.trans (by first | exact U | exact U.drew | exact U.drewN _) u5
                    replace N3 := N3.up (Up.trans (by first | exact Up.refl _ | exact (Up.refl _).drew | exact (Up.refl _).drewN _) u5)
                    replace XA := XA.up (Up.trans (by first | exact Up.refl _ | exact (Up.refl _).drew | exact (Up.refl _).drewN _) u5)
                    obtain ⟨A5, n5, c5, rfl, N5⟩ := N5.slr
                    clear u5 H4
                    go_upto_region 32 with fail
                    obtain ⟨V2, hV2⟩ : ∃ V2, w5.alloc (.cells #[.bool false, .slice A5 n5 c5, .int .i64 e, .int .i64 0] 46) = V2 := ⟨_, rfl⟩
                    have XB : Ob V2 w5.heap.size 46 #[.bool false, .slice A5 n5 c5, .int .i64 e, .int .i64 0] := by rw [← hV2]; exact Ob.mk_ _ _ _
                    have uV : Up w5 V2 := by rw [← hV2]; exact (Up.refl _).alloc _
                    rw [hV2]
                    clear hV2
                    replace U := U.trans uV
                    replace N3 := N3.up uV
                    replace N5 := N5.up uV
                    replace XA := XA.up uV
                    clear uV
                    have XA0 := XA.get 0
                    have XA1 := XA.get 1
                    have XA2 := XA.get 2
                    have XA3 := XA.get 3
                    have XB0 := XB.get 0
                    have XB1 := XB.get 1
                    have XB2 := XB.get 2
                    have XB3 := XB.get 3
                    simp only [List.getElem?_toArray, List.getElem?_cons_zero, List.getElem?_cons_succ] at XA0 XA1 XA2 XA3 XB0 XB1 XB2 XB3
                    go_wp2_with fail
                    clear XA0 XA1 XA2 XA3 XB0 XB1 XB2 XB3
                    refine (CC.out _ _ _ _ _ (by first | exact N3 | exact N3.up ((Up.refl _).drew) | exact N3.up ((Up.refl _).drewN _)) (by first | exact N5 | exact N5.up ((Up.refl _).drew) | exact N5.up ((Up.refl _).drewN _))).mono ?_
                    rintro _ w6 ⟨rfl, u6⟩
                    replace U := Up.trans (by first | exact U | exact U.drew | exact U.drewN _) u6
                    go_wp2_with fail
                    go_ret
                    exact ⟨by first | rfl | (simp; done), by first | exact U | exact U.drew | exact U.drewN _⟩
                  · have f1 : decide ((1 : Int) < (D.size : Int)) = true := decide_eq_true (by omega)
                    have f2 : decide (1 < D.size) = true := decide_eq_true g1
                    have f3 : ((ch.toNat : Int) == 48) = false := by rw [beq_eq_false_iff_ne]; intro h; exact g2 (UInt8.toNat_inj.1 (by show ch.toNat = 48; omega))
                    go_wp2_with fail
                    refine (CN1.out _).mono ?_
                    rintro _ w2 ⟨v2, rfl, H2, u2⟩
                    replace H2 := (hval ▸ H2 hYd : Nh _ _ _ _ V).more (s' := 2000) (by omega)
                    replace U := Up.trans (by first | exact U | exact U.drew | exact U.drewN _) u2
                    obtain ⟨A2, n2, c2, rfl, H2⟩ := H2.slr
                    rw [hYd]
                    clear u2
                    go_wp2_with fail
                    refine (CW1.out _ _ _ (by first | exact H2 | exact H2.up ((Up.refl _).drew) | exact H2.up ((Up.refl _).drewN _))).mono ?_
                    rintro _ w3 ⟨v3, rfl, N3, u3⟩
                    replace U := Up.trans (by first | exact U | exact U.drew | exact U.drewN _) u3
                    obtain ⟨A3, n3, c3, rfl, N3⟩ := N3.slr
                    clear H2 u3
                    go_upto_region 31 with fail
                    obtain ⟨V1, hV1⟩ : ∃ V1, w3.alloc (.cells #[.bool false, .slice A3 n3 c3, .int .i64 0, .int .i64 0] 46) = V1 := ⟨_, rfl⟩
                    have XA : Ob V1 w3.heap.size 46 #[.bool false, .slice A3 n3 c3, .int .i64 0, .int .i64 0] := by rw [← hV1]; exact Ob.mk_ _ _ _
                    have uV : Up w3 V1 := by rw [← hV1]; exact (Up.refl _).alloc _
                    rw [hV1]
                    clear hV1
                    replace U := U.trans uV
                    replace N3 := N3.up uV
                    clear uV
                    go_wp2_with fail
                    refine (CH1.out _ (by first | exact U | exact U.drew | exact U.drewN _)).mono ?_
                    rintro _ w4 ⟨v4, rfl, H4, u4⟩
                    replace U := Up.trans (by first | exact U | exact U.drew | exact U.drewN _) u4
                    replace N3 := N3.up (Up.trans (by first | exact Up.refl _ | exact (Up.refl _).drew | exact (Up.refl _).drewN _) u4)
                    replace XA := XA.up (Up.trans (by first | exact Up.refl _ | exact (Up.refl _).drew | exact (Up.refl _).drewN _) u4)
                    obtain ⟨A4, n4, c4, rfl, H4⟩ := H4.slr
                    clear u4
                    go_wp2_with fail
                    refine (CW2.out _ _ _ (by first | exact H4 | exact H4.up ((Up.refl _).drew) | exact H4.up ((Up.refl _).drewN _))).mono ?_
                    rintro _ w5 ⟨v5, rfl, N5, u5⟩
                    replace U := Up.trans (by first | exact U | exact U.drew | exact U.drewN _) u5
                    replace N3 := N3.up (Up.trans (by first | exact Up.refl _ | exact (Up.refl _).drew | exact (Up.refl _).drewN _) u5)
                    replace XA := XA.up (Up.trans (by first | exact Up.refl _ | exact (Up.refl _).drew | exact (Up.refl _).drewN _) u5)
                    obtain ⟨A5, n5, c5, rfl, N5⟩ := N5.slr
                    clear u5 H4
                    go_upto_region 32 with fail
                    obtain ⟨V2, hV2⟩ : ∃ V2, w5.alloc (.cells #[.bool false, .slice A5 n5 c5, .int .i64 e, .int .i64 0] 46) = V2 := ⟨_, rfl⟩
                    have XB : Ob V2 w5.heap.size 46 #[.bool false, .slice A5 n5 c5, .int .i64 e, .int .i64 0] := by rw [← hV2]; exact Ob.mk_ _ _ _
                    have uV : Up w5 V2 := by rw [← hV2]; exact (Up.refl _).alloc _
                    rw [hV2]
                    clear hV2
                    replace U := U.trans uV
                    replace N3 := N3.up uV
                    replace N5 := N5.up uV
                    replace XA := XA.up uV
                    clear uV
                    have XA0 := XA.get 0
                    have XA1 := XA.get 1
                    have XA2 := XA.get 2
                    have XA3 := XA.get 3
                    have XB0 := XB.get 0
                    have XB1 := XB.get 1
                    have XB2 := XB.get 2
                    have XB3 := XB.get 3
                    simp only [List.getElem?_toArray, List.getElem?_cons_zero, List.getElem?_cons_succ] at XA0 XA1 XA2 XA3 XB0 XB1 XB2 XB3
                    go_wp2_with fail
                    clear XA0 XA1 XA2 XA3 XB0 XB1 XB2 XB3
                    refine (CC.out _ _ _ _ _ (by first | exact N3 | exact N3.up ((Up.refl _).drew) | exact N3.up ((Up.refl _).drewN _)) (by first | exact N5 | exact N5.up ((Up.refl _).drew) | exact N5.up ((Up.refl _).drewN _))).mono ?_
                    rintro _ w6 ⟨rfl, u6⟩
                    replace U := Up.trans (by first | exact U | exact U.drew | exact U.drewN _) u6
                    go_wp2_with fail
                    go_ret
                    exact ⟨by first | rfl | (simp; done), by first | exact U | exact U.drew | exact U.drewN _⟩
          · have e5 : (if decide (R ≠ []) = true then (W.length : Int) else -1) = (W.length : Int) := by rw [decide_eq_true hR]; rfl
            rw [e5]
            have hRp : 0 < R.length := List.length_pos_iff.2 hR
            have hBl : TB.size = W.length + 1 + R.length := by rw [hTB, hB, List.length_append, List.length_cons]; omega
            obtain ⟨q, hq⟩ : ∃ q : Nat, TB.size = q + 1 := ⟨TB.size - 1, by omega⟩
            have q1 : q < TB.size := by omega
            have q2 : decide (q < TB.size) = true := decide_eq_true q1
            have q3 : (TB.size : Int) - 1 = (q : Int) := by omega
            obtain ⟨c9, hc9⟩ : ∃ c9, BD.getD q 0 = c9 := ⟨_, rfl⟩
            have q4 : ((TB[q]).toNat : Int) = (c9.toNat : Int) := by rw [TT.out.get q q1, hc9]
            have hlast : c9 ≠ 48 := by
              rcases htl with h | h
              · exact absurd h hR
              · intro e9
                apply h
                have hne : (46 : UInt8) :: R ≠ [] := by simp
                have e10 := M.last_app (a := W) hne
                rw [← hB] at e10
                have e11 : ((46 : UInt8) :: R).getLast? = R.getLast? := M.last_app (a := [46]) hR
                rw [← e11, ← e10, List.getLast?_eq_getElem?, show BD.length - 1 = q by omega]
                rw [List.getD_eq_getElem?_getD, e9] at hc9
                rw [List.getElem?_eq_getElem (by omega)] at hc9 ⊢
                exact congrArg some hc9
            have q5 : ((c9.toNat : Int) == 48) = false := by rw [beq_eq_false_iff_ne]; intro h; exact hlast (UInt8.toNat_inj.1 (by show c9.toNat = 48; omega))
            obtain ⟨WT, e6, TW⟩ := ext16 TB BD TT 0 W.length
            replace TW : Hid (Tx WT W) := by
              have e : (BD.drop 0).take (W.length - 0) = W := by rw [hB]; simp
              rw [e] at TW
              exact TW
            have q6 : (W.length : Int) + 1 - (TB.size : Int) = K := by omega
            have q7 : (K == 0) = false := by rw [beq_eq_false_iff_ne]; omega
            have q8 : W.length ≤ TB.size := by omega
            have hWl5 : W.length ≤ 5000 := by omega
            clear hlast hc9 hq hBl
            have hwz := TW.out.size
            have r0 : decide (0 < WT.size) = true := decide_eq_true (by omega)
            have hw0 : 0 < WT.size := by omega
            obtain ⟨c7, hc7⟩ : ∃ c7, W.headD 0 = c7 := ⟨_, rfl⟩
            have r1 : ((WT[0]).toNat : Int) = (c7.toNat : Int) := by
              rw [TW.out.get 0 hw0, ← hc7]
              cases W <;> rfl
            have r2 : WT.toList.isEmpty = false := by rw [toList_tx TW.out]; cases W; exact absurd rfl hW0; rfl
            have r3 : (WT.toList == []) = false := by rw [toList_tx TW.out]; cases W; exact absurd rfl hW0; rfl
            have r4 : ¬ WT.toList = [] := by rw [toList_tx TW.out]; exact hW0
            have hh : (c7 ≠ 48) ∨ (c7 = 48 ∧ WT.size = 1) := by
              rcases hhd with h | h
              · exact .inl (by rw [← hc7]; exact h)
              · exact .inr ⟨by rw [← hc7, h]; rfl, by rw [hwz, h]; rfl⟩
            clear hwz hc7 hhd htl hTB hX hW0 hK hR hB e5 TW
            rcases hh with hh | ⟨hh, hh2⟩
            · have r5 : ((c7.toNat : Int) == 48) = false := by rw [beq_eq_false_iff_ne]; intro h; exact hh (UInt8.toNat_inj.1 (by show c7.toNat = 48; omega))
              go_wp2_with fail
              go_loopw [11] (fun dv wr => ∃ (j : Nat) (D : ByteArray), X = List.replicate j 48 ++ X.drop j ∧ j < X.length ∧ dv = .string D ∧ Hid (Tx D (X.drop j)) ∧ Up w wr) (fun dv _ => (match dv with | .string s => s.size | _ => 0))
              case atStart => exact ⟨0, _, rfl, hXp, rfl, HD, by first | exact U | exact U.drewN _⟩
              case round =>
                clear U HD
                obtain ⟨j, D, hj, hjl, rfl, HD, U⟩ := hrel
                have hds := HD.out.size
                rw [List.length_drop] at hds
                have hDs : D.size ≤ 5000 := by omega
                have hD0 : 0 < D.size := by omega
                have f0 : decide (0 < D.size) = true := decide_eq_true hD0
                obtain ⟨ch, hch⟩ : ∃ ch, (X.drop j).headD 0 = ch := ⟨_, rfl⟩
                have hix : ((D[0]).toNat : Int) = (ch.toNat : Int) := by
                  rw [HD.out.get 0 hD0, ← hch]
                  cases X.drop j <;> rfl
                by_cases hgo : 1 < D.size ∧ ch = 48
                · obtain ⟨g1, g2⟩ := hgo
                  have f1 : decide ((1 : Int) < (D.size : Int)) = true := decide_eq_true (by omega)
                  have f2 : decide (1 < D.size) = true := decide_eq_true g1
                  have f3 : ((ch.toNat : Int) == 48) = true := by rw [g2]; rfl
                  obtain ⟨D2, e2, T2⟩ := ext16 D _ HD 1 D.size
                  have hnx : X.drop j = 48 :: X.drop (j + 1) := by
                    have := M.drop_at hjl
                    rw [this] at hch ⊢
                    rw [show X.getD j 0 = 48 from hch.trans g2]
                  have T3 : Hid (Tx D2 (X.drop (j + 1))) := by
                    have e : ((X.drop j).drop 1).take (D.size - 1) = X.drop (j + 1) := by
                      rw [hnx]
                      show (X.drop (j + 1)).take _ = _
                      exact List.take_of_length_le (by rw [List.length_drop]; omega)
                    rw [e] at T2
                    exact T2
                  have hj2 : X = List.replicate (j + 1) 48 ++ X.drop (j + 1) := by
                    rw [List.replicate_succ', List.append_assoc]
                    show X = List.replicate j 48 ++ (48 :: X.drop (j + 1))
                    rw [← hnx]
                    exact hj
                  have hz2 : D2.size < D.size := by
                    rw [T3.out.size, List.length_drop]; omega
                  have hjn : j + 1 < X.length := by omega
                  clear g2 hch hnx T2 hds
                  go_wp2_with fail
                  go_roundw
                  case rel => exact ⟨j + 1, D2, hj2, hjn, by first | rfl | rw [e2], T3, U⟩
                  case measure => first | exact hz2 | (simp only [e2]; exact hz2) | (rw [e2]; exact hz2)
                · have hcond : (X.drop j).headD 0 ≠ 48 ∨ (X.drop j).length = 1 := by
                    rw [hch, List.length_drop]
                    by_cases h : ch = 48
                    · exact .inr (by have : ¬ 1 < D.size := fun h1 => hgo ⟨h1, h⟩; omega)
                    · exact .inl h
                  have hlen := hdl j hcond
                  have hval := hvs j hj
                  obtain ⟨Y, hY⟩ : ∃ Y, X.drop j = Y := ⟨_, rfl⟩
                  have hYd : M.allD Y = true := by rw [← hY]; exact (M.allD_drop16 hXd j)
                  have hY0 : Y ≠ [] := by
                    intro e
                    have : Y.length = 0 := by rw [e]; rfl
                    rw [← hY, List.length_drop] at this
                    omega
                  rw [hY] at hcond hlen hval HD hch
                  have hYl : Y.length = D.size := HD.out.size.symm
                  have hhz : Y.headD 0 ≠ 48 ∨ Y = [48] := by
                    rcases hcond with h | h
                    · exact .inl h
                    · by_cases h3 : Y.headD 0 = 48
                      · right
                        obtain ⟨y, hy⟩ : ∃ y, Y = [y] := List.length_eq_one_iff.1 h
                        rw [hy] at h3 ⊢
                        rw [show y = 48 from h3]
                      · exact .inl h3
                  have CN1 := Lib.hid (fun Z => CNu.out Z D Y HD.out hY0 hlen hhz)
                  rw [hYl] at hlen
                  have hexit : (¬ 1 < D.size) ∨ (1 < D.size ∧ ch ≠ 48) := by
                    by_cases h : 1 < D.size
                    · exact .inr ⟨h, fun e => hgo ⟨h, e⟩⟩
                    · exact .inl h
                  clear hgo hcond hhz hY0 hch hds
                  rcases hexit with g1 | ⟨g1, g2⟩
                  · have f1 : decide ((1 : Int) < (D.size : Int)) = false := decide_eq_false (by omega)
                    have f2 : decide (1 < D.size) = false := decide_eq_false g1
                    go_wp2_with fail
                    refine (CN1.out _).mono ?_
                    rintro _ w2 ⟨v2, rfl, H2, u2⟩
                    replace H2 := (hval ▸ H2 hYd : Nh _ _ _ _ V).more (s' := 2000) (by omega)
                    replace U := Up.trans (by first | exact U | exact U.drew | exact U.drewN _) u2
                    obtain ⟨A2, n2, c2, rfl, H2⟩ := H2.slr
                    rw [hYd]
                    clear u2
                    go_wp2_with fail
                    refine (CW1.out _ _ _ (by first | exact H2 | exact H2.up ((Up.refl _).drew) | exact H2.up ((Up.refl _).drewN _))).mono ?_
                    rintro _ w3 ⟨v3, rfl, N3, u3⟩
                    replace U := Up.trans (by first | exact U | exact U.drew | exact U.drewN _) u3
                    obtain ⟨A3, n3, c3, rfl, N3⟩ := N3.slr
                    clear H2 u3
                    go_upto_region 31 with fail
                    obtain ⟨V1, hV1⟩ : ∃ V1, w3.alloc (.cells #[.bool false, .slice A3 n3 c3, .int .i64 K, .int .i64 K] 46) = V1 := ⟨_, rfl⟩
                    have XA : Ob V1 w3.heap.size 46 #[.bool false, .slice A3 n3 c3, .int .i64 K, .int .i64 K] := by rw [← hV1]; exact Ob.mk_ _ _ _
                    have uV : Up w3 V1 := by rw [← hV1]; exact (Up.refl _).alloc _
                    rw [hV1]
                    clear hV1
                    replace U := U.trans uV
                    replace N3 := N3.up uV
                    clear uV
                    go_wp2_with fail
                    refine (CH1.out _ (by first | exact U | exact U.drew | exact U.drewN _)).mono ?_
                    rintro _ w4 ⟨v4, rfl, H4, u4⟩
                    replace U := Up.trans (by first | exact U | exact U.drew | exact U.drewN _) u4
                    replace N3 := N3.up (Up.trans (by first | exact Up.refl _ | exact (Up.refl _).drew | exact (Up.refl _).drewN _) u4)
                    replace XA := XA.up (Up.trans (by first | exact Up.refl _ | exact (Up.refl _).drew | exact (Up.refl _).drewN _) u4)
                    obtain ⟨A4, n4, c4, rfl, H4⟩ := H4.slr
                    clear u4
                    go_wp2_with fail
                    refine (CW2.out _ _ _ (by first | exact H4 | exact H4.up ((Up.refl _).drew) | exact H4.up ((Up.refl _).drewN _))).mono ?_
                    rintro _ w5 ⟨v5, rfl, N5, u5⟩
                    replace U := Up.trans (by first | exact U | exact U.drew | exact U.drewN _) u5
                    replace N3 := N3.up (Up.trans (by first | exact Up.refl _ | exact (Up.refl _).drew | exact (Up.refl _).drewN _) u5)
                    replace XA := XA.up (Up.trans (by first | exact Up.refl _ | exact (Up.refl _).drew | exact (Up.refl _).drewN _) u5)
                    obtain ⟨A5, n5, c5, rfl, N5⟩ := N5.slr
                    clear u5 H4
                    go_upto_region 32 with fail
                    obtain ⟨V2, hV2⟩ : ∃ V2, w5.alloc (.cells #[.bool false, .slice A5 n5 c5, .int .i64 e, .int .i64 0] 46) = V2 := ⟨_, rfl⟩
                    have XB : Ob V2 w5.heap.size 46 #[.bool false, .slice A5 n5 c5, .int .i64 e, .int .i64 0] := by rw [← hV2]; exact Ob.mk_ _ _ _
                    have uV : Up w5 V2 := by rw [← hV2]; exact (Up.refl _).alloc _
                    rw [hV2]
                    clear hV2
                    replace U := U.trans uV
                    replace N3 := N3.up uV
                    replace N5 := N5.up uV
                    replace XA := XA.up uV
                    clear uV
                    have XA0 := XA.get 0
                    have XA1 := XA.get 1
                    have XA2 := XA.get 2
                    have XA3 := XA.get 3
                    have XB0 := XB.get 0
                    have XB1 := XB.get 1
                    have XB2 := XB.get 2
                    have XB3 := XB.get 3
                    simp only [List.getElem?_toArray, List.getElem?_cons_zero, List.getElem?_cons_succ] at XA0 XA1 XA2 XA3 XB0 XB1 XB2 XB3
                    go_wp2_with fail
                    clear XA0 XA1 XA2 XA3 XB0 XB1 XB2 XB3
                    refine (CC.out _ _ _ _ _ (by first | exact N3 | exact N3.up ((Up.refl _).drew) | exact N3.up ((Up.refl _).drewN _)) (by first | exact N5 | exact N5.up ((Up.refl _).drew) | exact N5.up ((Up.refl _).drewN _))).mono ?_
                    rintro _ w6 ⟨rfl, u6⟩
                    replace U := Up.trans (by first | exact U | exact U.drew | exact U.drewN _) u6
                    go_wp2_with fail
                    go_ret
                    exact ⟨by first | rfl | (simp; done), by first | exact U | exact U.drew | exact U.drewN _⟩
                  · have f1 : decide ((1 : Int) < (D.size : Int)) = true := decide_eq_true (by omega)
                    have f2 : decide (1 < D.size) = true := decide_eq_true g1
                    have f3 : ((ch.toNat : Int) == 48) = false := by rw [beq_eq_false_iff_ne]; intro h; exact g2 (UInt8.toNat_inj.1 (by show ch.toNat = 48; omega))
                    go_wp2_with fail
                    refine (CN1.out _).mono ?_
                    rintro _ w2 ⟨v2, rfl, H2, u2⟩
                    replace H2 := (hval ▸ H2 hYd : Nh _ _ _ _ V).more (s' := 2000) (by omega)
                    replace U := Up.trans (by first | exact U | exact U.drew | exact U.drewN _) u2
                    obtain ⟨A2, n2, c2, rfl, H2⟩ := H2.slr
                    rw [hYd]
                    clear u2
                    go_wp2_with fail
                    refine (CW1.out _ _ _ (by first | exact H2 | exact H2.up ((Up.refl _).drew) | exact H2.up ((Up.refl _).drewN _))).mono ?_
                    rintro _ w3 ⟨v3, rfl, N3, u3⟩
                    replace U := Up.trans (by first | exact U | exact U.drew | exact U.drewN _) u3
                    obtain ⟨A3, n3, c3, rfl, N3⟩ := N3.slr
                    clear H2 u3
                    go_upto_region 31 with fail
                    obtain ⟨V1, hV1⟩ : ∃ V1, w3.alloc (.cells #[.bool false, .slice A3 n3 c3, .int .i64 K, .int .i64 K] 46) = V1 := ⟨_, rfl⟩
                    have XA : Ob V1 w3.heap.size 46 #[.bool false, .slice A3 n3 c3, .int .i64 K, .int .i64 K] := by rw [← hV1]; exact Ob.mk_ _ _ _
                    have uV : Up w3 V1 := by rw [← hV1]; exact (Up.refl _).alloc _
                    rw [hV1]
                    clear hV1
                    replace U := U.trans uV
                    replace N3 := N3.up uV
                    clear uV
                    go_wp2_with fail
                    refine (CH1.out _ (by first | exact U | exact U.drew | exact U.drewN _)).mono ?_
                    rintro _ w4 ⟨v4, rfl, H4, u4⟩
                    replace U := Up.trans (by first | exact U | exact U.drew | exact U.drewN _) u4
                    replace N3 := N3.up (Up.trans (by first | exact Up.refl _ | exact (Up.refl _).drew | exact (Up.refl _).drewN _) u4)
                    replace XA := XA.up (Up.trans (by first | exact Up.refl _ | exact (Up.refl _).drew | exact (Up.refl _).drewN _) u4)
                    obtain ⟨A4, n4, c4, rfl, H4⟩ := H4.slr
                    clear u4
                    go_wp2_with fail
                    refine (CW2.out _ _ _ (by first | exact H4 | exact H4.up ((Up.refl _).drew) | exact H4.up ((Up.refl _).drewN _))).mono ?_
                    rintro _ w5 ⟨v5, rfl, N5, u5⟩
                    replace U := Up.trans (by first | exact U | exact U.drew | exact U.drewN _) u5
                    replace N3 := N3.up (Up.trans (by first | exact Up.refl _ | exact (Up.refl _).drew | exact (Up.refl _).drewN _) u5)
                    replace XA := XA.up (Up.trans (by first | exact Up.refl _ | exact (Up.refl _).drew | exact (Up.refl _).drewN _) u5)
                    obtain ⟨A5, n5, c5, rfl, N5⟩ := N5.slr
                    clear u5 H4
                    go_upto_region 32 with fail
                    obtain ⟨V2, hV2⟩ : ∃ V2, w5.alloc (.cells #[.bool false, .slice A5 n5 c5, .int .i64 e, .int .i64 0] 46) = V2 := ⟨_, rfl⟩
                    have XB : Ob V2 w5.heap.size 46 #[.bool false, .slice A5 n5 c5, .int .i64 e, .int .i64 0] := by rw [← hV2]; exact Ob.mk_ _ _ _
                    have uV : Up w5 V2 := by rw [← hV2]; exact (Up.refl _).alloc _
                    rw [hV2]
                    clear hV2
                    replace U := U.trans uV
                    replace N3 := N3.up uV
                    replace N5 := N5.up uV
                    replace XA := XA.up uV
                    clear uV
                    have XA0 := XA.get 0
                    have XA1 := XA.get 1
                    have XA2 := XA.get 2
                    have XA3 := XA.get 3
                    have XB0 := XB.get 0
                    have XB1 := XB.get 1
                    have XB2 := XB.get 2
                    have XB3 := XB.get 3
                    simp only [List.getElem?_toArray, List.getElem?_cons_zero, List.getElem?_cons_succ] at XA0 XA1 XA2 XA3 XB0 XB1 XB2 XB3
                    go_wp2_with fail
                    clear XA0 XA1 XA2 XA3 XB0 XB1 XB2 XB3
                    refine (CC.out _ _ _ _ _ (by first | exact N3 | exact N3.up ((Up.refl _).drew) | exact N3.up ((Up.refl _).drewN _)) (by first | exact N5 | exact N5.up ((Up.refl _).drew) | exact N5.up ((Up.refl _).drewN _))).mono ?_
                    rintro _ w6 ⟨rfl, u6⟩
                    replace U := Up.trans (by first | exact U | exact U.drew | exact U.drewN _) u6
                    go_wp2_with fail
                    go_ret
                    exact ⟨by first | rfl | (simp; done), by first | exact U | exact U.drew | exact U.drewN _⟩
            · have r5 : ((c7.toNat : Int) == 48) = true := by rw [hh]; rfl
              have r6 : decide ((1 : Int) < (WT.size : Int)) = false := decide_eq_false (by omega)
              have r7 : decide (1 < WT.size) = false := decide_eq_false (by omega)
              clear hh2
              go_wp2_with fail
              go_loopw [11] (fun dv wr => ∃ (j : Nat) (D : ByteArray), X = List.replicate j 48 ++ X.drop j ∧ j < X.length ∧ dv = .string D ∧ Hid (Tx D (X.drop j)) ∧ Up w wr) (fun dv _ => (match dv with | .string s => s.size | _ => 0))
              case atStart => exact ⟨0, _, rfl, hXp, rfl, HD, by first | exact U | exact U.drewN _⟩
              case round =>
                clear U HD
                obtain ⟨j, D, hj, hjl, rfl, HD, U⟩ := hrel
                have hds := HD.out.size
                rw [List.length_drop] at hds
                have hDs : D.size ≤ 5000 := by omega
                have hD0 : 0 < D.size := by omega
                have f0 : decide (0 < D.size) = true := decide_eq_true hD0
                obtain ⟨ch, hch⟩ : ∃ ch, (X.drop j).headD 0 = ch := ⟨_, rfl⟩
                have hix : ((D[0]).toNat : Int) = (ch.toNat : Int) := by
                  rw [HD.out.get 0 hD0, ← hch]
                  cases X.drop j <;> rfl
                by_cases hgo : 1 < D.size ∧ ch = 48
                · obtain ⟨g1, g2⟩ := hgo
                  have f1 : decide ((1 : Int) < (D.size : Int)) = true := decide_eq_true (by omega)
                  have f2 : decide (1 < D.size) = true := decide_eq_true g1
                  have f3 : ((ch.toNat : Int) == 48) = true := by rw [g2]; rfl
                  obtain ⟨D2, e2, T2⟩ := ext16 D _ HD 1 D.size
                  have hnx : X.drop j = 48 :: X.drop (j + 1) := by
                    have := M.drop_at hjl
                    rw [this] at hch ⊢
                    rw [show X.getD j 0 = 48 from hch.trans g2]
                  have T3 : Hid (Tx D2 (X.drop (j + 1))) := by
                    have e : ((X.drop j).drop 1).take (D.size - 1) = X.drop (j + 1) := by
                      rw [hnx]
                      show (X.drop (j + 1)).take _ = _
                      exact List.take_of_length_le (by rw [List.length_drop]; omega)
                    rw [e] at T2
                    exact T2
                  have hj2 : X = List.replicate (j + 1) 48 ++ X.drop (j + 1) := by
                    rw [List.replicate_succ', List.append_assoc]
                    show X = List.replicate j 48 ++ (48 :: X.drop (j + 1))
                    rw [← hnx]
                    exact hj
                  have hz2 : D2.size < D.size := by
                    rw [T3.out.size, List.length_drop]; omega
                  have hjn : j + 1 < X.length := by omega
                  clear g2 hch hnx T2 hds
                  go_wp2_with fail
                  go_roundw
                  case rel => exact ⟨j + 1, D2, hj2, hjn, by first | rfl | rw [e2], T3, U⟩
                  case measure => first | exact hz2 | (simp only [e2]; exact hz2) | (rw [e2]; exact hz2)
                · have hcond : (X.drop j).headD 0 ≠ 48 ∨ (X.drop j).length = 1 := by
                    rw [hch, List.length_drop]
                    by_cases h : ch = 48
                    · exact .inr (by have : ¬ 1 < D.size := fun h1 => hgo ⟨h1, h⟩; omega)
                    · exact .inl h
                  have hlen := hdl j hcond
                  have hval := hvs j hj
                  obtain ⟨Y, hY⟩ : ∃ Y, X.drop j = Y := ⟨_, rfl⟩
                  have hYd : M.allD Y = true := by rw [← hY]; exact (M.allD_drop16 hXd j)
                  have hY0 : Y ≠ [] := by
                    intro e
                    have : Y.length = 0 := by rw [e]; rfl
                    rw [← hY, List.length_drop] at this
                    omega
                  rw [hY] at hcond hlen hval HD hch
                  have hYl : Y.length = D.size := HD.out.size.symm
                  have hhz : Y.headD 0 ≠ 48 ∨ Y = [48] := by
                    rcases hcond with h | h
                    · exact .inl h
                    · by_cases h3 : Y.headD 0 = 48
                      · right
                        obtain ⟨y, hy⟩ : ∃ y, Y = [y] := List.length_eq_one_iff.1 h
                        rw [hy] at h3 ⊢
                        rw [show y = 48 from h3]
                      · exact .inl h3
                  have CN1 := Lib.hid (fun Z => CNu.out Z D Y HD.out hY0 hlen hhz)
                  rw [hYl] at hlen
                  have hexit : (¬ 1 < D.size) ∨ (1 < D.size ∧ ch ≠ 48) := by
                    by_cases h : 1 < D.size
                    · exact .inr ⟨h, fun e => hgo ⟨h, e⟩⟩
                    · exact .inl h
                  clear hgo hcond hhz hY0 hch hds
                  rcases hexit with g1 | ⟨g1, g2⟩
                  · have f1 : decide ((1 : Int) < (D.size : Int)) = false := decide_eq_false (by omega)
                    have f2 : decide (1 < D.size) = false := decide_eq_false g1
                    go_wp2_with fail
                    refine (CN1.out _).mono ?_
                    rintro _ w2 ⟨v2, rfl, H2, u2⟩
                    replace H2 := (hval ▸ H2 hYd : Nh _ _ _ _ V).more (s' := 2000) (by omega)
                    replace U := Up.trans (by first | exact U | exact U.drew | exact U.drewN _) u2
                    obtain ⟨A2, n2, c2, rfl, H2⟩ := H2.slr
                    rw [hYd]
                    clear u2
                    go_wp2_with fail
                    refine (CW1.out _ _ _ (by first | exact H2 | exact H2.up ((Up.refl _).drew) | exact H2.up ((Up.refl _).drewN _))).mono ?_
                    rintro _ w3 ⟨v3, rfl, N3, u3⟩
                    replace U := Up.trans (by first | exact U | exact U.drew | exact U.drewN _) u3
                    obtain ⟨A3, n3, c3, rfl, N3⟩ := N3.slr
                    clear H2 u3
                    go_upto_region 31 with fail
                    obtain ⟨V1, hV1⟩ : ∃ V1, w3.alloc (.cells #[.bool false, .slice A3 n3 c3, .int .i64 K, .int .i64 K] 46) = V1 := ⟨_, rfl⟩
                    have XA : Ob V1 w3.heap.size 46 #[.bool false, .slice A3 n3 c3, .int .i64 K, .int .i64 K] := by rw [← hV1]; exact Ob.mk_ _ _ _
                    have uV : Up w3 V1 := by rw [← hV1]; exact (Up.refl _).alloc _
                    rw [hV1]
                    clear hV1
                    replace U := U.trans uV
                    replace N3 := N3.up uV
                    clear uV
                    go_wp2_with fail
                    refine (CH1.out _ (by first | exact U | exact U.drew | exact U.drewN _)).mono ?_
                    rintro _ w4 ⟨v4, rfl, H4, u4⟩
                    replace U := Up.trans (by first | exact U | exact U.drew | exact U.drewN _) u4
                    replace N3 := N3.up (Up.trans (by first | exact Up.refl _ | exact (Up.refl _).drew | exact (Up.refl _).drewN _) u4)
                    replace XA := XA.up (Up.trans (by first | exact Up.refl _ | exact (Up.refl _).drew | exact (Up.refl _).drewN _) u4)
                    obtain ⟨A4, n4, c4, rfl, H4⟩ := H4.slr
                    clear u4
                    go_wp2_with fail
                    refine (CW2.out _ _ _ (by first | exact H4 | exact H4.up ((Up.refl _).drew) | exact H4.up ((Up.refl _).drewN _))).mono ?_
                    rintro _ w5 ⟨v5, rfl, N5, u5⟩
                    replace U := Up.trans (by first | exact U | exact U.drew | exact U.drewN _) u5
                    replace N3 := N3.up (Up.trans (by first | exact Up.refl _ | exact (Up.refl _).drew | exact (Up.refl _).drewN _) u5)
                    replace XA := XA.up (Up.trans (by first | exact Up.refl _ | exact (Up.refl _).drew | exact (Up.refl _).drewN _) u5)
                    obtain ⟨A5, n5, c5, rfl, N5⟩ := N5.slr
                    clear u5 H4
                    go_upto_region 32 with fail
                    obtain ⟨V2, hV2⟩ : ∃ V2, w5.alloc (.cells #[.bool false, .slice A5 n5 c5, .int .i64 e, .int .i64 0] 46) = V2 := ⟨_, rfl⟩
                    have XB : Ob V2 w5.heap.size 46 #[.bool false, .slice A5 n5 c5, .int .i64 e, .int .i64 0] := by rw [← hV2]; exact Ob.mk_ _ _ _
                    have uV : Up w5 V2 := by rw [← hV2]; exact (Up.refl _).alloc _
                    rw [hV2]
                    clear hV2
                    replace U := U.trans uV
                    replace N3 := N3.up uV
                    replace N5 := N5.up uV
                    replace XA := XA.up uV
                    clear uV
                    have XA0 := XA.get 0
                    have XA1 := XA.get 1
                    have XA2 := XA.get 2
                    have XA3 := XA.get 3
                    have XB0 := XB.get 0
                    have XB1 := XB.get 1
                    have XB2 := XB.get 2
                    have XB3 := XB.get 3
                    simp only [List.getElem?_toArray, List.getElem?_cons_zero, List.getElem?_cons_succ] at XA0 XA1 XA2 XA3 XB0 XB1 XB2 XB3
                    go_wp2_with fail
                    clear XA0 XA1 XA2 XA3 XB0 XB1 XB2 XB3
                    refine (CC.out _ _ _ _ _ (by first | exact N3 | exact N3.up ((Up.refl _).drew) | exact N3.up ((Up.refl _).drewN _)) (by first | exact N5 | exact N5.up ((Up.refl _).drew) | exact N5.up ((Up.refl _).drewN _))).mono ?_
                    rintro _ w6 ⟨rfl, u6⟩
                    replace U := Up.trans (by first | exact U | exact U.drew | exact U.drewN _) u6
                    go_wp2_with fail
                    go_ret
                    exact ⟨by first | rfl | (simp; done), by first | exact U | exact U.drew | exact U.drewN _⟩
                  · have f1 : decide ((1 : Int) < (D.size : Int)) = true := decide_eq_true (by omega)
                    have f2 : decide (1 < D.size) = true := decide_eq_true g1
                    have f3 : ((ch.toNat : Int) == 48) = false := by rw [beq_eq_false_iff_ne]; intro h; exact g2 (UInt8.toNat_inj.1 (by show ch.toNat = 48; omega))
                    go_wp2_with fail
                    refine (CN1.out _).mono ?_
                    rintro _ w2 ⟨v2, rfl, H2, u2⟩
                    replace H2 := (hval ▸ H2 hYd : Nh _ _ _ _ V).more (s' := 2000) (by omega)
                    replace U := Up.trans (by first | exact U | exact U.drew | exact U.drewN _) u2
                    obtain ⟨A2, n2, c2, rfl, H2⟩ := H2.slr
                    rw [hYd]
                    clear u2
                    go_wp2_with fail
                    refine (CW1.out _ _ _ (by first | exact H2 | exact H2.up ((Up.refl _).drew) | exact H2.up ((Up.refl _).drewN _))).mono ?_
                    rintro _ w3 ⟨v3, rfl, N3, u3⟩
                    replace U := Up.trans (by first | exact U | exact U.drew | exact U.drewN _) u3
                    obtain ⟨A3, n3, c3, rfl, N3⟩ := N3.slr
                    clear H2 u3
                    go_upto_region 31 with fail
                    obtain ⟨V1, hV1⟩ : ∃ V1, w3.alloc (.cells #[.bool false, .slice A3 n3 c3, .int .i64 K, .int .i64 K] 46) = V1 := ⟨_, rfl⟩
                    have XA : Ob V1 w3.heap.size 46 #[.bool false, .slice A3 n3 c3, .int .i64 K, .int .i64 K] := by rw [← hV1]; exact Ob.mk_ _ _ _
                    have uV : Up w3 V1 := by rw [← hV1]; exact (Up.refl _).alloc _
                    rw [hV1]
                    clear hV1
                    replace U := U.trans uV
                    replace N3 := N3.up uV
                    clear uV
                    go_wp2_with fail
                    refine (CH1.out _ (by first | exact U | exact U.drew | exact U.drewN _)).mono ?_
                    rintro _ w4 ⟨v4, rfl, H4, u4⟩
                    replace U := Up.trans (by first | exact U | exact U.drew | exact U.drewN _) u4
                    replace N3 := N3.up (Up.trans (by first | exact Up.refl _ | exact (Up.refl _).drew | exact (Up.refl _).drewN _) u4)
                    replace XA := XA.up (Up.trans (by first | exact Up.refl _ | exact (Up.refl _).drew | exact (Up.refl _).drewN _) u4)
                    obtain ⟨A4, n4, c4, rfl, H4⟩ := H4.slr
                    clear u4
                    go_wp2_with fail
                    refine (CW2.out _ _ _ (by first | exact H4 | exact H4.up ((Up.refl _).drew) | exact H4.up ((Up.refl _).drewN _))).mono ?_
                    rintro _ w5 ⟨v5, rfl, N5, u5⟩
                    replace U := Up.trans (by first | exact U | exact U.drew | exact U.drewN _) u5
                    replace N3 := N3.up (Up.trans (by first | exact Up.refl _ | exact (Up.refl _).drew | exact (Up.refl _).drewN _) u5)
                    replace XA := XA.up (Up.trans (by first | exact Up.refl _ | exact (Up.refl _).drew | exact (Up.refl _).drewN _) u5)
                    obtain ⟨A5, n5, c5, rfl, N5⟩ := N5.slr
                    clear u5 H4
                    go_upto_region 32 with fail
                    obtain ⟨V2, hV2⟩ : ∃ V2, w5.alloc (.cells #[.bool false, .slice A5 n5 c5, .int .i64 e, .int .i64 0] 46) = V2 := ⟨_, rfl⟩
                    have XB : Ob V2 w5.heap.size 46 #[.bool false, .slice A5 n5 c5, .int .i64 e, .int .i64 0] := by rw [← hV2]; exact Ob.mk_ _ _ _
                    have uV : Up w5 V2 := by rw [← hV2]; exact (Up.refl _).alloc _
                    rw [hV2]
                    clear hV2
                    replace U := U.trans uV
                    replace N3 := N3.up uV
                    replace N5 := N5.up uV
                    replace XA := XA.up uV
                    clear uV
                    have XA0 := XA.get 0
                    have XA1 := XA.get 1
                    have XA2 := XA.get 2
                    have XA3 := XA.get 3
                    have XB0 := XB.get 0
                    have XB1 := XB.get 1
                    have XB2 := XB.get 2
                    have XB3 := XB.get 3
                    simp only [List.getElem?_toArray, List.getElem?_cons_zero, List.getElem?_cons_succ] at XA0 XA1 XA2 XA3 XB0 XB1 XB2 XB3
                    go_wp2_with fail
                    clear XA0 XA1 XA2 XA3 XB0 XB1 XB2 XB3
                    refine (CC.out _ _ _ _ _ (by first | exact N3 | exact N3.up ((Up.refl _).drew) | exact N3.up ((Up.refl _).drewN _)) (by first | exact N5 | exact N5.up ((Up.refl _).drew) | exact N5.up ((Up.refl _).drewN _))).mono ?_
                    rintro _ w6 ⟨rfl, u6⟩
                    replace U := Up.trans (by first | exact U | exact U.drew | exact U.drewN _) u6
                    go_wp2_with fail
                    go_ret
                    exact ⟨by first | rfl | (simp; done), by first | exact U | exact U.drew | exact U.drewN _⟩

end Go.Proofs.YtjmnobgllnaljaaGreatDoor
