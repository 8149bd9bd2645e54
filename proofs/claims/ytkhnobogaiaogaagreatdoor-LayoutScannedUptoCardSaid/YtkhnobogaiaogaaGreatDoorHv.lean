/-
  Package layout: a text read loosely: sizeOf's contract.
-/
import Derived.Test.YtkhnobogaiaogaaGreatDoorHu
import Derived.Test.YtkhnobogaiaogaaGreatDoorHd
import Derived.Shelf.Strconv.ErrVarAll
import Derived.Lib.AtoiErrMem
namespace Go.Proofs.YtkhnobogaiaogaaGreatDoor
open Go.RowKit Go.Shelf
set_option linter.unusedVariables false
set_option linter.unusedSimpArgs false

theorem trl_any (w : World) (s : ByteArray) (l : List UInt8) (hs : Tx s l) : Calls Tryz.prog 71 #[.string s, .string ⟨#[48]⟩] w (fun e w' => ∃ t, e = .returned (.string t) ∧ Tx t (M.lz l) ∧ w = w') := by
  refine (Tryz.strings_TrimLeft_one s 48 (by decide) w).mono ?_
  rintro _ _ ⟨rfl, rfl⟩
  rw [show s.data.toList = l from hs]
  exact ⟨_, rfl, Tx.lit (M.lz l), rfl⟩
theorem trr_any (w : World) (s : ByteArray) (l : List UInt8) (hs : Tx s l) (hl : s.size ≤ 9223372036854775807) : Calls Tryz.prog 72 #[.string s, .string ⟨#[48]⟩] w (fun e w' => ∃ t, e = .returned (.string t) ∧ Tx t (M.tz l) ∧ w = w') := by
  refine (Tryz.strings_TrimRight_one s 48 (by decide) w hl).mono ?_
  rintro _ _ ⟨rfl, rfl⟩
  rw [show s.data.toList = l from hs]
  exact ⟨_, rfl, Tx.lit (M.tz l), rfl⟩
/-- Are they few digits? -/
def M.few (l : List UInt8) : Prop := M.allD l = true ∧ l.length ≤ 2000
instance (l : List UInt8) : Decidable (M.few l) := by unfold M.few; infer_instance
/-- Parse of digits without a nought ahead. -/
theorem nparse_any (w : World) (EW : ErrW w) (s : ByteArray) (l : List UInt8) (hs : Tx s l) (h0 : l ≠ []) (hz : l.headD 0 ≠ 48) (r : Bool) (hr : Hid (decide (M.few l) = r)) :
    Calls Tryz.prog 63 #[.string s] w (Opt 2001 (if r = true then M.vsa 0 l else 0) r w) := by
  by_cases h1 : l.length ≤ 2000
  · have e : M.allD l = r := by
      rw [← hr.out, Bool.eq_iff_iff, decide_eq_true_iff]
      exact ⟨fun x => ⟨x, h1⟩, fun x => x.1⟩
    have := parse_any w s l hs h0 h1 (.inl hz) EW
    unfold Parsed at this
    rw [e] at this
    exact this
  · have e : false = r := by
      rw [← hr.out, eq_comm, decide_eq_false_iff_not]
      exact fun x => h1 x.2
    subst e
    exact parse_bad w s l hs (.inr (.inl (by omega)))
/-- Atoi. -/
def Ato (l : List UInt8) (w : World) (e : Ending) (w' : World) : Prop :=
  (∃ z, Lib.atoiAll l = .ok z ∧ e = .returned (.tuple #[.int .i64 z, .nilIface]) ∧ Up w w') ∨ ((∀ z, Lib.atoiAll l ≠ .ok z) ∧ ∃ z t p, (-9223372036854775808 ≤ z ∧ z ≤ 9223372036854775807) ∧ e = .returned (.tuple #[.int .i64 z, .iface t (.pointer (some p))]) ∧ Up w w')
theorem atoi_any (w : World) (EB : ErrB w) (s : ByteArray) (l : List UInt8) (hs : Tx s l) (hl : l.length ≤ 100000) : Calls Tryz.prog 73 #[.string s] w (Ato l w) := by
  have hsz := hs.size
  have e : s.data.toList = l := hs
  rcases h : Lib.atoiAll l with z | _ | _
  · refine (Tryz.strconv_Atoi_ok s (by omega) z (by rw [e]; exact h) w).mono ?_
    rintro _ w' ⟨rfl, hw⟩
    refine .inl ⟨z, h, rfl, ?_⟩
    rcases hw with rfl | ⟨t, rfl⟩
    · exact Up.refl _
    · exact Lib.bytesWorld_below w _ t
  · obtain ⟨tp, p, hv⟩ := EB.syn
    refine (Any.strconv_Atoi_syntax_var Tryz.laysC172 s (by omega) (by rw [e]; exact h) tp p w hv).mono ?_
    rintro _ w' ⟨N, rfl, _, _, hb⟩
    exact .inr ⟨(fun z hz => by rw [h] at hz; cases hz), 0, _, _, by omega, rfl, hb⟩
  · obtain ⟨tp, p, hv⟩ := EB.rng
    refine (Any.strconv_Atoi_range_var Tryz.laysC172 s (by omega) (by rw [e]; exact h) tp p w hv).mono ?_
    rintro _ w' ⟨N, rfl, _, _, hb⟩
    exact .inr ⟨(fun z hz => by rw [h] at hz; cases hz), _, _, _, Lib.atoiSat_bounds _, rfl, hb⟩

/-- What sizeOf comes to. -/
def Szo (l : List UInt8) (w : World) (e : Ending) (w' : World) : Prop :=
  (∃ n k A nn c, M.szx l = some (n, k) ∧ e = .returned (dv false (.slice A nn c) k) ∧ Nt w' w.heap.size 128 (.slice A nn c) n ∧ Up w w') ∨ (M.szx l = none ∧ Pnl w e w')

set_option maxHeartbeats 4000000 in
set_option maxRecDepth 100000 in
theorem sizeOf_any (w : World) (EB : ErrB w) (s : ByteArray) (l : List UInt8) (hs : Tx s l) (hl : l.length ≤ 3000) :
    Calls Tryz.prog 46 #[.string s] w (Szo l w) := by
  obtain ⟨x, y, hp, h1⟩ : ∃ x y hp, Lib.cut l [101] = (x, y, hp) := ⟨_, _, _, rfl⟩
  obtain ⟨u, v, q, h2⟩ : ∃ u v q, Lib.cut x [46] = (u, v, q) := ⟨_, _, _, rfl⟩
  obtain ⟨lx1, lx2, _⟩ := M.cut_len l [101]
  rw [h1] at lx1 lx2
  obtain ⟨_, lu2, lu3⟩ := M.cut_len x [46]
  rw [h2] at lu2 lu3
  simp only at lx1 lx2 lu2 lu3
  have la := M.lz_len (u ++ v)
  have ld := M.tz_len (M.lz (u ++ v))
  rw [List.length_append] at la
  have H1 := Lib.hid h1
  have H2 := Lib.hid h2
  have C1 : Hid (∀ W, Calls Tryz.prog 70 #[.string s, .string ⟨#[101]⟩] W (Ctt x y hp W)) := fun W => cut_any W s 101 l x y hp hs (by omega) h1
  have C2 : Hid (∀ W X, Tx X x → Calls Tryz.prog 70 #[.string X, .string ⟨#[46]⟩] W (Ctt u v q W)) := fun W X tX => cut_any W X 46 x u v q tX (by omega) h2
  have CJ : Hid (∀ W b (X Y : ByteArray), Tx X u → Tx Y v → Ob W b 9 #[.string X, .string Y] → Calls Tryz.prog 25 #[.slice (some ⟨b, 0, none⟩) 2 2] W (Tex (u ++ v) W)) := fun W b X Y tX tY ob => join2 W b _ _ _ _ _ ob tX tY (by omega)
  clear h1 h2
  have HD : Hid (M.tz (M.lz (u ++ v)) = [] ∨ M.tz (M.lz (u ++ v)) ≠ [] ∧ (M.tz (M.lz (u ++ v))).headD 0 ≠ 48) := by
    rcases M.tz_head _ (M.lz_head (u ++ v)) with h | h
    · exact .inl h.1
    · exact .inr h
  have KD : Hid (M.tz (M.lz (u ++ v)) = [] → M.szx l = some (0, 0)) := fun h => M.szx_none H1.out H2.out h
  have KB : Hid (M.tz (M.lz (u ++ v)) ≠ [] → ¬ M.few (M.tz (M.lz (u ++ v))) → M.szx l = none) := fun h h' => M.szx_bad H1.out H2.out h h'
  have KP : Hid (hp = false → M.tz (M.lz (u ++ v)) ≠ [] → M.few (M.tz (M.lz (u ++ v))) → M.szx l = some (M.vsa 0 (M.tz (M.lz (u ++ v))), ((M.lz (u ++ v)).length : Int) - (M.tz (M.lz (u ++ v))).length - v.length)) := fun e h h' => M.szx_plain (by rw [← e]; exact H1.out) H2.out h h'
  have KO : Hid (hp = true → M.tz (M.lz (u ++ v)) ≠ [] → M.few (M.tz (M.lz (u ++ v))) → ∀ z, Lib.atoiAll y = .ok z → M.szx l = some (M.vsa 0 (M.tz (M.lz (u ++ v))), IntKind.i64.wrap (((M.lz (u ++ v)).length : Int) - (M.tz (M.lz (u ++ v))).length - v.length + z))) := fun e h h' z hz => M.szx_pow (by rw [← e]; exact H1.out) H2.out h h' hz
  have KF : Hid (hp = true → M.tz (M.lz (u ++ v)) ≠ [] → M.few (M.tz (M.lz (u ++ v))) → (∀ z, Lib.atoiAll y ≠ .ok z) → M.szx l = none) := fun e h h' hz => M.szx_far (by rw [← e]; exact H1.out) H2.out h h' hz
  have CL : Hid (∀ W X, Tx X (u ++ v) → Calls Tryz.prog 71 #[.string X, .string ⟨#[48]⟩] W (fun e w' => ∃ t, e = .returned (.string t) ∧ Tx t (M.lz (u ++ v)) ∧ W = w')) := fun W X tX => trl_any W X _ tX
  have CR : Hid (∀ W X, Tx X (M.lz (u ++ v)) → Calls Tryz.prog 72 #[.string X, .string ⟨#[48]⟩] W (fun e w' => ∃ t, e = .returned (.string t) ∧ Tx t (M.tz (M.lz (u ++ v))) ∧ W = w')) := fun W X tX => trr_any W X _ tX (by rw [tX.size]; omega)
  generalize M.tz (M.lz (u ++ v)) = dl at *
  generalize M.lz (u ++ v) = al at *
  generalize u ++ v = uv at *
  clear H1 H2 hs
  have EB' := Lib.hid EB
  clear EB
  go_enter Tryz.func46, Tryz.ntmps46
  go_upto_region 1 with fail
  obtain ⟨V, hV⟩ : ∃ V, w.alloc (.cells #[.bool false, .slice none 0 0, .int .i64 0] 25) = V := ⟨_, rfl⟩
  have R : Ob V w.heap.size 25 #[.bool false, .slice none 0 0, .int .i64 0] := by rw [← hV]; exact Ob.mk_ _ _ _
  have U : Up w V := by rw [← hV]; exact (Up.refl _).alloc _
  rw [hV]
  clear hV
  go_wp2_with fail
  refine (C1.out _).mono ?_
  rintro _ W1 ⟨X, Y, rfl, tX, tY, u1⟩
  replace U := Up.trans (by first | exact U | exact U.drew) u1
  replace R := R.up u1
  have HY := Lib.hid tY
  clear u1 C1 tY
  go_wp2_with fail
  refine (C2.out _ X tX).mono ?_
  rintro _ W2 ⟨A, B, rfl, tA, tB, u2⟩
  replace U := Up.trans (by first | exact U | exact U.drew) u2
  replace R := R.up u2
  have HB := Lib.hid tB
  clear u2 C2 tX
  go_wp2_with fail
  refine (CJ.out _ _ A B tA tB (by first | exact Ob.mk_ W2 _ _ | exact Ob.mk_ W2.drew _ _)).mono ?_
  rintro _ W3 ⟨J, rfl, tJ, u3⟩
  have v3 : Up W2 W3 := Up.trans (by repeat (first | exact Up.refl _ | refine Up.drew ?_ | refine Up.drewN ?_ _ | refine Up.alloc ?_ _)) u3
  replace U := U.trans v3
  replace R := R.up v3
  clear u3 v3 CJ tA tB
  go_wp2_with fail
  refine (CL.out _ J tJ).mono ?_
  rintro _ W4 ⟨L, rfl, tL, hw4⟩
  replace U : Up w W4 := by rw [← hw4]; first | exact U | exact U.drew
  replace R : Ob W4 w.heap.size 25 #[.bool false, .slice none 0 0, .int .i64 0] := by rw [← hw4]; exact R
  clear hw4 CL tJ
  go_wp2_with fail
  refine (CR.out _ L tL).mono ?_
  rintro _ W5 ⟨D, rfl, tD, hw5⟩
  replace U : Up w W5 := by rw [← hw5]; first | exact U | exact U.drew
  replace R : Ob W5 w.heap.size 25 #[.bool false, .slice none 0 0, .int .i64 0] := by rw [← hw5]; exact R
  clear hw5 CR
  have HL := Lib.hid tL
  have HT := Lib.hid tD
  clear tL tD
  rcases HD.out with e0 | ⟨e0, e1⟩
  · have eD : D.toList.isEmpty = true := by
      rw [Lib.toList_data, show D.data.toList = dl from HT.out, e0]
      rfl
    have KK := Lib.hid (KD.out e0)
    clear KD KB KP KO KF HD e0
    go_upto_region 6 with fail
    go_wp2_with (refine store_ob2 rfl 25 (.tmp 2) (.tmp 37) rfl _ #[.bool false, .slice none 0 0, .int .i64 0] #[.bool false, .slice none 0 0, .int .i64 0] rfl rfl 3 (by kernel_rfl) rfl rfl (by simp [Value.oneCell']) w U (Nat.le_refl _) 25 R ?_; clear U; intro V9 Z9 U ho)
    have z0 := Z9.get 0
    have z1 := Z9.get 1
    have z2 := Z9.get 2
    simp only [List.getElem?_toArray, List.getElem?_cons_zero, List.getElem?_cons_succ] at z0 z1 z2
    refine bodyPost_ret (v := dv false (.slice none 0 0) 0) (by simp [results, Tryz.results46, go_sem, z0, z1, z2]) rfl ?_
    exact .inl ⟨0, 0, none, 0, 0, KK.out, rfl, Nt.nil _ _ _, U⟩
  · have eD : D.toList.isEmpty = false := by
      rw [Lib.toList_data, show D.data.toList = dl from HT.out]
      cases dl with
      | nil => exact absurd rfl e0
      | cons _ _ => rfl
    obtain ⟨ok, hok⟩ : ∃ ok, decide (M.few dl) = ok := ⟨_, rfl⟩
    have CP := Lib.hid (nparse_any W5 (EB'.out.syn.up U) D dl HT.out e0 e1 ok (Lib.hid hok))
    have HE0 := Lib.hid e0
    clear KD HD e0 e1
    cases ok with
    | false =>
      have KK := Lib.hid (KB.out HE0.out (of_decide_eq_false hok))
      clear KB KP KO KF hok
      go_wp2_with fail
      refine CP.out.mono ?_
      rintro _ W6 ⟨vv, rfl, N6, u6⟩
      replace U := U.trans u6
      clear CP R u6
      go_wp2_with fail
      refine (lmust_bad _).mono ?_
      rintro _ W7 ⟨rfl, u7⟩
      exact ⟨rfl, .inr ⟨KK.out, rfl, Up.trans (by first | exact U | exact U.drew) u7⟩⟩
    | true =>
      have hfew : M.few dl := of_decide_eq_true hok
      have HV := Lib.hid (Nat.lt_trans (M.vsa_lt _ hfew.1) (M.ten_gap _ hfew.2))
      simp only [if_true] at CP
      have HFW := Lib.hid hfew
      clear KB hok hfew
      go_wp2_with fail
      refine CP.out.mono ?_
      rintro _ W6 ⟨vv, rfl, N6, u6⟩
      have g6 : w.heap.size < W5.heap.size := R.lt
      replace U := U.trans u6
      replace R := R.up u6
      obtain ⟨A6, n6, c6, ys6, rfl, N6'⟩ := N6
      replace N6 : Nt W6 _ 2001 (.slice A6 n6 c6) (M.vsa 0 dl) := ⟨_, _, _, _, rfl, N6'⟩
      replace N6 := (N6.lower (lo' := W5.heap.size) (Nat.le_refl _)).fit HV.out
      clear HV
      clear N6' CP u6
      go_wp2_with fail
      refine (lmust_ok _).mono ?_
      rintro _ _ ⟨rfl, rfl⟩
      have bL := HL.out.size
      have bD := HT.out.size
      have bB := HB.out.size
      obtain ⟨k0, hk0⟩ : ∃ k0 : Int, (L.size : Int) - D.size - B.size = k0 := ⟨_, rfl⟩
      have hk1 : -10000 ≤ k0 ∧ k0 ≤ 10000 := by omega
      obtain ⟨hk2, hk3⟩ := hk1
      have HK : Hid ((al.length : Int) - dl.length - v.length = k0) := by show _ = _; omega
      have i1 : L.size ≤ 3000 := by omega
      have i2 : D.size ≤ 3000 := by omega
      have i3 : B.size ≤ 3000 := by omega
      clear bL bD bB
      cases hp with
      | false =>
        have KK := Lib.hid (KP.out rfl HE0.out HFW.out)
        rw [HK.out] at KK
        clear KP KO KF
        go_upto_region 14 with fail
        go_wp2_with (refine store_ob2 rfl 25 (.tmp 2) (.tmp 67) rfl _ #[.bool false, .slice none 0 0, .int .i64 0] #[.bool false, .slice A6 n6 c6, .int .i64 k0] rfl rfl 3 (by kernel_rfl) rfl rfl (by simp [Value.oneCell']) w U (Nat.le_refl _) 25 R ?_; clear U; intro V9 Z9 U ho)
        have z0 := Z9.get 0
        have z1 := Z9.get 1
        have z2 := Z9.get 2
        simp only [List.getElem?_toArray, List.getElem?_cons_zero, List.getElem?_cons_succ] at z0 z1 z2
        refine bodyPost_ret (v := dv false (.slice A6 n6 c6) k0) (by simp [results, Tryz.results46, go_sem, z0, z1, z2]) rfl ?_
        exact .inl ⟨_, _, _, _, _, KK.out, rfl, (N6.other ho g6).lower (Nat.le_of_lt g6), U⟩
      | true =>
        have CA := Lib.hid (fun W (u : Up w W) => atoi_any W (EB'.out.up u) Y y HY.out (by omega))
        have KK := Lib.hid (KO.out rfl HE0.out HFW.out)
        have KL := Lib.hid (KF.out rfl HE0.out HFW.out)
        clear KP KO KF
        go_wp2_with fail
        refine (CA.out _ (by first | exact U | exact U.drew)).mono ?_
        rintro _ W8 (⟨z, hz, rfl, u8⟩ | ⟨hz, z, ty, pp, zb, rfl, u8⟩)
        · have KM := KK.out z hz
          rw [HK.out] at KM
          obtain ⟨kk, hkk⟩ : ∃ kk, IntKind.i64.wrap (k0 + z) = kk := ⟨_, rfl⟩
          rw [hkk] at KM
          have KN := Lib.hid KM
          have v8 : Up W6 W8 := Up.trans (by repeat (first | exact Up.refl _ | refine Up.drew ?_ | refine Up.drewN ?_ _ | refine Up.alloc ?_ _)) u8
          replace U := U.trans v8
          replace R := R.up v8
          replace N6 := N6.up v8
          clear KM hz KK KL CA u8 v8
          go_wp2_with fail
          refine (lmust_ok _).mono ?_
          rintro _ _ ⟨rfl, rfl⟩
          go_upto_region 14 with fail
          go_wp2_with (refine store_ob2 rfl 25 (.tmp 2) (.tmp 67) rfl _ #[.bool false, .slice none 0 0, .int .i64 0] #[.bool false, .slice A6 n6 c6, .int .i64 kk] rfl rfl 3 (by kernel_rfl) rfl rfl (by simp [Value.oneCell']) w U (Nat.le_refl _) 25 R ?_; clear U; intro V9 Z9 U ho)
          have z0 := Z9.get 0
          have z1 := Z9.get 1
          have z2 := Z9.get 2
          simp only [List.getElem?_toArray, List.getElem?_cons_zero, List.getElem?_cons_succ] at z0 z1 z2
          refine bodyPost_ret (v := dv false (.slice A6 n6 c6) kk) (by simp [results, Tryz.results46, go_sem, z0, z1, z2]) rfl ?_
          exact .inl ⟨_, _, _, _, _, KN.out, rfl, (N6.other ho g6).lower (Nat.le_of_lt g6), U⟩
        · have KM := Lib.hid (KL.out hz)
          have v8 : Up W6 W8 := Up.trans (by repeat (first | exact Up.refl _ | refine Up.drew ?_ | refine Up.drewN ?_ _ | refine Up.alloc ?_ _)) u8
          replace U := U.trans v8
          clear hz KK KL CA u8 v8
          go_wp2_with fail
          refine (lmust_bad _).mono ?_
          rintro _ W9 ⟨rfl, u9⟩
          exact ⟨rfl, .inr ⟨KM.out, rfl, Up.trans (by first | exact U | exact U.drew) u9⟩⟩
end Go.Proofs.YtkhnobogaiaogaaGreatDoor
