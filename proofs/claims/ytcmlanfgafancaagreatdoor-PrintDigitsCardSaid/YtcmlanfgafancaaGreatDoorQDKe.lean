import Derived.Test.YtcmlanfgafancaaGreatDoorQDKc
import Derived.LoopTactic
import Derived.OwnWalk
set_option maxHeartbeats 32000000
set_option linter.unusedVariables false
set_option linter.unusedSimpArgs false
namespace Go.Proofs.YtcmlanfgafancaaGreatDoor
open Go.RowKit
theorem M.fl_rng {X d : Nat} {k t : Int} {j : Nat} (ht : M.Tp X t) (j1 : 1 ≤ j) (j21 : j ≤ 21) (hk : k + j = t + 1) (h1 : M.sz d k k ≤ X) (h2 : X < M.sz (d + 1) k k) : 0 < d ∧ d < 1000000000000000000000 ∧ -4000 ≤ k ∧ k ≤ 4400 := by
 have lo := ht.lo
 have hi := ht.hi
 obtain ⟨l1, l2⟩ := M.fl_len (by omega) hk j1 h1 h2 ht.le ht.lt
 have e1 : 0 < 10 ^ (j - 1) := Nat.pow_pos (by decide)
 have e2 : (10 : Nat) ^ j ≤ 10 ^ 21 := Nat.pow_le_pow_right (by decide) j21
 have e3 : (10 : Nat) ^ 21 = 1000000000000000000000 := by decide
 omega
def Nno (w : World) (e : Ending) (w' : World) : Prop := e = .returned (.tuple #[xv false (.slice none 0 0) 0 0, .bool false]) ∧ Up w w'
def Nyes (ng : Bool) (k : Int) (y : Nat) (w : World) (e : Ending) (w' : World) : Prop := ∃ A n c, e = .returned (.tuple #[xv ng (.slice A n c) k k, .bool true]) ∧ Nt w' w.heap.size 2 (.slice A n c) y ∧ Up w w'
set_option maxRecDepth 100000 in
theorem near_no (w : World) (A1 : Option Addr) (n1 c1 : Nat) (z1 : Int) (A2 : Option Addr) (n2 c2 : Nat) (z2 : Int) (ev : Bool) (lo1 lo2 : Nat) (m1 m2 : Nat) (N1 : Nt w lo1 1 (.slice A1 n1 c1) m1) (N2 : Nt w lo2 1 (.slice A2 n2 c2) m2) (b1 : -3000 ≤ z1 ∧ z1 ≤ 3000) (b2 : -3000 ≤ z2 ∧ z2 ≤ 3000) (lo : Nat) (ng : Bool) (A : Option Addr) (n c : Nat) (z : Int) (a : Nat) (h : Nt w lo 1 (.slice A n c) a) (zb : -3000 ≤ z ∧ z ≤ 3000) (t : Int) (nn : Nat) (k : Int) (d : Nat) (r : Int) (y : Nat) (ht : M.Tp (M.sz a z 0) t) (hs : M.Sh (M.In m1 z1 m2 z2 ev) (M.sz a z 0) t nn k d r y) (j : Nat) (j1 : 1 ≤ j) (jn : j < nn) (K : Int) (hK : K + j = t + 1) : Calls Tryz.prog 88 #[.agg #[.bool false, .slice A1 n1 c1, .int .i64 z1, .int .i64 0, .bool false, .slice A2 n2 c2, .int .i64 z2, .int .i64 0, .bool ev], xv ng (.slice A n c) z 0, .int .i64 K] w (Nno w) := by
 obtain ⟨d', r', hb⟩ := M.bes_ex (M.sz a z 0) K
 have n21 := hs.n21
 obtain ⟨g1, g2, g3, g4⟩ := M.fl_rng ht j1 (by omega) hK hb.le hb.lt
 refine (near_any w A1 n1 c1 z1 A2 n2 c2 z2 ev lo1 lo2 m1 m2 N1 N2 b1 b2 lo ng A n c z a h zb K ⟨g3, g4⟩ d' r' hb g1 g2).mono ?_
 rintro e w' (⟨A', n', c', y', _, hc, _, _⟩ | ⟨he, _, hu⟩)
 ·exact (M.ch_no hc (hs.few j K d' j1 jn hK hb.le hb.lt)).elim
 ·exact ⟨he, hu⟩
set_option maxRecDepth 100000 in
theorem near_yes (w : World) (A1 : Option Addr) (n1 c1 : Nat) (z1 : Int) (A2 : Option Addr) (n2 c2 : Nat) (z2 : Int) (ev : Bool) (lo1 lo2 : Nat) (m1 m2 : Nat) (N1 : Nt w lo1 1 (.slice A1 n1 c1) m1) (N2 : Nt w lo2 1 (.slice A2 n2 c2) m2) (b1 : -3000 ≤ z1 ∧ z1 ≤ 3000) (b2 : -3000 ≤ z2 ∧ z2 ≤ 3000) (lo : Nat) (ng : Bool) (A : Option Addr) (n c : Nat) (z : Int) (a : Nat) (h : Nt w lo 1 (.slice A n c) a) (zb : -3000 ≤ z ∧ z ≤ 3000) (t : Int) (nn : Nat) (k : Int) (d : Nat) (r : Int) (y : Nat) (ht : M.Tp (M.sz a z 0) t) (hs : M.Sh (M.In m1 z1 m2 z2 ev) (M.sz a z 0) t nn k d r y)  : Calls Tryz.prog 88 #[.agg #[.bool false, .slice A1 n1 c1, .int .i64 z1, .int .i64 0, .bool false, .slice A2 n2 c2, .int .i64 z2, .int .i64 0, .bool ev], xv ng (.slice A n c) z 0, .int .i64 k] w (Nyes ng k y w) := by
 have hb := hs.fl
 obtain ⟨g1, g2, g3, g4⟩ := M.fl_rng ht hs.n1 hs.n21 hs.kn hb.le hb.lt
 refine (near_any w A1 n1 c1 z1 A2 n2 c2 z2 ev lo1 lo2 m1 m2 N1 N2 b1 b2 lo ng A n c z a h zb k ⟨g3, g4⟩ d r hb g1 g2).mono ?_
 rintro e w' (⟨A', n', c', y', he, hc, hn, hu⟩ | ⟨_, hn, _⟩)
 ·obtain rfl := M.ch_uniq hs.ch hc
  exact ⟨A', n', c', he, hn, hu⟩
 ·exact (M.ch_no hs.ch hn).elim
def Xsh (ng : Bool) (k : Int) (y : Nat) (w : World) (e : Ending) (w' : World) : Prop := ∃ A n c, e = .returned (xv ng (.slice A n c) k k) ∧ Nt w' w.heap.size 2 (.slice A n c) y ∧ Up w w'
set_option maxRecDepth 100000 in
theorem shortest_any (w : World) (TW : Hid (TabW w)) (A1 : Option Addr) (n1 c1 : Nat) (z1 : Int) (A2 : Option Addr) (n2 c2 : Nat) (z2 : Int) (ev : Bool) (lo1 lo2 : Nat) (m1 m2 : Nat) (N1 : Nt w lo1 1 (.slice A1 n1 c1) m1) (N2 : Nt w lo2 1 (.slice A2 n2 c2) m2) (b1 : -3000 ≤ z1 ∧ z1 ≤ 3000) (b2 : -3000 ≤ z2 ∧ z2 ≤ 3000) (lo : Nat) (ng : Bool) (A : Option Addr) (n c : Nat) (z : Int) (a : Nat) (h : Nt w lo 1 (.slice A n c) a) (zb : -3000 ≤ z ∧ z ≤ 3000) (a0 : a ≠ 0) (t : Int) (nn : Nat) (k : Int) (d : Nat) (r : Int) (y : Nat) (ht : M.Tp (M.sz a z 0) t) (hs : M.Sh (M.In m1 z1 m2 z2 ev) (M.sz a z 0) t nn k d r y)  : Calls Tryz.prog 43 #[.agg #[.bool false, .slice A1 n1 c1, .int .i64 z1, .int .i64 0, .bool false, .slice A2 n2 c2, .int .i64 z2, .int .i64 0, .bool ev], xv ng (.slice A n c) z 0] w (Xsh ng k y w) := by
  obtain ⟨m, hm⟩ : ∃ m, min z 0 = m := ⟨_, rfl⟩
  obtain ⟨T, hT⟩ : ∃ T : Nat, (T : Int) = z - m := ⟨(z - m).toNat, by omega⟩
  obtain ⟨F, hF⟩ : ∃ F : Nat, (F : Int) = 0 - m := ⟨(0 - m).toNat, by omega⟩
  have hl := M.log_tp a0 zb hm hT hF ht
  have CL := Lib.hid (fun W (U : Up w W) => log10_any W (TW.out.up U) lo 1 ng (.slice A n c) z 0 a (h.nw.up U) (by omega) (by omega) (by omega) m hm T F (by show _ = _; omega) (by show _ = _; omega) t hl)
  have CN := Lib.hid (fun W (U : Up w W) (j : Nat) (j1 : 1 ≤ j) (jn : j < nn) (K : Int) (hK : K + j = t + 1) => near_no W A1 n1 c1 z1 A2 n2 c2 z2 ev lo1 lo2 m1 m2 (N1.up U) (N2.up U) b1 b2 lo ng A n c z a (h.up U) zb t nn k d r y ht hs j j1 jn K hK)
  have CY := Lib.hid (fun W (U : Up w W) => near_yes W A1 n1 c1 z1 A2 n2 c2 z2 ev lo1 lo2 m1 m2 (N1.up U) (N2.up U) b1 b2 lo ng A n c z a (h.up U) zb t nn k d r y ht hs)
  have n1' := hs.n1
  have kn := Lib.hid hs.kn
  have n21 := hs.n21
  have y0 := Lib.hid (show 0 < y by
    obtain ⟨g1, _⟩ := M.fl_rng ht hs.n1 hs.n21 hs.kn hs.fl.le hs.fl.lt
    rcases (M.ch_has hs.ch).2 with e | e <;> omega)
  have tb := Lib.hid (And.intro ht.lo ht.hi)
  clear h a0 ht hs hl hm hT hF N1 N2 b1 b2 zb
  have U := Up.refl w
  go_enter Tryz.func43, Tryz.ntmps43
  go_wp2_with fail
  obtain ⟨V1, hV1⟩ : ∃ V1, w.alloc (.cells #[.bool false, .slice A1 n1 c1, .int .i64 z1, .int .i64 0, .bool false, .slice A2 n2 c2, .int .i64 z2, .int .i64 0, .bool ev] 90) = V1 := ⟨_, rfl⟩
  have S : Ob V1 (w.heap.size) 90 #[.bool false, .slice A1 n1 c1, .int .i64 z1, .int .i64 0, .bool false, .slice A2 n2 c2, .int .i64 z2, .int .i64 0, .bool ev] := by rw [← hV1]; exact Ob.mk_ _ _ _
  have sV1 : V1.heap.size = w.heap.size + 1 := by rw [← hV1]; exact (Array.size_push _)
  have uV1 : Up w V1 := Up.al hV1
  have ltS : w.heap.size ≤ w.heap.size := by have := U.size; omega
  rw [hV1]
  clear hV1
  replace U := U.trans uV1
  clear uV1
  obtain ⟨V2, hV2⟩ : ∃ V2, V1.alloc (.cells #[.bool ng, .slice A n c, .int .i64 z, .int .i64 0] 84) = V2 := ⟨_, rfl⟩
  have X : Ob V2 (w.heap.size + 1) 84 #[.bool ng, .slice A n c, .int .i64 z, .int .i64 0] := by rw [← sV1, ← hV2]; exact Ob.mk_ _ _ _
  have sV2 : V2.heap.size = w.heap.size + 1 + 1 := by rw [← hV2]; exact (Array.size_push _).trans (congrArg (· + 1) sV1)
  have uV2 : Up V1 V2 := Up.al hV2
  have ltX : w.heap.size ≤ w.heap.size + 1 := Nat.le_succ_of_le ltS
  rw [hV2]
  clear hV2
  replace S := S.up uV2
  replace U := U.trans uV2
  clear uV2
  obtain ⟨V3, hV3⟩ : ∃ V3, V2.alloc (.cells #[.bool false, .slice none 0 0, .int .i64 0, .int .i64 0] 84) = V3 := ⟨_, rfl⟩
  have R : Ob V3 (w.heap.size + 1 + 1) 84 #[.bool false, .slice none 0 0, .int .i64 0, .int .i64 0] := by rw [← sV2, ← hV3]; exact Ob.mk_ _ _ _
  have sV3 : V3.heap.size = w.heap.size + 1 + 1 + 1 := by rw [← hV3]; exact (Array.size_push _).trans (congrArg (· + 1) sV2)
  have uV3 : Up V2 V3 := Up.al hV3
  have ltR : w.heap.size ≤ w.heap.size + 1 + 1 := Nat.le_succ_of_le ltX
  rw [hV3]
  clear hV3
  replace S := S.up uV3
  replace X := X.up uV3
  replace U := U.trans uV3
  clear uV3
  clear sV3 sV2 sV1
  have glS := S.lt
  have glX := X.lt
  have glR := R.lt
  obtain ⟨X0, X1, X2, X3, Xf0, Xf1, Xf2, Xf3, Xl⟩ := X.c4
  go_wp2_with fail
  clear X0 Xf0 X1 Xf1 X2 Xf2 X3 Xf3 Xl
  refine (CL.out _ U).mono ?_
  rintro _ w4 ⟨rfl, h4⟩
  replace U := U.trans h4
  replace S := S.up h4
  replace X := X.up h4
  replace R := R.up h4
  clear h4
  clear CL
  obtain ⟨S0, S1, S2, S3, S4, S5, S6, S7, S8, Sf0, Sf1, Sf2, Sf3, Sf4, Sf5, Sf6, Sf7, Sf8, Sl⟩ := S.c9
  obtain ⟨X0, X1, X2, X3, Xf0, Xf1, Xf2, Xf3, Xl⟩ := X.c4
  go_wp2_with fail
  clear S0 Sf0 S1 Sf1 S2 Sf2 S3 Sf3 S4 Sf4 S5 Sf5 S6 Sf6 S7 Sf7 S8 Sf8 Sl
  clear X0 Xf0 X1 Xf1 X2 Xf2 X3 Xf3 Xl
  by_cases hn : nn = 1
  ·
    have ek : t = k := by have := kn.out; omega
    have CY2 := CY
    rw [← ek] at CY2
    have EK1 := Lib.hid ek
    clear ek
    refine (CY2.out _ U).mono ?_
    rintro _ w10 ⟨A9, n9, c9, rfl, N9, h10⟩
    have own9 := N9.own_lo y0.out R.lt
    have llw := U.size
    replace U := U.trans h10
    replace S := S.up h10
    replace X := X.up h10
    replace R := R.up h10
    have l410 := Up.size h10
    clear h10
    go_wp2_with fail
    have gYS := S.lt
    have gYX := X.lt
    have gYR := R.lt
    obtain ⟨V5, hV5⟩ : ∃ V5, w10.alloc (.cells #[.bool ng, .slice A9 n9 c9, .int .i64 t, .int .i64 t] 84) = V5 := ⟨_, rfl⟩
    have Y : Ob V5 (w10.heap.size) 84 #[.bool ng, .slice A9 n9 c9, .int .i64 t, .int .i64 t] := by rw [← hV5]; exact Ob.mk_ _ _ _
    have sV5 : V5.heap.size = w10.heap.size + 1 := by rw [← hV5]; exact (Array.size_push _)
    have uV5 : Up w10 V5 := Up.al hV5
    have ltY : w.heap.size ≤ w10.heap.size := by have := U.size; omega
    rw [hV5]
    clear hV5
    replace U := U.trans uV5
    replace S := S.up uV5
    replace X := X.up uV5
    replace R := R.up uV5
    replace N9 := N9.up uV5
    clear uV5
    clear sV5
    have glY := Y.lt
    go_loopw [5, 7] (fun kv ov wr => (Ob wr w.heap.size 90 #[.bool false, .slice A1 n1 c1, .int .i64 z1, .int .i64 0, .bool false, .slice A2 n2 c2, .int .i64 z2, .int .i64 0, .bool ev] ∧ Ob wr (w.heap.size + 1) 84 #[.bool ng, .slice A n c, .int .i64 z, .int .i64 0] ∧ Ob wr (w.heap.size + 1 + 1) 84 #[.bool false, .slice none 0 0, .int .i64 0, .int .i64 0] ∧ Up w wr) ∧
        ((∃ (j : Nat) (K : Int), 1 ≤ j ∧ j < nn ∧ K + j = t + 1 ∧ kv = .int .i64 K ∧ ov = .bool false ∧ Ob wr (w10.heap.size) 84 #[.bool false, .slice none 0 0, .int .i64 0, .int .i64 0]) ∨
         (kv = .int .i64 k ∧ ov = .bool true ∧ ∃ A9 n9 c9, Ob wr (w10.heap.size) 84 #[.bool ng, .slice A9 n9 c9, .int .i64 k, .int .i64 k] ∧ Nt wr (w4.heap.size) 2 (.slice A9 n9 c9) y ∧ (Value.slice A9 n9 c9).ownBlock ≠ some (w.heap.size + 1 + 1))))
        (fun kv _ _ => (intOf kv + 20000).toNat)
    case atStart => exact ⟨⟨S, X, R, U⟩, .inr ⟨by rw [EK1.out], rfl, A9, n9, c9, by rw [EK1.out] at Y; exact Y, N9, own9⟩⟩
    case round =>
      clear S X R Y U
      obtain ⟨⟨S, X, R, U⟩, ⟨j, K, j1, jn, hK, rfl, rfl, Y⟩ | ⟨rfl, rfl, A9, n9, c9, Y, N9, own9⟩⟩ := hrel
      ·
        have wK : IntKind.i64.wrap (K - 1) = K - 1 := by have := tb.out; simp [IntKind.wrap, IntKind.bits, IntKind.signed]; omega
        have rK := Lib.hid (show 0 ≤ K + 10000 by have := tb.out; omega)
        by_cases e : j + 1 = nn
        ·
          have ek : K - 1 = k := by have := kn.out; omega
          have CY2 := CY
          rw [← ek] at CY2
          have EK := Lib.hid ek
          clear hK jn j1 ek CY kn e CN
          obtain ⟨S0, S1, S2, S3, S4, S5, S6, S7, S8, Sf0, Sf1, Sf2, Sf3, Sf4, Sf5, Sf6, Sf7, Sf8, Sl⟩ := S.c9
          obtain ⟨X0, X1, X2, X3, Xf0, Xf1, Xf2, Xf3, Xl⟩ := X.c4
          go_wp2_with fail
          clear S0 Sf0 S1 Sf1 S2 Sf2 S3 Sf3 S4 Sf4 S5 Sf5 S6 Sf6 S7 Sf7 S8 Sf8 Sl
          clear X0 Xf0 X1 Xf1 X2 Xf2 X3 Xf3 Xl
          refine (CY2.out _ U).mono ?_
          rintro _ w30 ⟨A9, n9, c9, rfl, N9, h30⟩
          have own9 := N9.own_lo y0.out R.lt
          have own8 := N9.own_lo y0.out Y.lt
          replace N9 := N9.lower (lo' := w4.heap.size) (by have := Y.lt; omega)
          replace U := U.trans h30
          replace S := S.up h30
          replace X := X.up h30
          replace R := R.up h30
          replace Y := Y.up h30
          clear h30
          go_wp2_with (refine store_ob2 rfl 84 (.tmp 6) (.tmp 26) rfl _ #[.bool false, .slice none 0 0, .int .i64 0, .int .i64 0] #[.bool ng, .slice A9 n9 c9, .int .i64 (K - 1), .int .i64 (K - 1)] rfl rfl 4 (by kernel_rfl) rfl rfl (by simp [Value.oneCell']) w U ltY 84 Y ?_; clear U; intro V9 Z9 U ho; replace N9 := N9.oth y0.out ho own8; replace S := Ob.oth S ho (by omega); replace X := Ob.oth X ho (by omega); replace R := Ob.oth R ho (by omega); clear ho Y; have Y := Z9; clear Z9)
          go_roundw
          case rel => exact ⟨⟨S, X, R, U⟩, .inr ⟨by rw [EK.out], rfl, A9, n9, c9, by rw [EK.out] at Y; exact Y, N9, own9⟩⟩
          case measure => have := rK.out; simp [intOf]; omega
        ·
          have CN2 := Lib.hid (fun W (U : Up w W) => CN.out W U (j + 1) (by omega) (by omega) (K - 1) (by omega))
          have HK := Lib.hid hK
          have JN := Lib.hid jn
          have NE := Lib.hid e
          clear hK jn e CN CY j1
          obtain ⟨S0, S1, S2, S3, S4, S5, S6, S7, S8, Sf0, Sf1, Sf2, Sf3, Sf4, Sf5, Sf6, Sf7, Sf8, Sl⟩ := S.c9
          obtain ⟨X0, X1, X2, X3, Xf0, Xf1, Xf2, Xf3, Xl⟩ := X.c4
          go_wp2_with fail
          clear S0 Sf0 S1 Sf1 S2 Sf2 S3 Sf3 S4 Sf4 S5 Sf5 S6 Sf6 S7 Sf7 S8 Sf8 Sl
          clear X0 Xf0 X1 Xf1 X2 Xf2 X3 Xf3 Xl
          refine (CN2.out _ U).mono ?_
          rintro _ w30 ⟨rfl, h30⟩
          replace U := U.trans h30
          replace S := S.up h30
          replace X := X.up h30
          replace R := R.up h30
          replace Y := Y.up h30
          clear h30
          go_wp2_with (refine store_ob2 rfl 84 (.tmp 6) (.tmp 26) rfl _ #[.bool false, .slice none 0 0, .int .i64 0, .int .i64 0] #[.bool false, .slice none 0 0, .int .i64 0, .int .i64 0] rfl rfl 4 (by kernel_rfl) rfl rfl (by simp [Value.oneCell']) w U ltY 84 Y ?_; clear U; intro V9 Z9 U ho; replace S := Ob.oth S ho (by omega); replace X := Ob.oth X ho (by omega); replace R := Ob.oth R ho (by omega); clear ho Y; have Y := Z9; clear Z9)
          go_roundw
          case rel => exact ⟨⟨S, X, R, U⟩, .inl ⟨j + 1, K - 1, by omega, by have := JN.out; have := NE.out; omega, by have := HK.out; omega, rfl, rfl, Y⟩⟩
          case measure => have := rK.out; simp [intOf]; omega
      ·
        clear CN CY
        obtain ⟨Y0, Y1, Y2, Y3, Yf0, Yf1, Yf2, Yf3, Yl⟩ := Y.c4
        go_wp2_with (refine store_ob2 rfl 84 (.tmp 4) (.tmp 28) rfl _ #[.bool false, .slice none 0 0, .int .i64 0, .int .i64 0] #[.bool ng, .slice A9 n9 c9, .int .i64 k, .int .i64 k] rfl rfl 4 (by kernel_rfl) rfl rfl (by simp [Value.oneCell']) w U ltR 84 R ?_; clear U; intro V9 Z9 U ho; replace N9 := N9.oth y0.out ho own9; clear ho R; have R := Z9; clear Z9)
        obtain ⟨R0, R1, R2, R3⟩ := R.g4
        refine bodyPost_ret (v := xv ng (.slice A9 n9 c9) k k) (by simp [results, Tryz.results43, go_sem, R0, R1, R2, R3]) rfl ?_
        exact ⟨_, _, _, rfl, N9.lower (by omega), U⟩
  ·
    refine ((CN.out _ U 1 (by omega) (by omega) t (by omega))).mono ?_
    rintro _ w10 ⟨rfl, h10⟩
    have llw := U.size
    replace U := U.trans h10
    replace S := S.up h10
    replace X := X.up h10
    replace R := R.up h10
    have l410 := Up.size h10
    clear h10
    go_wp2_with fail
    have gYS := S.lt
    have gYX := X.lt
    have gYR := R.lt
    obtain ⟨V6, hV6⟩ : ∃ V6, w10.alloc (.cells #[.bool false, .slice none 0 0, .int .i64 0, .int .i64 0] 84) = V6 := ⟨_, rfl⟩
    have Y : Ob V6 (w10.heap.size) 84 #[.bool false, .slice none 0 0, .int .i64 0, .int .i64 0] := by rw [← hV6]; exact Ob.mk_ _ _ _
    have sV6 : V6.heap.size = w10.heap.size + 1 := by rw [← hV6]; exact (Array.size_push _)
    have uV6 : Up w10 V6 := Up.al hV6
    have ltY : w.heap.size ≤ w10.heap.size := by have := U.size; omega
    rw [hV6]
    clear hV6
    replace U := U.trans uV6
    replace S := S.up uV6
    replace X := X.up uV6
    replace R := R.up uV6
    clear uV6
    clear sV6
    have glY := Y.lt
    go_loopw [5, 7] (fun kv ov wr => (Ob wr w.heap.size 90 #[.bool false, .slice A1 n1 c1, .int .i64 z1, .int .i64 0, .bool false, .slice A2 n2 c2, .int .i64 z2, .int .i64 0, .bool ev] ∧ Ob wr (w.heap.size + 1) 84 #[.bool ng, .slice A n c, .int .i64 z, .int .i64 0] ∧ Ob wr (w.heap.size + 1 + 1) 84 #[.bool false, .slice none 0 0, .int .i64 0, .int .i64 0] ∧ Up w wr) ∧
        ((∃ (j : Nat) (K : Int), 1 ≤ j ∧ j < nn ∧ K + j = t + 1 ∧ kv = .int .i64 K ∧ ov = .bool false ∧ Ob wr (w10.heap.size) 84 #[.bool false, .slice none 0 0, .int .i64 0, .int .i64 0]) ∨
         (kv = .int .i64 k ∧ ov = .bool true ∧ ∃ A9 n9 c9, Ob wr (w10.heap.size) 84 #[.bool ng, .slice A9 n9 c9, .int .i64 k, .int .i64 k] ∧ Nt wr (w4.heap.size) 2 (.slice A9 n9 c9) y ∧ (Value.slice A9 n9 c9).ownBlock ≠ some (w.heap.size + 1 + 1))))
        (fun kv _ _ => (intOf kv + 20000).toNat)
    case atStart => exact ⟨⟨S, X, R, U⟩, .inl ⟨1, t, by omega, by omega, by omega, rfl, rfl, Y⟩⟩
    case round =>
      clear S X R Y U
      obtain ⟨⟨S, X, R, U⟩, ⟨j, K, j1, jn, hK, rfl, rfl, Y⟩ | ⟨rfl, rfl, A9, n9, c9, Y, N9, own9⟩⟩ := hrel
      ·
        have wK : IntKind.i64.wrap (K - 1) = K - 1 := by have := tb.out; simp [IntKind.wrap, IntKind.bits, IntKind.signed]; omega
        have rK := Lib.hid (show 0 ≤ K + 10000 by have := tb.out; omega)
        by_cases e : j + 1 = nn
        ·
          have ek : K - 1 = k := by have := kn.out; omega
          have CY2 := CY
          rw [← ek] at CY2
          have EK := Lib.hid ek
          clear hK jn j1 ek CY kn e CN
          obtain ⟨S0, S1, S2, S3, S4, S5, S6, S7, S8, Sf0, Sf1, Sf2, Sf3, Sf4, Sf5, Sf6, Sf7, Sf8, Sl⟩ := S.c9
          obtain ⟨X0, X1, X2, X3, Xf0, Xf1, Xf2, Xf3, Xl⟩ := X.c4
          go_wp2_with fail
          clear S0 Sf0 S1 Sf1 S2 Sf2 S3 Sf3 S4 Sf4 S5 Sf5 S6 Sf6 S7 Sf7 S8 Sf8 Sl
          clear X0 Xf0 X1 Xf1 X2 Xf2 X3 Xf3 Xl
          refine (CY2.out _ U).mono ?_
          rintro _ w30 ⟨A9, n9, c9, rfl, N9, h30⟩
          have own9 := N9.own_lo y0.out R.lt
          have own8 := N9.own_lo y0.out Y.lt
          replace N9 := N9.lower (lo' := w4.heap.size) (by have := Y.lt; omega)
          replace U := U.trans h30
          replace S := S.up h30
          replace X := X.up h30
          replace R := R.up h30
          replace Y := Y.up h30
          clear h30
          go_wp2_with (refine store_ob2 rfl 84 (.tmp 6) (.tmp 26) rfl _ #[.bool false, .slice none 0 0, .int .i64 0, .int .i64 0] #[.bool ng, .slice A9 n9 c9, .int .i64 (K - 1), .int .i64 (K - 1)] rfl rfl 4 (by kernel_rfl) rfl rfl (by simp [Value.oneCell']) w U ltY 84 Y ?_; clear U; intro V9 Z9 U ho; replace N9 := N9.oth y0.out ho own8; replace S := Ob.oth S ho (by omega); replace X := Ob.oth X ho (by omega); replace R := Ob.oth R ho (by omega); clear ho Y; have Y := Z9; clear Z9)
          go_roundw
          case rel => exact ⟨⟨S, X, R, U⟩, .inr ⟨by rw [EK.out], rfl, A9, n9, c9, by rw [EK.out] at Y; exact Y, N9, own9⟩⟩
          case measure => have := rK.out; simp [intOf]; omega
        ·
          have CN2 := Lib.hid (fun W (U : Up w W) => CN.out W U (j + 1) (by omega) (by omega) (K - 1) (by omega))
          have HK := Lib.hid hK
          have JN := Lib.hid jn
          have NE := Lib.hid e
          clear hK jn e CN CY j1
          obtain ⟨S0, S1, S2, S3, S4, S5, S6, S7, S8, Sf0, Sf1, Sf2, Sf3, Sf4, Sf5, Sf6, Sf7, Sf8, Sl⟩ := S.c9
          obtain ⟨X0, X1, X2, X3, Xf0, Xf1, Xf2, Xf3, Xl⟩ := X.c4
          go_wp2_with fail
          clear S0 Sf0 S1 Sf1 S2 Sf2 S3 Sf3 S4 Sf4 S5 Sf5 S6 Sf6 S7 Sf7 S8 Sf8 Sl
          clear X0 Xf0 X1 Xf1 X2 Xf2 X3 Xf3 Xl
          refine (CN2.out _ U).mono ?_
          rintro _ w30 ⟨rfl, h30⟩
          replace U := U.trans h30
          replace S := S.up h30
          replace X := X.up h30
          replace R := R.up h30
          replace Y := Y.up h30
          clear h30
          go_wp2_with (refine store_ob2 rfl 84 (.tmp 6) (.tmp 26) rfl _ #[.bool false, .slice none 0 0, .int .i64 0, .int .i64 0] #[.bool false, .slice none 0 0, .int .i64 0, .int .i64 0] rfl rfl 4 (by kernel_rfl) rfl rfl (by simp [Value.oneCell']) w U ltY 84 Y ?_; clear U; intro V9 Z9 U ho; replace S := Ob.oth S ho (by omega); replace X := Ob.oth X ho (by omega); replace R := Ob.oth R ho (by omega); clear ho Y; have Y := Z9; clear Z9)
          go_roundw
          case rel => exact ⟨⟨S, X, R, U⟩, .inl ⟨j + 1, K - 1, by omega, by have := JN.out; have := NE.out; omega, by have := HK.out; omega, rfl, rfl, Y⟩⟩
          case measure => have := rK.out; simp [intOf]; omega
      ·
        clear CN CY
        obtain ⟨Y0, Y1, Y2, Y3, Yf0, Yf1, Yf2, Yf3, Yl⟩ := Y.c4
        go_wp2_with (refine store_ob2 rfl 84 (.tmp 4) (.tmp 28) rfl _ #[.bool false, .slice none 0 0, .int .i64 0, .int .i64 0] #[.bool ng, .slice A9 n9 c9, .int .i64 k, .int .i64 k] rfl rfl 4 (by kernel_rfl) rfl rfl (by simp [Value.oneCell']) w U ltR 84 R ?_; clear U; intro V9 Z9 U ho; replace N9 := N9.oth y0.out ho own9; clear ho R; have R := Z9; clear Z9)
        obtain ⟨R0, R1, R2, R3⟩ := R.g4
        refine bodyPost_ret (v := xv ng (.slice A9 n9 c9) k k) (by simp [results, Tryz.results43, go_sem, R0, R1, R2, R3]) rfl ?_
        exact ⟨_, _, _, rfl, N9.lower (by omega), U⟩
end Go.Proofs.YtcmlanfgafancaaGreatDoor
namespace Go.Proofs.YtcmlanfgafancaaGreatDoor
open Go.RowKit
namespace M
theorem lm_rng {f : Fm} (ok : Ok f) (ok2 : Ok2 f) (ok3 : Ok3 f) {g : Bool} {k m1 : Nat} {z1 : Int} {m2 : Nat} {z2 : Int} (kt : (k : Int) ≤ tp f) (h : Lm f g k m1 z1 m2 z2) : (-3000 ≤ z1 ∧ z1 ≤ 3000) ∧ -3000 ≤ z2 ∧ z2 ≤ 3000 := by
 obtain ⟨h1, h2⟩ := h
 refine ⟨?_, ?_⟩
 ·rcases h1 with ⟨_, _, rfl⟩ | ⟨hl, hb⟩
  ·omega
  ·exact (bd_z ok ok2 ok3 (by omega) hb).2.2
 ·rcases h2 with ⟨_, _, rfl⟩ | ⟨_, hb⟩
  ·omega
  ·exact (bd_z ok ok2 ok3 kt hb).2.2
theorem pt_lc {i p : Nat} (i1 : 1 ≤ i) (i2 : i ≤ 14) {g : Bool} {m : Nat} {z : Int} {m1 : Nat} {z1 : Int} {m2 : Nat} {z2 : Int} {ev : Bool} (h : Pt (tb i) p g m z m1 z1 m2 z2 ev) :
  Lc (i : Int) p m1 z1 m2 z2 ev 0 ∧ (-3000 ≤ z1 ∧ z1 ≤ 3000) ∧ -3000 ≤ z2 ∧ z2 ≤ 3000 := by
 obtain ⟨c2, hg, k, hk, _, _, _, _, kt, _, _⟩ := pt_key (ok i i1 i2) (ok2 i i1 i2) h.fit h.dv
 obtain ⟨k', hk', hl, he⟩ := h.key
 obtain rfl : k = k' := by omega
 refine ⟨⟨g, k, .inr ⟨i, rfl, i1, i2, .inr ⟨h.fit, .inr ⟨c2, hg, hk, rfl⟩⟩⟩, .inr ⟨rfl, fun j hj => ?_, he⟩⟩, lm_rng (ok i i1 i2) (ok2 i i1 i2) (ok3 i i1 i2) kt hl⟩
 obtain rfl : i = j := by omega
 exact hl
theorem sq_y {f : Fm} {p : Nat} {g : Bool} {m : Nat} {z : Int} {m1 : Nat} {z1 : Int} {m2 : Nat} {z2 : Int} {ev : Bool} {t : Int} {n : Nat} {k : Int} {d : Nat} {r : Int} {y D : Nat} {K : Int} (h : Sq f p g m z m1 z1 m2 z2 ev t n k d r y D K) : 0 < y ∧ -4000 ≤ k ∧ k ≤ 4400 := by
 obtain ⟨g1, g2, g3, g4⟩ := fl_rng h.tp h.sh.n1 h.sh.n21 h.sh.kn h.sh.fl.le h.sh.fl.lt
 rcases (ch_has h.sh.ch).2 with e | e <;> omega
end M
set_option maxRecDepth 100000 in
theorem short_any (w : World) (TT : Hid (Tz w)) (TF : Hid (TabF w)) (TW : Hid (TabW w)) (ii : Int) (p : Nat) (pb : p < 18446744073709551616) (gg : Bool) (D : Nat) (K x : Int) (h : M.Shc ii p gg D K x) : Calls Tryz.prog 21 #[.int .i64 ii, u64 p] w (Dxx gg D K x w) := by
 rcases h with ⟨x0, he, rfl, rfl, rfl⟩ | ⟨rfl, i, rfl, i1, i2, m, z, m1, z1, m2, z2, ev, t, n, k, d, r, y, hq⟩
 ·
  have d1 : (x != 0) = true := by simpa using x0
  have CN := Lib.hid (fun W (T : Tz W) (F : TabF W) => number_err W (Lib.hid T) (Lib.hid F) ii p pb x he)
  clear he pb x0
  have U := Up.refl w
  go_enter Tryz.func21, Tryz.ntmps21
  go_wp2_with fail
  obtain ⟨V1, hV1⟩ : ∃ V1, w.alloc (.cells #[.bool false, .slice none 0 0, .int .i64 0] 44) = V1 := ⟨_, rfl⟩
  have R : Ob V1 (w.heap.size) 44 #[.bool false, .slice none 0 0, .int .i64 0] := by rw [← hV1]; exact Ob.mk_ _ _ _
  have sV1 : V1.heap.size = w.heap.size + 1 := by rw [← hV1]; exact (Array.size_push _)
  have uV1 : Up w V1 := Up.al hV1
  have ltR : w.heap.size ≤ w.heap.size := by have := U.size; omega
  rw [hV1]
  clear hV1
  replace U := U.trans uV1
  clear uV1
  clear sV1
  have glR := R.lt
  refine (CN.out _ (TT.out.up U) (TF.out.up U)).mono ?_
  rintro _ w2 ⟨A, n, c, rfl, N, h2⟩
  replace U := U.trans h2
  replace R := R.up h2
  clear h2
  clear CN N
  go_upto_region 3 with fail
  have gBR := R.lt
  obtain ⟨V3, hV3⟩ : ∃ V3, w2.alloc (.cells #[.bool false, .slice A n c, .int .i64 0, .int .i64 0] 84) = V3 := ⟨_, rfl⟩
  have B : Ob V3 (w2.heap.size) 84 #[.bool false, .slice A n c, .int .i64 0, .int .i64 0] := by rw [← hV3]; exact Ob.mk_ _ _ _
  have sV3 : V3.heap.size = w2.heap.size + 1 := by rw [← hV3]; exact (Array.size_push _)
  have uV3 : Up w2 V3 := Up.al hV3
  have ltB : w.heap.size ≤ w2.heap.size := by have := U.size; omega
  rw [hV3]
  clear hV3
  replace U := U.trans uV3
  replace R := R.up uV3
  clear uV3
  clear sV3
  have glB := B.lt
  go_wp2_with (refine store_ob2 rfl 44 (.tmp 4) (.tmp 20) rfl _ #[.bool false, .slice none 0 0, .int .i64 0] #[.bool false, .slice none 0 0, .int .i64 0] rfl rfl 3 (by kernel_rfl) rfl rfl (by simp [Value.oneCell']) w U ltR 44 R ?_; clear U; intro V9 Z9 U ho; clear ho R; have R := Z9; clear Z9)
  obtain ⟨R0, R1, R2⟩ := R.g3
  refine bodyPost_ret (v := .tuple #[.agg #[.bool false, .slice none 0 0, .int .i64 0], .int .i64 x]) (by simp [results, Tryz.results21, go_sem, R0, R1, R2]) rfl ?_
  exact ⟨_, rfl, Nt.nil _ _ _, U⟩
 ·
  obtain ⟨m0, mb, zb⟩ := M.pt_rng (M.ok i i1 i2) (M.ok2 i i1 i2) (M.ok3 i i1 i2) hq.pt.fit hq.pt.dv
  obtain ⟨hlc, b1, b2⟩ := M.pt_lc i1 i2 hq.pt
  obtain ⟨y0, kb⟩ := M.sq_y hq
  have CN := Lib.hid (fun W (T : Tz W) (F : TabF W) => number_ok W (Lib.hid T) (Lib.hid F) i i1 i2 p pb hq.pt.fit gg m z hq.pt.dv)
  have CL := Lib.hid (fun W (T : Tz W) (F : TabF W) => rnd_limits W (Lib.hid T) (Lib.hid F) (i : Int) p pb m1 z1 m2 z2 ev 0 hlc)
  have CS := Lib.hid (fun W (T : TabW W) (A1 : Option Addr) (n1 c1 : Nat) (A2 : Option Addr) (n2 c2 : Nat) (l1 l2 : Nat) (N1 : Nt W l1 1 (.slice A1 n1 c1) m1) (N2 : Nt W l2 1 (.slice A2 n2 c2) m2) (lo : Nat) (A : Option Addr) (n0 c0 : Nat) (N : Nt W lo 1 (.slice A n0 c0) m) => shortest_any W (Lib.hid T) A1 n1 c1 z1 A2 n2 c2 z2 ev l1 l2 m1 m2 N1 N2 b1 b2 lo gg A n0 c0 z m N zb m0 t n k d r y hq.tp hq.sh)
  have CG := Lib.hid (fun W (lo : Nat) (A : Option Addr) (n c : Nat) (N : Nt W lo 2 (.slice A n c) y) => digitsof_any W lo gg A n c k k y N y0 (by omega) (by omega) (by omega) D K (Lib.hid hq.dg))
  clear hq pb i1 i2 zb mb m0 hlc b1 b2 y0 kb
  have U := Up.refl w
  go_enter Tryz.func21, Tryz.ntmps21
  go_wp2_with fail
  obtain ⟨V1, hV1⟩ : ∃ V1, w.alloc (.cells #[.bool false, .slice none 0 0, .int .i64 0] 44) = V1 := ⟨_, rfl⟩
  have R : Ob V1 (w.heap.size) 44 #[.bool false, .slice none 0 0, .int .i64 0] := by rw [← hV1]; exact Ob.mk_ _ _ _
  have sV1 : V1.heap.size = w.heap.size + 1 := by rw [← hV1]; exact (Array.size_push _)
  have uV1 : Up w V1 := Up.al hV1
  have ltR : w.heap.size ≤ w.heap.size := by have := U.size; omega
  rw [hV1]
  clear hV1
  replace U := U.trans uV1
  clear uV1
  clear sV1
  have glR := R.lt
  refine (CN.out _ (TT.out.up U) (TF.out.up U)).mono ?_
  rintro _ w2 ⟨A, n0, c0, rfl, N, h2⟩
  replace U := U.trans h2
  replace R := R.up h2
  clear h2
  clear CN
  go_upto_region 4 with fail
  have gBR := R.lt
  obtain ⟨V3, hV3⟩ : ∃ V3, w2.alloc (.cells #[.bool gg, .slice A n0 c0, .int .i64 z, .int .i64 0] 84) = V3 := ⟨_, rfl⟩
  have B : Ob V3 (w2.heap.size) 84 #[.bool gg, .slice A n0 c0, .int .i64 z, .int .i64 0] := by rw [← hV3]; exact Ob.mk_ _ _ _
  have sV3 : V3.heap.size = w2.heap.size + 1 := by rw [← hV3]; exact (Array.size_push _)
  have uV3 : Up w2 V3 := Up.al hV3
  have ltB : w.heap.size ≤ w2.heap.size := by have := U.size; omega
  rw [hV3]
  clear hV3
  replace U := U.trans uV3
  replace R := R.up uV3
  replace N := N.up uV3
  clear uV3
  clear sV3
  have glB := B.lt
  go_wp2_with fail
  refine (CL.out _ (TT.out.up U) (TF.out.up U)).mono ?_
  rintro _ w4 ⟨v1, v2, rfl, N1, N2, h4⟩
  replace U := U.trans h4
  replace R := R.up h4
  replace B := B.up h4
  replace N := N.up h4
  clear h4
  clear CL
  obtain ⟨A1, n1, c1, rfl, N1⟩ := N1.sl
  obtain ⟨A2, n2, c2, rfl, N2⟩ := N2.sl
  go_upto_region 7 with fail
  have gL8R := R.lt
  have gL8B := B.lt
  obtain ⟨V5, hV5⟩ : ∃ V5, w4.alloc (.cells #[.bool false, .slice A1 n1 c1, .int .i64 z1, .int .i64 0] 84) = V5 := ⟨_, rfl⟩
  have L8 : Ob V5 (w4.heap.size) 84 #[.bool false, .slice A1 n1 c1, .int .i64 z1, .int .i64 0] := by rw [← hV5]; exact Ob.mk_ _ _ _
  have sV5 : V5.heap.size = w4.heap.size + 1 := by rw [← hV5]; exact (Array.size_push _)
  have uV5 : Up w4 V5 := Up.al hV5
  have ltL8 : w.heap.size ≤ w4.heap.size := by have := U.size; omega
  rw [hV5]
  clear hV5
  replace U := U.trans uV5
  replace R := R.up uV5
  replace B := B.up uV5
  replace N := N.up uV5
  replace N1 := N1.up uV5
  replace N2 := N2.up uV5
  clear uV5
  obtain ⟨V6, hV6⟩ : ∃ V6, V5.alloc (.cells #[.bool false, .slice A2 n2 c2, .int .i64 z2, .int .i64 0] 84) = V6 := ⟨_, rfl⟩
  have L9 : Ob V6 (w4.heap.size + 1) 84 #[.bool false, .slice A2 n2 c2, .int .i64 z2, .int .i64 0] := by rw [← sV5, ← hV6]; exact Ob.mk_ _ _ _
  have sV6 : V6.heap.size = w4.heap.size + 1 + 1 := by rw [← hV6]; exact (Array.size_push _).trans (congrArg (· + 1) sV5)
  have uV6 : Up V5 V6 := Up.al hV6
  have ltL9 : w.heap.size ≤ w4.heap.size + 1 := Nat.le_succ_of_le ltL8
  rw [hV6]
  clear hV6
  replace L8 := L8.up uV6
  replace U := U.trans uV6
  replace R := R.up uV6
  replace B := B.up uV6
  replace N := N.up uV6
  replace N1 := N1.up uV6
  replace N2 := N2.up uV6
  clear uV6
  clear sV6 sV5
  have glL8 := L8.lt
  have glL9 := L9.lt
  obtain ⟨L80, L81, L82, L83, L8f0, L8f1, L8f2, L8f3, L8l⟩ := L8.c4
  obtain ⟨L90, L91, L92, L93, L9f0, L9f1, L9f2, L9f3, L9l⟩ := L9.c4
  go_upto_region 8 with fail
  clear L80 L8f0 L81 L8f1 L82 L8f2 L83 L8f3 L8l
  clear L90 L9f0 L91 L9f1 L92 L9f2 L93 L9f3 L9l
  clear L8 L9
  have gSR := R.lt
  have gSB := B.lt
  obtain ⟨V7, hV7⟩ : ∃ V7, V6.alloc (.cells #[.bool false, .slice A1 n1 c1, .int .i64 z1, .int .i64 0, .bool false, .slice A2 n2 c2, .int .i64 z2, .int .i64 0, .bool ev] 90) = V7 := ⟨_, rfl⟩
  have S : Ob V7 (V6.heap.size) 90 #[.bool false, .slice A1 n1 c1, .int .i64 z1, .int .i64 0, .bool false, .slice A2 n2 c2, .int .i64 z2, .int .i64 0, .bool ev] := by rw [← hV7]; exact Ob.mk_ _ _ _
  have sV7 : V7.heap.size = V6.heap.size + 1 := by rw [← hV7]; exact (Array.size_push _)
  have uV7 : Up V6 V7 := Up.al hV7
  have ltS : w.heap.size ≤ V6.heap.size := by have := U.size; omega
  rw [hV7]
  clear hV7
  replace U := U.trans uV7
  replace R := R.up uV7
  replace B := B.up uV7
  replace N := N.up uV7
  replace N1 := N1.up uV7
  replace N2 := N2.up uV7
  clear uV7
  clear sV7
  have glS := S.lt
  obtain ⟨S0, S1, S2, S3, S4, S5, S6, S7, S8, Sf0, Sf1, Sf2, Sf3, Sf4, Sf5, Sf6, Sf7, Sf8, Sl⟩ := S.c9
  obtain ⟨B0, B1, B2, B3, Bf0, Bf1, Bf2, Bf3, Bl⟩ := B.c4
  go_wp2_with fail
  clear S0 Sf0 S1 Sf1 S2 Sf2 S3 Sf3 S4 Sf4 S5 Sf5 S6 Sf6 S7 Sf7 S8 Sf8 Sl
  clear B0 Bf0 B1 Bf1 B2 Bf2 B3 Bf3 Bl
  refine (CS.out _ (TW.out.up U) _ _ _ _ _ _ _ _ N1 N2 _ _ _ _ N).mono ?_
  rintro _ w8 ⟨A9, n9, c9, rfl, N9, h8⟩
  replace U := U.trans h8
  replace R := R.up h8
  replace B := B.up h8
  replace S := S.up h8
  replace N := N.up h8
  replace N1 := N1.up h8
  replace N2 := N2.up h8
  clear h8
  clear CS N N1 N2
  have r8 := R.lt
  go_wp2_with fail
  refine (CG.out _ _ _ _ _ N9).mono ?_
  rintro _ w9 ⟨vD, rfl, ND, h9⟩
  replace U := U.trans h9
  replace R := R.up h9
  replace B := B.up h9
  replace S := S.up h9
  replace N9 := N9.up h9
  clear h9
  clear CG N9
  obtain ⟨AD, nD, cD, rfl, ND⟩ := ND.sl
  go_wp2_with (refine store_ob2 rfl 44 (.tmp 4) (.tmp 41) rfl _ #[.bool false, .slice none 0 0, .int .i64 0] #[.bool gg, .slice AD nD cD, .int .i64 K] rfl rfl 3 (by kernel_rfl) rfl rfl (by simp [Value.oneCell']) w U ltR 44 R ?_; clear U; intro V9 Z9 U ho; replace ND := Nt.other ND ho (by omega); clear ho R; have R := Z9; clear Z9)
  obtain ⟨R0, R1, R2⟩ := R.g3
  refine bodyPost_ret (v := .tuple #[.agg #[.bool gg, .slice AD nD cD, .int .i64 K], .int .i64 0]) (by simp [results, Tryz.results21, go_sem, R0, R1, R2]) rfl ?_
  exact ⟨_, rfl, ND.lower (by omega), U⟩
end Go.Proofs.YtcmlanfgafancaaGreatDoor
