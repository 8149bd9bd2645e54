import Derived.Test.YtcmlanfgafancaaGreatDoorQTEx6
import Derived.Test.YtcmlanfgafancaaGreatDoorQTRfa
import Derived.Test.YtcmlanfgafancaaGreatDoorQTDigm
import Derived.Test.YtcmlanfgafancaaGreatDoorQTNb
set_option maxHeartbeats 32000000
set_option linter.unusedVariables false
set_option linter.unusedSimpArgs false
namespace Go.Proofs.YtcmlanfgafancaaGreatDoor
open Go.RowKit Go.Shelf
set_option maxRecDepth 100000 in
theorem minus_any (w : World) (lo lo' : Nat) (A A' : Option Addr) (n c m c' : Nat) (xs ys : List Nat) (hx : Wd w lo A n c xs) (hy : Wd w lo' A' m c' ys) (hhx : M.Hs xs) (hhy : M.Hs ys) (hle : M.vh ys ≤ M.vh xs) (hn : n ≤ 100000000) :
  Calls Tryz.prog 168 #[.slice A n c, .slice A' m c'] w (Rh n (M.vh xs - M.vh ys) w) := by
 have b1 := hx.len
 have b2 := hy.len
 have hst : Ow (w.alloc (.cells #[] 22)) w.heap.size (.slice (some ⟨w.heap.size, 0, none⟩) 0 0) 0 [] := World.ownsRow_lit w #[] 0 (Nat.le_refl _) (by simp only [maxLen]; omega) rfl
 have hst2 := Lib.hid (M.MiInv.start xs ys)
 have hxl := Lib.hid hx.num
 have HLE := Lib.hid hle
 clear hle
 go_enter Tryz.func168, Tryz.ntmps168
 go_wp2_with fail
 go_loopw [5, 6, 7] (fun sv cv iv wr => ∃ (i bo : Nat) (hs : List Nat), i ≤ n ∧ bo ≤ 1 ∧ cv = u64 bo ∧ iv = .int .i64 i ∧ Up w wr ∧ w.heap.size ≤ wr.heap.size ∧ Ow wr w.heap.size sv i hs ∧ Hid (M.MiInv xs ys i bo hs)) (fun _ _ iv _ => n - (intOf iv).toNat)
 case atStart => exact ⟨0, 0, [], by omega, by omega, rfl, rfl, (Up.refl w).alloc _, by simp, hst, hst2⟩
 case round =>
  obtain ⟨i, bo, hs, hi, hbo, rfl, rfl, hu, hsz, hown, HI⟩ := hrel
  clear hst hst2
  by_cases hlt : i < n
  ·obtain ⟨x, hxk⟩ : ∃ x, xs.getD i 0 = x := ⟨_, rfl⟩
   obtain ⟨y, hyk⟩ : ∃ y, ys.getD i 0 = y := ⟨_, rfl⟩
   have hxb : x < 4294967296 := by rw [← hxk]; exact hhx.getD i
   have hyb : y < 4294967296 := by rw [← hyk]; exact hhy.getD i
   have cx := get_any wr lo A n c xs (hx.up hu) i _ rfl
   have cy' := get_any wr lo' A' m c' ys (hy.up hu) i _ rfl
   rw [hxk] at cx
   rw [hyk] at cy'
   have CX := Lib.hid cx
   have CY := Lib.hid cy'
   obtain ⟨t, ht⟩ : ∃ t, x + 4294967296 - y - bo = t := ⟨_, rfl⟩
   have hE := HI.out.step hxk hyk hxb hyb ht
   have htb : t ≤ 8589934591 := by omega
   obtain ⟨T0, hT0⟩ : ∃ T0, t % 4294967296 = T0 := ⟨_, rfl⟩
   obtain ⟨T1, hT1⟩ : ∃ T1, t / 4294967296 = T1 := ⟨_, rfl⟩
   obtain ⟨B1, hB1⟩ : ∃ B1, 1 - T1 = B1 := ⟨_, rfl⟩
   rw [hT0, hT1, hB1] at hE
   have e1 : IntKind.u64.wrap ((x : Int) + 4294967296) = (x : Int) + 4294967296 := by rw [IntKind.wrap_u64]; omega
   have e2 : IntKind.u64.wrap ((x : Int) + 4294967296 - (y : Int)) = (x : Int) + 4294967296 - (y : Int) := by rw [IntKind.wrap_u64]; omega
   have e3 : IntKind.u64.wrap ((x : Int) + 4294967296 - (y : Int) - (bo : Int)) = (t : Int) := by rw [IntKind.wrap_u64]; omega
   have e4 : (x : Int) + 4294967296 - (y : Int) - (bo : Int) = (t : Int) := by omega
   have qT0 : (t : Int) % 4294967296 = (T0 : Int) := by omega
   have qT0' : (t : Int).tmod 4294967296 = (T0 : Int) := by rw [Int.tmod_eq_emod_of_nonneg (by omega)]; exact qT0
   have qT1 : (t : Int) / 4294967296 = (T1 : Int) := by omega
   have hT1b : T1 ≤ 1 := by omega
   have qB1 : 1 - (T1 : Int) = (B1 : Int) := by omega
   have qB2 : IntKind.u64.wrap (1 - (T1 : Int)) = (B1 : Int) := by rw [IntKind.wrap_u64]; omega
   have hT0b : T0 < 18446744073709551616 := by omega
   have hB1b : B1 ≤ 1 := by omega
   have HE := Lib.hid hE
   have hu2 : Up wr (wr.alloc (.cells #[.int .u64 (T0 : Int)] 22)) := (Up.refl wr).alloc _
   have hown2 := Ow.up hown hu2
   have hw2 := lit1_wd wr T0 _ rfl hT0b
   clear hE cx cy' hxk hyk hT0 hT1 hB1 ht HI
   go_wp2_with fail
   refine CX.out.mono ?_
   rintro _ _ ⟨rfl, rfl⟩
   go_wp2_with fail
   refine CY.out.mono ?_
   rintro _ _ ⟨rfl, rfl⟩
   go_wp2_with (at_builtin; refine wpList_append_wd _ rfl (.tmp 26) (.tmp 29) _ rfl info_u64 w.heap.size Tryz.underlying41 _ i hs rfl hown2 _ _ 1 1 [T0] rfl hw2 (by omega) (Nat.le_trans hsz (Up.size hu2)) ?_; intro v3 w3 hown3 hg3 hat3)
   have hu3 : Up w w3 := (hu.trans hu2).grown hg3 (fun b hb => (World.ownsRow.lt hown2 b hb).1)
   go_roundw
   case rel => exact ⟨i + 1, B1, _, by omega, hB1b, by go_num, by go_num, hu3, hu3.size, hown3, HE⟩
   case measure => simp [intOf]; omega
  ·have hin : i = n := by omega
   subst hin
   have hv := HI.out.fin hxl.out hhx HLE.out
   have hhs := HI.out.hw
   have HV := Lib.hid hv
   obtain ⟨A3, c3, rfl, hwd3⟩ := Ow.wd hown hhs.wds (by omega)
   clear hv HI hown
   go_wp2_with fail
   refine (trim_hs _ _ i _ _ _ _ hwd3 hhs _ HV (Nat.le_refl _)).mono ?_
   rintro _ _ ⟨v4, rfl, rfl, h4⟩
   go_wp2_with fail
   go_ret
   exact ⟨_, rfl, h4, hu⟩
theorem minus_of (w : World) (lo lo' s s' : Nat) (v v' : Value) (a b : Nat) (h : Nh w lo s v a) (h' : Nh w lo' s' v' b) (hle : b ≤ a) (hs : s ≤ 100000000) :
  Calls Tryz.prog 168 #[v, v'] w (Rh s (a - b) w) := by
 obtain ⟨A, n, c, xs, rfl, h1, h2, h3, h4, h5⟩ := h
 obtain ⟨A', n', c', ys, rfl, k1, k2, k3, k4, k5⟩ := h'
 refine (minus_any w lo lo' A A' n c n' c' xs ys h1 k1 h2 k2 (by omega) (by omega)).mono ?_
 rintro _ w' ⟨v, rfl, hv, hu⟩
 rw [h3, k3] at hv
 exact ⟨v, rfl, hv.more h4, hu⟩
theorem Nh.set {w : World} {lo s : Nat} {v : Value} {a : Nat} (h : Nh w lo s v a) {p : Addr} (hb : p.block < lo) (x : Value) : Nh (w.setCell p x) lo s v a := by
 obtain ⟨A, n, c, xs, e, h1, h2⟩ := h
 refine ⟨A, n, c, xs, e, h1.keep fun q _ hq => ⟨?_, World.frozen?_setCell _ _ _ _⟩, h2⟩
 exact World.cell?_setCell_other _ _ _ _ (fun e => by rw [e] at hb; omega)
theorem nil_nh (w : World) (lo : Nat) (A : Option Addr) (c : Nat) : Nh w lo 0 (.slice A 0 c) 0 := ⟨A, 0, c, [], rfl, Wd.nil w lo A c, M.Hs.nil, rfl, by omega, M.Nrm.nil⟩
theorem M.bits_hs {xs : List Nat} {n : Nat} (h : M.Hs xs) (hl : xs.length = n) : M.bits (M.vh xs) ≤ 32 * n := by
 apply M.bits_le_of_lt
 have := M.vh_lt1 h
 rw [hl] at this
 rw [Nat.pow_mul]
 exact this
theorem hown_lt {w w1 : World} {n : Nat} {xs : List Nat} (h : Ow w1 w.heap.size (.slice (some ⟨w.heap.size, 0, none⟩) n n) n xs) (_hg : w.grownBy w1 none) : w.heap.size < w1.heap.size :=
 (World.ownsRow.lt h w.heap.size (by simp [Value.ownBlock])).2
set_option maxRecDepth 100000 in
theorem over_any (w : World) (lo lo' : Nat) (A : Option Addr) (n c s' : Nat) (xs : List Nat) (v' : Value) (b : Nat) (hx : Wd w lo A n c xs) (hhx : M.Hs xs) (hb : Nh w lo' s' v' b) (hb0 : 0 < b) (hn : n ≤ 1000000) (hs : s' ≤ 1000000) :
  Calls Tryz.prog 102 #[.slice A n c, v'] w (Rh2 n (M.vh xs / b) s' (M.vh xs % b) w) := by
 obtain ⟨a, ha⟩ : ∃ a, M.vh xs = a := ⟨_, rfl⟩
 have hblt := hb.lt
 have hbits := M.bits_hs hhx hx.num
 rw [ha] at hbits ⊢
 have HA := Lib.hid ha
 have b1 := hx.len
 obtain ⟨B, hB⟩ : ∃ B, M.bits a = B := ⟨_, rfl⟩
 have HB := Lib.hid hB
 have hst := M.OvInv.start (a := a) (b := b) (n := n)
 rw [hB] at hst hbits
 have HST := Lib.hid hst
 have HBL := Lib.hid hblt
 have CB := Lib.hid (fun w' (hu : Up w w') => rbits_any w' lo A n c xs (hx.up hu) hhx (by omega) (B : Int) (by rw [HA.out]; show _ = _; rw [HB.out]))
 have CBT := Lib.hid (fun w' (hu : Up w w') (j : Nat) (hj : j < 32000000) (t : Bool) (ht : Hid (a.testBit j = t)) => rbit_any w' lo A n c xs (hx.up hu) hhx j (by omega) t (by rw [HA.out]; exact ht))
 clear ha hB hst hblt hhx hx
 go_enter Tryz.func102, Tryz.ntmps102
 go_wp2_with (at_make; refine wpList_make_wd _ rfl (.tmp 10) (.tmp 10) 41 rfl info_u64 Tryz.underlying41 (n : Int) (n : Int) n rfl rfl (by omega) (by omega) (by omega) ?_; intro w1 hown1 hg1)
 have hu1 : Up w w1 := (Up.refl w).grown hg1 (by simp)
 have hz1 : w.heap.size < w1.heap.size := hown_lt hown1 hg1
 clear hg1
 obtain ⟨V, hV⟩ : ∃ V, w1.alloc (.cells #[] 22) = V := ⟨_, rfl⟩
 have uV : Up w1 V := Up.al hV
 rw [hV]
 clear hV
 have hownV := Ow.up hown1 uV
 have U0 := hu1.trans uV
 have hzV : w.heap.size + 1 ≤ V.heap.size := Nat.le_trans hz1 (Up.size uV)
 clear uV hown1 hu1
 refine (CB.out V U0).mono ?_
 rintro _ _ ⟨rfl, rfl⟩
 clear CB
 go_wp2_with fail
 go_loopw [7, 8] (fun rv iv wr => ∃ (i R : Nat) (qs : List Nat), i ≤ B ∧ iv = .int .i64 i ∧ Up w wr ∧ w.heap.size + 1 ≤ wr.heap.size ∧ Ow wr w.heap.size (.slice (some ⟨w.heap.size, 0, none⟩) n n) n qs ∧ Nh wr (w.heap.size + 1) s' rv R ∧ Hid (M.OvInv a b i R qs)) (fun _ iv _ => (intOf iv).toNat)
 case atStart => exact ⟨B, 0, _, Nat.le_refl _, rfl, U0, hzV, hownV, (nil_nh _ _ _ _).more (by omega), HST⟩
 case round =>
  obtain ⟨i, R, qs, hi, rfl, U, hsz, hown, nr, HI⟩ := hrel
  clear HST U0 hzV hownV hz1
  rcases Nat.eq_zero_or_pos i with h0 | h0
  ·subst h0
   obtain ⟨f1, f2⟩ := HI.out.fin
   have hhs := HI.out.hw
   have F2 := Lib.hid f2
   have hwd := Ow.wd_ hown hhs.wds (by omega)
   subst f1
   clear f2 HI hown
   go_wp2_with fail
   refine (trim_hs _ _ n _ _ _ _ hwd hhs _ F2 (Nat.le_refl _)).mono ?_
   rintro _ _ ⟨v4, rfl, rfl, h4⟩
   go_wp2_with fail
   go_ret2
   exact ⟨_, _, rfl, h4, nr.lower (by omega), U⟩
  ·obtain ⟨j, rfl⟩ : ∃ j, i = j + 1 := ⟨i - 1, by omega⟩
   obtain ⟨t, ht⟩ : ∃ t, a.testBit j = t := ⟨_, rfl⟩
   have HT := Lib.hid ht
   have qj : ((j + 1 : Nat) : Int) - 1 = (j : Int) := by omega
   have qj2 : (j : Int) + 1 - 1 = (j : Int) := by omega
   have bj : j < 32000000 := by omega
   have CT := Lib.hid (fun w' (hu : Up wr w') => CBT.out w' (U.trans hu) j bj t HT)
   have bB := Lib.hid hi
   clear ht
   go_wp2_with fail
   refine (up_of wr _ _ _ _ nr (by omega) 1 1 rfl (by omega)).mono ?_
   rintro _ w2 ⟨v2, rfl, n2, u2⟩
   rw [Nat.pow_one] at n2
   replace U := U.trans u2
   replace hown := Ow.up hown u2
   have CT2 := CT.out w2 u2
   have hsz2 : w.heap.size + 1 ≤ w2.heap.size := Nat.le_trans hsz (Up.size u2)
   replace n2 := n2.lower hsz
   clear u2 nr CT hsz
   have C2 := Lib.hid CT2
   clear CT2
   rcases t with _ | _
   ·go_wp2_with fail
    refine C2.out.mono ?_
    rintro _ _ ⟨rfl, rfl⟩
    clear C2
    have hszx := hsz2
    have hr' : R * 2 = 2 * R + (false).toNat := by show _ = 2 * R + 0; omega
    obtain ⟨r', hrr⟩ : ∃ r', R * 2 = r' := ⟨_, rfl⟩
    rw [hrr] at hr' n2
    clear hrr
    have nb' := hb.up U
    obtain ⟨z, hz⟩ : ∃ z, M.cmp r' b = z := ⟨_, rfl⟩
    have HZ := Lib.hid hz
    have zl := M.cmp_le (a := b) (b := r')
    have zs := M.cmp_swap b r'
    rw [hz] at zs
    go_wp2_with fail
    refine (rcmp_of w2 _ _ _ _ _ _ _ _ n2 nb' z HZ).mono ?_
    rintro _ _ ⟨rfl, rfl⟩
    by_cases hge : b ≤ r'
    ·have dz : decide (0 ≤ z) = true := decide_eq_true (by have := zl.2 hge; omega)
     obtain ⟨p, hp⟩ : ∃ p, j / 32 = p := ⟨_, rfl⟩
     obtain ⟨s, hs2⟩ : ∃ s, j % 32 = s := ⟨_, rfl⟩
     obtain ⟨cc, hcc⟩ : ∃ c, qs.getD p 0 = c := ⟨_, rfl⟩
     have hql := hown.num
     have hpn : p < n := by have := bB.out; omega
     obtain ⟨g1, g2, g3⟩ := HI.out.more false HT.out r' hr' hge hb0 hp hs2 (by omega) hcc
     have hc := hown.cellAt p (by omega)
     rw [cu_get (by omega), hcc] at hc
     have hf := hown.frozenAt p
     obtain ⟨P, hP⟩ : ∃ P, 2 ^ s = P := ⟨_, rfl⟩
     rw [hP] at g1 g3
     have qP : (2 : Int) ^ s = (P : Int) := by rw [← hP]; simp
     have q1 : (j : Int) / 32 = (p : Int) := by omega
     have q2 : (j : Int) % 32 = (s : Int) := by omega
     have q3 : (j : Int).tdiv 32 = (p : Int) := by rw [Int.tdiv_eq_ediv_of_nonneg (by omega)]; exact q1
     have q4 : (j : Int).tmod 32 = (s : Int) := by rw [Int.tmod_eq_emod_of_nonneg (by omega)]; exact q2
     have e1 : IntKind.u64.wrap (P : Int) = (P : Int) := by rw [IntKind.wrap_u64]; omega
     obtain ⟨C, hC⟩ : ∃ C, cc + P = C := ⟨_, rfl⟩
     rw [hC] at g1 g3
     have e2 : (cc : Int) + (P : Int) = (C : Int) := by omega
     have e3 : IntKind.u64.wrap (C : Int) = (C : Int) := by rw [IntKind.wrap_u64]; omega
     have s32 : s < 32 := by omega
     have G3 := Lib.hid g3
     have HLT : r' - b < 4294967296 ^ s' := Nat.lt_trans g2 HBL.out
     clear zl zs hz hp hs2 hcc hql hP hC g3 HI hr' HT
     go_wp2_with fail
     refine (minus_of w2 _ _ _ _ _ _ _ _ n2 nb' hge (by omega)).mono ?_
     rintro _ w5 ⟨v5, rfl, n5, u5⟩
     have n5' := (n5.fit HLT).lower (Nat.le_trans hszx (Nat.le_refl _))
     replace U := U.trans u5
     have hc5 := cell_up u5 hc
     have hf5 := frozen_up u5 hc hf
     replace hown := Ow.up hown u5
     have hsz5 : w.heap.size + 1 ≤ w5.heap.size := Nat.le_trans hszx (Up.size u5)
     clear u5 n5 hc hf n2 nb'
     go_wp2_with fail
     go_roundw
     case rel =>
      obtain ⟨h1, _⟩ := hown.stored p (u64 C)
      rw [cu_set] at h1
      exact ⟨j, r' - b, _, by have := bB.out; omega, by go_num, U.setCell (Nat.le_refl _) _, (by rw [show (w5.setCell ⟨w.heap.size, p, none⟩ (u64 C)).heap.size = w5.heap.size by simp [World.setCell]]; exact hsz5), h1, n5'.set (by show w.heap.size < _; omega) _, G3⟩
     case measure => simp [intOf] <;> omega
    ·have dz : decide (0 ≤ z) = false := decide_eq_false (fun h => hge (zl.1 (by omega)))
     have G3 := Lib.hid (HI.out.less false HT.out r' hr' (by omega))
     have HLT : r' < 4294967296 ^ s' := Nat.lt_trans (by omega) HBL.out
     have n5' := n2.fit HLT
     clear zl zs hz HI hr' HT n2 nb'
     go_wp2_with fail
     go_roundw
     case rel => exact ⟨j, r', qs, by have := bB.out; omega, by go_num, U, hszx, hown, n5', G3⟩
     case measure => simp [intOf] <;> omega
   ·go_wp2_with fail
    refine C2.out.mono ?_
    rintro _ _ ⟨rfl, rfl⟩
    clear C2
    go_wp2_with fail
    have u3 : Up w2 (w2.alloc (.cells #[.int .u64 1] 22)) := (Up.refl w2).alloc _
    have s3 := Up.size u3
    refine (plus_of _ _ _ _ _ (s' + 1 / 32 + 1) _ _ _ _ (n2.up u3) (one_nh w2) (by omega) (by omega) (by omega)).mono ?_
    rintro _ w4 ⟨v4, rfl, n4, u4⟩
    have u34 := u3.trans u4
    replace n4 := n4.lower (Nat.le_trans hsz2 s3)
    replace U := U.trans u34
    replace hown := Ow.up hown u34
    have hszx : w.heap.size + 1 ≤ w4.heap.size := Nat.le_trans hsz2 (Up.size u34)
    clear u3 u4 u34 n2 hsz2 s3
    have hr' : R * 2 + 1 = 2 * R + (true).toNat := by show _ = 2 * R + 1; omega
    obtain ⟨r', hrr⟩ : ∃ r', R * 2 + 1 = r' := ⟨_, rfl⟩
    rw [hrr] at hr' n4
    clear hrr
    have nb' := hb.up U
    obtain ⟨z, hz⟩ : ∃ z, M.cmp r' b = z := ⟨_, rfl⟩
    have HZ := Lib.hid hz
    have zl := M.cmp_le (a := b) (b := r')
    have zs := M.cmp_swap b r'
    rw [hz] at zs
    go_wp2_with fail
    refine (rcmp_of w4 _ _ _ _ _ _ _ _ n4 nb' z HZ).mono ?_
    rintro _ _ ⟨rfl, rfl⟩
    by_cases hge : b ≤ r'
    ·have dz : decide (0 ≤ z) = true := decide_eq_true (by have := zl.2 hge; omega)
     obtain ⟨p, hp⟩ : ∃ p, j / 32 = p := ⟨_, rfl⟩
     obtain ⟨s, hs2⟩ : ∃ s, j % 32 = s := ⟨_, rfl⟩
     obtain ⟨cc, hcc⟩ : ∃ c, qs.getD p 0 = c := ⟨_, rfl⟩
     have hql := hown.num
     have hpn : p < n := by have := bB.out; omega
     obtain ⟨g1, g2, g3⟩ := HI.out.more true HT.out r' hr' hge hb0 hp hs2 (by omega) hcc
     have hc := hown.cellAt p (by omega)
     rw [cu_get (by omega), hcc] at hc
     have hf := hown.frozenAt p
     obtain ⟨P, hP⟩ : ∃ P, 2 ^ s = P := ⟨_, rfl⟩
     rw [hP] at g1 g3
     have qP : (2 : Int) ^ s = (P : Int) := by rw [← hP]; simp
     have q1 : (j : Int) / 32 = (p : Int) := by omega
     have q2 : (j : Int) % 32 = (s : Int) := by omega
     have q3 : (j : Int).tdiv 32 = (p : Int) := by rw [Int.tdiv_eq_ediv_of_nonneg (by omega)]; exact q1
     have q4 : (j : Int).tmod 32 = (s : Int) := by rw [Int.tmod_eq_emod_of_nonneg (by omega)]; exact q2
     have e1 : IntKind.u64.wrap (P : Int) = (P : Int) := by rw [IntKind.wrap_u64]; omega
     obtain ⟨C, hC⟩ : ∃ C, cc + P = C := ⟨_, rfl⟩
     rw [hC] at g1 g3
     have e2 : (cc : Int) + (P : Int) = (C : Int) := by omega
     have e3 : IntKind.u64.wrap (C : Int) = (C : Int) := by rw [IntKind.wrap_u64]; omega
     have s32 : s < 32 := by omega
     have G3 := Lib.hid g3
     have HLT : r' - b < 4294967296 ^ s' := Nat.lt_trans g2 HBL.out
     clear zl zs hz hp hs2 hcc hql hP hC g3 HI hr' HT
     go_wp2_with fail
     refine (minus_of w4 _ _ _ _ _ _ _ _ n4 nb' hge (by omega)).mono ?_
     rintro _ w5 ⟨v5, rfl, n5, u5⟩
     have n5' := (n5.fit HLT).lower (Nat.le_trans hszx (Nat.le_refl _))
     replace U := U.trans u5
     have hc5 := cell_up u5 hc
     have hf5 := frozen_up u5 hc hf
     replace hown := Ow.up hown u5
     have hsz5 : w.heap.size + 1 ≤ w5.heap.size := Nat.le_trans hszx (Up.size u5)
     clear u5 n5 hc hf n4 nb'
     go_wp2_with fail
     go_roundw
     case rel =>
      obtain ⟨h1, _⟩ := hown.stored p (u64 C)
      rw [cu_set] at h1
      exact ⟨j, r' - b, _, by have := bB.out; omega, by go_num, U.setCell (Nat.le_refl _) _, (by rw [show (w5.setCell ⟨w.heap.size, p, none⟩ (u64 C)).heap.size = w5.heap.size by simp [World.setCell]]; exact hsz5), h1, n5'.set (by show w.heap.size < _; omega) _, G3⟩
     case measure => simp [intOf] <;> omega
    ·have dz : decide (0 ≤ z) = false := decide_eq_false (fun h => hge (zl.1 (by omega)))
     have G3 := Lib.hid (HI.out.less true HT.out r' hr' (by omega))
     have HLT : r' < 4294967296 ^ s' := Nat.lt_trans (by omega) HBL.out
     have n5' := n4.fit HLT
     clear zl zs hz HI hr' HT n4 nb'
     go_wp2_with fail
     go_roundw
     case rel => exact ⟨j, r', qs, by have := bB.out; omega, by go_num, U, hszx, hown, n5', G3⟩
     case measure => simp [intOf] <;> omega
theorem over_of (w : World) (lo lo' s s' : Nat) (v v' : Value) (a b : Nat) (h : Nh w lo s v a) (hb : Nh w lo' s' v' b) (hb0 : 0 < b) (hs : s ≤ 1000000) (hs' : s' ≤ 1000000) :
  Calls Tryz.prog 102 #[v, v'] w (Rh2 s (a / b) s' (a % b) w) := by
 obtain ⟨A, n, c, xs, rfl, h1, h2, h3, h4, h5⟩ := h
 refine (over_any w lo lo' A n c s' xs v' b h1 h2 hb hb0 (by omega) hs').mono ?_
 rintro _ w' ⟨v1, v2, rfl, n1, n2, hu⟩
 rw [h3] at n1 n2
 exact ⟨v1, v2, rfl, n1.more h4, n2, hu⟩
theorem nhl0 {w : World} {lo s : Nat} {A : Option Addr} {n c a : Nat} (h : Nh w lo s (.slice A n c) a) : (n = 0 ↔ a = 0) := by
 obtain ⟨A', n', c', xs, e, h1, h2, h3, _, h4⟩ := h
 injection e with _ e2 _
 subst e2
 constructor
 ·intro h
  have e : xs = [] := List.eq_nil_of_length_eq_zero (by rw [h1.num, h])
  rw [← h3, e]
  rfl
 ·intro h
  have := M.hlen_of_lt (k := 0) h2 h4 (by rw [h3, h]; exact Nat.lt_of_lt_of_le Nat.zero_lt_one (Nat.le_refl _))
  rw [← h1.num]
  omega
def Flr (s q : Nat) (z : Int) (w : World) (e : Ending) (w' : World) : Prop := ∃ v, e = .returned (.tuple #[v, .int .i64 z]) ∧ Nt w' w.heap.size s v q ∧ Up w w'
set_option maxRecDepth 100000 in
theorem rfloor_any (w : World) (lo s : Nat) (neg : Bool) (v : Value) (t f : Int) (a : Nat) (h : Nw w lo s v a) (hs : s ≤ 100000) (k : Int) (bt : -5000 ≤ t ∧ t ≤ 5000) (bf : -5000 ≤ f ∧ f ≤ 5000) (bk : -5000 ≤ k ∧ k ≤ 5000) (T F T' F' : Nat)
  (hT : Hid (max (t - k) 0 = (T : Int))) (hF : Hid (max (f - k) 0 = (F : Int))) (hT' : Hid (max (-(t - k)) 0 = (T' : Int))) (hF' : Hid (max (-(f - k)) 0 = (F' : Int)))
  (q r : Nat) (hq : Hid (a * 5 ^ F * 2 ^ T / (5 ^ F' * 2 ^ T') = q)) (hr : Hid (a * 5 ^ F * 2 ^ T % (5 ^ F' * 2 ^ T') = r)) (z : Int) (hz : Hid (M.part r (5 ^ F' * 2 ^ T') = z)) :
  Calls Tryz.prog 57 #[xv neg v t f, .int .i64 k] w (Flr (2 * s + F + T + 11) q z w) := by
 obtain ⟨D, hD⟩ : ∃ D, t - k = D := ⟨_, rfl⟩
 obtain ⟨E, hE⟩ : ∃ E, f - k = E := ⟨_, rfl⟩
 rw [hD] at hT hT'
 rw [hE] at hF hF'
 have bT := hT.out
 have bF := hF.out
 have bT' := hT'.out
 have bF' := hF'.out
 have B : T ≤ 20000 ∧ F ≤ 20000 ∧ T' ≤ 20000 ∧ F' ≤ 20000 := by omega
 have bDE : -10000 ≤ D ∧ D ≤ 10000 ∧ -10000 ≤ E ∧ E ≤ 10000 := by omega
 have w1 : IntKind.i64.wrap (t - k) = D := by rw [hD]; simp [IntKind.wrap, IntKind.bits, IntKind.signed]; omega
 have w2 : IntKind.i64.wrap (f - k) = E := by rw [hE]; simp [IntKind.wrap, IntKind.bits, IntKind.signed]; omega
 have PA := Lib.hid (fun w' (hu : Up w w') => parts_any w' lo s neg v D E a (h.up hu) hs T F T' F' hT hF hT' hF' B.1 B.2.1 B.2.2.1 B.2.2.2)
 have hpos : 0 < 5 ^ F' * 2 ^ T' := Nat.mul_pos (Nat.pow_pos (by omega)) (Nat.pow_pos (by omega))
 obtain ⟨Q, hQ⟩ : ∃ Q, 5 ^ F' * 2 ^ T' = Q := ⟨_, rfl⟩
 rw [hQ] at hq hr hz hpos PA
 clear hQ bT bF bT' bF' hT hF hT' hF' h bt bf bk
 go_enter Tryz.func57, Tryz.ntmps57
 go_wp2_with fail
 refine (PA.out _ ?_).mono ?_
 ·first
   | exact (((Up.refl w).alloc _).setCell (Nat.le_refl _) _).setCell (Nat.le_refl _) _
   | exact (Up.refl w).alloc _
 rintro _ w1' ⟨p, q', rfl, np, nq, u1⟩
 have U : Up w w1' := Up.trans (by first | exact (((Up.refl w).alloc _).setCell (Nat.le_refl _) _).setCell (Nat.le_refl _) _ | exact (Up.refl w).alloc _) u1
 clear u1 PA
 go_wp2_with fail
 refine (over_of w1' _ _ _ _ _ _ _ _ np nq hpos (by omega) (by omega)).mono ?_
 rintro _ w2' ⟨vn, vr, rfl, nn, nr, u2⟩
 rw [hq.out] at nn
 rw [hr.out] at nr
 replace nq := nq.up u2
 replace U := U.trans u2
 clear u2 np
 obtain ⟨Ar, sr, cr, wr', rfl, nr⟩ := nr
 replace nr : Nh w2' _ _ (.slice Ar sr cr) r := ⟨Ar, sr, cr, wr', rfl, nr⟩
 have hr0 := nhl0 nr
 rcases Nat.eq_zero_or_pos sr with h0 | h0
 ·have hz0 : z = 0 := by rw [← hz.out, M.part, if_pos (hr0.1 h0)]
  subst h0 hz0
  clear hr0 nq nr
  go_wp2_with fail
  refine (words_of w2' _ _ _ _ nn (by omega)).mono ?_
  rintro _ w3 ⟨vq, rfl, n3, u3⟩
  have sz := Up.size U
  go_wp2_with fail
  go_ret2
  exact ⟨_, rfl, (n3.lower sz).more (by omega), U.trans u3⟩
 ·have hne : r ≠ 0 := fun e => by have := hr0.2 e; omega
  obtain ⟨y, hy⟩ : ∃ y, M.cmp (r + r) Q = y := ⟨_, rfl⟩
  have hyr := M.cmp_rng (r + r) Q
  rw [hy] at hyr
  have hzy : z = 2 + y := by rw [← hz.out, M.part, if_neg hne, ← hy, Nat.mul_two]
  have HY := Lib.hid hy
  have HZY := Lib.hid hzy
  clear hy hzy hne hr0
  go_wp2_with fail
  refine (plus_of w2' _ _ _ _ (F' + T' + 10) _ _ _ _ nr nr (by omega) (by omega) (by omega)).mono ?_
  rintro _ w3 ⟨vp, rfl, n3, u3⟩
  replace nq := nq.up u3
  replace nn := nn.up u3
  replace U := U.trans u3
  clear u3
  go_wp2_with fail
  refine (rcmp_of w3 _ _ _ _ _ _ _ _ n3 nq y HY).mono ?_
  rintro _ _ ⟨rfl, rfl⟩
  go_wp2_with fail
  refine (words_of w3 _ _ _ _ nn (by omega)).mono ?_
  rintro _ w4 ⟨vq, rfl, n4, u4⟩
  have sz := Up.size U
  go_wp2_with fail
  go_ret2
  exact ⟨_, by rw [HZY.out]; rfl, (n4.lower sz).more (by omega), U.trans u4⟩
def L1 (w : World) (b : Nat) : Prop := w.cell? ⟨b, 0, none⟩ = some (u64 1) ∧ w.frozen? ⟨b, 0, none⟩ = false
theorem L1.up {w w' : World} {b : Nat} (h : L1 w b) (hu : Up w w') : L1 w' b := ⟨cell_up hu h.1, frozen_up hu h.1 h.2⟩
theorem L1.mk_ (w : World) : L1 (w.alloc (.cells #[.int .u64 1] 22)) w.heap.size := by
 unfold L1
 constructor <;> simp
theorem L1.at_ (o : Obj) (w : World) : L1 ((w.alloc o).alloc (.cells #[.int .u64 1] 22)) (w.heap.size + 1) := by
 have := L1.mk_ (w.alloc o)
 rwa [show (w.alloc o).heap.size = w.heap.size + 1 from Array.size_push _] at this
theorem L1.set {w : World} {b : Nat} (h : L1 w b) {p : Addr} (hp : p.block ≠ b) (x : Value) : L1 (w.setCell p x) b := by
 refine ⟨?_, by rw [World.frozen?_setCell]; exact h.2⟩
 rw [World.cell?_setCell_other _ _ _ _ (fun e => hp (by rw [e]))]
 exact h.1
theorem L1.nt {w : World} {b : Nat} (h : L1 w b) : Nt w b 1 (.slice (some ⟨b, 0, none⟩) 1 1) 1 :=
 ⟨_, 1, 1, [1], rfl, ⟨rfl, by omega, by omega, M.Wds.cons (by omega) M.Wds.nil, fun _ => ⟨b, 0, rfl, Nat.le_refl _, fun j hj => by
  have : j = 0 := by omega
  subst this
  exact h⟩⟩, by simp [M.val], by omega, by simp [M.Nrm]⟩
theorem Bx.set2 {w : World} {b : Nat} {neg : Bool} {v : Value} {t f t' : Int} (h : Bx w b neg v t f) : Bx (w.setCell ⟨b, 2, none⟩ (.int .i64 t')) b neg v t' f := by
 obtain ⟨⟨a0, a1, a2, a3⟩, b0, b1, b2, b3⟩ := h
 refine ⟨⟨?_, ?_, World.cell?_setCell_same _ _ _ a2, ?_⟩, ?_, ?_, ?_, ?_⟩
 ·rw [World.cell?_setCell_other _ _ _ _ (by simp)]; exact a0
 ·rw [World.cell?_setCell_other _ _ _ _ (by simp)]; exact a1
 ·rw [World.cell?_setCell_other _ _ _ _ (by simp)]; exact a3
 all_goals rw [World.frozen?_setCell]; assumption
theorem Bx.set3 {w : World} {b : Nat} {neg : Bool} {v : Value} {t f f' : Int} (h : Bx w b neg v t f) : Bx (w.setCell ⟨b, 3, none⟩ (.int .i64 f')) b neg v t f' := by
 obtain ⟨⟨a0, a1, a2, a3⟩, b0, b1, b2, b3⟩ := h
 refine ⟨⟨?_, ?_, ?_, World.cell?_setCell_same _ _ _ a3⟩, ?_, ?_, ?_, ?_⟩
 ·rw [World.cell?_setCell_other _ _ _ _ (by simp)]; exact a0
 ·rw [World.cell?_setCell_other _ _ _ _ (by simp)]; exact a1
 ·rw [World.cell?_setCell_other _ _ _ _ (by simp)]; exact a2
 all_goals rw [World.frozen?_setCell]; assumption
theorem Bx.setx {w : World} {b b' : Nat} {neg : Bool} {v : Value} {t f : Int} (h : Bx w b neg v t f) (hne : b ≠ b') (i : Nat) (x : Value) : Bx (w.setCell ⟨b', i, none⟩ x) b neg v t f := h.grown (only_setCell (World.grownBy.refl w _) i x) hne
set_option maxRecDepth 100000 in
theorem rlog_any (w : World) (lo s : Nat) (neg : Bool) (A : Option Addr) (n c : Nat) (t f : Int) (a : Nat) (h : Nt w lo s (.slice A n c) a) (hs : s ≤ 100000) (hn : 0 < n) (bt : -3100 ≤ t ∧ t ≤ 3100) (bf : -3100 ≤ f ∧ f ≤ 3100)
  (K : Int) (bK : -4000 ≤ K ∧ K ≤ 4000) (HK : Hid (∀ k : Int, -4000 ≤ k → k ≤ 4001 → (M.ov a t f (-5000) < M.ov 1 k k (-5000) ↔ K < k))) :
  Calls Tryz.prog 56 #[xv neg (.slice A n c) t f] w (Num K w) := by
 have CC := Lib.hid (fun w' (hu : Up w w') (b : Nat) (hl : L1 w' b) (k : Int) (k1 : -4000 ≤ k) (k2 : k ≤ 4001) (z : Int) (hz : Hid (M.cmp (M.ov a t f (-5000)) (M.ov 1 k k (-5000)) = z)) =>
  rxcmp_any (-5000) w' _ _ _ _ neg false _ _ t f k k a 1 (h.nw.up hu) hl.nt.nw hs (by omega) ⟨by omega, by omega, by omega⟩ ⟨by omega, by omega, by omega⟩ ⟨by omega, by omega, by omega⟩ ⟨by omega, by omega, by omega⟩ z hz)
 have hn0 : ((n : Int) == 0) = false := by rw [beq_eq_false_iff_ne]; omega
 clear h bt bf
 go_enter Tryz.func56, Tryz.ntmps56
 go_wp2_with fail
 obtain ⟨V, hV⟩ : ∃ V, ((w.alloc (.cells #[.bool neg, .slice A n c, .int .i64 t, .int .i64 f] 84)).alloc (.cells #[.int .u64 1] 22)).alloc (.cells #[.bool false, .slice (some ⟨w.heap.size + 1, 0, none⟩) 1 1, .int .i64 0, .int .i64 0] 84) = V := ⟨_, rfl⟩
 have U0 : Up w V := by rw [← hV]; exact (((Up.refl w).alloc _).alloc _).alloc _
 have x0 : Bx V w.heap.size neg (.slice A n c) t f := by rw [← hV]; exact ((Bx.mk_ w neg (.slice A n c) t f).up ((Up.refl _).alloc _)).up ((Up.refl _).alloc _)
 have l0 : L1 V (w.heap.size + 1) := by rw [← hV]; exact (L1.at_ _ w).up ((Up.refl _).alloc _)
 have y0 : Bx V (w.heap.size + 1 + 1) false (.slice (some ⟨w.heap.size + 1, 0, none⟩) 1 1) 0 0 := by
  rw [← hV]
  have := Bx.mk_ ((w.alloc (.cells #[.bool neg, .slice A n c, .int .i64 t, .int .i64 f] 84)).alloc (.cells #[.int .u64 1] 22)) false (.slice (some ⟨w.heap.size + 1, 0, none⟩) 1 1) 0 0
  rwa [show ((w.alloc (.cells #[.bool neg, .slice A n c, .int .i64 t, .int .i64 f] 84)).alloc (.cells #[.int .u64 1] 22)).heap.size = w.heap.size + 1 + 1 by simp] at this
 rw [hV]
 clear hV
 go_loopw [3] (fun kv wr => ∃ k : Int, k ≤ 0 ∧ -4000 ≤ k ∧ (K ≤ k ∨ k = 0) ∧ kv = .int .i64 k ∧ Up w wr ∧ Bx wr w.heap.size neg (.slice A n c) t f ∧ L1 wr (w.heap.size + 1) ∧ Bx wr (w.heap.size + 1 + 1) false (.slice (some ⟨w.heap.size + 1, 0, none⟩) 1 1) k k) (fun kv _ => (intOf kv + 5000).toNat)
 case atStart => exact ⟨0, by omega, by omega, .inr rfl, rfl, U0, x0, l0, y0⟩
 case round =>
  obtain ⟨k, hk0, hk1, hk2, rfl, U, x, l, y⟩ := hrel
  clear U0 x0 l0 y0
  obtain ⟨z, hz⟩ : ∃ z, M.cmp (M.ov a t f (-5000)) (M.ov 1 k k (-5000)) = z := ⟨_, rfl⟩
  have HZ := Lib.hid hz
  have hKk := HK.out k (by omega) (by omega)
  obtain ⟨⟨x0, x1, x2, x3⟩, _⟩ := id x
  obtain ⟨⟨y0, y1, y2, y3⟩, g0, g1, g2, g3⟩ := id y
  by_cases hlt : K < k
  ·have dz : decide (z < 0) = true := by rw [← hz, M.cmp_lt (hKk.2 hlt)]; rfl
   clear hz hKk
   go_wp2_with fail
   refine (CC.out _ U _ l k (by omega) (by omega) z HZ).mono ?_
   rintro _ w2 ⟨rfl, u2⟩
   replace U := U.trans u2
   replace x := x.up u2
   replace y := y.up u2
   replace l := l.up u2
   clear u2 x0 x1 x2 x3 y0 y1 y2 y3 g0 g1 g2 g3
   obtain ⟨⟨y0, y1, y2, y3⟩, g0, g1, g2, g3⟩ := id y
   go_wp2_with fail
   clear y0 y1 y2 y3 g0 g1 g2 g3
   go_roundw
   case rel =>
    exact ⟨k - 1, by omega, by omega, .inl (by omega), rfl, (U.setCell (by show w.heap.size ≤ w.heap.size + 1 + 1; omega) _).setCell (by show w.heap.size ≤ w.heap.size + 1 + 1; omega) _,
     (x.setx (by omega) _ _).setx (by omega) _ _, (l.set (by show w.heap.size + 1 + 1 ≠ _; omega) _).set (by show w.heap.size + 1 + 1 ≠ _; omega) _, y.set2.set3⟩
   case measure => simp [intOf]; omega
  ·have dz : decide (z < 0) = false := by
    have h1 := M.cmp_le (a := M.ov 1 k k (-5000)) (b := M.ov a t f (-5000))
    have h2 := M.cmp_swap (M.ov a t f (-5000)) (M.ov 1 k k (-5000))
    have h3 : M.ov 1 k k (-5000) ≤ M.ov a t f (-5000) := Nat.not_lt.1 (fun h => hlt (hKk.1 h))
    have := h1.2 h3
    exact decide_eq_false (by omega)
   have hkK : k ≤ K := by omega
   clear hz hKk
   go_wp2_with fail
   refine (CC.out _ U _ l k (by omega) (by omega) z HZ).mono ?_
   rintro _ w2 ⟨rfl, u2⟩
   replace U := U.trans u2
   replace x := x.up u2
   clear u2 x0 x1 x2 x3 y0 y1 y2 y3 g0 g1 g2 g3 y l
   go_wp2_with fail
   obtain ⟨V2, hV2⟩ : ∃ V, (w2.alloc (.cells #[.int .u64 1] 22)).alloc (.cells #[.bool false, .slice (some ⟨w2.heap.size, 0, none⟩) 1 1, .int .i64 (k + 1), .int .i64 (k + 1)] 84) = V := ⟨_, rfl⟩
   have u2 : Up w2 V2 := by rw [← hV2]; exact ((Up.refl _).alloc _).alloc _
   have l1 : L1 V2 w2.heap.size := by rw [← hV2]; exact (L1.mk_ w2).up ((Up.refl _).alloc _)
   have n0 : Bx V2 (w2.heap.size + 1) false (.slice (some ⟨w2.heap.size, 0, none⟩) 1 1) (k + 1) (k + 1) := by rw [← hV2]; exact bx_at _ w2 _ _ _ _
   have sz := Up.size U
   have bx2 := World.block_lt_of_cell? _ _ x.1.1
   simp only at bx2
   rw [hV2]
   clear hV2
   replace U := U.trans u2
   replace x := x.up u2
   clear u2
   go_loopw [3] (fun kv wr => ∃ j : Int, k ≤ j ∧ j ≤ K ∧ kv = .int .i64 j ∧ Up w wr ∧ Bx wr w.heap.size neg (.slice A n c) t f ∧ L1 wr w2.heap.size ∧ Bx wr (w2.heap.size + 1) false (.slice (some ⟨w2.heap.size, 0, none⟩) 1 1) (j + 1) (j + 1)) (fun kv _ => (5000 - intOf kv).toNat)
   case atStart => exact ⟨k, by omega, hkK, rfl, U, x, l1, n0⟩
   case round =>
    obtain ⟨j, hj0, hj1, rfl, U3, x3, l3, y3⟩ := hrel
    clear U x l1 n0 HZ dz
    obtain ⟨z2, hz2⟩ : ∃ z, M.cmp (M.ov a t f (-5000)) (M.ov 1 (j + 1) (j + 1) (-5000)) = z := ⟨_, rfl⟩
    have HZ2 := Lib.hid hz2
    have hKj := HK.out (j + 1) (by omega) (by omega)
    obtain ⟨⟨x0, x1, x2, x3'⟩, _⟩ := id x3
    obtain ⟨⟨y0, y1, y2, y3'⟩, g0, g1, g2, g3⟩ := id y3
    by_cases hlt2 : K < j + 1
    ·have dz : decide (0 ≤ z2) = false := by rw [← hz2, M.cmp_lt (hKj.2 hlt2)]; rfl
     have hjK : j = K := by omega
     subst hjK
     clear hz2 hKj
     go_wp2_with fail
     refine (CC.out _ U3 _ l3 (j + 1) (by omega) (by omega) z2 HZ2).mono ?_
     rintro _ w5 ⟨rfl, u5⟩
     go_wp2_with fail
     go_ret
     exact ⟨rfl, U3.trans u5⟩
    ·have dz : decide (0 ≤ z2) = true := by
      have h1 := M.cmp_le (a := M.ov 1 (j + 1) (j + 1) (-5000)) (b := M.ov a t f (-5000))
      have h2 := M.cmp_swap (M.ov a t f (-5000)) (M.ov 1 (j + 1) (j + 1) (-5000))
      have h3 : M.ov 1 (j + 1) (j + 1) (-5000) ≤ M.ov a t f (-5000) := Nat.not_lt.1 (fun h => hlt2 (hKj.1 h))
      have := h1.2 h3
      exact decide_eq_true (by omega)
     clear hz2 hKj
     go_wp2_with fail
     refine (CC.out _ U3 _ l3 (j + 1) (by omega) (by omega) z2 HZ2).mono ?_
     rintro _ w5 ⟨rfl, u5⟩
     replace U3 := U3.trans u5
     replace x3 := x3.up u5
     replace y3 := y3.up u5
     replace l3 := l3.up u5
     clear u5 x0 x1 x2 x3' y0 y1 y2 y3' g0 g1 g2 g3
     obtain ⟨⟨y0, y1, y2, y3'⟩, g0, g1, g2, g3⟩ := id y3
     go_wp2_with fail
     clear y0 y1 y2 y3' g0 g1 g2 g3
     go_roundw
     case rel =>
      exact ⟨j + 1, by omega, by omega, by go_num, (U3.setCell (by show w.heap.size ≤ w2.heap.size + 1; omega) _).setCell (by show w.heap.size ≤ w2.heap.size + 1; omega) _,
       (x3.setx (by omega) _ _).setx (by omega) _ _, (l3.set (by show w2.heap.size + 1 ≠ _; omega) _).set (by show w2.heap.size + 1 ≠ _; omega) _, y3.set2.set3⟩
     case measure => simp [intOf]; omega
end Go.Proofs.YtcmlanfgafancaaGreatDoor
