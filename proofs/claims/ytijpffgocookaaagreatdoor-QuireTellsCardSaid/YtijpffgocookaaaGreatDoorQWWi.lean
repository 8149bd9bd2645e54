import Derived.Test.YtijpffgocookaaaGreatDoorQWEx6
import Derived.Test.YtijpffgocookaaaGreatDoorQWRfa
import Derived.Test.YtijpffgocookaaaGreatDoorQWRef3
import Derived.Test.YtijpffgocookaaaGreatDoorQWNb
import Derived.OwnWalk
import Derived.LoopTactic
import Derived.Test.YtijpffgocookaaaGreatDoorQWWf
import Derived.Test.YtijpffgocookaaaGreatDoorQWWb0
set_option maxHeartbeats 32000000
set_option linter.unusedVariables false
set_option linter.unusedSimpArgs false
namespace Go.Proofs.YtijpffgocookaaaGreatDoor
open Go.RowKit Go.Shelf
set_option maxRecDepth 100000 in
theorem minus_any (w : World) (lo lo' : Nat) (A A' : Option Addr) (n c m c' : Nat) (xs ys : List Nat) (hx : Wd w lo A n c xs) (hy : Wd w lo' A' m c' ys) (hhx : M.Hs xs) (hhy : M.Hs ys) (hle : M.vh ys ≤ M.vh xs) (hn : n ≤ 100000000) :
  Calls Tryz.prog 128 #[.slice A n c, .slice A' m c'] w (Rh n (M.vh xs - M.vh ys) w) := by
 have b1 := hx.len
 have b2 := hy.len
 have hst : Ow (w.alloc (.cells #[] 30)) w.heap.size (.slice (some ⟨w.heap.size, 0, none⟩) 0 0) 0 [] := World.ownsRow_lit w #[] 0 (Nat.le_refl _) (by simp only [maxLen]; omega) rfl
 have hst2 := Lib.hid (M.MiInv.start xs ys)
 have hxl := Lib.hid hx.num
 have HLE := Lib.hid hle
 clear hle
 go_enter Tryz.func128, Tryz.ntmps128
 go_wp2_with fail
 go_loopw [5, 6, 7] (fun sv cv iv wr => ∃ (i bo : Nat) (hs : List Nat), i ≤ n ∧ bo ≤ 1 ∧ cv = u64 bo ∧ iv = .int .i64 i ∧ Up w wr ∧ w.heap.size ≤ wr.heap.size ∧ Ow wr w.heap.size sv i hs ∧ Hid (M.MiInv xs ys i bo hs)) (fun _ _ iv _ => n - (intOf iv).toNat)
 case atStart => exact ⟨0, 0, [], by omega, by omega, rfl, rfl, (Up.refl w).alloc _, by simp, hst, hst2⟩
 case round =>
  obtain ⟨i, bo, hs, hi, hbo, rfl, rfl, hu, hsz, hown, HI⟩ := hrel
  clear hst hst2
  by_cases hlt : i < n
  ·obtain ⟨x, hxk⟩ : ∃ x, xs.getD i 0 = x := ⟨_, rfl⟩
   obtain ⟨y, hyk⟩ : ∃ y, ys.getD i 0 = y := ⟨_, rfl⟩
   have hxb : x < 4294967296 := by rw [← hxk]; exact hhx.getD i
   have hyb : y < 4294967296 := by rw [← hyk]; exact hhy.getD i
   have cx := get_any wr lo A n c xs (hx.up hu) i _ rfl
   have cy' := get_any wr lo' A' m c' ys (hy.up hu) i _ rfl
   rw [hxk] at cx
   rw [hyk] at cy'
   have CX := Lib.hid cx
   have CY := Lib.hid cy'
   obtain ⟨t, ht⟩ : ∃ t, x + 4294967296 - y - bo = t := ⟨_, rfl⟩
   have hE := HI.out.step hxk hyk hxb hyb ht
   have htb : t ≤ 8589934591 := by omega
   obtain ⟨T0, hT0⟩ : ∃ T0, t % 4294967296 = T0 := ⟨_, rfl⟩
   obtain ⟨T1, hT1⟩ : ∃ T1, t / 4294967296 = T1 := ⟨_, rfl⟩
   obtain ⟨B1, hB1⟩ : ∃ B1, 1 - T1 = B1 := ⟨_, rfl⟩
   rw [hT0, hT1, hB1] at hE
   have e1 : IntKind.u64.wrap ((x : Int) + 4294967296) = (x : Int) + 4294967296 := by rw [IntKind.wrap_u64]; omega
   have e2 : IntKind.u64.wrap ((x : Int) + 4294967296 - (y : Int)) = (x : Int) + 4294967296 - (y : Int) := by rw [IntKind.wrap_u64]; omega
   have e3 : IntKind.u64.wrap ((x : Int) + 4294967296 - (y : Int) - (bo : Int)) = (t : Int) := by rw [IntKind.wrap_u64]; omega
   have e4 : (x : Int) + 4294967296 - (y : Int) - (bo : Int) = (t : Int) := by omega
   have qT0 : (t : Int) % 4294967296 = (T0 : Int) := by omega
   have qT0' : (t : Int).tmod 4294967296 = (T0 : Int) := by rw [Int.tmod_eq_emod_of_nonneg (by omega)]; exact qT0
   have qT1 : (t : Int) / 4294967296 = (T1 : Int) := by omega
   have hT1b : T1 ≤ 1 := by omega
   have qB1 : 1 - (T1 : Int) = (B1 : Int) := by omega
   have qB2 : IntKind.u64.wrap (1 - (T1 : Int)) = (B1 : Int) := by rw [IntKind.wrap_u64]; omega
   have hT0b : T0 < 18446744073709551616 := by omega
   have hB1b : B1 ≤ 1 := by omega
   have HE := Lib.hid hE
   have hu2 : Up wr (wr.alloc (.cells #[.int .u64 (T0 : Int)] 30)) := (Up.refl wr).alloc _
   have hown2 := Ow.up hown hu2
   have hw2 := lit1_wd wr T0 _ rfl hT0b
   clear hE cx cy' hxk hyk hT0 hT1 hB1 ht HI
   go_wp2_with fail
   refine CX.out.mono ?_
   rintro _ _ ⟨rfl, rfl⟩
   go_wp2_with fail
   refine CY.out.mono ?_
   rintro _ _ ⟨rfl, rfl⟩
   go_wp2_with (at_builtin; refine wpList_append_wd _ rfl (.tmp 26) (.tmp 29) _ rfl info_u64 w.heap.size Tryz.underlying31 _ i hs rfl hown2 _ _ 1 1 [T0] rfl hw2 (by omega) (Nat.le_trans hsz (Up.size hu2)) ?_; intro v3 w3 hown3 hg3 hat3)
   have hu3 : Up w w3 := (hu.trans hu2).grown hg3 (fun b hb => (World.ownsRow.lt hown2 b hb).1)
   go_roundw
   case rel => exact ⟨i + 1, B1, _, by omega, hB1b, by go_num, by go_num, hu3, hu3.size, hown3, HE⟩
   case measure => simp [intOf]; omega
  ·have hin : i = n := by omega
   subst hin
   have hv := HI.out.fin hxl.out hhx HLE.out
   have hhs := HI.out.hw
   have HV := Lib.hid hv
   obtain ⟨A3, c3, rfl, hwd3⟩ := Ow.wd hown hhs.wds (by omega)
   clear hv HI hown
   go_wp2_with fail
   refine (trim_hs _ _ i _ _ _ _ hwd3 hhs _ HV (Nat.le_refl _)).mono ?_
   rintro _ _ ⟨v4, rfl, rfl, h4⟩
   go_wp2_with fail
   go_ret
   exact ⟨_, rfl, h4, hu⟩
theorem minus_of (w : World) (lo lo' s s' : Nat) (v v' : Value) (a b : Nat) (h : Nh w lo s v a) (h' : Nh w lo' s' v' b) (hle : b ≤ a) (hs : s ≤ 100000000) :
  Calls Tryz.prog 128 #[v, v'] w (Rh s (a - b) w) := by
 obtain ⟨A, n, c, xs, rfl, h1, h2, h3, h4, h5⟩ := h
 obtain ⟨A', n', c', ys, rfl, k1, k2, k3, k4, k5⟩ := h'
 refine (minus_any w lo lo' A A' n c n' c' xs ys h1 k1 h2 k2 (by omega) (by omega)).mono ?_
 rintro _ w' ⟨v, rfl, hv, hu⟩
 rw [h3, k3] at hv
 exact ⟨v, rfl, hv.more h4, hu⟩
theorem Nh.set {w : World} {lo s : Nat} {v : Value} {a : Nat} (h : Nh w lo s v a) {p : Addr} (hb : p.block < lo) (x : Value) : Nh (w.setCell p x) lo s v a := by
 obtain ⟨A, n, c, xs, e, h1, h2⟩ := h
 refine ⟨A, n, c, xs, e, h1.keep fun q _ hq => ⟨?_, World.frozen?_setCell _ _ _ _⟩, h2⟩
 exact World.cell?_setCell_other _ _ _ _ (fun e => by rw [e] at hb; omega)
theorem nil_nh (w : World) (lo : Nat) (A : Option Addr) (c : Nat) : Nh w lo 0 (.slice A 0 c) 0 := ⟨A, 0, c, [], rfl, Wd.nil w lo A c, M.Hs.nil, rfl, by omega, M.Nrm.nil⟩
theorem M.bits_hs {xs : List Nat} {n : Nat} (h : M.Hs xs) (hl : xs.length = n) : M.bits (M.vh xs) ≤ 32 * n := by
 apply M.bits_le_of_lt
 have := M.vh_lt1 h
 rw [hl] at this
 rw [Nat.pow_mul]
 exact this
theorem hown_lt {w w1 : World} {n : Nat} {xs : List Nat} (h : Ow w1 w.heap.size (.slice (some ⟨w.heap.size, 0, none⟩) n n) n xs) (_hg : w.grownBy w1 none) : w.heap.size < w1.heap.size :=
 (World.ownsRow.lt h w.heap.size (by simp [Value.ownBlock])).2
set_option maxRecDepth 100000 in
theorem over_any (w : World) (lo lo' : Nat) (A : Option Addr) (n c s' : Nat) (xs : List Nat) (v' : Value) (b : Nat) (hx : Wd w lo A n c xs) (hhx : M.Hs xs) (hb : Nh w lo' s' v' b) (hb0 : 0 < b) (hn : n ≤ 1000000) (hs : s' ≤ 1000000) :
  Calls Tryz.prog 97 #[.slice A n c, v'] w (Rh2 n (M.vh xs / b) s' (M.vh xs % b) w) := by
 obtain ⟨a, ha⟩ : ∃ a, M.vh xs = a := ⟨_, rfl⟩
 have hblt := hb.lt
 have hbits := M.bits_hs hhx hx.num
 rw [ha] at hbits ⊢
 have HA := Lib.hid ha
 have b1 := hx.len
 obtain ⟨B, hB⟩ : ∃ B, M.bits a = B := ⟨_, rfl⟩
 have HB := Lib.hid hB
 have hst := M.OvInv.start (a := a) (b := b) (n := n)
 rw [hB] at hst hbits
 have HST := Lib.hid hst
 have HBL := Lib.hid hblt
 have CB := Lib.hid (fun w' (hu : Up w w') => rbits_any w' lo A n c xs (hx.up hu) hhx (by omega) (B : Int) (by rw [HA.out]; show _ = _; rw [HB.out]))
 have CBT := Lib.hid (fun w' (hu : Up w w') (j : Nat) (hj : j < 32000000) (t : Bool) (ht : Hid (a.testBit j = t)) => rbit_any w' lo A n c xs (hx.up hu) hhx j (by omega) t (by rw [HA.out]; exact ht))
 clear ha hB hst hblt hhx hx
 go_enter Tryz.func97, Tryz.ntmps97
 go_wp2_with (at_make; refine wpList_make_wd _ rfl (.tmp 10) (.tmp 10) 31 rfl info_u64 Tryz.underlying31 (n : Int) (n : Int) n rfl rfl (by omega) (by omega) (by omega) ?_; intro w1 hown1 hg1)
 have hu1 : Up w w1 := (Up.refl w).grown hg1 (by simp)
 have hz1 : w.heap.size < w1.heap.size := hown_lt hown1 hg1
 clear hg1
 obtain ⟨V, hV⟩ : ∃ V, w1.alloc (.cells #[] 30) = V := ⟨_, rfl⟩
 have uV : Up w1 V := Up.al hV
 rw [hV]
 clear hV
 have hownV := Ow.up hown1 uV
 have U0 := hu1.trans uV
 have hzV : w.heap.size + 1 ≤ V.heap.size := Nat.le_trans hz1 (Up.size uV)
 clear uV hown1 hu1
 refine (CB.out V U0).mono ?_
 rintro _ _ ⟨rfl, rfl⟩
 clear CB
 go_wp2_with fail
 go_loopw [7, 8] (fun rv iv wr => ∃ (i R : Nat) (qs : List Nat), i ≤ B ∧ iv = .int .i64 i ∧ Up w wr ∧ w.heap.size + 1 ≤ wr.heap.size ∧ Ow wr w.heap.size (.slice (some ⟨w.heap.size, 0, none⟩) n n) n qs ∧ Nh wr (w.heap.size + 1) s' rv R ∧ Hid (M.OvInv a b i R qs)) (fun _ iv _ => (intOf iv).toNat)
 case atStart => exact ⟨B, 0, _, Nat.le_refl _, rfl, U0, hzV, hownV, (nil_nh _ _ _ _).more (by omega), HST⟩
 case round =>
  obtain ⟨i, R, qs, hi, rfl, U, hsz, hown, nr, HI⟩ := hrel
  clear HST U0 hzV hownV hz1
  rcases Nat.eq_zero_or_pos i with h0 | h0
  ·subst h0
   obtain ⟨f1, f2⟩ := HI.out.fin
   have hhs := HI.out.hw
   have F2 := Lib.hid f2
   have hwd := Ow.wd_ hown hhs.wds (by omega)
   subst f1
   clear f2 HI hown
   go_wp2_with fail
   refine (trim_hs _ _ n _ _ _ _ hwd hhs _ F2 (Nat.le_refl _)).mono ?_
   rintro _ _ ⟨v4, rfl, rfl, h4⟩
   go_wp2_with fail
   go_ret2
   exact ⟨_, _, rfl, h4, nr.lower (by omega), U⟩
  ·obtain ⟨j, rfl⟩ : ∃ j, i = j + 1 := ⟨i - 1, by omega⟩
   obtain ⟨t, ht⟩ : ∃ t, a.testBit j = t := ⟨_, rfl⟩
   have HT := Lib.hid ht
   have qj : ((j + 1 : Nat) : Int) - 1 = (j : Int) := by omega
   have qj2 : (j : Int) + 1 - 1 = (j : Int) := by omega
   have bj : j < 32000000 := by omega
   have CT := Lib.hid (fun w' (hu : Up wr w') => CBT.out w' (U.trans hu) j bj t HT)
   have bB := Lib.hid hi
   clear ht
   go_wp2_with fail
   refine (up_of wr _ _ _ _ nr (by omega) 1 1 rfl (by omega)).mono ?_
   rintro _ w2 ⟨v2, rfl, n2, u2⟩
   rw [Nat.pow_one] at n2
   replace U := U.trans u2
   replace hown := Ow.up hown u2
   have CT2 := CT.out w2 u2
   have hsz2 : w.heap.size + 1 ≤ w2.heap.size := Nat.le_trans hsz (Up.size u2)
   replace n2 := n2.lower hsz
   clear u2 nr CT hsz
   have C2 := Lib.hid CT2
   clear CT2
   rcases t with _ | _
   ·go_wp2_with fail
    refine C2.out.mono ?_
    rintro _ _ ⟨rfl, rfl⟩
    clear C2
    have hszx := hsz2
    have hr' : R * 2 = 2 * R + (false).toNat := by show _ = 2 * R + 0; omega
    obtain ⟨r', hrr⟩ : ∃ r', R * 2 = r' := ⟨_, rfl⟩
    rw [hrr] at hr' n2
    clear hrr
    have nb' := hb.up U
    obtain ⟨z, hz⟩ : ∃ z, M.cmp r' b = z := ⟨_, rfl⟩
    have HZ := Lib.hid hz
    have zl := M.cmp_le (a := b) (b := r')
    have zs := M.cmp_swap b r'
    rw [hz] at zs
    go_wp2_with fail
    refine (rcmp_of w2 _ _ _ _ _ _ _ _ n2 nb' z HZ).mono ?_
    rintro _ _ ⟨rfl, rfl⟩
    by_cases hge : b ≤ r'
    ·have dz : decide (0 ≤ z) = true := decide_eq_true (by have := zl.2 hge; omega)
     obtain ⟨p, hp⟩ : ∃ p, j / 32 = p := ⟨_, rfl⟩
     obtain ⟨s, hs2⟩ : ∃ s, j % 32 = s := ⟨_, rfl⟩
     obtain ⟨cc, hcc⟩ : ∃ c, qs.getD p 0 = c := ⟨_, rfl⟩
     have hql := hown.num
     have hpn : p < n := by have := bB.out; omega
     obtain ⟨g1, g2, g3⟩ := HI.out.more false HT.out r' hr' hge hb0 hp hs2 (by omega) hcc
     have hc := hown.cellAt p (by omega)
     rw [cu_get (by omega), hcc] at hc
     have hf := hown.frozenAt p
     obtain ⟨P, hP⟩ : ∃ P, 2 ^ s = P := ⟨_, rfl⟩
     rw [hP] at g1 g3
     have qP : (2 : Int) ^ s = (P : Int) := by rw [← hP]; simp
     have q1 : (j : Int) / 32 = (p : Int) := by omega
     have q2 : (j : Int) % 32 = (s : Int) := by omega
     have q3 : (j : Int).tdiv 32 = (p : Int) := by rw [Int.tdiv_eq_ediv_of_nonneg (by omega)]; exact q1
     have q4 : (j : Int).tmod 32 = (s : Int) := by rw [Int.tmod_eq_emod_of_nonneg (by omega)]; exact q2
     have e1 : IntKind.u64.wrap (P : Int) = (P : Int) := by rw [IntKind.wrap_u64]; omega
     obtain ⟨C, hC⟩ : ∃ C, cc + P = C := ⟨_, rfl⟩
     rw [hC] at g1 g3
     have e2 : (cc : Int) + (P : Int) = (C : Int) := by omega
     have e3 : IntKind.u64.wrap (C : Int) = (C : Int) := by rw [IntKind.wrap_u64]; omega
     have s32 : s < 32 := by omega
     have G3 := Lib.hid g3
     have HLT : r' - b < 4294967296 ^ s' := Nat.lt_trans g2 HBL.out
     clear zl zs hz hp hs2 hcc hql hP hC g3 HI hr' HT
     go_wp2_with fail
     refine (minus_of w2 _ _ _ _ _ _ _ _ n2 nb' hge (by omega)).mono ?_
     rintro _ w5 ⟨v5, rfl, n5, u5⟩
     have n5' := (n5.fit HLT).lower (Nat.le_trans hszx (Nat.le_refl _))
     replace U := U.trans u5
     have hc5 := cell_up u5 hc
     have hf5 := frozen_up u5 hc hf
     replace hown := Ow.up hown u5
     have hsz5 : w.heap.size + 1 ≤ w5.heap.size := Nat.le_trans hszx (Up.size u5)
     clear u5 n5 hc hf n2 nb'
     go_wp2_with fail
     go_roundw
     case rel =>
      obtain ⟨h1, _⟩ := hown.stored p (u64 C)
      rw [cu_set] at h1
      exact ⟨j, r' - b, _, by have := bB.out; omega, by go_num, U.setCell (Nat.le_refl _) _, (by rw [show (w5.setCell ⟨w.heap.size, p, none⟩ (u64 C)).heap.size = w5.heap.size by simp [World.setCell]]; exact hsz5), h1, n5'.set (by show w.heap.size < _; omega) _, G3⟩
     case measure => simp [intOf] <;> omega
    ·have dz : decide (0 ≤ z) = false := decide_eq_false (fun h => hge (zl.1 (by omega)))
     have G3 := Lib.hid (HI.out.less false HT.out r' hr' (by omega))
     have HLT : r' < 4294967296 ^ s' := Nat.lt_trans (by omega) HBL.out
     have n5' := n2.fit HLT
     clear zl zs hz HI hr' HT n2 nb'
     go_wp2_with fail
     go_roundw
     case rel => exact ⟨j, r', qs, by have := bB.out; omega, by go_num, U, hszx, hown, n5', G3⟩
     case measure => simp [intOf] <;> omega
   ·go_wp2_with fail
    refine C2.out.mono ?_
    rintro _ _ ⟨rfl, rfl⟩
    clear C2
    go_wp2_with fail
    have u3 : Up w2 (w2.alloc (.cells #[.int .u64 1] 30)) := (Up.refl w2).alloc _
    have s3 := Up.size u3
    refine (plus_of _ _ _ _ _ (s' + 1 / 32 + 1) _ _ _ _ (n2.up u3) (one_nh w2) (by omega) (by omega) (by omega)).mono ?_
    rintro _ w4 ⟨v4, rfl, n4, u4⟩
    have u34 := u3.trans u4
    replace n4 := n4.lower (Nat.le_trans hsz2 s3)
    replace U := U.trans u34
    replace hown := Ow.up hown u34
    have hszx : w.heap.size + 1 ≤ w4.heap.size := Nat.le_trans hsz2 (Up.size u34)
    clear u3 u4 u34 n2 hsz2 s3
    have hr' : R * 2 + 1 = 2 * R + (true).toNat := by show _ = 2 * R + 1; omega
    obtain ⟨r', hrr⟩ : ∃ r', R * 2 + 1 = r' := ⟨_, rfl⟩
    rw [hrr] at hr' n4
    clear hrr
    have nb' := hb.up U
    obtain ⟨z, hz⟩ : ∃ z, M.cmp r' b = z := ⟨_, rfl⟩
    have HZ := Lib.hid hz
    have zl := M.cmp_le (a := b) (b := r')
    have zs := M.cmp_swap b r'
    rw [hz] at zs
    go_wp2_with fail
    refine (rcmp_of w4 _ _ _ _ _ _ _ _ n4 nb' z HZ).mono ?_
    rintro _ _ ⟨rfl, rfl⟩
    by_cases hge : b ≤ r'
    ·have dz : decide (0 ≤ z) = true := decide_eq_true (by have := zl.2 hge; omega)
     obtain ⟨p, hp⟩ : ∃ p, j / 32 = p := ⟨_, rfl⟩
     obtain ⟨s, hs2⟩ : ∃ s, j % 32 = s := ⟨_, rfl⟩
     obtain ⟨cc, hcc⟩ : ∃ c, qs.getD p 0 = c := ⟨_, rfl⟩
     have hql := hown.num
     have hpn : p < n := by have := bB.out; omega
     obtain ⟨g1, g2, g3⟩ := HI.out.more true HT.out r' hr' hge hb0 hp hs2 (by omega) hcc
     have hc := hown.cellAt p (by omega)
     rw [cu_get (by omega), hcc] at hc
     have hf := hown.frozenAt p
     obtain ⟨P, hP⟩ : ∃ P, 2 ^ s = P := ⟨_, rfl⟩
     rw [hP] at g1 g3
     have qP : (2 : Int) ^ s = (P : Int) := by rw [← hP]; simp
     have q1 : (j : Int) / 32 = (p : Int) := by omega
     have q2 : (j : Int) % 32 = (s : Int) := by omega
     have q3 : (j : Int).tdiv 32 = (p : Int) := by rw [Int.tdiv_eq_ediv_of_nonneg (by omega)]; exact q1
     have q4 : (j : Int).tmod 32 = (s : Int) := by rw [Int.tmod_eq_emod_of_nonneg (by omega)]; exact q2
     have e1 : IntKind.u64.wrap (P : Int) = (P : Int) := by rw [IntKind.wrap_u64]; omega
     obtain ⟨C, hC⟩ : ∃ C, cc + P = C := ⟨_, rfl⟩
     rw [hC] at g1 g3
     have e2 : (cc : Int) + (P : Int) = (C : Int) := by omega
     have e3 : IntKind.u64.wrap (C : Int) = (C : Int) := by rw [IntKind.wrap_u64]; omega
     have s32 : s < 32 := by omega
     have G3 := Lib.hid g3
     have HLT : r' - b < 4294967296 ^ s' := Nat.lt_trans g2 HBL.out
     clear zl zs hz hp hs2 hcc hql hP hC g3 HI hr' HT
     go_wp2_with fail
     refine (minus_of w4 _ _ _ _ _ _ _ _ n4 nb' hge (by omega)).mono ?_
     rintro _ w5 ⟨v5, rfl, n5, u5⟩
     have n5' := (n5.fit HLT).lower (Nat.le_trans hszx (Nat.le_refl _))
     replace U := U.trans u5
     have hc5 := cell_up u5 hc
     have hf5 := frozen_up u5 hc hf
     replace hown := Ow.up hown u5
     have hsz5 : w.heap.size + 1 ≤ w5.heap.size := Nat.le_trans hszx (Up.size u5)
     clear u5 n5 hc hf n4 nb'
     go_wp2_with fail
     go_roundw
     case rel =>
      obtain ⟨h1, _⟩ := hown.stored p (u64 C)
      rw [cu_set] at h1
      exact ⟨j, r' - b, _, by have := bB.out; omega, by go_num, U.setCell (Nat.le_refl _) _, (by rw [show (w5.setCell ⟨w.heap.size, p, none⟩ (u64 C)).heap.size = w5.heap.size by simp [World.setCell]]; exact hsz5), h1, n5'.set (by show w.heap.size < _; omega) _, G3⟩
     case measure => simp [intOf] <;> omega
    ·have dz : decide (0 ≤ z) = false := decide_eq_false (fun h => hge (zl.1 (by omega)))
     have G3 := Lib.hid (HI.out.less true HT.out r' hr' (by omega))
     have HLT : r' < 4294967296 ^ s' := Nat.lt_trans (by omega) HBL.out
     have n5' := n4.fit HLT
     clear zl zs hz HI hr' HT n4 nb'
     go_wp2_with fail
     go_roundw
     case rel => exact ⟨j, r', qs, by have := bB.out; omega, by go_num, U, hszx, hown, n5', G3⟩
     case measure => simp [intOf] <;> omega
theorem over_of (w : World) (lo lo' s s' : Nat) (v v' : Value) (a b : Nat) (h : Nh w lo s v a) (hb : Nh w lo' s' v' b) (hb0 : 0 < b) (hs : s ≤ 1000000) (hs' : s' ≤ 1000000) :
  Calls Tryz.prog 97 #[v, v'] w (Rh2 s (a / b) s' (a % b) w) := by
 obtain ⟨A, n, c, xs, rfl, h1, h2, h3, h4, h5⟩ := h
 refine (over_any w lo lo' A n c s' xs v' b h1 h2 hb hb0 (by omega) hs').mono ?_
 rintro _ w' ⟨v1, v2, rfl, n1, n2, hu⟩
 rw [h3] at n1 n2
 exact ⟨v1, v2, rfl, n1.more h4, n2, hu⟩
end Go.Proofs.YtijpffgocookaaaGreatDoor
namespace Go.Proofs.YtijpffgocookaaaGreatDoor
open Go.RowKit
theorem Nt.slr {w : World} {lo s : Nat} {v : Value} {a : Nat} (h : Nt w lo s v a) : ∃ A n c, v = .slice A n c ∧ Nt w lo s (.slice A n c) a := by
 obtain ⟨A, n, c, xs, rfl, h⟩ := h
 exact ⟨A, n, c, rfl, A, n, c, xs, rfl, h⟩
set_option maxRecDepth 100000 in
theorem rmul_any (w : World) (lo lo' S : Nat) (v v' : Value) (a b : Nat) (h : Nw w lo S v a) (h' : Nw w lo' S v' b) (hS : S ≤ 1000000) : Calls Tryz.prog 50 #[v, v'] w (Res (4 * S + 2) (a * b) w) := by
 have C1 := Lib.hid (fun W (U : Up w W) => halves_of W lo S v a (h.up U) (by omega))
 have C2 := Lib.hid (fun W (U : Up w W) => halves_of W lo' S v' b (h'.up U) (by omega))
 obtain ⟨A, n, c, xs, rfl, _⟩ := id h
 obtain ⟨A', n', c', xs', rfl, _⟩ := id h'
 clear h h'
 have U := Up.refl w
 go_enter Tryz.func50, Tryz.ntmps50
 go_wp2_with fail
 refine (C1.out _ U).mono ?_
 rintro _ w1 ⟨v1, rfl, N1, h1⟩
 replace U := U.trans h1
 clear h1
 obtain ⟨B1, m1, d1, ys1, rfl, N1⟩ := N1
 replace N1 : Nh _ _ _ (.slice B1 m1 d1) a := ⟨_, _, _, _, rfl, N1⟩
 go_wp2_with fail
 refine (C2.out _ U).mono ?_
 rintro _ w2 ⟨v2, rfl, N2, h2⟩
 replace U := U.trans h2
 replace N1 := N1.up h2
 clear h2
 obtain ⟨B2, m2, d2, ys2, rfl, N2⟩ := N2
 replace N2 : Nh _ _ _ (.slice B2 m2 d2) b := ⟨_, _, _, _, rfl, N2⟩
 go_wp2_with fail
 refine (times_of _ _ _ _ _ _ _ _ _ N1 N2 (by omega) (by omega)).mono ?_
 rintro _ w3 ⟨v3, rfl, N3, h3⟩
 replace U := U.trans h3
 replace N1 := N1.up h3
 replace N2 := N2.up h3
 clear h3
 clear N1 N2
 obtain ⟨B3, m3, d3, ys3, rfl, N3⟩ := N3
 replace N3 : Nh _ _ _ (.slice B3 m3 d3) _ := ⟨_, _, _, _, rfl, N3⟩
 have U3 := Up.size U
 go_wp2_with fail
 refine (words_of _ _ _ _ _ N3 (by omega)).mono ?_
 rintro _ w4 ⟨v4, rfl, N4, h4⟩
 replace U := U.trans h4
 clear h4
 obtain ⟨B4, m4, d4, rfl, N4⟩ := N4.slr
 clear N3
 go_wp2_with fail
 go_ret
 exact ⟨_, rfl, (N4.more (by omega)).lower U3, U⟩
def Rdv (s q r : Nat) (w : World) (e : Ending) (w' : World) : Prop := ∃ A n c A' n' c', e = .returned (.tuple #[.slice A n c, .slice A' n' c']) ∧ Nt w' w.heap.size s (.slice A n c) q ∧ Nt w' w.heap.size s (.slice A' n' c') r ∧ Up w w'
set_option maxRecDepth 100000 in
theorem rdiv_any (w : World) (lo lo' S : Nat) (v v' : Value) (a b : Nat) (h : Nw w lo S v a) (h' : Nw w lo' S v' b) (b0 : 0 < b) (hS : S ≤ 100000) : Calls Tryz.prog 58 #[v, v'] w (Rdv (2 * S + 1) (a / b) (a % b) w) := by
 have C1 := Lib.hid (fun W (U : Up w W) => halves_of W lo S v a (h.up U) (by omega))
 have C2 := Lib.hid (fun W (U : Up w W) => halves_of W lo' S v' b (h'.up U) (by omega))
 obtain ⟨A, n, c, xs, rfl, _⟩ := id h
 obtain ⟨A', n', c', xs', rfl, _⟩ := id h'
 clear h h'
 have U := Up.refl w
 go_enter Tryz.func58, Tryz.ntmps58
 go_wp2_with fail
 refine (C1.out _ U).mono ?_
 rintro _ w1 ⟨v1, rfl, N1, h1⟩
 replace U := U.trans h1
 clear h1
 obtain ⟨B1, m1, d1, ys1, rfl, N1⟩ := N1
 replace N1 : Nh _ _ _ (.slice B1 m1 d1) a := ⟨_, _, _, _, rfl, N1⟩
 go_wp2_with fail
 refine (C2.out _ U).mono ?_
 rintro _ w2 ⟨v2, rfl, N2, h2⟩
 replace U := U.trans h2
 replace N1 := N1.up h2
 clear h2
 obtain ⟨B2, m2, d2, ys2, rfl, N2⟩ := N2
 replace N2 : Nh _ _ _ (.slice B2 m2 d2) b := ⟨_, _, _, _, rfl, N2⟩
 go_wp2_with fail
 refine (over_of _ _ _ _ _ _ _ _ _ N1 N2 b0 (by omega) (by omega)).mono ?_
 rintro _ w3 ⟨v3, v3b, rfl, N3, N5, h3⟩
 replace U := U.trans h3
 replace N1 := N1.up h3
 replace N2 := N2.up h3
 clear h3
 clear N1 N2 b0
 obtain ⟨B3, m3, d3, ys3, rfl, N3⟩ := N3
 replace N3 : Nh _ _ _ (.slice B3 m3 d3) _ := ⟨_, _, _, _, rfl, N3⟩
 obtain ⟨B5, m5, d5, ys5, rfl, N5⟩ := N5
 replace N5 : Nh _ _ _ (.slice B5 m5 d5) _ := ⟨_, _, _, _, rfl, N5⟩
 have U3 := Up.size U
 go_wp2_with fail
 refine (words_of _ _ _ _ _ N3 (by omega)).mono ?_
 rintro _ w4 ⟨v4, rfl, N4, h4⟩
 replace U := U.trans h4
 replace N5 := N5.up h4
 clear h4
 obtain ⟨B4, m4, d4, rfl, N4⟩ := N4.slr
 clear N3
 have U4 := Up.size U
 go_wp2_with fail
 refine (words_of _ _ _ _ _ N5 (by omega)).mono ?_
 rintro _ w5 ⟨v6, rfl, N6, h5⟩
 replace U := U.trans h5
 replace N4 := N4.up h5
 clear h5
 obtain ⟨B6, m6, d6, rfl, N6⟩ := N6.slr
 clear N5
 go_wp2_with fail
 go_ret2
 exact ⟨_, _, _, _, _, _, rfl, N4.lower U3, (N6.lower U4), U⟩
open Go.Shelf
namespace M
theorem bq_low : ∀ {l : List Bool} {k : Nat}, k ≤ l.length → (∀ j, j < k → l.getD j false = false) → bq l = 2 ^ k * bq (l.drop k)
 | l, 0, _, _ => by simp
 | [], k + 1, h, _ => by simp at h
 | b :: l, k + 1, h, hz => by
  have h0 : b = false := hz 0 (by omega)
  have ih := bq_low (l := l) (k := k) (by simpa using h) (fun j hj => hz (j + 1) (by omega))
  rw [bq, h0, ih, List.drop_succ_cons, Nat.pow_succ, Bool.toNat_false, Nat.zero_add, ← Nat.mul_assoc, Nat.mul_comm 2]
theorem bq_odd {l : List Bool} {k : Nat} (h : k < l.length) (hb : l.getD k false = true) : bq (l.drop k) % 2 = 1 := by
 rw [drop_tr h, hb, bq]
 simp
def mag15 (S : Nat) (l : List Bool) : List Bool := if l.getD (S - 1) false = true then tqn false l else l
theorem mag15_len {S : Nat} {l : List Bool} (h : l.length = S) : (mag15 S l).length = S := by
 unfold mag15; split
 ·rw [tqn_len, h]
 ·exact h
theorem top_bit {S : Nat} {l : List Bool} (h : l.length = S) (h0 : 0 < S) : l.getD (S - 1) false = decide (2 ^ (S - 1) ≤ bq l) := by
 have e : l = l.take (S - 1) ++ [l.getD (S - 1) false] := by
  conv => lhs; rw [← List.take_append_drop (S - 1) l, drop_tr (by omega), show S - 1 + 1 = S by omega, List.drop_of_length_le (by omega)]
 have hl : (l.take (S - 1)).length = S - 1 := by rw [List.length_take]; omega
 have h1 := bq_lt (l.take (S - 1))
 rw [hl] at h1
 have h2 : bq l = bq (l.take (S - 1)) + 2 ^ (S - 1) * (l.getD (S - 1) false).toNat := by
  conv => lhs; rw [e, bq_append, hl, bq, bq, Nat.mul_zero, Nat.add_zero]
 rw [h2]
 cases l.getD (S - 1) false
 ·rw [Bool.toNat_false, Nat.mul_zero, Nat.add_zero]; exact (decide_eq_false (by omega)).symm
 ·rw [Bool.toNat_true, Nat.mul_one]; exact (decide_eq_true (by omega)).symm
theorem mag15_bq {i : Nat} (i1 : 1 ≤ i) (i2 : i ≤ 4) {l : List Bool} (h : l.length = qS i) : bq (mag15 (qS i) l) = qm i (bq l) := by
 have h128 := (q_facts i1 i2).2.2.2.1
 have ht := top_bit h (by omega)
 have hlt := bq_lt l
 rw [h] at hlt
 unfold mag15 qm qn
 by_cases c : 2 ^ (qS i - 1) ≤ bq l
 ·rw [if_pos (by rw [ht]; exact decide_eq_true c), if_neg (by omega), bq_tqn, h, Nat.mod_eq_of_lt]
  have : 0 < 2 ^ (qS i - 1) := Nat.two_pow_pos _
  omega
 ·rw [if_neg (by rw [ht, decide_eq_false c]; decide), if_pos (by omega)]
theorem qv_low {i : Nat} (i1 : 1 ≤ i) (i2 : i ≤ 4) {l : List Bool} (h : l.length = qS i) {s : Bool} {N : Nat} {t f : Int} (hv : Qv i (bq l) s N t f) {lw : Nat} (h1 : lw ≤ qS i) (h2 : ∀ j, j < lw → (mag15 (qS i) l).getD j false = false) (h3 : lw < qS i → (mag15 (qS i) l).getD lw false = true) :
  (bq ((mag15 (qS i) l).drop lw) = 0 ∧ s = false ∧ N = 0 ∧ t = 0 ∧ f = 0) ∨ (bq ((mag15 (qS i) l).drop lw) ≠ 0 ∧ s = l.getD (qS i - 1) false ∧ N % 5 ≠ 0 ∧ ∃ k : Nat, bq ((mag15 (qS i) l).drop lw) = N * 5 ^ k ∧ t = lw + qz i ∧ f = k) := by
 have h128 := (q_facts i1 i2).2.2.2.1
 have hm := mag15_len h
 have e := bq_low (l := mag15 (qS i) l) (k := lw) (by omega) h2
 rw [mag15_bq i1 i2 h] at e
 have hlt := bq_lt l
 rw [h] at hlt
 rcases hv with ⟨h0, a, b, c, d⟩ | ⟨h0, a, b, c, lo, k, d1, d2, d3⟩
 ·refine .inl ⟨?_, a, b, c, d⟩
  rw [h0] at e
  have : qm i 0 = 0 := by unfold qm; rw [if_pos (show 0 < qn i from Nat.two_pow_pos _)]
  rw [this] at e
  rcases Nat.mul_eq_zero.1 e.symm with e | e
  ·have := Nat.two_pow_pos lw; omega
  ·exact e
 ·have hp := qm_pos hlt h0
  have hne : bq ((mag15 (qS i) l).drop lw) ≠ 0 := fun e1 => by rw [e1, Nat.mul_zero] at e; omega
  have hlw : lw < qS i := by
   rcases Nat.lt_or_ge lw (qS i) with e1 | e1
   ·exact e1
   ·exact absurd (by rw [List.drop_of_length_le (by omega)]; rfl) hne
  have ho := bq_odd (l := mag15 (qS i) l) (k := lw) (by omega) (h3 hlw)
  have hN : (N * 5 ^ k) % 2 = 1 := by
   rw [Nat.mul_mod, b, Nat.pow_mod]
   simp
  have e2 : bq ((mag15 (qS i) l).drop lw) * 2 ^ lw = N * 5 ^ k * 2 ^ lo := by rw [← d1, e, Nat.mul_comm]
  obtain ⟨e3, e4⟩ := odd_uniq ho hN e2
  refine .inr ⟨hne, ?_, c, k, e3, by omega, d3⟩
  rw [a, top_bit h (by omega)]; rfl
end M
end Go.Proofs.YtijpffgocookaaaGreatDoor
