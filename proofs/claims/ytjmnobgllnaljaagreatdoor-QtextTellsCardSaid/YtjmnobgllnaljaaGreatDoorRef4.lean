/-
  The reference's Minus, Over: their contracts.
-/
import Derived.Test.YtjmnobgllnaljaaGreatDoorEx6
import Derived.Test.YtjmnobgllnaljaaGreatDoorRfa
import Derived.Test.YtjmnobgllnaljaaGreatDoorRef3
import Derived.Test.YtjmnobgllnaljaaGreatDoorNb
namespace Go.Proofs.YtjmnobgllnaljaaGreatDoor
open Go.RowKit Go.Shelf

set_option maxHeartbeats 2000000 in
set_option maxRecDepth 100000 in
theorem minus_any (w : World) (lo lo' : Nat) (A A' : Option Addr) (n c m c' : Nat) (xs ys : List Nat) (hx : Wd w lo A n c xs) (hy : Wd w lo' A' m c' ys) (hhx : M.Hs xs) (hhy : M.Hs ys) (hle : M.vh ys ≤ M.vh xs) (hn : n ≤ 100000000) :
    Calls Tryz.prog 60 #[.slice A n c, .slice A' m c'] w (Rh n (M.vh xs - M.vh ys) w) := by
  have b1 := hx.len
  have b2 := hy.len
  have hst : Ow (w.alloc (.cells #[] 37)) w.heap.size (.slice (some ⟨w.heap.size, 0, none⟩) 0 0) 0 [] := World.ownsRow_lit w #[] 0 (Nat.le_refl _) (by simp only [maxLen]; omega) rfl
  have hst2 := Lib.hid (M.MiInv.start xs ys)
  have hxl := Lib.hid hx.num
  have HLE := Lib.hid hle
  clear hle
  go_enter Tryz.func60, Tryz.ntmps60
  go_wp2_with fail
  go_loopw [5, 6, 7] (fun sv cv iv wr => ∃ (i bo : Nat) (hs : List Nat), i ≤ n ∧ bo ≤ 1 ∧ cv = u64 bo ∧ iv = .int .i64 i ∧ Up w wr ∧ w.heap.size ≤ wr.heap.size ∧ Ow wr w.heap.size sv i hs ∧ Hid (M.MiInv xs ys i bo hs)) (fun _ _ iv _ => n - (intOf iv).toNat)
  case atStart => exact ⟨0, 0, [], by omega, by omega, rfl, rfl, (Up.refl w).alloc _, by simp, hst, hst2⟩
  case round =>
    obtain ⟨i, bo, hs, hi, hbo, rfl, rfl, hu, hsz, hown, HI⟩ := hrel
    clear hst hst2
    by_cases hlt : i < n
    · obtain ⟨x, hxk⟩ : ∃ x, xs.getD i 0 = x := ⟨_, rfl⟩
      obtain ⟨y, hyk⟩ : ∃ y, ys.getD i 0 = y := ⟨_, rfl⟩
      have hxb : x < 4294967296 := by rw [← hxk]; exact hhx.getD i
      have hyb : y < 4294967296 := by rw [← hyk]; exact hhy.getD i
      have cx := get_any wr lo A n c xs (hx.up hu) i _ rfl
      have cy' := get_any wr lo' A' m c' ys (hy.up hu) i _ rfl
      rw [hxk] at cx
      rw [hyk] at cy'
      have CX := Lib.hid cx
      have CY := Lib.hid cy'
      obtain ⟨t, ht⟩ : ∃ t, x + 4294967296 - y - bo = t := ⟨_, rfl⟩
      have hE := HI.out.step hxk hyk hxb hyb ht
      have htb : t ≤ 8589934591 := by omega
      obtain ⟨T0, hT0⟩ : ∃ T0, t % 4294967296 = T0 := ⟨_, rfl⟩
      obtain ⟨T1, hT1⟩ : ∃ T1, t / 4294967296 = T1 := ⟨_, rfl⟩
      obtain ⟨B1, hB1⟩ : ∃ B1, 1 - T1 = B1 := ⟨_, rfl⟩
      rw [hT0, hT1, hB1] at hE
      have e1 : IntKind.u64.wrap ((x : Int) + 4294967296) = (x : Int) + 4294967296 := by rw [IntKind.wrap_u64]; omega
      have e2 : IntKind.u64.wrap ((x : Int) + 4294967296 - (y : Int)) = (x : Int) + 4294967296 - (y : Int) := by rw [IntKind.wrap_u64]; omega
      have e3 : IntKind.u64.wrap ((x : Int) + 4294967296 - (y : Int) - (bo : Int)) = (t : Int) := by rw [IntKind.wrap_u64]; omega
      have e4 : (x : Int) + 4294967296 - (y : Int) - (bo : Int) = (t : Int) := by omega
      have qT0 : (t : Int) % 4294967296 = (T0 : Int) := by omega
      have qT0' : (t : Int).tmod 4294967296 = (T0 : Int) := by rw [Int.tmod_eq_emod_of_nonneg (by omega)]; exact qT0
      have qT1 : (t : Int) / 4294967296 = (T1 : Int) := by omega
      have hT1b : T1 ≤ 1 := by omega
      have qB1 : 1 - (T1 : Int) = (B1 : Int) := by omega
      have qB2 : IntKind.u64.wrap (1 - (T1 : Int)) = (B1 : Int) := by rw [IntKind.wrap_u64]; omega
      have hT0b : T0 < 18446744073709551616 := by omega
      have hB1b : B1 ≤ 1 := by omega
      have HE := Lib.hid hE
      have hu2 : Up wr (wr.alloc (.cells #[.int .u64 (T0 : Int)] 37)) := (Up.refl wr).alloc _
      have hown2 := Ow.up hown hu2
      have hw2 := lit1_wd wr T0 _ rfl hT0b
      clear hE cx cy' hxk hyk hT0 hT1 hB1 ht HI
      go_wp2_with fail
      refine CX.out.mono ?_
      rintro _ _ ⟨rfl, rfl⟩
      go_wp2_with fail
      refine CY.out.mono ?_
      rintro _ _ ⟨rfl, rfl⟩
      go_wp2_with (at_builtin; refine wpList_append_wd _ rfl (.tmp 26) (.tmp 29) _ rfl info_u64 w.heap.size Tryz.underlying22 _ i hs rfl hown2 _ _ 1 1 [T0] rfl hw2 (by omega) (Nat.le_trans hsz (Up.size hu2)) ?_; intro v3 w3 hown3 hg3 hat3)
      have hu3 : Up w w3 := (hu.trans hu2).grown hg3 (fun b hb => (World.ownsRow.lt hown2 b hb).1)
      go_roundw
      case rel => exact ⟨i + 1, B1, _, by omega, hB1b, by go_num, by go_num, hu3, hu3.size, hown3, HE⟩
      case measure => simp [intOf]; omega
    · have hin : i = n := by omega
      subst hin
      have hv := HI.out.fin hxl.out hhx HLE.out
      have hhs := HI.out.hw
      have HV := Lib.hid hv
      obtain ⟨A3, c3, rfl, hwd3⟩ := Ow.wd hown hhs.wds (by omega)
      clear hv HI hown
      go_wp2_with fail
      refine (trim_hs _ _ i _ _ _ _ hwd3 hhs _ HV (Nat.le_refl _)).mono ?_
      rintro _ _ ⟨v4, rfl, rfl, h4⟩
      go_wp2_with fail
      go_ret
      exact ⟨_, rfl, h4, hu⟩
theorem minus_of (w : World) (lo lo' s s' : Nat) (v v' : Value) (a b : Nat) (h : Nh w lo s v a) (h' : Nh w lo' s' v' b) (hle : b ≤ a) (hs : s ≤ 100000000) :
    Calls Tryz.prog 60 #[v, v'] w (Rh s (a - b) w) := by
  obtain ⟨A, n, c, xs, rfl, h1, h2, h3, h4, h5⟩ := h
  obtain ⟨A', n', c', ys, rfl, k1, k2, k3, k4, k5⟩ := h'
  refine (minus_any w lo lo' A A' n c n' c' xs ys h1 k1 h2 k2 (by omega) (by omega)).mono ?_
  rintro _ w' ⟨v, rfl, hv, hu⟩
  rw [h3, k3] at hv
  exact ⟨v, rfl, hv.more h4, hu⟩
theorem Nh.set {w : World} {lo s : Nat} {v : Value} {a : Nat} (h : Nh w lo s v a) {p : Addr} (hb : p.block < lo) (x : Value) : Nh (w.setCell p x) lo s v a := by
  obtain ⟨A, n, c, xs, e, h1, h2⟩ := h
  refine ⟨A, n, c, xs, e, h1.keep fun q _ hq => ⟨?_, World.frozen?_setCell _ _ _ _⟩, h2⟩
  exact World.cell?_setCell_other _ _ _ _ (fun e => by rw [e] at hb; omega)
theorem nil_nh (w : World) (lo : Nat) (A : Option Addr) (c : Nat) : Nh w lo 0 (.slice A 0 c) 0 := ⟨A, 0, c, [], rfl, Wd.nil w lo A c, M.Hs.nil, rfl, by omega, M.Nrm.nil⟩
theorem M.bits_hs {xs : List Nat} {n : Nat} (h : M.Hs xs) (hl : xs.length = n) : M.bits (M.vh xs) ≤ 32 * n := by
  apply M.bits_le_of_lt
  have := M.vh_lt1 h
  rw [hl] at this
  rw [Nat.pow_mul]
  exact this

theorem hown_lt {w w1 : World} {n : Nat} {xs : List Nat} (h : Ow w1 w.heap.size (.slice (some ⟨w.heap.size, 0, none⟩) n n) n xs) (_hg : w.grownBy w1 none) : w.heap.size < w1.heap.size :=
  (World.ownsRow.lt h w.heap.size (by simp [Value.ownBlock])).2

set_option maxHeartbeats 8000000 in
set_option maxRecDepth 100000 in
theorem over_any (w : World) (lo lo' : Nat) (A : Option Addr) (n c s' : Nat) (xs : List Nat) (v' : Value) (b : Nat) (hx : Wd w lo A n c xs) (hhx : M.Hs xs) (hb : Nh w lo' s' v' b) (hb0 : 0 < b) (hn : n ≤ 1000000) (hs : s' ≤ 1000000) :
    Calls Tryz.prog 33 #[.slice A n c, v'] w (Rh2 n (M.vh xs / b) s' (M.vh xs % b) w) := by
  obtain ⟨a, ha⟩ : ∃ a, M.vh xs = a := ⟨_, rfl⟩
  have hblt := hb.lt
  have hbits := M.bits_hs hhx hx.num
  rw [ha] at hbits ⊢
  have HA := Lib.hid ha
  have b1 := hx.len
  obtain ⟨B, hB⟩ : ∃ B, M.bits a = B := ⟨_, rfl⟩
  have HB := Lib.hid hB
  have hst := M.OvInv.start (a := a) (b := b) (n := n)
  rw [hB] at hst hbits
  have HST := Lib.hid hst
  have HBL := Lib.hid hblt
  have CB := Lib.hid (fun w' (hu : Up w w') => rbits_any w' lo A n c xs (hx.up hu) hhx (by omega) (B : Int) (by rw [HA.out]; show _ = _; rw [HB.out]))
  have CBT := Lib.hid (fun w' (hu : Up w w') (j : Nat) (hj : j < 32000000) (t : Bool) (ht : Hid (a.testBit j = t)) => rbit_any w' lo A n c xs (hx.up hu) hhx j (by omega) t (by rw [HA.out]; exact ht))
  clear ha hB hst hblt hhx hx
  go_enter Tryz.func33, Tryz.ntmps33
  go_wp2_with (at_make; refine wpList_make_wd _ rfl (.tmp 10) (.tmp 10) 22 rfl info_u64 Tryz.underlying22 (n : Int) (n : Int) n rfl rfl (by omega) (by omega) (by omega) ?_; intro w1 hown1 hg1)
  have hu1 : Up w w1 := (Up.refl w).grown hg1 (by simp)
  have hz1 : w.heap.size < w1.heap.size := hown_lt hown1 hg1
  clear hg1
  obtain ⟨V, hV⟩ : ∃ V, w1.alloc (.cells #[] 37) = V := ⟨_, rfl⟩
  have uV : Up w1 V := by rw [← hV]; exact (Up.refl _).alloc _
  rw [hV]
  clear hV
  have hownV := Ow.up hown1 uV
  have U0 := hu1.trans uV
  have hzV : w.heap.size + 1 ≤ V.heap.size := Nat.le_trans hz1 (Up.size uV)
  clear uV hown1 hu1
  refine (CB.out V U0).mono ?_
  rintro _ _ ⟨rfl, rfl⟩
  clear CB
  go_wp2_with fail
  go_loopw [7, 8] (fun rv iv wr => ∃ (i R : Nat) (qs : List Nat), i ≤ B ∧ iv = .int .i64 i ∧ Up w wr ∧ w.heap.size + 1 ≤ wr.heap.size ∧ Ow wr w.heap.size (.slice (some ⟨w.heap.size, 0, none⟩) n n) n qs ∧ Nh wr (w.heap.size + 1) s' rv R ∧ Hid (M.OvInv a b i R qs)) (fun _ iv _ => (intOf iv).toNat)
  case atStart => exact ⟨B, 0, _, Nat.le_refl _, rfl, U0, hzV, hownV, (nil_nh _ _ _ _).more (by omega), HST⟩
  case round =>
    obtain ⟨i, R, qs, hi, rfl, U, hsz, hown, nr, HI⟩ := hrel
    clear HST U0 hzV hownV hz1
    rcases Nat.eq_zero_or_pos i with h0 | h0
    · subst h0
      obtain ⟨f1, f2⟩ := HI.out.fin
      have hhs := HI.out.hw
      have F2 := Lib.hid f2
      have hwd := Ow.wd_ hown hhs.wds (by omega)
      subst f1
      clear f2 HI hown
      go_wp2_with fail
      refine (trim_hs _ _ n _ _ _ _ hwd hhs _ F2 (Nat.le_refl _)).mono ?_
      rintro _ _ ⟨v4, rfl, rfl, h4⟩
      go_wp2_with fail
      go_ret2
      exact ⟨_, _, rfl, h4, nr.lower (by omega), U⟩
    · obtain ⟨j, rfl⟩ : ∃ j, i = j + 1 := ⟨i - 1, by omega⟩
      obtain ⟨t, ht⟩ : ∃ t, a.testBit j = t := ⟨_, rfl⟩
      have HT := Lib.hid ht
      have qj : ((j + 1 : Nat) : Int) - 1 = (j : Int) := by omega
      have qj2 : (j : Int) + 1 - 1 = (j : Int) := by omega
      have bj : j < 32000000 := by omega
      have CT := Lib.hid (fun w' (hu : Up wr w') => CBT.out w' (U.trans hu) j bj t HT)
      have bB := Lib.hid hi
      clear ht
      go_wp2_with fail
      refine (up_of wr _ _ _ _ nr (by omega) 1 1 rfl (by omega)).mono ?_
      rintro _ w2 ⟨v2, rfl, n2, u2⟩
      rw [Nat.pow_one] at n2
      replace U := U.trans u2
      replace hown := Ow.up hown u2
      have CT2 := CT.out w2 u2
      have hsz2 : w.heap.size + 1 ≤ w2.heap.size := Nat.le_trans hsz (Up.size u2)
      replace n2 := n2.lower hsz
      clear u2 nr CT hsz
      have C2 := Lib.hid CT2
      clear CT2
      rcases t with _ | _
      · go_wp2_with fail
        refine C2.out.mono ?_
        rintro _ _ ⟨rfl, rfl⟩
        clear C2
        have hszx := hsz2
        have hr' : R * 2 = 2 * R + (false).toNat := by show _ = 2 * R + 0; omega
        obtain ⟨r', hrr⟩ : ∃ r', R * 2 = r' := ⟨_, rfl⟩
        rw [hrr] at hr' n2
        clear hrr
        have nb' := hb.up U
        obtain ⟨z, hz⟩ : ∃ z, M.cmp r' b = z := ⟨_, rfl⟩
        have HZ := Lib.hid hz
        have zl := M.cmp_le (a := b) (b := r')
        have zs := M.cmp_swap b r'
        rw [hz] at zs
        go_wp2_with fail
        refine (rcmp_of w2 _ _ _ _ _ _ _ _ n2 nb' z HZ).mono ?_
        rintro _ _ ⟨rfl, rfl⟩
        by_cases hge : b ≤ r'
        · have dz : decide (0 ≤ z) = true := decide_eq_true (by have := zl.2 hge; omega)
          obtain ⟨p, hp⟩ : ∃ p, j / 32 = p := ⟨_, rfl⟩
          obtain ⟨s, hs2⟩ : ∃ s, j % 32 = s := ⟨_, rfl⟩
          obtain ⟨cc, hcc⟩ : ∃ c, qs.getD p 0 = c := ⟨_, rfl⟩
          have hql := hown.num
          have hpn : p < n := by have := bB.out; omega
          obtain ⟨g1, g2, g3⟩ := HI.out.more false HT.out r' hr' hge hb0 hp hs2 (by omega) hcc
          have hc := hown.cellAt p (by omega)
          rw [cu_get (by omega), hcc] at hc
          have hf := hown.frozenAt p
          obtain ⟨P, hP⟩ : ∃ P, 2 ^ s = P := ⟨_, rfl⟩
          rw [hP] at g1 g3
          have qP : (2 : Int) ^ s = (P : Int) := by rw [← hP]; simp
          have q1 : (j : Int) / 32 = (p : Int) := by omega
          have q2 : (j : Int) % 32 = (s : Int) := by omega
          have q3 : (j : Int).tdiv 32 = (p : Int) := by rw [Int.tdiv_eq_ediv_of_nonneg (by omega)]; exact q1
          have q4 : (j : Int).tmod 32 = (s : Int) := by rw [Int.tmod_eq_emod_of_nonneg (by omega)]; exact q2
          have e1 : IntKind.u64.wrap (P : Int) = (P : Int) := by rw [IntKind.wrap_u64]; omega
          obtain ⟨C, hC⟩ : ∃ C, cc + P = C := ⟨_, rfl⟩
          rw [hC] at g1 g3
          have e2 : (cc : Int) + (P : Int) = (C : Int) := by omega
          have e3 : IntKind.u64.wrap (C : Int) = (C : Int) := by rw [IntKind.wrap_u64]; omega
          have s32 : s < 32 := by omega
          have G3 := Lib.hid g3
          have HLT : r' - b < 4294967296 ^ s' := Nat.lt_trans g2 HBL.out
          clear zl zs hz hp hs2 hcc hql hP hC g3 HI hr' HT
          go_wp2_with fail
          refine (minus_of w2 _ _ _ _ _ _ _ _ n2 nb' hge (by omega)).mono ?_
          rintro _ w5 ⟨v5, rfl, n5, u5⟩
          have n5' := (n5.fit HLT).lower (Nat.le_trans hszx (Nat.le_refl _))
          replace U := U.trans u5
          have hc5 := cell_up u5 hc
          have hf5 := frozen_up u5 hc hf
          replace hown := Ow.up hown u5
          have hsz5 : w.heap.size + 1 ≤ w5.heap.size := Nat.le_trans hszx (Up.size u5)
          clear u5 n5 hc hf n2 nb'
          go_wp2_with fail
          go_roundw
          case rel =>
            obtain ⟨h1, _⟩ := hown.stored p (u64 C)
            rw [cu_set] at h1
            exact ⟨j, r' - b, _, by have := bB.out; omega, by go_num, U.setCell (Nat.le_refl _) _, (by rw [show (w5.setCell ⟨w.heap.size, p, none⟩ (u64 C)).heap.size = w5.heap.size by simp [World.setCell]]; exact hsz5), h1, n5'.set (by show w.heap.size < _; omega) _, G3⟩
          case measure => simp [intOf] <;> omega
        · have dz : decide (0 ≤ z) = false := decide_eq_false (fun h => hge (zl.1 (by omega)))
          have G3 := Lib.hid (HI.out.less false HT.out r' hr' (by omega))
          have HLT : r' < 4294967296 ^ s' := Nat.lt_trans (by omega) HBL.out
          have n5' := n2.fit HLT
          clear zl zs hz HI hr' HT n2 nb'
          go_wp2_with fail
          go_roundw
          case rel => exact ⟨j, r', qs, by have := bB.out; omega, by go_num, U, hszx, hown, n5', G3⟩
          case measure => simp [intOf] <;> omega
      · go_wp2_with fail
        refine C2.out.mono ?_
        rintro _ _ ⟨rfl, rfl⟩
        clear C2
        go_wp2_with fail
        have u3 : Up w2 (w2.alloc (.cells #[.int .u64 1] 37)) := (Up.refl w2).alloc _
        have s3 := Up.size u3
        refine (plus_of _ _ _ _ _ (s' + 1 / 32 + 1) _ _ _ _ (n2.up u3) (one_nh w2) (by omega) (by omega) (by omega)).mono ?_
        rintro _ w4 ⟨v4, rfl, n4, u4⟩
        have u34 := u3.trans u4
        replace n4 := n4.lower (Nat.le_trans hsz2 s3)
        replace U := U.trans u34
        replace hown := Ow.up hown u34
        have hszx : w.heap.size + 1 ≤ w4.heap.size := Nat.le_trans hsz2 (Up.size u34)
        clear u3 u4 u34 n2 hsz2 s3
        have hr' : R * 2 + 1 = 2 * R + (true).toNat := by show _ = 2 * R + 1; omega
        obtain ⟨r', hrr⟩ : ∃ r', R * 2 + 1 = r' := ⟨_, rfl⟩
        rw [hrr] at hr' n4
        clear hrr
        have nb' := hb.up U
        obtain ⟨z, hz⟩ : ∃ z, M.cmp r' b = z := ⟨_, rfl⟩
        have HZ := Lib.hid hz
        have zl := M.cmp_le (a := b) (b := r')
        have zs := M.cmp_swap b r'
        rw [hz] at zs
        go_wp2_with fail
        refine (rcmp_of w4 _ _ _ _ _ _ _ _ n4 nb' z HZ).mono ?_
        rintro _ _ ⟨rfl, rfl⟩
        by_cases hge : b ≤ r'
        · have dz : decide (0 ≤ z) = true := decide_eq_true (by have := zl.2 hge; omega)
          obtain ⟨p, hp⟩ : ∃ p, j / 32 = p := ⟨_, rfl⟩
          obtain ⟨s, hs2⟩ : ∃ s, j % 32 = s := ⟨_, rfl⟩
          obtain ⟨cc, hcc⟩ : ∃ c, qs.getD p 0 = c := ⟨_, rfl⟩
          have hql := hown.num
          have hpn : p < n := by have := bB.out; omega
          obtain ⟨g1, g2, g3⟩ := HI.out.more true HT.out r' hr' hge hb0 hp hs2 (by omega) hcc
          have hc := hown.cellAt p (by omega)
          rw [cu_get (by omega), hcc] at hc
          have hf := hown.frozenAt p
          obtain ⟨P, hP⟩ : ∃ P, 2 ^ s = P := ⟨_, rfl⟩
          rw [hP] at g1 g3
          have qP : (2 : Int) ^ s = (P : Int) := by rw [← hP]; simp
          have q1 : (j : Int) / 32 = (p : Int) := by omega
          have q2 : (j : Int) % 32 = (s : Int) := by omega
          have q3 : (j : Int).tdiv 32 = (p : Int) := by rw [Int.tdiv_eq_ediv_of_nonneg (by omega)]; exact q1
          have q4 : (j : Int).tmod 32 = (s : Int) := by rw [Int.tmod_eq_emod_of_nonneg (by omega)]; exact q2
          have e1 : IntKind.u64.wrap (P : Int) = (P : Int) := by rw [IntKind.wrap_u64]; omega
          obtain ⟨C, hC⟩ : ∃ C, cc + P = C := ⟨_, rfl⟩
          rw [hC] at g1 g3
          have e2 : (cc : Int) + (P : Int) = (C : Int) := by omega
          have e3 : IntKind.u64.wrap (C : Int) = (C : Int) := by rw [IntKind.wrap_u64]; omega
          have s32 : s < 32 := by omega
          have G3 := Lib.hid g3
          have HLT : r' - b < 4294967296 ^ s' := Nat.lt_trans g2 HBL.out
          clear zl zs hz hp hs2 hcc hql hP hC g3 HI hr' HT
          go_wp2_with fail
          refine (minus_of w4 _ _ _ _ _ _ _ _ n4 nb' hge (by omega)).mono ?_
          rintro _ w5 ⟨v5, rfl, n5, u5⟩
          have n5' := (n5.fit HLT).lower (Nat.le_trans hszx (Nat.le_refl _))
          replace U := U.trans u5
          have hc5 := cell_up u5 hc
          have hf5 := frozen_up u5 hc hf
          replace hown := Ow.up hown u5
          have hsz5 : w.heap.size + 1 ≤ w5.heap.size := Nat.le_trans hszx (Up.size u5)
          clear u5 n5 hc hf n4 nb'
          go_wp2_with fail
          go_roundw
          case rel =>
            obtain ⟨h1, _⟩ := hown.stored p (u64 C)
            rw [cu_set] at h1
            exact ⟨j, r' - b, _, by have := bB.out; omega, by go_num, U.setCell (Nat.le_refl _) _, (by rw [show (w5.setCell ⟨w.heap.size, p, none⟩ (u64 C)).heap.size = w5.heap.size by simp [World.setCell]]; exact hsz5), h1, n5'.set (by show w.heap.size < _; omega) _, G3⟩
          case measure => simp [intOf] <;> omega
        · have dz : decide (0 ≤ z) = false := decide_eq_false (fun h => hge (zl.1 (by omega)))
          have G3 := Lib.hid (HI.out.less true HT.out r' hr' (by omega))
          have HLT : r' < 4294967296 ^ s' := Nat.lt_trans (by omega) HBL.out
          have n5' := n4.fit HLT
          clear zl zs hz HI hr' HT n4 nb'
          go_wp2_with fail
          go_roundw
          case rel => exact ⟨j, r', qs, by have := bB.out; omega, by go_num, U, hszx, hown, n5', G3⟩
          case measure => simp [intOf] <;> omega
theorem over_of (w : World) (lo lo' s s' : Nat) (v v' : Value) (a b : Nat) (h : Nh w lo s v a) (hb : Nh w lo' s' v' b) (hb0 : 0 < b) (hs : s ≤ 1000000) (hs' : s' ≤ 1000000) :
    Calls Tryz.prog 33 #[v, v'] w (Rh2 s (a / b) s' (a % b) w) := by
  obtain ⟨A, n, c, xs, rfl, h1, h2, h3, h4, h5⟩ := h
  refine (over_any w lo lo' A n c s' xs v' b h1 h2 hb hb0 (by omega) hs').mono ?_
  rintro _ w' ⟨v1, v2, rfl, n1, n2, hu⟩
  rw [h3] at n1 n2
  exact ⟨v1, v2, rfl, n1.more h4, n2, hu⟩
end Go.Proofs.YtjmnobgllnaljaaGreatDoor
