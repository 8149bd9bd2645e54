/-
  nat.divideLong: its contract; nat.Div of any two numbers.
-/
import Derived.Test.YtjmnobgllnaljaaGreatDoorTake
import Derived.Test.YtjmnobgllnaljaaGreatDoorShr
import Derived.Test.YtjmnobgllnaljaaGreatDoorNb
import Derived.Deep.DeepCutAuto
namespace Go.Proofs.YtjmnobgllnaljaaGreatDoor
open Go.RowKit Go.Shelf

/-- shiftUp, in a later world than that in which the words were told. -/
theorem shiftUp_up (w w' : World) (lo : Nat) (A : Option Addr) (n c : Nat) (xs : List Nat) (hx : Wd w lo A n c xs) (hu : Up w w') (N : Nat) (hN : N ≤ 63) (hn : n ≤ 1000000000) :
    Calls Tryz.prog 38 #[.slice A n c, .int .i64 N] w' (Rw (n + 1) (M.val xs * 2 ^ N) w') := by
  have := shiftUp_any w' lo A n c xs (hx.up hu) N (by omega) hn
  rwa [show N / 64 = 0 from by omega, Nat.add_zero] at this

theorem Ow.low {w : World} {base base' : Nat} {v : Value} {n : Nat} {xs : List Nat} (h : Ow w base v n xs) (hb : base' ≤ base) : Ow w base' v n xs := by
  obtain ⟨h1, h2⟩ := h
  refine ⟨h1, ?_⟩
  rcases h2 with h2 | ⟨g, cap, cur, e, k1, k2⟩
  · exact .inl h2
  · exact .inr ⟨g, cap, cur, e, Nat.le_trans hb k1, k2⟩
/-- What the two shifted rows are. -/
def Two (w : World) (n n' a b : Nat) (r d : Value) (wx : World) : Prop :=
  ∃ (g g' : Nat) (zs bs : List Nat), r = .slice (some ⟨g, 0, none⟩) (n + 1 : Nat) (n + 1) ∧ d = .slice (some ⟨g', 0, none⟩) n' (n' + 1) ∧ w.heap.size ≤ g ∧ g ≠ g' ∧ Ow wx w.heap.size (.slice (some ⟨g, 0, none⟩) (n + 1) (n + 1)) (n + 1) zs ∧ M.Wds zs ∧ M.val zs = a ∧
    Wd wx w.heap.size (some ⟨g', 0, none⟩) n' (n' + 1) bs ∧ M.val bs = b ∧ Up w wx

theorem two_mk {w wa wb wx : World} {n n' a b g g' : Nat} {zs bs : List Nat} (hua : Up w wa) (hub : Up w wb) (hga : wa.heap.size ≤ g) (hne : g ≠ g')
    (h1 : Ow wx wa.heap.size (.slice (some ⟨g, 0, none⟩) (n + 1) (n + 1)) (n + 1) zs) (h2 : M.Wds zs) (h3 : M.val zs = a)
    (k1 : Ow wx wb.heap.size (.slice (some ⟨g', 0, none⟩) (n' + 1) (n' + 1)) (n' + 1) bs) (k2 : M.Wds bs) (k3 : M.val bs = b) (hb : b < 18446744073709551616 ^ n') (hn' : n' ≤ 1000000000) (hu : Up w wx) :
    Two w n n' a b (.slice (some ⟨g, 0, none⟩) (n + 1 : Nat) (n + 1)) (.slice (some ⟨g', 0, none⟩) n' (n' + 1)) wx := by
  have hl := k1.num
  have hd := (Ow.wd_ k1 k2 (by omega)).take (show n' ≤ n' + 1 by omega)
  have hv : M.val (bs.take n') = b := by rw [M.val_take_small (by omega) (by rw [k3]; exact hb)]; exact k3
  have h1' : Ow wx w.heap.size (.slice (some ⟨g, 0, none⟩) (n + 1) (n + 1)) (n + 1) zs := h1.low (Up.size hua)
  exact ⟨g, g', zs, bs.take n', rfl, rfl, Nat.le_trans (Up.size hua) hga, hne, h1', h2, h3, hd.lower (Up.size hub), hv, hu⟩

set_option maxHeartbeats 2000000 in
set_option maxRecDepth 100000 in
theorem divideLong_any : DivLong := by
  intro w lo lo' A A' n c n' c' xs ys hx hy hnx hny hn h2 hnn
  obtain ⟨p, hp⟩ : ∃ p, n' = p + 2 := ⟨n' - 2, by omega⟩
  have hyl := hy.num
  have hxl := hx.num
  have hn'b := hy.len
  obtain ⟨y, hyk⟩ : ∃ y, ys.getD (p + 1) 0 = y := ⟨_, rfl⟩
  have hy0 : y ≠ 0 := by rw [← hyk]; exact M.top_ne hny (by omega)
  have hyb : y < 18446744073709551616 := by rw [← hyk]; exact hy.wds.getD _
  obtain ⟨b1, b2, b3, b4, b5⟩ := M.bitLen_bounds hyb (by omega)
  obtain ⟨s, hs⟩ : ∃ s, 64 - M.bits y = s := ⟨_, rfl⟩
  rw [hs] at b4 b5
  have hs63 : s ≤ 63 := by omega
  have cl : Calls Tryz.prog 105 #[u64 y] w (Same (.int .i64 (s : Int)) w) := by
    have := lead64_any y hyb w
    rwa [b1, show (64 : Int) - ((M.bits y : Nat) : Int) = (s : Int) from by omega] at this
  have CLZ := Lib.hid cl
  obtain ⟨f1, f2⟩ := M.shifted_fits hy.wds (show ys.length = p + 1 + 1 by omega) hyk hs63 b4 b5
  have F1 : Hid (M.val ys * 2 ^ s < 18446744073709551616 ^ n') := by rw [Hid, hp]; exact f1
  have F2 := Lib.hid f2
  have hxlt := M.val_lt hx.wds
  rw [hxl] at hxlt
  have HXL := Lib.hid hxlt
  obtain ⟨bb, oo, rfl, _, hc⟩ := hy.at_ (by omega)
  have hc1 := (hc (p + 1) (by omega)).1
  rw [hyk] at hc1
  obtain ⟨m1, hm1⟩ : ∃ m1, p + 1 = m1 := ⟨_, rfl⟩
  rw [hm1] at hc1
  have q1 : (n' : Int) - 1 = (m1 : Int) := by omega
  have l1 : m1 < n' := by omega
  obtain ⟨L, hL⟩ : ∃ L, n - n' + 1 = L := ⟨_, rfl⟩
  have q2 : (n : Int) - (n' : Int) + 1 = (L : Int) := by omega
  have l2 : L ≤ n := by omega
  have HP := Lib.hid hp
  have HLN : Hid (n + 1 = L + n') := by show _ = _; omega
  clear hyk hy0 hyb b1 b2 b3 b4 b5 hs cl f1 f2 hxlt hc hm1 hp hL hyl hxl hnx
  go_enter Tryz.func104, Tryz.ntmps104
  go_wp2_with fail
  refine CLZ.out.mono ?_
  rintro _ _ ⟨rfl, rfl⟩
  go_wp2_with fail
  go_cut [7, 8] (fun r d wx => Two w n n' (M.val xs * 2 ^ s) (M.val ys * 2 ^ s) r d wx)
  case first =>
    go_region_with (first
      | (go_at_call_of 38 (Value.slice A n c); (with_reducible refine (shiftUp_up w _ lo A n c xs hx ?_ s hs63 hn).mono ?_); (first | with_reducible assumption | exact (Up.refl _).drewN 1 | (refine Up.drewN ?_ 1; assumption)); rintro _ wA ⟨ga, za, rfl, hga, hoa, hwa, hva, hua⟩; have uA := Up.trans (by first | with_reducible assumption | exact (Up.refl w).drewN 1) hua)
      | (go_at_call_of 38 (Value.slice (some ⟨bb, oo, none⟩) n' c'); (with_reducible refine (shiftUp_up w _ lo' (some ⟨bb, oo, none⟩) n' c' ys hy ?_ s hs63 (by omega)).mono ?_); (first | with_reducible assumption | exact (Up.refl _).drewN 1 | (refine Up.drewN ?_ 1; assumption)); rintro _ wB ⟨gb, zb, rfl, hgb, hob, hwb, hvb, hub⟩; have uB := Up.trans (by first | with_reducible assumption | exact (Up.refl w).drewN 1) hub))
    all_goals
      go_wp2_with fail
      go_meet
      first
        | exact two_mk ((Up.refl w).drewN 1) uA hga (Nat.ne_of_lt (Nat.lt_of_lt_of_le (hoa.lt _ rfl).2 hgb)) (Ow.up hoa hub) hwa hva hob hwb hvb F1.out (by omega) uB
        | exact two_mk uB ((Up.refl w).drewN 1) hga (Ne.symm (Nat.ne_of_lt (Nat.lt_of_lt_of_le (hob.lt _ rfl).2 hga))) hoa hwa hva (Ow.up hob hua) hwb hvb F1.out (by omega) uA
  case rest =>
    obtain ⟨g, g', zs, bs, rfl, rfl, hg, hne, hown, hwd, hzv, hB, hbv, hu⟩ := hcut
    have hbl := hB.num
    have HZV := Lib.hid hzv
    have HBV := Lib.hid hbv
    have hgl := (hown.lt _ rfl).2
    obtain ⟨b', o', e, hg', hcB⟩ := hB.at_ (by omega)
    simp only [Option.some.injEq, Addr.mk.injEq, and_true] at e
    obtain ⟨rfl, rfl⟩ := e
    have hgl' := World.block_lt_of_cell? _ _ (hcB 0 (by omega)).1
    simp only at hgl'
    clear hzv hbv hx hy hc1 CLZ F1 hcB
    go_wp2_with (at_make; refine wpList_make_wd _ rfl (.tmp 32) (.tmp 32) 23 rfl info_u64 Tryz.underlying23 (L : Int) (L : Int) L rfl rfl (by omega) (by omega) (by omega) ?_; intro wq hownQ hgq)
    obtain ⟨gq, hgqe⟩ : ∃ gq, wc.heap.size = gq := ⟨_, rfl⟩
    rw [hgqe] at hownQ hgl hgl' ⊢
    have hgq0 : w.heap.size ≤ gq := by have := Up.size hu; omega
    have hownQ0 := Ow.low hownQ hgq0
    have huq : Up w wq := hu.grown hgq (by simp)
    have hownq : Ow wq w.heap.size (.slice (some ⟨g, 0, none⟩) (n + 1) (n + 1)) (n + 1) zs := World.ownsRow.kept hown hgq (Or.inr (by simp [Value.ownBlock]))
    have hBq : Wd wq w.heap.size (some ⟨g', 0, none⟩) n' (n' + 1) bs := hB.kept hgq (fun _ b _ => by simp)
    have hzl := hown.num
    have hg'q : g' ≠ gq := by omega
    have hgq' : g ≠ gq := by omega
    have hst : Hid (M.Lg (M.val zs) (M.val bs) (n + 1) n' L L zs (List.replicate L 0)) := by
      refine M.Lg.start hzl (by simp) rfl ?_
      have := M.start_lt (X := zs) (a := M.val xs) (n := n) (m := p + 1) (s := s) (β := M.val bs) HXL.out hs63 HZV.out hzl (by have := HP.out; omega) (by rw [HBV.out]; exact F2.out)
      rwa [show n - (p + 1) = L from by have := HP.out; have := HLN.out; omega] at this
    have htop : Hid (9223372036854775808 ≤ bs.getD (p + 1) 0) := M.top_ge hB.wds (by have := HP.out; omega) (by rw [HBV.out]; exact F2.out)
    clear hown hownQ hB hgq hgqe hu hgl hgl'
    go_loopw [10] (fun i wr => ∃ (k : Int) (X Q : List Nat), -1 ≤ k ∧ k < L ∧ i = .int .i64 k ∧ Up w wr ∧ Ow wr w.heap.size (.slice (some ⟨g, 0, none⟩) (n + 1) (n + 1)) (n + 1) X ∧ M.Wds X ∧ Ow wr w.heap.size (.slice (some ⟨gq, 0, none⟩) L L) L Q ∧ M.Wds Q ∧
      Wd wr w.heap.size (some ⟨g', 0, none⟩) n' (n' + 1) bs ∧ Hid (M.Lg (M.val zs) (M.val bs) (n + 1) n' L (k + 1).toNat X Q)) (fun i _ => (intOf i + 1).toNat)
    case atStart => exact ⟨(L : Int) - 1, zs, _, by omega, by omega, rfl, huq, hownq, hwd, hownQ0, M.Wds.replicate _, hBq, by rw [show ((L : Int) - 1 + 1).toNat = L from by omega]; exact hst.out⟩
    case round =>
      obtain ⟨k, X, Q, hk1, hk2, rfl, hu, hX, hwX, hQ, hwQ, hB, HL⟩ := hrel
      clear hownq hownQ0 hBq huq hst hwd hzl
      by_cases hk0 : k = -1
      · subst hk0
        obtain ⟨v1, v2⟩ := HL.out.fin
        have hqw := Ow.wd_ hQ hwQ (by omega)
        have hxw : Nw wr w.heap.size (n + 1) (.slice (some ⟨g, 0, none⟩) (n + 1) (n + 1)) (M.val X) := Ow.nw hX hwX (by omega)
        have hp2 : 0 < 2 ^ s := Nat.pow_pos (by omega)
        have e1 : M.val Q = M.val xs / M.val ys := by rw [v1, HZV.out, HBV.out, Nat.mul_div_mul_right _ _ hp2]
        have e2 : M.val X / 2 ^ s = M.val xs % M.val ys := by rw [v2, HZV.out, HBV.out, Nat.mul_mod_mul_right, Nat.mul_div_cancel _ hp2]
        have E1 := Lib.hid e1
        have E2 := Lib.hid e2
        clear v1 v2 e1 e2 hX hQ HL
        go_wp2_with fail
        refine (trim_any _ _ _ _ _ _ hqw).mono ?_
        rintro _ _ ⟨m2, zz, rfl, rfl, hd2, hn2, hv2, hm2⟩
        have HV2 : Hid (M.val zz = M.val xs / M.val ys) := hv2.trans E1.out
        clear hv2 hqw
        go_wp2_with fail
        refine (shr_any _ _ _ _ _ hxw (s : Int) s (by omega)).mono ?_
        rintro _ w9 ⟨v9, rfl, h9, hu9⟩
        rw [E2.out] at h9
        go_wp2_with fail
        go_ret2
        refine ⟨_, _, rfl, ⟨_, _, _, zz, rfl, (hd2.up hu9), HV2.out, by omega, hn2⟩, (h9.lower (Up.size hu)).fit ?_, hu.trans hu9⟩
        exact Nat.lt_of_le_of_lt (Nat.mod_le _ _) HXL.out
      · obtain ⟨i, rfl⟩ := Int.eq_ofNat_of_zero_le (show 0 ≤ k by omega)
        have hiL : i < L := by omega
        have hI := HL.out
        rw [show ((i : Int) + 1).toNat = i + 1 from by omega] at hI
        have hN1 := HLN.out
        have hn1 : i + n' + 1 - i = n' + 1 := by omega
        have CW := Lib.hid (takeDigit_any wr wr w.heap.size w.heap.size g (n + 1) i (i + n' + 1 - i) (n + 1 - i) p n' (n' + 1) (some ⟨g', 0, none⟩) X bs (World.grownBy.refl _ _) hB (fun _ b e => by
          simp only [Option.map_some, Option.some.injEq] at e
          subst e
          simpa using hne) hX hwX (by omega) HP.out hn1 htop.out (hI.next hwX hB.wds hbl hiL hN1).2.1)
        have HN := Lib.hid hI
        clear hI hN1 HL hn1
        go_wp2_with fail
        refine CW.out.mono ?_
        rintro _ w2 ⟨q, X', rfl, hq, hgw, hX', hwX', HDG⟩
        have hu2 : Up w w2 := hu.grown hgw (fun b e => by cases e; exact hg)
        have hQ2 : Ow w2 w.heap.size (.slice (some ⟨gq, 0, none⟩) L L) L Q := World.ownsRow.kept hQ hgw (Or.inr (by simp only [Value.ownBlock, ne_eq, Option.some.injEq]; exact fun e => hgq' e.symm))
        have hB2 : Wd w2 w.heap.size (some ⟨g', 0, none⟩) n' (n' + 1) bs := hB.kept hgw (fun _ b e => by
          simp only [Option.map_some, Option.some.injEq] at e
          subst e
          simpa using hne)
        have hLN := Lib.hid (HN.out.step hwX hB.wds hbl hiL HLN.out hX'.num HDG)
        have hcz := hQ2.cellAt i (by omega)
        have hQl := hQ2.num
        rw [cu_get (by omega)] at hcz
        have hfz := hQ2.frozenAt i
        clear CW hX hwX hQ hB HN HDG hu hgw
        go_wp2_with fail
        go_roundw
        case rel =>
          obtain ⟨h1, h2⟩ := hQ2.stored i (u64 q)
          rw [cu_set] at h1
          refine ⟨(i : Int) - 1, X', _, by omega, by omega, rfl, hu2.setCell hgq0 _, World.ownsRow.kept hX' h2 (Or.inr (by simp only [Value.ownBlock, ne_eq, Option.some.injEq]; exact hgq')), hwX', h1, hwQ.set i hq, hB2.kept h2 (fun _ b e => by
            simp only [Option.map_some, Option.some.injEq] at e
            subst e
            simp only [ne_eq, Option.some.injEq]
            exact fun e => hg'q e.symm), by rw [show ((i : Int) - 1 + 1).toNat = i from by omega]; exact hLN.out⟩
        case measure => simp [intOf]

/-- Div of any two numbers, the second not 0. -/
theorem div_any (w : World) (lo lo' s s' : Nat) (v v' : Value) (a b : Nat) (h : Nw w lo s v a) (h' : Nw w lo' s' v' b) (hb0 : 0 < b) (hs : s ≤ 1000000000) :
    Calls Tryz.prog 79 #[v, v'] w (Div3 (s + 1) (a / b) (a % b) true w) := div_of w lo lo' s s' v v' a b h h' hb0 hs (.inr divideLong_any)
end Go.Proofs.YtjmnobgllnaljaaGreatDoor
