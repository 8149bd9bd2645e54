/-
  The reference's Digits: its contract.
-/
import Derived.Test.YtkhnobogaiaogaaGreatDoorFirst
import Derived.Test.YtkhnobogaiaogaaGreatDoorUse
import Derived.Test.YtkhnobogaiaogaaGreatDoorRef3
import Derived.Test.YtkhnobogaiaogaaGreatDoorDigm
import Derived.Test.YtkhnobogaiaogaaGreatDoorRfa
import Derived.Deep.LoopGhost
namespace Go.Proofs.YtkhnobogaiaogaaGreatDoor
open Go.RowKit Go.Shelf

theorem wpList_append_by {P : Program} (w : World) {ops : Array Oper} {rest : List Oper} {o : Oper} {a : Act} {Q : Exit → Act → World → Prop} (hgd : o.guard = none) (sl x : Operand) (t : TypeId)
    (ho : o.op = .call { callee := .builtin .append, args := #[sl, x], argTypes := #[t, t] })
    (hP : (P.info? 5).map (fun i => (i.zero, i.size, i.bytes)) = some (some (.int .u8 0), 1, 1)) (base : Nat) (ht : P.underlying t = some (.slice 5))
    (v : Value) (bs : List UInt8) (hs : a.eval sl = v) (hown : By w base v bs) (ad : Addr) (m c : Nat) (cs : List UInt8) (hx : a.eval x = .slice (some ad) m c) (hm : cs.length = m)
    (hy : ∀ j u, (Lib.byteCells cs)[j]? = some u → w.cell? (ad.add j) = some u) (hn : bs.length + m ≤ 1000000000000) (hbase : base ≤ w.heap.size)
    (h : ∀ v' w', By w' base v' (bs ++ cs) → w.grownBy w' v.ownBlock → wpList P ops Q rest (a.put o.dst v') w') : wpList P ops Q (o :: rest) a w := by
  obtain ⟨i, hi, hz0, hz1, hz2⟩ := info_parts hP
  refine wpList_plain hgd fun K hK => ?_
  obtain ⟨v', w', hr, h2, h3, _, _⟩ := run_append_own_at (P := P) w base t o.type 5 i _ 1 1 ht hi hz0 hz1 hz2 rfl (by omega) v bs.length _ hown ad m c (Lib.byteCells cs) (by rw [Lib.byteCells_length]; omega) hy (Lib.byteCells_one _)
    (by simp only [maxLen]; omega) (by omega) hbase
  unfold Oper.wp execOp
  simp only [ho, resolve, invoke, builtin, Sem.run_bind, Sem.run_pure, Result.andThen_ok, List.map_toArray, List.map_cons, List.map_nil, hs, hx, hr]
  refine hK _ _ (h v' w' ?_ h3)
  rw [By, List.length_append, Lib.byteCells_append, hm]
  exact h2
theorem By.form {w : World} {base : Nat} {v : Value} {bs : List UInt8} (h : By w base v bs) : ∃ A c, v = .slice A bs.length c ∧ (0 < bs.length → ∃ g, A = some ⟨g, 0, none⟩) := by
  rcases h.2 with ⟨e, h1⟩ | ⟨g, cap, cur, e, _⟩
  · refine ⟨none, 0, ?_, fun h0 => by omega⟩
    rw [e, h1]
  · exact ⟨_, _, e, fun _ => ⟨g, rfl⟩⟩
theorem bc_get {bs : List UInt8} {j : Nat} (h : j < bs.length) : (Lib.byteCells bs)[j]? = some (.int .u8 ((bs.getD j 0).toNat : Int)) := by
  simp [Lib.byteCells, List.getD_eq_getElem?_getD, List.getElem?_eq_getElem h]
theorem bc_set (bs : List UInt8) (i : Nat) (x : UInt8) : (Lib.byteCells bs).set i (.int .u8 (x.toNat : Int)) = Lib.byteCells (bs.set i x) := by simp [Lib.byteCells, List.map_set]
theorem u8_of {d : Nat} (h : d ≤ 9) : ((UInt8.ofNat (48 + d)).toNat : Int) = 48 + (d : Int) := by
  rw [show (UInt8.ofNat (48 + d)).toNat = (48 + d) % 256 from rfl]; omega
theorem lit1_cell (w : World) (v : Value) (t : TypeId) : (w.alloc (.cells #[v] t)).cell? ((⟨w.heap.size, 0, none⟩ : Addr).add 0) = some v := by
  show (match (w.heap.push (.cells #[v] t))[w.heap.size]? with | some (.cells c _ _) => c[0 + 0]? | _ => none) = _
  simp
theorem nh_l0 {w : World} {lo s : Nat} {A : Option Addr} {n c a : Nat} (h : Nh w lo s (.slice A n c) a) : (n = 0 ↔ a = 0) := by
  obtain ⟨A', n', c', xs, e, h1, h2, h3, _, h4⟩ := h
  injection e with _ e2 _
  subst e2
  constructor
  · intro h
    have e : xs = [] := List.eq_nil_of_length_eq_zero (by rw [h1.num, h])
    rw [← h3, e]
    rfl
  · intro h
    have := M.hlen_of_lt (k := 0) h2 h4 (by rw [h3, h]; exact Nat.lt_of_lt_of_le Nat.zero_lt_one (Nat.le_refl _))
    rw [← h1.num]
    omega
theorem M.DgInv.len {a cur : Nat} {bs : List UInt8} (h : M.DgInv a cur bs) : bs.length ≤ (Lib.decDigits a).length := by
  by_cases e : bs = []
  · rw [e]; exact Nat.zero_le _
  · rw [h.rest e, List.length_append, List.length_reverse]
    omega

set_option maxHeartbeats 8000000 in
set_option maxRecDepth 100000 in
theorem rdigits1_any (w : World) (lo s : Nat) (v : Value) (a : Nat) (h : Nh w lo s v a) (hs : s ≤ 100000) (hL : (Lib.decDigits a).length ≤ 1000000) (S : ByteArray) (hS : (⟨(Lib.decDigits a).toArray⟩ : ByteArray) = S) :
    Calls Tryz.prog 23 #[v] w (Str S w) := by
  have hst : By (w.alloc (.cells #[] 5)) w.heap.size (.slice (some ⟨w.heap.size, 0, none⟩) 0 0) [] := World.ownsRow_lit w #[] 0 (Nat.le_refl _) (by simp only [maxLen]; omega) rfl
  have h0 := (h.up ((Up.refl w).alloc (.cells #[] 5))).lower (Nat.zero_le _)
  have HS := Lib.hid hS
  have hst2 := Lib.hid (M.DgInv.start a)
  clear h hS
  go_enter Tryz.func23, Tryz.ntmps23
  go_wp2_with fail
  go_loopg [0, 3] (a + 1) (fun g av ov wr => ∃ (cur : Nat) (bs : List UInt8), cur + (1 - bs.length) ≤ g ∧ Up w wr ∧ w.heap.size ≤ wr.heap.size ∧ Nh wr 0 s av cur ∧ By wr w.heap.size ov bs ∧ Hid (M.DgInv a cur bs))
  case atStart => exact ⟨a, [], by simp, (Up.refl w).alloc _, by simp, h0, hst, hst2⟩
  case round =>
    obtain ⟨cur, bs, hg, U, hsz, na, by_, HI⟩ := hrel
    obtain ⟨wo, rfl⟩ : ∃ x, x = wr := ⟨_, rfl⟩
    clear hst hst2 h0
    obtain ⟨A, n, c, xs, rfl, hwd, hhs, hv, hns, hnm⟩ := na
    obtain ⟨N, hN⟩ : ∃ N, bs.length = N := ⟨_, rfl⟩
    have hform := by_.form
    rw [hN] at hform
    obtain ⟨A2, c2, rfl, hA2⟩ := hform
    have hn0 : n = 0 ↔ cur = 0 := nh_l0 (w := wo) (lo := 0) (s := s) (A := A) (c := c) ⟨A, n, c, xs, rfl, hwd, hhs, hv, hns, hnm⟩
    have hbl := HI.out.len
    rw [hN] at hg hbl
    have HN := Lib.hid hN
    have hNb : N ≤ 1000000 := by omega
    by_cases hgo : 0 < n ∨ N = 0
    · have hdg := HI.out.step (by
        rcases hgo with e | e
        · left; intro e2; have := hn0.2 e2; omega
        · right; exact List.eq_nil_of_length_eq_zero (by rw [hN, e]))
      have HDG := Lib.hid hdg
      have hmeas : cur / 10 + 1 ≤ cur + (1 - N) := by
        rcases Nat.eq_zero_or_pos n with e | e
        · have := hn0.1 e; omega
        · have : cur ≠ 0 := fun e2 => by have := hn0.2 e2; omega
          omega
      have hmeas2 : cur / 10 < gk := by omega
      have bsm := hwd.small
      have bc := hwd.len
      have hst3 := M.TdInv.start xs
      rw [hwd.num] at hst3
      have HST3 := Lib.hid hst3
      have HV := Lib.hid hv
      have hgoo : 0 < n ∨ (¬ 0 < n ∧ N = 0) := by omega
      clear hdg hst3 hv hn0 hbl hgo hN hL HI hg hmeas hnm
      rcases hgoo with hgo | ⟨hgo, rfl⟩
      all_goals
        go_wp2_with (at_make; refine wpList_make_wd _ rfl (.tmp 20) (.tmp 20) 22 rfl info_u64 Tryz.underlying22 (n : Int) (n : Int) n rfl rfl (by omega) (by omega) (by omega) ?_; intro w1 hown1 hg1)
        have u1 : Up wo w1 := (Up.refl wo).grown hg1 (by simp)
        have hq1 : wo.heap.size < w1.heap.size := (World.ownsRow.lt hown1 wo.heap.size (by simp [Value.ownBlock])).2
        clear hg1
        go_loopw [4, 6] (fun lv iv wi => ∃ (i left : Nat) (qs : List Nat), i ≤ n ∧ left ≤ 9 ∧ lv = u64 left ∧ iv = .int .i64 i ∧ Up wo wi ∧ wo.heap.size < wi.heap.size ∧ Ow wi wo.heap.size (.slice (some ⟨wo.heap.size, 0, none⟩) n n) n qs ∧ Hid (M.TdInv xs i left qs)) (fun _ iv _ => (intOf iv).toNat)
        case atStart => exact ⟨n, 0, _, Nat.le_refl _, by omega, rfl, rfl, u1, hq1, hown1, HST3⟩
        case round =>
          obtain ⟨i, left, qs, hi, hl9, rfl, rfl, u, hq, hown, HT⟩ := hrel
          clear u1 hq1 hown1 HST3 hgo
          rcases Nat.eq_zero_or_pos i with hi0 | hi0
          · subst hi0
            obtain ⟨f1, f2⟩ := HT.out.fin
            have hqh := HT.out.hw
            rw [HV.out] at f1 f2
            have F2 := Lib.hid f2
            have F1 : cur % 10 = left := f1.symm
            rw [F1] at HDG
            clear f1 f2 F1 HT hwd hhs
            have e1 : IntKind.u64.wrap (48 + (left : Int)) = 48 + (left : Int) := by rw [IntKind.wrap_u64]; omega
            have e2 : IntKind.u8.wrap (48 + (left : Int)) = 48 + (left : Int) := by show (48 + (left : Int)) % 256 = _; omega
            have u2 : Up wr (wr.alloc (.cells #[.int .u8 (48 + (left : Int))] 5)) := (Up.refl wr).alloc _
            have by3 := (by_.up u).up u2
            have hcell : ∀ j x, (Lib.byteCells [UInt8.ofNat (48 + left)])[j]? = some x → (wr.alloc (.cells #[.int .u8 (48 + (left : Int))] 5)).cell? ((⟨wr.heap.size, 0, none⟩ : Addr).add j) = some x := by
              intro j x hj
              have hj0 : j = 0 := by
                have := (List.getElem?_eq_some_iff.1 hj).1
                rw [Lib.byteCells_length] at this
                simpa using this
              subst hj0
              rw [lit1_cell, ← hj, bc_get (by simp), ← u8_of hl9]
              rfl
            have HC := Lib.hid hcell
            have own2 := Ow.up hown u2
            have hb1 : w.heap.size ≤ (wr.alloc (.cells #[.int .u8 (48 + (left : Int))] 5)).heap.size := Nat.le_trans (Nat.le_trans hsz (Up.size u)) (Up.size u2)
            clear hcell hown
            go_wp2_with (at_builtin; refine wpList_append_by _ rfl (.tmp 44) (.tmp 48) _ rfl info_u8 w.heap.size Tryz.underlying39 _ bs rfl by3 ⟨wr.heap.size, 0, none⟩ 1 1 [UInt8.ofNat (48 + left)] rfl rfl HC.out (by have := HN.out; omega) hb1 ?_; intro v3 w3 hby3 hg3)
            have u3 : Up w w3 := ((U.trans u).trans u2).grown hg3 (fun b hb => (World.ownsRow.lt by3 b hb).1)
            have own3 := World.ownsRow.kept own2 hg3 (.inr (fun e => by
              have := (World.ownsRow.lt by_ wo.heap.size e.symm).2
              omega))
            have hwdq := Ow.wd_ own3 hqh.wds (by omega)
            clear own2 own3 by3 hg3 HC u2
            refine (trim_hs _ _ s _ _ _ _ hwdq hqh (cur / 10) F2 hns).mono ?_
            rintro _ _ ⟨v4, rfl, rfl, h4⟩
            clear hwdq
            go_wp2_with fail
            go_roundg (cur / 10)
            case measure => omega
            case rel => exact ⟨cur / 10, _, by rw [List.length_append, List.length_singleton]; omega, u3, u3.size, h4.lower (Nat.zero_le _), hby3, HDG⟩
          · obtain ⟨j, rfl⟩ : ∃ j, i = j + 1 := ⟨i - 1, by omega⟩
            obtain ⟨bb, oo, rfl, _, hc⟩ := (hwd.up u).at_ (by omega)
            obtain ⟨x, hxk⟩ : ∃ x, xs.getD j 0 = x := ⟨_, rfl⟩
            have hxb : x < 4294967296 := by rw [← hxk]; exact hhs.getD j
            have hc1 := (hc j (by omega)).1
            rw [hxk] at hc1
            obtain ⟨t, ht⟩ : ∃ t, left * 4294967296 + x = t := ⟨_, rfl⟩
            obtain ⟨_, g1, g2, g3⟩ := HT.out.step (by rw [hwd.num]; omega) hxk hxb ht
            obtain ⟨T0, hT0⟩ : ∃ T0, t % 10 = T0 := ⟨_, rfl⟩
            obtain ⟨T1, hT1⟩ : ∃ T1, t / 10 = T1 := ⟨_, rfl⟩
            rw [hT0, hT1] at g3
            rw [hT1] at g2
            have HE := Lib.hid g3
            have q1 : ((j + 1 : Nat) : Int) - 1 = (j : Int) := by omega
            have q2 : (j : Int) + 1 - 1 = (j : Int) := by omega
            have e1 : IntKind.u64.wrap ((left : Int) * 4294967296) = (left : Int) * 4294967296 := by rw [IntKind.wrap_u64]; omega
            have qt : (left : Int) * 4294967296 + (x : Int) = (t : Int) := by omega
            have e2 : IntKind.u64.wrap (t : Int) = (t : Int) := by rw [IntKind.wrap_u64]; omega
            have qT1 : (t : Int) / 10 = (T1 : Int) := by omega
            have qT1' : (t : Int).tdiv 10 = (T1 : Int) := by rw [Int.tdiv_eq_ediv_of_nonneg (by omega)]; exact qT1
            have qT0 : (t : Int) % 10 = (T0 : Int) := by omega
            have qT0' : (t : Int).tmod 10 = (T0 : Int) := by rw [Int.tmod_eq_emod_of_nonneg (by omega)]; exact qT0
            have hT09 : T0 ≤ 9 := by omega
            have hjn : j < n := by omega
            have hcz := hown.cellAt j (by omega)
            rw [cu_get (by have := hown.num; omega)] at hcz
            have hfz := hown.frozenAt j
            clear g3 hc hxk ht hT0 hT1 HT
            go_wp2_with fail
            go_roundw
            case rel =>
              obtain ⟨h1, _⟩ := hown.stored j (u64 T1)
              rw [cu_set] at h1
              exact ⟨j, T0, _, by omega, hT09, by go_num, by go_num, u.setCell (p := ⟨wo.heap.size, j, none⟩) (Nat.le_refl _) _, by rw [show (wr.setCell ⟨wo.heap.size, j, none⟩ (u64 T1)).heap.size = wr.heap.size by simp [World.setCell]]; exact hq, h1, HE⟩
            case measure => simp [intOf] <;> omega
    · have hn00 : n = 0 := by omega
      have hc0 : cur = 0 := hn0.1 hn00
      have hNpos : 0 < N := by omega
      obtain ⟨g0, rfl⟩ := hA2 hNpos
      subst hn00
      have hI := HI.out
      rw [hc0] at hI
      have hrev := hI.fin (by intro e; rw [e] at hN; simp at hN; omega)
      have HREV := Lib.hid hrev
      obtain ⟨H, hH⟩ : ∃ H, N / 2 = H := ⟨_, rfl⟩
      have q1 : (N : Int) / 2 = (H : Int) := by omega
      have q2 : (N : Int).tdiv 2 = (H : Int) := by rw [Int.tdiv_eq_ediv_of_nonneg (by omega)]; exact q1
      have hHN : 2 * H ≤ N := by omega
      have HH := Lib.hid hH
      have hrv := Lib.hid (M.Rv.start bs)
      have hng : ¬ 0 < 0 := by omega
      have own : wo.ownsRow w.heap.size 5 1 (.slice (some ⟨g0, 0, none⟩) N c2) N (Lib.byteCells bs) := by
        have := by_
        rw [By, hN] at this
        exact this
      have hN0 : ((N : Int) == 0) = false := by rw [beq_eq_false_iff_ne]; omega
      clear hI hrev hgo hn0 hwd hhs hv hnm hns by_ hH HI hL hbl hN hg hc0 hA2
      go_wp2_with fail
      go_loopw [8] (fun iv wr => ∃ (i : Nat) (cu8 : List UInt8), i ≤ H ∧ iv = .int .i64 i ∧ Up w wr ∧ wr.ownsRow w.heap.size 5 1 (.slice (some ⟨g0, 0, none⟩) N c2) N (Lib.byteCells cu8) ∧ Hid (M.Rv bs i cu8)) (fun iv _ => H - (intOf iv).toNat)
      case atStart => exact ⟨0, bs, by omega, rfl, U, own, hrv⟩
      case round =>
        obtain ⟨i, cu8, hi, rfl, U2, own2, HR⟩ := hrel
        clear own hrv U
        have hcl : cu8.length = N := by rw [HR.out.1]; exact HN.out
        by_cases hlt : i < H
        · obtain ⟨K, hK⟩ : ∃ K, N - 1 - i = K := ⟨_, rfl⟩
          obtain ⟨X, hX⟩ : ∃ X, cu8.getD i 0 = X := ⟨_, rfl⟩
          obtain ⟨Y, hY⟩ : ∃ X, cu8.getD K 0 = X := ⟨_, rfl⟩
          have hst := HR.out.step (by rw [HN.out, HH.out]; exact hlt)
          rw [HN.out, hK, hX, hY] at hst
          have HST := Lib.hid hst
          have r1 : (N : Int) - 1 - (i : Int) = (K : Int) := by omega
          have c1 := own2.cellAt i (by omega)
          have c2' := own2.cellAt K (by omega)
          rw [bc_get (by omega), hX] at c1
          rw [bc_get (by omega), hY] at c2'
          have f1 := own2.frozenAt i
          have f2 := own2.frozenAt K
          have hiK : ¬ i = K := by omega
          have hKi : ¬ K = i := by omega
          have hKN : K < N := by omega
          have hiN : i < N := by omega
          have HCL := Lib.hid hcl
          clear hK hX hY hst hcl
          go_wp2_with fail
          go_roundw
          case rel =>
            obtain ⟨k1, _⟩ := own2.stored i (.int .u8 (Y.toNat : Int))
            obtain ⟨k2, _⟩ := k1.stored K (.int .u8 (X.toNat : Int))
            rw [bc_set, bc_set] at k2
            have hgb : w.heap.size ≤ g0 := (World.ownsRow.lt own2 g0 (by simp [Value.ownBlock])).1
            exact ⟨i + 1, _, by omega, by go_num, (U2.setCell (p := ⟨g0, i, none⟩) hgb _).setCell (p := ⟨g0, K, none⟩) hgb _, k2, HST⟩
          case measure => simp [intOf] <;> omega
        · have hfin := HR.out.fin (by rw [HN.out, HH.out]; omega)
          have hcu : cu8 = Lib.decDigits a := by rw [hfin, HREV.out]
          have hby : By wr w.heap.size (.slice (some ⟨g0, 0, none⟩) N c2) cu8 := by rw [By, hcl]; exact own2
          have hcv := conv_bytes hby (by rw [hcl]; exact hNpos)
          rw [hcu, HS.out] at hcv
          clear hfin hcu hcl hby
          go_wp2_with fail
          go_ret
          exact ⟨rfl, U2⟩
end Go.Proofs.YtkhnobogaiaogaaGreatDoor
