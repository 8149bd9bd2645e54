/-
  The reference of layer 5: Join, wholly; which widths may be.
-/
import Derived.Test.YtngoglhjelcdgaaDoorPj
namespace Go.Proofs.YtngoglhjelcdgaaDoor
open Go.RowKit
set_option maxHeartbeats 8000000 in
set_option maxRecDepth 100000 in
theorem rjoin_neg (w : World) (n : Nat) (hn2 : 2 ≤ n) (hn : n ≤ 64) (g E F B : Nat) (R : Int) (hR : R = -(g : Int)) (h1g : 1 ≤ g) (hg : g ≤ 64) (hE : E ≤ 3) (hF : F < 18446744073709551616) (hB : B ≤ 64) :
    Calls Tryd.prog 15 #[.int .i64 ((n : Int) + 1), fdv R E F B] w (Jn n R E F B w) := by
  have d1 : decide ((n : Int) + 1 < 3) = false := decide_eq_false (by omega)
  have d2 : decide (65 < (n : Int) + 1) = false := decide_eq_false (by omega)
  have d3 : decide (64 < R) = false := decide_eq_false (by omega)
  have d4 : decide (R < -64) = false := decide_eq_false (by omega)
  have d5 : decide ((E : Int) < 0) = false := decide_eq_false (by omega)
  have d6 : decide (3 < (E : Int)) = false := decide_eq_false (by omega)
  have d7 : decide ((B : Int) < 0) = false := decide_eq_false (by omega)
  have d8 : decide (64 < (B : Int)) = false := decide_eq_false (by omega)
  obtain ⟨E1, hE1⟩ : ∃ E1, E / 2 = E1 := ⟨_, rfl⟩
  obtain ⟨E0, hE0⟩ : ∃ E0, E % 2 = E0 := ⟨_, rfl⟩
  have q1 : (E : Int).tdiv 2 = (E1 : Int) := by rw [Int.tdiv_eq_ediv_of_nonneg (by omega)]; omega
  have q2 : (E : Int).tmod 2 = (E0 : Int) := by rw [Int.tmod_eq_emod_of_nonneg (by omega)]; omega
  have q3 : (E : Int) / 2 = (E1 : Int) := by omega
  have q4 : (E : Int) % 2 = (E0 : Int) := by omega
  have b1 : E1 < 2 := by omega
  have b0 : E0 < 2 := by omega
  have HE1 := Lib.hid hE1
  have HE0 := Lib.hid hE0
  have HR := Lib.hid hR
  clear hE1 hE0 hR
  go_enter Tryd.func15, Tryd.ntmps15
  go_wp2_with fail
  obtain ⟨V, hV⟩ : ∃ V, w.alloc (.cells #[.int .i64 R, .int .i64 (E : Int), .int .u64 (F : Int), .int .i64 (B : Int)] 29) = V := ⟨_, rfl⟩
  have a : Ob V w.heap.size 29 #[.int .i64 R, .int .i64 (E : Int), .int .u64 (F : Int), .int .i64 (B : Int)] := by rw [← hV]; exact Ob.mk_ _ _ _
  have U : Up w V := by rw [← hV]; exact (Up.refl w).alloc _
  rw [hV]
  clear hV
  have a0 := a.get 0
  have a1 := a.get 1
  have a2 := a.get 2
  have a3 := a.get 3
  simp only [List.getElem?_toArray, List.getElem?_cons_zero, List.getElem?_cons_succ] at a0 a1 a2 a3
  have d0 : decide (0 ≤ R) = false := decide_eq_false (by have := HR.out; omega)
  have d10 : decide (R < 0) = true := decide_eq_true (by have := HR.out; omega)
  go_loop [6, 7] (fun sv iv => sv = .string ⟨#[]⟩ ∧ iv = .int .i64 0) (fun _ _ => 0)
  case atStart => exact ⟨rfl, rfl⟩
  case round =>
    obtain ⟨rfl, rfl⟩ := hrel
    go_wp2_with fail
    go_loop [6, 8] (fun sv iv => ∃ (i : Nat) (s : ByteArray), sv = .string s ∧ iv = .int .i64 (-(i : Int)) ∧ i ≤ g ∧ St s (List.replicate i 0)) (fun _ iv => g - (-(intOf iv)).toNat)
    case atStart => exact ⟨0, _, rfl, rfl, by omega, St.nil⟩
    case round =>
      obtain ⟨i, s, rfl, rfl, hi, hs⟩ := hrel
      have hsz : s.size = i := by rw [hs.size]; simp
      rcases (show i < g ∨ i = g by omega) with hlt | rfl
      · have d9 : decide (R < -(i : Int)) = true := decide_eq_true (by have := HR.out; omega)
        have HS2 : Hid (St (s ++ ⟨#[48]⟩) (List.replicate (i + 1) 0)) := by rw [Hid, List.replicate_succ']; exact hs.app St.zero
        clear hs
        go_wp2_with fail
        go_round
        case rel => exact ⟨i + 1, _, rfl, by go_num, by omega, HS2.out⟩
        case measure => simp [intOf]; omega
      · have d9 : decide (R < -(i : Int)) = false := decide_eq_false (by have := HR.out; omega)
        have hs1 : St (s ++ ⟨#[49]⟩) (M.lead R) := by
          have h := hs.app St.one
          unfold M.lead
          rw [if_neg (by have := HR.out; omega), show (-R).toNat = i by have := HR.out; omega]
          exact h
        have HS1 := Lib.hid hs1
        have hl1 : (s ++ ⟨#[49]⟩ : ByteArray).size ≤ 66 := by rw [ByteArray.size_append, hsz]; have : (⟨#[49]⟩ : ByteArray).size = 1 := rfl; omega
        obtain ⟨s1, hs1'⟩ : ∃ s1, s ++ ⟨#[49]⟩ = s1 := ⟨_, rfl⟩
        rw [hs1'] at HS1 hl1
        clear hs hs1 hi
        obtain ⟨S2, hS2⟩ : ∃ S2, dg2 E1 E0 = S2 := ⟨_, rfl⟩
        have hc2 := bit2_up V _ E1 E0 (by omega) (by omega) S2 hS2 (48 + (E1 : Int)) (48 + (E0 : Int)) rfl rfl (Up.refl _)
        have HST2 : Hid (St S2 [E / 2, E % 2]) := by rw [Hid, HE1.out, HE0.out, ← hS2]; exact St.dg2 b1 b0
        have hz2 : S2.size = 2 := by rw [← hS2]; rfl
        clear hS2
        obtain ⟨V2, hV2⟩ : ∃ V2, V.alloc (.cells #[.int .u8 (48 + (E1 : Int)), .int .u8 (48 + (E0 : Int))] 5) = V2 := ⟨_, rfl⟩
        have U2 : Up w V2 := by rw [← hV2]; exact U.alloc _
        have aa := a.up (show Up V V2 by rw [← hV2]; exact (Up.refl V).alloc _)
        rw [hV2] at hc2
        have c0 := aa.get 0
        have c1 := aa.get 1
        have c2 := aa.get 2
        have c3 := aa.get 3
        simp only [List.getElem?_toArray, List.getElem?_cons_zero, List.getElem?_cons_succ] at c0 c1 c2 c3
        go_wp2_with fail
        clear hV2 hc2
        go_loopw [9, 10, 11] (fun sv kv iv wr => ∃ (i y : Nat) (s : ByteArray), i ≤ B ∧ kv = .int .u64 (y : Int) ∧ sv = .string s ∧ iv = .int .i64 (i : Int) ∧ St s (M.bl i F) ∧ Up V2 wr ∧ Hid (y = F / 2 ^ i)) (fun _ _ iv _ => B - (intOf iv).toNat)
        case atStart => exact ⟨0, F, _, by omega, rfl, rfl, rfl, St.nil, Up.refl _, by show _ = _; simp⟩
        case round =>
          obtain ⟨i, y, T, hi, rfl, rfl, rfl, HS, U4, HY⟩ := hrel
          have HS2 := Lib.hid HS
          have hsz : T.size ≤ 64 := by rw [HS.size, M.bl_len]; omega
          have hyb : y < 18446744073709551616 := by rw [HY.out]; exact Nat.lt_of_le_of_lt (Nat.div_le_self _ _) hF
          have a3' := (aa.up U4).get 3
          simp only [List.getElem?_toArray, List.getElem?_cons_zero, List.getElem?_cons_succ] at a3'
          by_cases hlt : i < B
          · obtain ⟨b, hb⟩ : ∃ b, y % 2 = b := ⟨_, rfl⟩
            obtain ⟨y', hy'⟩ : ∃ y', y / 2 = y' := ⟨_, rfl⟩
            have q1 : (y : Int) % 2 = (b : Int) := by omega
            have q2 : (y : Int) / 2 = (y' : Int) := by omega
            have q3 : b < 2 := by omega
            obtain ⟨S, hS⟩ : ∃ S, dg b = S := ⟨_, rfl⟩
            have hst : St S [b] := by rw [← hS]; exact St.dg q3
            have hc := bit_up wr _ b (by omega) S hS (48 + (b : Int)) rfl (Up.refl _)
            have hS1 : S.size = 1 := hst.size
            have HY2 : Hid (y' = F / 2 ^ (i + 1)) := by
              show _ = _
              rw [← hy', HY.out, Nat.pow_succ, Nat.div_div_eq_div_mul]
            have HN : Hid (St (S ++ T) (M.bl (i + 1) F)) := by
              have h1 := hst.app (HS2.out)
              have h2 := M.bl_app i 1 F
              rw [Nat.add_comm 1 i] at h2
              have h3 : M.bl 1 (F / 2 ^ i) = [b] := by rw [← HY.out]; simp [M.bl, hb]
              show St _ _
              rw [h2, h3]
              exact h1
            clear HS hS hst HY hb hy'
            go_wp2_with fail
            go_roundw
            case rel => exact ⟨i + 1, y', S ++ T, hlt, rfl, rfl, by go_num, HN.out, U4.alloc _, HY2⟩
            case measure => simp [intOf]; omega
          · obtain rfl : i = B := by omega
            have U5 := U2.trans U4
            rcases Nat.eq_zero_or_pos y with y0 | y0
            · subst y0
              have hFB : F < 2 ^ i := (Nat.div_eq_zero_iff_lt (M.p2 i)).1 HY.out.symm
              have HL : Hid (St (s1 ++ S2 ++ T) (M.jl R E F i)) := by
                have h := (HS1.out.app HST2.out).app HS2.out
                rw [List.append_assoc] at h
                exact h
              obtain ⟨L1, hL1⟩ : ∃ L, s1 ++ S2 = L := ⟨_, rfl⟩
              obtain ⟨L, hL⟩ : ∃ L, L1 ++ T = L := ⟨_, rfl⟩
              rw [hL1, hL] at HL
              have hL1z : L1.size ≤ 68 := by rw [← hL1, ByteArray.size_append]; omega
              clear HS HY hlt hi
              rcases (show L.size < n ∨ n ≤ L.size by omega) with hsn | hsn
              · have HN : Hid (∀ k', ¬ M.IsF n k' R E F i) := fun k' hk => by
                  have := hk.key.1
                  rw [← HL.out.size] at this
                  omega
                go_wp2_with fail
                go_ret2
                exact Jn.none U5 HN.out
              · have HX := HL.out.ext 0 n hsn
                rw [List.drop_zero, Nat.sub_zero] at HX
                have hlen : ((M.jl R E F i).take n).length = n := by rw [List.length_take, ← HL.out.size]; omega
                obtain ⟨k, hk⟩ : ∃ k, M.vl ((M.jl R E F i).take n) = k := ⟨_, rfl⟩
                have hkn : k < 2 ^ n := by
                  have h1 := M.vl_lt (l := (M.jl R E F i).take n) (fun b hb => HL.out.two b (List.mem_of_mem_take hb))
                  rwa [hlen, hk] at h1
                have n64 : 2 ^ n ≤ 18446744073709551616 := M.p2le (b := 64) hn
                have hk64 : k < 18446744073709551616 := by omega
                have CN := Lib.hid (fun W => rnum_any W _ _ HX (by rw [hlen]; exact hn) k (Lib.hid hk))
                have HK : Hid (∀ k', M.IsF n k' R E F i → k = k') := fun k' h => by rw [← hk]; exact h.key.2
                clear HX hlen n64 hk
                rcases Nat.eq_zero_or_pos k with k0 | k0
                · subst k0
                  have CS := Lib.hid (fun W => rsplit_out W ((n : Int) + 1) 0 (by decide) (.inr (.inr (.inl rfl))))
                  have HN : Hid (∀ k', ¬ M.IsF n k' R E F i) := fun k' h => by have := HK.out k' h; have := h.rng hn; omega
                  go_wp2_with fail
                  refine (CN.out _).mono ?_
                  rintro _ _ ⟨rfl, rfl⟩
                  go_wp2_with fail
                  refine (CS.out _).mono ?_
                  rintro _ w9 ⟨rfl, u9⟩
                  have U9 := U5.trans u9
                  go_wp2_with fail
                  obtain ⟨VF, hVF⟩ : ∃ VF, w9.alloc (.cells #[.int .i64 0, .int .i64 0, .int .u64 0, .int .i64 0] 29) = VF := ⟨_, rfl⟩
                  have z := Ob.mk_ w9 29 #[.int .i64 0, .int .i64 0, .int .u64 0, .int .i64 0]
                  have af := ((aa.up U4).up u9).up (show Up w9 VF by rw [← hVF]; exact (Up.refl w9).alloc _)
                  have UF : Up w VF := by rw [← hVF]; exact U9.alloc _
                  rw [hVF] at z ⊢
                  clear hVF U9
                  have z0 := z.get 0
                  have z1 := z.get 1
                  have z2 := z.get 2
                  have z3 := z.get 3
                  have f0 := af.get 0
                  have f1 := af.get 1
                  have f2 := af.get 2
                  have f3 := af.get 3
                  simp only [List.getElem?_toArray, List.getElem?_cons_zero, List.getElem?_cons_succ] at z0 z1 z2 z3 f0 f1 f2 f3
                  go_quiet (fail)
                  go_wp2_with fail
                  go_ret2
                  exact ⟨0, false, rfl, by first | exact UF | exact UF.drewN _, by decide, (fun h => by cases h), fun k' h => absurd h (HN.out k')⟩
                · obtain ⟨R', r', q', hP⟩ := M.ps_ex hn2 k0 hkn
                  obtain ⟨E', hE'⟩ : ∃ x, M.ex r' q' = x := ⟨_, rfl⟩
                  obtain ⟨F', hF'⟩ : ∃ x, M.fr r' q' = x := ⟨_, rfl⟩
                  obtain ⟨B', hB'⟩ : ∃ x : Int, ((r' - 2 : Nat) : Int) = x := ⟨_, rfl⟩
                  have CS := Lib.hid (fun W => rsplit_in W n k r' q' R' hn hP E' F' B' (Lib.hid hE') (Lib.hid hF') (Lib.hid hB'))
                  go_wp2_with fail
                  refine (CN.out _).mono ?_
                  rintro _ _ ⟨rfl, rfl⟩
                  go_wp2_with fail
                  refine (CS.out _).mono ?_
                  rintro _ w9 ⟨rfl, u9⟩
                  have U9 := U5.trans u9
                  go_wp2_with fail
                  obtain ⟨VF, hVF⟩ : ∃ VF, w9.alloc (.cells #[.int .i64 R', .int .i64 (E' : Int), .int .u64 (F' : Int), .int .i64 B'] 29) = VF := ⟨_, rfl⟩
                  have z := Ob.mk_ w9 29 #[.int .i64 R', .int .i64 (E' : Int), .int .u64 (F' : Int), .int .i64 B']
                  have af := ((aa.up U4).up u9).up (show Up w9 VF by rw [← hVF]; exact (Up.refl w9).alloc _)
                  have UF : Up w VF := by rw [← hVF]; exact U9.alloc _
                  rw [hVF] at z ⊢
                  clear hVF U9
                  have z0 := z.get 0
                  have z1 := z.get 1
                  have z2 := z.get 2
                  have z3 := z.get 3
                  have f0 := af.get 0
                  have f1 := af.get 1
                  have f2 := af.get 2
                  have f3 := af.get 3
                  simp only [List.getElem?_toArray, List.getElem?_cons_zero, List.getElem?_cons_succ] at z0 z1 z2 z3 f0 f1 f2 f3
                  have HU : Hid (∀ k', M.IsF n k' R E F i → R' = R ∧ E' = E ∧ F' = F ∧ B' = (i : Int)) := fun k' h => by
                    have e := HK.out k' h
                    subst e
                    obtain ⟨r, q, h1, h2, h3, h4⟩ := h
                    obtain ⟨a1, a2, a3⟩ := M.ps_uniq hP h1
                    subst a2 a3
                    refine ⟨a1, by omega, by omega, by omega⟩
                  have HI : Hid (R' = R → E' = E → F' = F → B' = (i : Int) → M.IsF n k R E F i) := fun e1 e2 e3 e4 => by
                    subst e1
                    exact ⟨r', q', hP, by rw [hE', e2], by rw [hF', e3], by rw [hB', e4]⟩
                  clear hP hE' hF' hB' HK
                  rcases (show R' ≠ R ∨ (R' = R ∧ E' ≠ E) ∨ (R' = R ∧ E' = E ∧ F' ≠ F) ∨ (R' = R ∧ E' = E ∧ F' = F ∧ B' ≠ (i : Int)) ∨ (R' = R ∧ E' = E ∧ F' = F ∧ B' = (i : Int)) by omega) with hne | ⟨rfl, hne⟩ | ⟨rfl, rfl, hne⟩ | ⟨rfl, rfl, rfl, hne⟩ | ⟨rfl, rfl, rfl, rfl⟩
                  · have e1 : (R' == R) = false := by rw [beq_eq_false_iff_ne]; exact hne
                    go_quiet (fail)
                    go_wp2_with fail
                    go_ret2
                    exact ⟨k, false, rfl, by first | exact UF | exact UF.drewN _, hk64, (fun h => by cases h), fun k' h => absurd (HU.out k' h) (by intro hh; omega)⟩
                  · have e2 : ((E' : Int) == (E : Int)) = false := by rw [beq_eq_false_iff_ne]; omega
                    go_quiet (fail)
                    go_wp2_with fail
                    go_ret2
                    exact ⟨k, false, rfl, by first | exact UF | exact UF.drewN _, hk64, (fun h => by cases h), fun k' h => absurd (HU.out k' h) (by intro hh; omega)⟩
                  · have e3 : ((F' : Int) == (F : Int)) = false := by rw [beq_eq_false_iff_ne]; omega
                    go_quiet (fail)
                    go_wp2_with fail
                    go_ret2
                    exact ⟨k, false, rfl, by first | exact UF | exact UF.drewN _, hk64, (fun h => by cases h), fun k' h => absurd (HU.out k' h) (by intro hh; omega)⟩
                  · have e4 : (B' == (i : Int)) = false := by rw [beq_eq_false_iff_ne]; exact hne
                    go_quiet (fail)
                    go_wp2_with fail
                    go_ret2
                    exact ⟨k, false, rfl, by first | exact UF | exact UF.drewN _, hk64, (fun h => by cases h), fun k' h => absurd (HU.out k' h) (by intro hh; omega)⟩
                  · have HI2 := Lib.hid (HI.out rfl rfl rfl rfl)
                    clear HI HU
                    go_quiet (fail)
                    go_wp2_with fail
                    go_ret2
                    exact ⟨k, true, rfl, by first | exact UF | exact UF.drewN _, hk64, (fun _ => HI2.out), fun k' h => ⟨rfl, M.isf_uniq HI2.out h⟩⟩
            · have HN : Hid (∀ k', ¬ M.IsF n k' R E F i) := fun k' hk => by
                have h1 := (hk.rng hn).2.2.2.2.2.2.2.2
                rw [Int.toNat_natCast] at h1
                have h2 := (Nat.div_eq_zero_iff_lt (M.p2 i)).2 h1
                have := HY.out
                omega
              have y1 : ((y : Int) != 0) = true := by rw [bne_iff_ne]; omega
              clear HS HY hlt hi
              go_wp2_with fail
              go_ret2
              exact Jn.none U5 HN.out
theorem rjoin_any (w : World) (n : Nat) (hn2 : 2 ≤ n) (hn : n ≤ 64) (R E : Int) (F : Nat) (B : Int) (hF : F < 18446744073709551616) :
    Calls Tryd.prog 15 #[.int .i64 ((n : Int) + 1), fdv R E F B] w (Jn n R E F B w) := by
  by_cases h : 64 < R ∨ R < -64 ∨ E < 0 ∨ 3 < E ∨ B < 0 ∨ 64 < B
  · exact rjoin_wide w n hn2 hn R E F B h
  · obtain ⟨e, rfl⟩ := Int.eq_ofNat_of_zero_le (show 0 ≤ E by omega)
    obtain ⟨b, rfl⟩ := Int.eq_ofNat_of_zero_le (show 0 ≤ B by omega)
    rcases (show 0 ≤ R ∨ R < 0 by omega) with h0 | h0
    · exact rjoin_nonneg w n hn2 hn R.toNat e F b R (by omega) (by omega) (by omega) hF (by omega)
    · exact rjoin_neg w n hn2 hn (-R).toNat e F b R (by omega) (by omega) (by omega) (by omega) hF (by omega)
set_option maxHeartbeats 2000000 in
set_option maxRecDepth 100000 in
theorem rjoin_out (w : World) (wd : Int) (h : wd < 3 ∨ 65 < wd) (R E : Int) (F : Nat) (B : Int) :
    Calls Tryd.prog 15 #[.int .i64 wd, fdv R E F B] w (fun e w' => e = .returned (.tuple #[u64 0, .bool false]) ∧ Up w w') := by
  rcases (show wd < 3 ∨ (¬ wd < 3 ∧ 65 < wd) by omega) with h1 | ⟨h0, h1⟩
  · have d1 : decide (wd < 3) = true := decide_eq_true h1
    clear h
    go_enter Tryd.func15, Tryd.ntmps15
    go_wp2_with fail
    go_ret2
    exact ⟨rfl, (Up.refl w).alloc _⟩
  · have d1 : decide (wd < 3) = false := decide_eq_false h0
    have d2 : decide (65 < wd) = true := decide_eq_true h1
    clear h
    go_enter Tryd.func15, Tryd.ntmps15
    go_wp2_with fail
    go_ret2
    exact ⟨rfl, (Up.refl w).alloc _⟩
set_option maxHeartbeats 1000000 in
theorem rfits5_any (w : World) (wd : Int) (z : Int) (hz : Hid ((if wd < 3 ∨ 65 < wd then 1 else 0) = z)) : Calls Tryd.prog 19 #[.int .i64 wd] w (Same (.int .i64 z) w) := by
  rcases (show wd < 3 ∨ (¬ wd < 3 ∧ 65 < wd) ∨ (¬ wd < 3 ∧ ¬ 65 < wd) by omega) with h1 | ⟨h0, h1⟩ | ⟨h0, h1⟩
  · have d1 : decide (wd < 3) = true := decide_eq_true h1
    obtain rfl : 1 = z := by rw [← hz.out, if_pos (.inl h1)]
    clear hz
    go_enter Tryd.func19, Tryd.ntmps19
    go_wp2_with fail
    go_ret
    exact ⟨rfl, rfl⟩
  · have d1 : decide (wd < 3) = false := decide_eq_false h0
    have d2 : decide (65 < wd) = true := decide_eq_true h1
    obtain rfl : 1 = z := by rw [← hz.out, if_pos (.inr h1)]
    clear hz
    go_enter Tryd.func19, Tryd.ntmps19
    go_wp2_with fail
    go_ret
    exact ⟨rfl, rfl⟩
  · have d1 : decide (wd < 3) = false := decide_eq_false h0
    have d2 : decide (65 < wd) = false := decide_eq_false h1
    obtain rfl : 0 = z := by rw [← hz.out, if_neg (by omega)]
    clear hz
    go_enter Tryd.func19, Tryd.ntmps19
    go_wp2_with fail
    go_ret
    exact ⟨rfl, rfl⟩
end Go.Proofs.YtngoglhjelcdgaaDoor
