import Derived.Test.YtijpffgocookaaaGreatDoorQWWi
import Derived.Test.YtijpffgocookaaaGreatDoorQWQb
import Derived.Test.YtijpffgocookaaaGreatDoorQWYe
import Derived.Test.YtijpffgocookaaaGreatDoorQWZda
set_option maxHeartbeats 32000000
set_option linter.unusedVariables false
set_option linter.unusedSimpArgs false
namespace Go.Proofs.YtijpffgocookaaaGreatDoor
open Go.RowKit Go.Shelf
theorem Nt.nil_iq {w : World} {lo s : Nat} {A : Option Addr} {n c a : Nat} (h : Nt w lo s (.slice A n c) a) : n = 0 ↔ a = 0 := by
 obtain ⟨A', n', c', xs, e, h1, h2, h3, h4⟩ := h
 cases e
 subst h2
 constructor
 ·intro e
  rw [List.eq_nil_of_length_eq_zero (h1.num.trans e)]; rfl
 ·intro e
  rw [← h1.num, M.val_zero h4 e]; rfl
theorem Nt.lt_s {w : World} {lo s : Nat} {v : Value} {a : Nat} (h : Nt w lo s v a) : a < 18446744073709551616 ^ s := by
 obtain ⟨A, n, c, xs, _, h1, h2, h3, _⟩ := h
 have := M.val_lt h1.wds
 rw [h2, h1.num] at this
 exact Nat.lt_of_lt_of_le this (Nat.pow_le_pow_right (by decide) h3)
theorem M.bq_word {l : List Bool} (h : l.length ≤ 1024) : M.bq l < 18446744073709551616 ^ 20 := by
 refine Nat.lt_of_lt_of_le (M.bq_lt l) ?_
 obtain ⟨K, hK⟩ : ∃ K, 64 * 20 = K := ⟨_, rfl⟩
 rw [show (18446744073709551616 : Nat) = 2 ^ 64 by decide, ← Nat.pow_mul, hK]
 exact Nat.pow_le_pow_right (by decide) (by omega)
def Xrq (neg : Bool) (s a : Nat) (t f : Int) (w : World) (e : Ending) (w' : World) : Prop := ∃ v, e = .returned (.agg #[.bool neg, v, .int .i64 t, .int .i64 f]) ∧ Nt w' w.heap.size s v a ∧ Up w w'
set_option maxRecDepth 100000 in
theorem value15_any {q i b : Nat} {w : World} {F : Nat → Prop} (h : Rqt q i b w F) (s : Bool) (N : Nat) (t k : Int) (hv : M.Qv i b s N t k) :
    Calls Tryz.prog 36 #[ptr q] w (Xrq s 20 N t k w) := by
  obtain ⟨⟨i1, i2⟩, A, c, l, hq, hr, hbl, hne, _⟩ := h
  subst hbl
  have BND := Lib.hid (M.qv_bnd i1 i2 (b := M.bq l) (by rw [← hr.num]; exact M.bq_lt l) hv)
  obtain ⟨_, w8, w64, s1, s2, sW, _⟩ := M.q_facts i1 i2
  have hl := hr.num
  have LOW := Lib.hid (fun lw => M.qv_low i1 i2 hl hv (lw := lw))
  obtain ⟨S, hS⟩ : ∃ S, M.qS i = S := ⟨_, rfl⟩
  obtain ⟨Wd, hWd⟩ : ∃ Wd, (M.tb i).W = Wd := ⟨_, rfl⟩
  obtain ⟨Z, hZ⟩ : ∃ Z, M.qz i = Z := ⟨_, rfl⟩
  have zW : Z = 16 - 8 * Wd := by rw [← hZ, ← hWd]; rfl
  rw [hS, hZ] at LOW
  rw [hS] at hr hq hl s1 s2 sW
  obtain ⟨f, hf⟩ : ∃ f : Int, (i : Int) = f := ⟨_, rfl⟩
  rw [hf] at hq
  clear hf hne
  rw [hWd] at hq w8 w64 sW
  clear hS hWd hZ hv i1 i2
  have SW := Lib.hid sW
  have ZW := Lib.hid zW
  clear sW zW
  obtain ⟨bb, oo, rfl, _⟩ := hr.form (by omega)
  obtain ⟨T, hT⟩ : ∃ T, S - 1 = T := ⟨_, rfl⟩
  have q1 : (S : Int) - 1 = (T : Int) := by omega
  have hTS : T < S := by omega
  obtain ⟨x, hx⟩ : ∃ x, l.getD T false = x := ⟨_, rfl⟩
  have HL1 : Hid (M.mag15 S l = if x = true then M.tqn false l else l) := by
    show _ = _
    unfold M.mag15; rw [hT, hx]
  rw [hT, hx] at LOW
  have b1 := hr.len
  have hq0 := hq.up ((Up.refl w).alloc (.cells #[.bool false, .slice none 0 0, .int .i64 0, .int .i64 0] 34))
  have hr0 := hr.up ((Up.refl w).alloc (.cells #[.bool false, .slice none 0 0, .int .i64 0, .int .i64 0] 34))
  have R := Ob.mk_ w 34 #[.bool false, .slice none 0 0, .int .i64 0, .int .i64 0]
  have U : Up w (w.alloc (.cells #[.bool false, .slice none 0 0, .int .i64 0, .int .i64 0] 34)) := (Up.refl w).alloc _
  obtain ⟨V, hV⟩ : ∃ V, w.alloc (.cells #[.bool false, .slice none 0 0, .int .i64 0, .int .i64 0] 34) = V := ⟨_, rfl⟩
  have sV := Lib.hid (show V.heap.size = w.heap.size + 1 by rw [← hV]; exact Array.size_push _)
  rw [hV] at hq0 hr0 R U
  have CT := Lib.hid (fun W (u : Up V W) => turned15_any W 0 _ S c l (hr0.up u) (by omega))
  have c2 := hq0.get 2
  have hc := hr0.cell hTS
  rw [hx] at hc
  simp only [M.z7, M.z8, M.z9] at c2
  clear hx hT
  go_enter Tryz.func36, Tryz.ntmps36
  go_upto_region 1 with fail
  clear hV
  go_wp2_with fail
  go_region
  all_goals
    clear hc
    rcases (show x = true ∨ x = false by cases x <;> simp) with rfl | rfl
  all_goals go_wp2_with fail
  all_goals first
    | (refine (CT.out _ ((Up.refl _).drew)).mono ?_
       rintro _ w1 ⟨B, c1, rfl, R1, u1⟩
       replace u1 : Up V w1 := Up.trans ((Up.refl _).drew) u1
       have e1 : (M.tqn false l).length = S := by rw [M.tqn_len, hl]
       rw [e1] at R1 ⊢
       replace R1 := R1.lower (Nat.zero_le _)
       obtain ⟨L1, hL1⟩ : ∃ L1, M.tqn false l = L1 := ⟨_, rfl⟩
       rw [hL1] at R1 e1
       have HM : Hid (M.mag15 S l = L1) := by show _ = _; rw [HL1.out, hL1]; rfl
       obtain ⟨bc, oc, rfl, _⟩ := R1.form (by omega)
       clear hL1 HL1 CT c2
       go_wp2_with fail)
    | (have u1 : Up V V.drew := (Up.refl _).drew
       have R1 := hr0.up u1
       obtain ⟨L1, hL1⟩ : ∃ L1, l = L1 := ⟨_, rfl⟩
       have HM : Hid (M.mag15 S l = L1) := by show _ = _; rw [HL1.out, ← hL1]; rfl
       rw [hL1] at R1
       obtain ⟨bc, hbc⟩ : ∃ bc, bb = bc := ⟨_, rfl⟩
       obtain ⟨oc, hoc⟩ : ∃ oc, oo = oc := ⟨_, rfl⟩
       obtain ⟨c1, hc1⟩ : ∃ c1, c = c1 := ⟨_, rfl⟩
       have e1 : L1.length = S := by rw [← hL1, hl]
       generalize V.drew = w1 at u1 R1 ⊢
       rw [hbc, hoc, hc1] at R1 ⊢
       clear hL1 HL1 CT c2
       go_wp2_with fail)
  all_goals
    have b3 := R1.len
    go_loopw [5] (fun i wr => ∃ lw : Nat, lw ≤ S ∧ i = .int .i64 lw ∧ Up w1 wr ∧ Hid (∀ j, j < lw → L1.getD j false = false)) (fun i _ => S - (intOf i).toNat)
    case atStart => exact ⟨0, by omega, rfl, Up.refl _, fun j hj => by omega⟩
    case round =>
      obtain ⟨lw, hlw, rfl, u2, HZ⟩ := hrel
      by_cases hlt : lw < S
      · have hcl := (R1.up u2).cell hlt
        obtain ⟨y, hy⟩ : ∃ y, L1.getD lw false = y := ⟨_, rfl⟩
        rw [hy] at hcl
        have HY := Lib.hid hy
        clear hy
        rcases (show y = true ∨ y = false by cases y <;> simp) with rfl | rfl
        · have F := LOW.out lw hlw
          rw [HM.out] at F
          replace F := Lib.hid (F HZ.out (fun _ => HY.out))
          have CN := Lib.hid (number15_any wr 0 _ _ _ _ ((R1.up u2).drop hlw) (by omega))
          clear LOW
          go_wp2_with fail
          refine CN.out.mono ?_
          rintro _ w4 ⟨nv, rfl, N4, u4⟩
          obtain ⟨NA, nn, nc, rfl, N4⟩ := N4.slr
          have UU : Up V w4 := (u1.trans u2).trans u4
          have R4 := R.up UU
          have U4 : Up w w4 := U.trans UU
          have hq4 := hq0.up UU
          have cw := hq4.get 1
          simp only [M.z7, M.z8, M.z9] at cw
          have ni := N4.nil_iq
          have lR := Ob.lt R
          have z4 := U4.size
          have w4z := Nat.le_trans z4 (Nat.le_refl _)
          have N5 := N4.fit (k := 20) (M.bq_word (by rw [List.length_drop, e1]; omega))
          clear CN N4
          rcases F.out with ⟨e0, rfl, rfl, rfl, rfl⟩ | ⟨e0, hs, n5, kk, eN, et, ek⟩
          · have d1 : ((nn : Int) == 0) = true := by
              have := ni.2 e0
              simp [this]
            clear F ni e0
            go_wp2_with (refine store_ob2 rfl 34 (.tmp 2) (.tmp 58) rfl _ #[.bool false, .slice none 0 0, .int .i64 0, .int .i64 0] #[.bool false, .slice none 0 0, .int .i64 0, .int .i64 0] rfl rfl 4 (by kernel_rfl) rfl rfl (by simp [Value.oneCell']) w U4 (Nat.le_refl _) 34 R4 ?_; intro V9 Z9 U9 ho)
            obtain ⟨r0, r1, r2, r3⟩ := Z9.g4
            refine bodyPost_ret (v := .agg #[.bool false, .slice none 0 0, .int .i64 0, .int .i64 0]) (by simp [results, Tryz.results36, go_sem, r0, r1, r2, r3]) rfl ?_
            exact ⟨_, rfl, Nt.nil _ _ _, U9⟩
          · have d1 : ((nn : Int) == 0) = false := by
              have : nn ≠ 0 := fun e => e0 (ni.1 e)
              simpa using this
            obtain ⟨E8, hE8⟩ : ∃ E8 : Int, 8 * Wd = E8 := ⟨_, rfl⟩
            have bnd := BND.out
            have q7 : (16 : Int) - E8 = Z := by have := ZW.out; omega
            have q8 : Z + (lw : Int) = t := by omega
            have wE : -1000 ≤ E8 ∧ E8 ≤ 1000 := by omega
            have wZ : -1000 ≤ Z ∧ Z ≤ 1000 := by have := ZW.out; omega
            have wt : -1000 ≤ t ∧ t ≤ 1000 := by omega
            subst ek
            have HN := Lib.hid eN
            have HK := Lib.hid n5
            have HS2 := Lib.hid hs
            have kb : kk ≤ 600 := by omega
            have N6 := N5.lower (lo' := w.heap.size + 1) (by have := (u1.trans u2).size; have h3 := sV.out; simp at this ⊢; omega)
            have U4' := U4
            clear F ni e0 eN n5 hs N5 bnd et
            go_wp2_with fail
            clear cw hq4 R4 hE8
            go_loopw [6, 8, 9, 10] (fun nv kv fv rv wx => ∃ (j a : Nat) (XA : Option Addr) (xn xc : Nat), kv = .int .i64 (j : Int) ∧ nv = .slice XA xn xc ∧ Nt wx (w.heap.size + 1) 20 (.slice XA xn xc) a ∧ j ≤ kk ∧ Hid (a = N * 5 ^ (kk - j)) ∧ Up w4 wx) (fun _ kv _ _ _ => kk - (intOf kv).toNat)
            case atStart => exact ⟨0, _, NA, nn, nc, rfl, rfl, (by first | exact N6 | exact N6.up ((Up.refl _).drew) | exact N6.up ((Up.refl _).drewN _)), Nat.zero_le _, (by show _ = _; rw [Nat.sub_zero]; exact HN.out), (by first | exact Up.refl _ | exact (Up.refl _).drew | exact (Up.refl _).drewN _)⟩
            case round =>
              obtain ⟨j, a, XA, xn, xc, rfl, rfl, NX, hj, HE, ux⟩ := hrel
              go_wp2_with fail
              refine (rdiv_any _ _ _ 20 _ _ a 5 (NX.up (by first | exact Up.refl _ | exact (Up.refl _).drew | exact (Up.refl _).drewN _ | exact (Up.refl _).alloc _ | exact ((Up.refl _).drew).alloc _ | exact ((Up.refl _).drewN _).alloc _)).nw ((lit1n _ 5 5 rfl (by decide) (by decide)).nw.more (by decide)) (by decide) (by decide)).mono ?_
              rintro _ wd ⟨QA, qn, qc, RA, rn, rc, rfl, NQ, NR, ud⟩
              have uxd : Up wr wd := Up.trans (by first | exact Up.refl _ | exact (Up.refl _).drew | exact (Up.refl _).drewN _ | exact (Up.refl _).alloc _ | exact ((Up.refl _).drew).alloc _ | exact ((Up.refl _).drewN _).alloc _) ud
              have hsz : w.heap.size + 1 ≤ wd.heap.size := by
                have h1 := (U4'.trans ux).size
                have h2 := uxd.size
                have h3 := sV.out
                have h4 := (UU.trans ux).size
                omega
              by_cases hjk : j < kk
              · have hE := HE.out
                rw [show kk - j = (kk - (j + 1)) + 1 by omega, Nat.pow_succ, ← Nat.mul_assoc] at hE
                have m5 : a % 5 = 0 := by omega
                have d5 : Hid (a / 5 = N * 5 ^ (kk - (j + 1))) := Lib.hid (show a / 5 = N * 5 ^ (kk - (j + 1)) by omega)
                obtain rfl : rn = 0 := by
                  have := NR.nil_iq.2 m5
                  exact this
                have NY := (NQ.fit (k := 20) (Nat.lt_of_le_of_lt (Nat.div_le_self a 5) NX.lt_s)).lower (lo' := w.heap.size + 1) (by have h4 := (UU.trans ux).size; have h3 := sV.out; simp; omega)
                clear NR NQ NX hE m5 HE
                go_wp2_with fail
                go_roundw
                case rel => exact ⟨j + 1, _, QA, qn, qc, by go_num, rfl, (by first | exact NY | exact NY.up ((Up.refl _).drew) | exact NY.up ((Up.refl _).drewN _)), by omega, d5, (by first | exact ux.trans uxd | exact (ux.trans uxd).drew | exact (ux.trans uxd).drewN _)⟩
                case measure => simp [intOf]; omega
              · obtain rfl : j = kk := by omega
                have hE := HE.out
                rw [Nat.sub_self, Nat.pow_zero, Nat.mul_one] at hE
                subst hE
                have r0 : rn ≠ 0 := fun e => HK.out (NR.nil_iq.1 e)
                have r1 : 0 < rn := Nat.pos_of_ne_zero r0
                have r2 : decide ((rn : Int) > 0) = true := decide_eq_true (by omega)
                have NX2 := NX.up uxd
                have U9 := (U4.trans ux).trans uxd
                have R9 := R.up ((UU.trans ux).trans uxd)
                clear NR NQ NX HE r0
                go_wp2_with (refine store_ob2 rfl 34 _ _ rfl _ #[.bool false, .slice none 0 0, .int .i64 0, .int .i64 0] #[.bool _, .slice XA xn xc, .int .i64 t, .int .i64 (j : Int)] rfl rfl 4 (by kernel_rfl) rfl rfl (by simp [Value.oneCell']) w (by first | exact U9 | exact U9.drew | exact U9.drewN _) (Nat.le_refl _) 34 (by first | exact R9 | exact R9.up ((Up.refl _).drew) | exact R9.up ((Up.refl _).drewN _)) ?_; intro V9 Z9 U9 ho)
                obtain ⟨r0, r1, r2, r3⟩ := Z9.g4
                have r9 : V9.cell? ⟨w.heap.size, 0, none⟩ = some (.bool s) := by rw [HS2.out]; exact r0
                refine bodyPost_ret (v := .agg #[.bool s, .slice XA xn xc, .int .i64 t, .int .i64 (j : Int)]) (by simp [results, Tryz.results36, go_sem, r9, r1, r2, r3]) rfl ?_
                exact ⟨_, rfl, (Nt.other (g := w.heap.size) (by first | exact NX2 | exact NX2.up ((Up.refl _).drew) | exact NX2.up ((Up.refl _).drewN _)) ho (by omega)).lower (by omega), U9⟩
        · have HN : Hid (∀ j, j < lw + 1 → L1.getD j false = false) := fun j hj => by
            rcases Nat.lt_or_eq_of_le (Nat.le_of_lt_succ hj) with e | rfl
            · exact HZ.out j e
            · exact HY.out
          go_wp2_with fail
          go_roundw
          case rel => exact ⟨lw + 1, by omega, by go_num, u2, HN⟩
          case measure => simp [intOf]; omega
      · obtain rfl : lw = S := by omega
        have F := LOW.out lw hlw
        rw [HM.out] at F
        replace F := F HZ.out (fun e => absurd e hlt)
        have hd0 : L1.drop lw = [] := List.drop_of_length_le (by omega)
        rw [hd0] at F
        obtain ⟨_, rfl, rfl, rfl, rfl⟩ := F.resolve_right (fun e => e.1 rfl)
        have CN : Hid (∀ (ad : Option Addr) (cc : Nat), Calls Tryz.prog 31 #[.slice ad 0 cc] wr (Res ((0 + 63) / 64) 0 wr)) := Lib.hid (fun ad cc => number15_any wr 0 ad 0 cc [] (Rb.nil _ _ _ _) (by omega))
        clear LOW F hd0
        go_wp2_with fail
        all_goals
          refine (CN.out _ _).mono ?_
          rintro _ w4 ⟨nv, rfl, N4, u4⟩
          obtain ⟨NA, nn, nc, rfl, N4⟩ := N4.slr
          have UU : Up V w4 := (u1.trans u2).trans u4
          have R4 := R.up UU
          have U4 : Up w w4 := U.trans UU
          have hq4 := hq0.up UU
          have cw := hq4.get 1
          simp only [M.z7, M.z8, M.z9] at cw
          obtain rfl : nn = 0 := N4.nil_iq.2 rfl
          have lR := Ob.lt R
          have z4 := U4.size
          have w4z := Nat.le_trans z4 (Nat.le_refl _)
          clear CN N4
          go_wp2_with (refine store_ob2 rfl 34 (.tmp 2) (.tmp 58) rfl _ #[.bool false, .slice none 0 0, .int .i64 0, .int .i64 0] #[.bool false, .slice none 0 0, .int .i64 0, .int .i64 0] rfl rfl 4 (by kernel_rfl) rfl rfl (by simp [Value.oneCell']) w (by first | exact U4 | exact U4.drew | exact U4.drewN _) (Nat.le_refl _) 34 (by first | exact R4 | exact R4.up ((Up.refl _).drew)) ?_; intro V9 Z9 U9 ho)
          obtain ⟨r0, r1, r2, r3⟩ := Z9.g4
          refine bodyPost_ret (v := .agg #[.bool false, .slice none 0 0, .int .i64 0, .int .i64 0]) (by simp [results, Tryz.results36, go_sem, r0, r1, r2, r3]) rfl ?_
          exact ⟨_, rfl, Nt.nil _ _ _, U9⟩
set_option maxRecDepth 100000 in
theorem posit15_any {q i b : Nat} {w : World} {F : Nat → Prop} (h : Rqt q i b w F) (p : Int) (hp : M.Qp i b p) : Calls Tryz.prog 34 #[ptr q] w (fun e w' => e = .returned (.int .u64 p) ∧ Up w w') := by
 have HH := Lib.hid h
 have hb := (Rqt.rng h).2
 obtain ⟨⟨i1, i2⟩, A, c, l, hq, _⟩ := h
 have h14 := M.four14 i2
 obtain ⟨f, hf⟩ : ∃ f, M.tb i = f := ⟨_, rfl⟩
 have CO := Lib.hid (fun W => rof_in W i f (Lib.hid hf) i1 h14)
 have HQ := Lib.hid hq
 have U := Up.refl w
 clear hq
 have UPD : ∀ {W}, Up w W → Rqt q i b W F := fun u => (HH.out.stay u).1
 rcases hp with ⟨hn, rfl⟩ | ⟨hn, hr⟩
 ·have CN := Lib.hid (fun W (u : Up w W) => rnar15 (UPD u) true (decide_eq_true hn))
  have HX : Hid ((M.tb i).x = f.x) := Lib.hid (by rw [hf])
  clear hn hf hb UPD
  have Q1 := HQ.out
  have Q10 := Q1.get 0
  simp only [M.z7, M.z8, M.z9] at Q10
  go_enter Tryz.func34, Tryz.ntmps34
  go_wp2_with fail
  clear Q10 Q1
  refine (CO.out _).mono ?_
  rintro _ w1 ⟨rfl, u1⟩
  replace U := Up.trans (by first | exact U | exact U.drew | exact U.drewN _) u1
  clear u1
  go_upto_region 2 with fail
  obtain ⟨V, hV⟩ : ∃ V, w1.alloc (.cells #[.int .i64 f.k, .int .i64 f.W, .int .i64 f.m, .int .i64 f.b, .int .u64 f.t, .int .u64 f.n, .int .u64 f.x] 79) = V := ⟨_, rfl⟩
  have C : Bf V w1.heap.size 79 f := by rw [← hV]; exact Bf.mk_ _ _ _
  have uV : Up w1 V := Up.al hV
  rw [hV]
  clear hV
  replace U := U.trans uV
  clear uV
  go_wp2_with fail
  refine (CN.out _ (by first | exact U | exact U.drew | exact U.drewN _)).mono ?_
  rintro _ w2 ⟨rfl, u2⟩
  replace C := C.up (Up.trans (by first | exact Up.refl _ | exact (Up.refl _).drew | exact (Up.refl _).drewN _) u2)
  replace U := Up.trans (by first | exact U | exact U.drew | exact U.drewN _) u2
  clear u2
  obtain ⟨x0, x1, x2, x3, x4, x5, x6⟩ := Bf.cs C
  simp only [Nat.zero_add] at x1 x2 x3 x4 x5 x6
  go_wp2_with fail
  go_ret
  exact ⟨by have e := HX.out; simp [e], by first | exact U | exact U.drew | exact U.drewN _⟩
 ·obtain ⟨s, N, t, k, hv⟩ := M.qv_ex hb
  have e := M.qv_sz i1 i2 hv hn
  obtain ⟨bt, bk⟩ := M.qv_bnd i1 i2 hb hv
  have hs : s = decide (M.qn i ≤ b) := by
   rcases hv with ⟨rfl, rfl, _⟩ | ⟨_, h, _⟩
   ·have := M.qn_pos i; exact (decide_eq_false (by omega)).symm
   ·exact h
  rw [← e, ← hs] at hr
  have CN := Lib.hid (fun W (u : Up w W) => rnar15 (UPD u) false (decide_eq_false hn))
  have CV := Lib.hid (fun W (u : Up w W) => value15_any (UPD u) s N t k hv)
  have CR := Lib.hid (fun W lo v (N5 : Nt W lo 20 v N) => rround8_any W i f (Lib.hid hf) i1 h14 1 lo 20 s v t k N N5 (by omega) (by omega) (by omega) p (by rw [← hf]; exact hr))
  clear hn hf hb UPD hv e hs hr bt bk i1 i2 h14
  have Q1 := HQ.out
  have Q10 := Q1.get 0
  simp only [M.z7, M.z8, M.z9] at Q10
  go_enter Tryz.func34, Tryz.ntmps34
  go_wp2_with fail
  clear Q10 Q1
  refine (CO.out _).mono ?_
  rintro _ w1 ⟨rfl, u1⟩
  replace U := Up.trans (by first | exact U | exact U.drew | exact U.drewN _) u1
  clear u1 CO
  go_upto_region 2 with fail
  obtain ⟨V, hV⟩ : ∃ V, w1.alloc (.cells #[.int .i64 f.k, .int .i64 f.W, .int .i64 f.m, .int .i64 f.b, .int .u64 f.t, .int .u64 f.n, .int .u64 f.x] 79) = V := ⟨_, rfl⟩
  have uV : Up w1 V := Up.al hV
  rw [hV]
  clear hV
  replace U := U.trans uV
  clear uV
  go_wp2_with fail
  refine (CN.out _ (by first | exact U | exact U.drew | exact U.drewN _)).mono ?_
  rintro _ w2 ⟨rfl, u2⟩
  replace U := Up.trans (by first | exact U | exact U.drew | exact U.drewN _) u2
  clear u2 CN
  have Q1 := HQ.out.up U
  have Q10 := Q1.get 0
  simp only [M.z7, M.z8, M.z9] at Q10
  clear Q1
  go_wp2_with fail
  go_region_held3 (fun w' => w'.cell? ⟨q, 0, none⟩ = some (.int .i64 (i : Int))) (go_keep) (first
   | (go_at_call 36; (with_reducible refine (CV.out _ ?_).mono ?_); (first | with_reducible assumption | exact U.drewN _ | exact U.drew); rintro _ wA ⟨va, rfl, NA, ua⟩; obtain ⟨A1, n1, c1, rfl, NA⟩ := NA.slr; have uA : Up w wA := Up.trans (by first | with_reducible assumption | exact U.drewN _ | exact U.drew) ua; have QA := (HQ.out.up uA).get 0; simp only [M.z7, M.z8, M.z9] at QA)
   | (go_at_call 63; (refine (CR.out _ _ _ (by first | exact NA | exact NA.up ((Up.refl _).drewN _) | exact NA.up ((Up.refl _).drew))).mono ?_); rintro _ wB ⟨rfl, ub⟩; have uB : Up w wB := Up.trans (by first | with_reducible assumption | exact uA.drewN _ | exact uA.drew) ub; have QB := (HQ.out.up uB).get 0; simp only [M.z7, M.z8, M.z9] at QB))
  go_wp2_with fail
  go_ret
  exact ⟨rfl, by first | exact uB | exact uB.drew | exact uB.drewN _⟩
end Go.Proofs.YtijpffgocookaaaGreatDoor
