import Derived.Test.YtijpffgocookaaaGreatDoorQWQb
import Derived.Test.YtijpffgocookaaaGreatDoorQWQd
import Derived.Test.YtijpffgocookaaaGreatDoorQWQm
import Derived.Test.YtijpffgocookaaaGreatDoorQWWf
import Derived.Test.YtijpffgocookaaaGreatDoorQWWi
set_option maxHeartbeats 32000000
set_option linter.unusedVariables false
set_option linter.unusedSimpArgs false
namespace Go.Proofs.YtijpffgocookaaaGreatDoor
open Go.RowKit Go.Shelf
set_option maxRecDepth 100000 in
theorem rload15 {q i b : Nat} {w : World} {F : Nat → Prop} (h : Rqt q i b w F) (s : Bool) (lo : Nat) (XA : Option Addr) (xn xc a : Nat) (t f : Int) (N : Nt w lo 20 (.slice XA xn xc) a) (bt : -600 ≤ t ∧ t ≤ 600) (bf : -60 ≤ f ∧ f ≤ 60) (b' : Nat) (r : Bool)
  (hl : (M.Ql i s a t f none ∧ r = false ∧ b' = b) ∨ (M.Ql i s a t f (some b') ∧ r = true)) :
  Calls Tryz.prog 24 #[ptr q, xv s (.slice XA xn xc) t f] w (Mu (α := Unit) F (fun _ => Rqt q i b') (fun _ => .bool r) w) := by
 have HH := Lib.hid h
 obtain ⟨⟨i1, i2⟩, A0, cA, l, h1, hr, hb, hne, _⟩ := h
 have fct := M.q_facts i1 i2
 have HLU : Hid (∀ o, M.Ql i s a t f o → (o = none → r = false ∧ b' = b) ∧ (∀ d, o = some d → r = true ∧ b' = d)) := Lib.hid (fun o ho => by
  rcases hl with ⟨h2, rfl, rfl⟩ | ⟨h2, rfl⟩
  ·obtain rfl := M.ql_uniq ho h2
   exact ⟨fun _ => ⟨rfl, rfl⟩, fun d e => by cases e⟩
  ·obtain rfl := M.ql_uniq ho h2
   exact ⟨fun e => (by cases e), fun d e => ⟨rfl, Option.some.inj e⟩⟩)
 obtain ⟨S, hS⟩ : ∃ S, M.qS i = S := ⟨_, rfl⟩
 obtain ⟨Wd, hWd⟩ : ∃ Wd, (M.tb i).W = Wd := ⟨_, rfl⟩
 rw [hS] at h1
 rw [hWd] at h1
 have HQ := Lib.hid h1
 have HS := Lib.hid hS
 have s1 : 128 ≤ S := by omega
 have s2 : S ≤ 1024 := by omega
 have HI : Hid (1 ≤ i ∧ i ≤ 4) := ⟨i1, i2⟩
 have wd : 8 ≤ Wd ∧ Wd ≤ 64 := by omega
 have hz : M.qz i = 16 - 8 * Wd := by unfold M.qz; rw [hWd]
 have HZ := Lib.hid hz
 obtain ⟨E8, hE8⟩ : ∃ E8 : Int, 8 * Wd = E8 := ⟨_, rfl⟩
 obtain ⟨Ta, hTa⟩ : ∃ Ta : Int, t + E8 = Ta := ⟨_, rfl⟩
 obtain ⟨Tb, hTb⟩ : ∃ Tb : Int, Ta - 16 = Tb := ⟨_, rfl⟩
 have HTB : Hid (Tb = t - M.qz i) := Lib.hid (by rw [hz]; omega)
 have bE : (0 ≤ E8 ∧ E8 ≤ 1000) ∧ (-2000 ≤ Ta ∧ Ta ≤ 2000) ∧ (-2000 ≤ Tb ∧ Tb ≤ 2000) := by omega
 have wk1 : IntKind.i64.wrap E8 = E8 := IntWalk.i64_in _ (by omega)
 have wk2 : IntKind.i64.wrap Ta = Ta := IntWalk.i64_in _ (by omega)
 have wk3 : IntKind.i64.wrap Tb = Tb := IntWalk.i64_in _ (by omega)
 obtain ⟨T1, hT1⟩ : ∃ T1, S - 1 = T1 := ⟨_, rfl⟩
 have qT1 : (S : Int) - 1 = (T1 : Int) := by omega
 have HT1 : Hid (T1 + 1 = S) := Lib.hid (show T1 + 1 = S by omega)
 have HQN : Hid (M.qn i = 2 ^ T1) := Lib.hid (show M.qn i = 2 ^ T1 by unfold M.qn; rw [hS, hT1])
 obtain ⟨fu, fd, hf, hud⟩ : ∃ fu fd : Nat, f = (fu : Int) - (fd : Int) ∧ (fu = 0 ∨ fd = 0) := by
  rcases Int.le_total 0 f with e | e
  ·exact ⟨f.toNat, 0, by omega, .inr rfl⟩
  ·exact ⟨0, (-f).toNat, by omega, .inl rfl⟩
 have bfu : fu ≤ 60 := by omega
 have bfd : fd ≤ 60 := by omega
 have HF := Lib.hid hf
 have HUD := Lib.hid hud
 have tF1 : ∀ j : Nat, j < fu → (j : Int) < f := fun j e => by omega
 have tF2 : ∀ j : Nat, j ≤ fu → ¬ j < fu → ¬ (j : Int) < f := fun j e e2 => by omega
 have tF3 : ∀ j : Nat, j < fd → -(j : Int) > f := fun j e => by omega
 have tF4 : ∀ j : Nat, j ≤ fd → ¬ j < fd → ¬ -(j : Int) > f := fun j e e2 => by omega
 have TF1 := Lib.hid tF1
 have TF2 := Lib.hid tF2
 have TF3 := Lib.hid tF3
 have TF4 := Lib.hid tF4
 clear tF1 tF2 tF3 tF4 hf hud hl h1 hr hb hne fct hS hWd hz hT1 bf
 have a20 := Lib.hid N.lt_s
 obtain ⟨V, hV⟩ : ∃ V, w.alloc (.cells #[.bool s, .slice XA xn xc, .int .i64 t, .int .i64 f] 34) = V := ⟨_, rfl⟩
 have X : Ob V w.heap.size 34 #[.bool s, .slice XA xn xc, .int .i64 t, .int .i64 f] := by rw [← hV]; exact Ob.mk_ _ _ _
 have UV : Up w V := by rw [← hV]; exact (Up.refl _).alloc _
 have N1 := N.up UV
 have E := Up.refl V
 replace HQ := Lib.hid (HQ.out.up UV)
 go_enter Tryz.func24, Tryz.ntmps24
 go_upto_region 1 with fail
 clear hV N i1 i2
 have X1_ := X.up (by first | exact E | exact E.drew | exact E.drewN _)
 obtain ⟨X0, X1, X2, X3⟩ := X1_.g4
 go_upto_region 2 with fail
 have Q1 := HQ.out.up (by first | exact E | exact E.drew | exact E.drewN _)
 have Q10 := Q1.get 0
 have Q11 := Q1.get 1
 have Q12 := Q1.get 2
 have Q1f := Q1.fr 2
 have Q1l := Ob.lt Q1
 simp only [M.z7, M.z8, M.z9] at Q10 Q11 Q12
 go_wp2_with fail
 go_region
 all_goals
  clear X1_ X0 X1 X2 X3
  clear Q1 Q10 Q11 Q12 Q1f Q1l
  have X1_ := X.up (by first | exact E | exact E.drew | exact E.drewN _)
  obtain ⟨X0, X1, X2, X3⟩ := X1_.g4
  go_wp2_with fail
  clear X1_ X0 X1 X2 X3
  go_loopw [5, 7] (fun nv iv wr => ∃ (j : Nat) (nA : Option Addr) (nn nc : Nat), nv = .slice nA nn nc ∧ iv = .int .i64 (j : Int) ∧ j ≤ fu ∧ Nt wr 0 24 (.slice nA nn nc) (a * 5 ^ j) ∧ Up V wr) (fun _ iv _ => fu - (intOf iv).toNat)
  case atStart => exact ⟨0, XA, xn, xc, rfl, rfl, Nat.zero_le _, by rw [Nat.pow_zero, Nat.mul_one]; exact ((N1.up (by first | exact Up.refl _ | exact (Up.refl _).drew | exact (Up.refl _).drewN _)).lower (Nat.zero_le _)).more (by decide), (by first | exact E | exact E.drew | exact E.drewN _)⟩
  case round =>
   clear E N1
   obtain ⟨j, nA, nn, nc, rfl, rfl, hj, NX, E⟩ := hrel
   have X1_ := X.up (by first | exact E | exact E.drew | exact E.drewN _)
   obtain ⟨X0, X1, X2, X3⟩ := X1_.g4
   by_cases jf : j < fu
   ·have e1 := TF1.out j jf
    have j60 : j + 1 ≤ 60 := by omega
    go_wp2_with fail
    clear X1_ X0 X1 X2 X3
    refine (rmul_any _ _ _ 24 _ _ _ 5 (NX.up (by first | exact Up.refl _ | exact (Up.refl _).drew | exact (Up.refl _).drewN _ | exact (Up.refl _).alloc _ | exact ((Up.refl _).drew).alloc _ | exact ((Up.refl _).drewN _).alloc _)).nw ((lit1n _ 5 5 rfl (by decide) (by decide)).nw.more (by decide)) (by decide)).mono ?_
    rintro _ w2 ⟨v2, rfl, N2, u2⟩
    obtain ⟨mA, mn, mc, rfl, N2⟩ := N2.slr
    have u3 : Up V w2 := (E.trans (Up.trans (by first | exact Up.refl _ | exact (Up.refl _).drew | exact (Up.refl _).drewN _ | exact (Up.refl _).alloc _ | exact ((Up.refl _).drew).alloc _ | exact ((Up.refl _).drewN _).alloc _) u2))
    have N3 := (N2.fit (k := 24) (by rw [Nat.mul_assoc, ← Nat.pow_succ]; exact M.five_60 a20.out j60)).lower (lo' := 0) (Nat.zero_le _)
    clear N2 u2 NX
    go_wp2_with fail
    go_roundw
    case rel => exact ⟨j + 1, mA, mn, mc, rfl, by go_num, by omega, by rw [Nat.pow_succ, ← Nat.mul_assoc]; exact N3.up (by first | exact Up.refl _ | exact (Up.refl _).drew | exact (Up.refl _).drewN _), by first | exact u3 | exact u3.drew | exact u3.drewN _⟩
    case measure => simp [intOf]; omega
   ·have e1 := TF2.out j hj jf
    obtain rfl : fu = j := by omega
    clear jf hj
    go_wp2_with fail
    clear X1_ X0 X1 X2 X3
    clear e1
    have N1 := NX
    have E1 := E
    clear NX E
    go_loopw [5, 8, 9, 10] (fun nv iv fv rv wx => ∃ (j n2 : Nat) (nA : Option Addr) (nn nc : Nat), nv = .slice nA nn nc ∧ iv = .int .i64 (-(j : Int)) ∧ j ≤ fd ∧ Nt wx 0 24 (.slice nA nn nc) n2 ∧ Hid (a * 5 ^ fu = n2 * 5 ^ j) ∧ Up V wx) (fun _ iv _ _ _ => fd - (-(intOf iv)).toNat)
    case atStart => exact ⟨0, _, nA, nn, nc, rfl, rfl, Nat.zero_le _, N1.up (by first | exact Up.refl _ | exact (Up.refl _).drew | exact (Up.refl _).drewN _), by show _ = _; rw [Nat.pow_zero, Nat.mul_one], by first | exact E1 | exact E1.drew | exact E1.drewN _⟩
    case round =>
     clear E1 N1
     obtain ⟨j, n2, nA, nn, nc, rfl, rfl, hj, NX, HE, E⟩ := hrel
     have X1_ := X.up (by first | exact E | exact E.drew | exact E.drewN _)
     obtain ⟨X0, X1, X2, X3⟩ := X1_.g4
     by_cases jf : j < fd
     ·have e1 := TF3.out j jf
      have e2 : f < -(j : Int) := by omega
      go_wp2_with fail
      clear X1_ X0 X1 X2 X3
      refine (rdiv_any _ _ _ 24 _ _ n2 5 (NX.up (by first | exact Up.refl _ | exact (Up.refl _).drew | exact (Up.refl _).drewN _ | exact (Up.refl _).alloc _ | exact ((Up.refl _).drew).alloc _ | exact ((Up.refl _).drewN _).alloc _)).nw ((lit1n _ 5 5 rfl (by decide) (by decide)).nw.more (by decide)) (by decide) (by decide)).mono ?_
      rintro _ w2 ⟨QA, qn, qc, RA, rn, rc, rfl, NQ, NR, u2⟩
      have u3 : Up V w2 := (E.trans (Up.trans (by first | exact Up.refl _ | exact (Up.refl _).drew | exact (Up.refl _).drewN _ | exact (Up.refl _).alloc _ | exact ((Up.refl _).drew).alloc _ | exact ((Up.refl _).drewN _).alloc _) u2))
      by_cases m5 : n2 % 5 = 0
      ·have HE2 : Hid (a * 5 ^ fu = n2 / 5 * 5 ^ (j + 1)) := by
        show _ = _
        rw [HE.out, Nat.pow_succ, ← Nat.mul_assoc, Nat.mul_right_comm, Nat.div_mul_cancel (Nat.dvd_of_mod_eq_zero m5)]
       obtain rfl : rn = 0 := NR.nil_iq.2 m5
       have N3 := (NQ.fit (k := 24) (Nat.lt_of_le_of_lt (Nat.div_le_self n2 5) NX.lt_s)).lower (lo' := 0) (Nat.zero_le _)
       clear NQ NR NX HE m5 u2
       go_wp2_with fail
       go_roundw
       case rel => exact ⟨j + 1, _, QA, qn, qc, rfl, by first | go_num | (congr 1; omega), by omega, N3.up (by first | exact Up.refl _ | exact (Up.refl _).drew | exact (Up.refl _).drewN _), HE2, by first | exact u3 | exact u3.drew | exact u3.drewN _⟩
       case measure => simp [intOf]; omega
      ·have r1 : 0 < rn := Nat.pos_of_ne_zero (fun e => m5 (NR.nil_iq.1 e))
       have r2 : decide ((rn : Int) > 0) = true := decide_eq_true (by omega)
       have hq5 : M.Ql i s a t f none := by
        have e0 : fu = 0 := by rcases HUD.out with e | e; exact e; omega
        have e5 : a = n2 * 5 ^ j := by have := HE.out; rw [e0, Nat.pow_zero, Nat.mul_one] at this; exact this
        have ef : f = -(fd : Int) := by have := HF.out; omega
        rw [ef]
        exact M.ql_five (by omega) jf e5 m5 s
       obtain ⟨rfl, rfl⟩ := (HLU.out _ hq5).1 rfl
       clear hq5 NQ NR NX HE u2
       go_wp2_with fail
       go_ret
       exact ⟨(), rfl, F, HH.out.stay (UV.trans (by first | exact u3 | exact u3.drew | exact u3.drewN _))⟩
     ·have e1 := TF4.out j hj jf
      have e2 : ¬ f < -(j : Int) := by omega
      obtain rfl : j = fd := by omega
      have HSZ : Hid (M.sz a t f = M.sz n2 t 0) := by
       show _ = _
       have e3 := HE.out
       rcases HUD.out with e0 | e0
       ·rw [e0, Nat.pow_zero, Nat.mul_one] at e3
        rw [e3, show f = -(j : Int) by have := HF.out; omega]
        exact M.sz_down n2 j (by omega) t
       ·rw [e0, Nat.pow_zero, Nat.mul_one] at e3
        rw [← e3, show f = (fu : Int) by have := HF.out; omega]
        exact (M.sz_up a fu t).symm
      obtain ⟨_, _, _, ws, e9, W5, hv5, hn5, hnr⟩ := NX
      cases e9
      obtain ⟨T0, hT0⟩ : ∃ T0, 64 * nn = T0 := ⟨_, rfl⟩
      have qT0 : (64 : Int) * (nn : Int) = (T0 : Int) := by omega
      have bT0 : T0 ≤ 1536 := by omega
      have hlt : n2 < 2 ^ T0 := by rw [← hv5, ← hT0, ← W5.num]; exact M.val_64 W5.wds
      have HLT := Lib.hid hlt
      have nz : n2 = 0 → nn = 0 := fun e => by
       have : ws = [] := M.val_inj W5.wds M.Wds.nil hnr M.Nrm.nil (by rw [hv5, e]; rfl)
       rw [← W5.num, this]; rfl
      have nz2 : nn = 0 → n2 = 0 := fun e => by
       have : ws = [] := List.eq_nil_of_length_eq_zero (W5.num.trans e)
       rw [← hv5, this]; rfl
      have NZ := Lib.hid nz
      have NZ2 := Lib.hid nz2
      have HV5 := Lib.hid hv5
      have HT0 := Lib.hid hT0
      clear jf hj HE hT0 hv5 hlt nz nz2 hnr
      go_wp2_with fail
      clear X1_ X0 X1 X2 X3
      clear e1 e2
      refine (truths15_any _ _ _ _ _ ws (W5.up (by first | exact Up.refl _ | exact (Up.refl _).drew | exact (Up.refl _).drewN _)) (by omega) T0 (by omega)).mono ?_
      rintro _ w7 (⟨_, PA, pc, rfl, R7, u⟩ | ⟨e, _⟩)
      rotate_left
      ·exact absurd (by rw [HV5.out]; exact HLT.out) e
      rw [HV5.out] at R7
      replace E := E.trans (Up.trans (by first | exact Up.refl _ | exact (Up.refl _).drew | exact (Up.refl _).drewN _) u)
      replace R7 := R7.lower (Nat.zero_le _)
      clear u W5
      by_cases a0 : n2 = 0
      ·obtain rfl : nn = 0 := NZ.out a0
       obtain rfl : T0 = 0 := by have := HT0.out; omega
       have hr7 : M.bqt 0 n2 = [] := rfl
       rw [hr7] at R7
       have hAA : M.sz n2 t 0 = M.sz 0 (M.qz i) 0 := by rw [a0, M.sz_zero.2 rfl, M.sz_zero.2 rfl]
       obtain ⟨A, hAd⟩ : ∃ A : Nat, 0 = A := ⟨_, rfl⟩
       rw [hAd] at hAA
       have HEND : Hid (∀ o, ((A < M.qn i ∧ o = some (if s = true then M.ng (2 ^ M.qS i) A else A)) ∨ (¬ A < M.qn i ∧ o = none)) → M.Ql i s a t f o) := Lib.hid (fun o ho => M.ql_end HSZ.out hAA s o ho)
       have HAD := Lib.hid hAd
       clear hAA hAd hr7 a0 qT0 bT0
       go_wp2_with fail
       have E1 := E
       clear E
       go_loopw [6, 11] (fun tv rv wx => tv = .int .i64 Tb ∧ rv = .slice PA 0 pc ∧ Up w7 wx) (fun _ _ _ => 0)
       case atStart => exact ⟨rfl, rfl, (by first | exact Up.refl _ | exact (Up.refl _).drew | exact (Up.refl _).drewN _)⟩
       case round =>
        obtain ⟨rfl, rfl, E7⟩ := hrel
        obtain ⟨wo, rfl⟩ : ∃ x, x = wr := ⟨_, rfl⟩
        have E := E1.trans E7
        obtain ⟨rs, hrs9⟩ : ∃ rs : List Bool, [] = rs := ⟨_, rfl⟩
        obtain ⟨RA, hRA⟩ : ∃ RA, PA = RA := ⟨_, rfl⟩
        obtain ⟨rnn, hrnn⟩ : ∃ rnn : Nat, 0 = rnn := ⟨_, rfl⟩
        have RF0 := R7.up E7
        have hA : M.bq ([] : List Bool) = A := HAD.out
        clear E1 E7 R7
        have RF : Rb wo 0 PA 0 pc [] := RF0
        clear RF0 hrs9 hRA hrnn
        have hrn := RF.num
        have HAL : Hid (A < 2 ^ 0) := Lib.hid (show A < 2 ^ 0 by rw [← hA, ← hrn]; exact M.bq_lt [])
        have HBT : Hid (∀ j, ([] : List Bool).getD j false = A.testBit j) := Lib.hid (fun j => by rw [← hA, M.bq_bit])
        clear hA hrn
        have Q1 := HQ.out.up (by first | exact E | exact E.drew | exact E.drewN _)
        have Q10 := Q1.get 0
        have Q11 := Q1.get 1
        have Q12 := Q1.get 2
        have Q1f := Q1.fr 2
        have Q1l := Ob.lt Q1
        simp only [M.z7, M.z8, M.z9] at Q10 Q11 Q12
        go_upto_region 25 with (at_make; refine wpList_make_rb _ rfl (.tmp 97) (.tmp 97) 40 rfl info_bool Tryz.underlying40 (T1 : Int) (T1 : Int) T1 rfl rfl (by omega) (by omega) (by omega) ?_; intro wl OL0 hgl)
        clear Q1 Q10 Q11 Q12 Q1f Q1l
        have ul : Up wo wl := by first | exact (Up.refl _).grown hgl (by simp) | exact (Up.refl _).drew.grown hgl (by simp)
        clear hgl
        have E0 := Lib.hid E
        clear E
        go_wp2_with fail
        go_loopw [14] (fun iv wx => ∃ (j : Nat) (zs : List Bool), iv = .int .i64 (j : Int) ∧ j ≤ 0 ∧ Up wo wx ∧ Obw wx wo.heap.size (.slice (some ⟨wo.heap.size, 0, none⟩) T1 T1) T1 zs ∧ Hid (M.Tri T1 A j zs)) (fun iv _ => 0 - (intOf iv).toNat)
        case atStart => exact ⟨0, _, rfl, Nat.zero_le _, ul, OL0, M.Tri.start _ _⟩
        case round =>
         clear OL0 ul
         obtain ⟨j, zs, rfl, hj, EW, OZ, HTR⟩ := hrel
         by_cases jn : j < 0
         ·exact absurd jn (Nat.not_lt_zero j)
         ·obtain rfl : 0 = j := by omega
          obtain ⟨hAT, hzs⟩ := HTR.out.fin HAL.out
          have HAQ : Hid (A < M.qn i) := Lib.hid (by rw [HQN.out]; exact hAT)
          have HBZ : Hid (M.bq (zs ++ [false]) = A) := by
           show _ = _
           rw [M.bq_append, hzs, M.bq_bqt, Nat.mod_eq_of_lt hAT]; simp [M.bq]
          have qS1 := HT1.out
          clear hAT hzs HTR
          go_upto_region 33 with (at_builtin; refine wpList_append_rb _ rfl (.tmp 126) (.tmp 127) 40 rfl info_bool wo.heap.size Tryz.underlying40 _ T1 zs rfl (OZ.up (by first | exact Up.refl _ | exact (Up.refl _).drew | exact (Up.refl _).drewN _ | exact (Up.refl _).alloc _ | exact ((Up.refl _).drew).alloc _ | exact ((Up.refl _).drewN _).alloc _)) _ _ 1 1 [_] rfl (lit_rb _ _) (by omega) (by have := EW.size; first | omega | (simp; omega)) ?_; intro v3 w3 OL3 hg3 hat3)
          have E3 : Up V w3 := (E0.out.trans (EW.trans (by first | exact Up.refl _ | exact (Up.refl _).drew | exact (Up.refl _).drewN _ | exact (Up.refl _).alloc _ | exact ((Up.refl _).drew).alloc _ | exact ((Up.refl _).drewN _).alloc _))).grown hg3 (fun b hb => by have h1 := (World.ownsRow.lt OZ b hb).1; have h2 := E0.out.size; omega)
          obtain ⟨B3, d3, rfl, RL3⟩ := OL3.rb
          rw [qS1] at RL3 ⊢
          have E3b := Lib.hid E3
          clear hg3 hat3 OL3 OZ EW qS1
          have E := E3
          have X1_ := X.up (by first | exact E | exact E.drew | exact E.drewN _)
          obtain ⟨X0, X1, X2, X3⟩ := X1_.g4
          clear E
          rcases (show s = true ∨ s = false by cases s <;> simp) with rfl | rfl
          ·have CT := Lib.hid (fun W (u : Up w3 W) => turned15_any W _ _ S d3 (zs ++ [false]) (RL3.up u) (by omega))
           go_wp2_with fail
           clear X1_ X0 X1 X2 X3
           refine (CT.out _ (by first | exact Up.refl _ | exact (Up.refl _).drew | exact (Up.refl _).drewN _)).mono ?_
           rintro _ w4 ⟨B4, d4, rfl, R4, u4⟩
           replace E3 := E3.trans (Up.trans (by first | exact Up.refl _ | exact (Up.refl _).drew | exact (Up.refl _).drewN _) u4)
           have e4 : (M.tqn false (zs ++ [false])).length = S := by rw [M.tqn_len, RL3.num]
           rw [e4] at R4 ⊢
           have RB : Hid (Rb w4 w.heap.size B4 S d4 (M.tqn false (zs ++ [false]))) := Lib.hid (R4.lower (by have h1 := UV.size; have h2 := E3b.out.size; simp at *; omega))
           have HD : Hid (M.bq (M.tqn false (zs ++ [false])) = M.ng (2 ^ S) A) := Lib.hid (by rw [M.bq_tqn, RL3.num, HBZ.out]; rfl)
           have E := E3
           clear R4 e4 u4 CT
           have Q1 := HQ.out.up (by first | exact E | exact E.drew | exact E.drewN _)
           have Q10 := Q1.get 0
           have Q11 := Q1.get 1
           have Q12 := Q1.get 2
           have Q1f := Q1.fr 2
           have Q1l := Ob.lt Q1
           simp only [M.z7, M.z8, M.z9] at Q10 Q11 Q12
           go_wp2_with fail
           clear Q1 Q10 Q11 Q12 Q1f Q1l
           go_ret
           have hx := HH.out.put (UV.trans (by first | exact E | exact E.drew | exact E.drewN _)) (by rw [HS.out]; exact RB.out)
           rw [HD.out] at hx
           obtain ⟨rfl, hb9⟩ := (HLU.out _ (HEND.out _ (.inl ⟨HAQ.out, rfl⟩))).2 _ rfl
           have hb8 : b' = M.ng (2 ^ S) A := by rw [hb9]; simp [HS.out]
           rw [HS.out] at hx
           rw [hb8]
           exact ⟨(), rfl, hx⟩
          ·have RB : Hid (Rb w3 w.heap.size B3 S d3 (zs ++ [false])) := Lib.hid (RL3.lower (by have h1 := UV.size; have h2 := E0.out.size; omega))
           have HD : Hid (M.bq (zs ++ [false]) = A) := Lib.hid HBZ.out
           have E := E3
           have Q1 := HQ.out.up (by first | exact E | exact E.drew | exact E.drewN _)
           have Q10 := Q1.get 0
           have Q11 := Q1.get 1
           have Q12 := Q1.get 2
           have Q1f := Q1.fr 2
           have Q1l := Ob.lt Q1
           simp only [M.z7, M.z8, M.z9] at Q10 Q11 Q12
           go_wp2_with fail
           clear Q1 Q10 Q11 Q12 Q1f Q1l
           go_ret
           have hx := HH.out.put (UV.trans (by first | exact E | exact E.drew | exact E.drewN _)) (by rw [HS.out]; exact RB.out)
           rw [HD.out] at hx
           obtain ⟨rfl, hb9⟩ := (HLU.out _ (HEND.out _ (.inl ⟨HAQ.out, rfl⟩))).2 _ rfl
           have hb8 : b' = A := by rw [hb9]; simp [HS.out]
           rw [HS.out] at hx
           rw [hb8]
           exact ⟨(), rfl, hx⟩
      ·have nn0 : 0 < nn := Nat.pos_of_ne_zero (fun e => a0 (NZ2.out e))
       obtain ⟨ku, kd, hk, hkk⟩ : ∃ ku kd : Nat, Tb = (ku : Int) - (kd : Int) ∧ (ku = 0 ∨ kd = 0) := by
        rcases Int.le_total 0 Tb with e | e
        ·exact ⟨Tb.toNat, 0, by omega, .inr rfl⟩
        ·exact ⟨0, (-Tb).toNat, by omega, .inl rfl⟩
       have bku : ku ≤ 2000 := by omega
       have bkd : kd ≤ 2000 := by omega
       have tG1 : ∀ k : Nat, k < kd → Tb + (k : Int) < 0 := fun k e => by omega
       have tG2 : ∀ k : Nat, k = kd → Tb + (k : Int) = (ku : Int) := fun k e => by omega
       have G1 := Lib.hid tG1
       have G2 := Lib.hid tG2
       have HK := Lib.hid hk
       have HKK := Lib.hid hkk
       have A0 := Lib.hid a0
       obtain ⟨rs0, hrs⟩ : ∃ rs0, M.bqt T0 n2 = rs0 := ⟨_, rfl⟩
       rw [hrs] at R7
       have HB0 : Hid (∀ t, t < T0 → rs0.getD t false = n2.testBit t) := Lib.hid (fun t ht => by rw [← hrs]; exact M.bqt_get ht)
       have HB1 : Hid (M.bq rs0 = n2) := by show _ = _; rw [← hrs, M.bq_bqt, Nat.mod_eq_of_lt HLT.out]
       have HLR : Hid (rs0.length = T0) := by show _ = _; rw [← hrs, M.bqt_len]
       clear tG1 tG2 hk hkk a0 hrs qT0
       go_wp2_with fail
       have E1 := E
       clear E
       go_loopw [6, 11] (fun tv rv wx => ∃ (k rn rc : Nat) (RA : Option Addr) (tz : Int), tv = .int .i64 tz ∧ tz = Tb + (k : Int) ∧ rv = .slice RA rn rc ∧ k ≤ kd ∧ Rb wx 0 RA rn rc (rs0.drop k) ∧ Hid (rn = T0 - k) ∧ k < T0 ∧ Hid (∀ t, t < k → n2.testBit t = false) ∧ Up V wx) (fun tv _ _ => kd - (intOf tv - Tb).toNat)
       case atStart => exact ⟨0, T0, pc, PA, Tb, rfl, by simp, rfl, Nat.zero_le _, R7.up (by first | exact Up.refl _ | exact (Up.refl _).drew | exact (Up.refl _).drewN _), (show T0 = T0 - 0 by omega), by have := HT0.out; omega, fun t ht => by omega, by first | exact E1 | exact E1.drew | exact E1.drewN _⟩
       case round =>
        clear E1 R7
        obtain ⟨k, rn, rc, RA, tz, rfl, htz, rfl, hk, RR, hrn, hkT, HZB, E⟩ := hrel
        have rn1 : 1 ≤ rn := by have := hrn.out; omega
        have btz : -3000 ≤ tz ∧ tz ≤ 3000 := by omega
        obtain ⟨rb, ro, rfl, _⟩ := RR.form (by omega)
        have rcn := RR.len
        by_cases kk : k < kd
        ·have e1 : tz < 0 := by rw [htz]; exact G1.out k kk
         have hc0 := RR.cell (j := 0) (by omega)
         rw [Nat.add_zero, List.getD_eq_getElem?_getD, List.getElem?_drop, Nat.add_zero, ← List.getD_eq_getElem?_getD, HB0.out k hkT] at hc0
         obtain ⟨x, hx⟩ : ∃ x, n2.testBit k = x := ⟨_, rfl⟩
         rw [hx] at hc0
         have HX := Lib.hid hx
         have HTZ := Lib.hid htz
         clear hx htz
         rcases (show x = true ∨ x = false by cases x <;> simp) with rfl | rfl
         ·have hq5 : M.Ql i s a t f none := M.ql_two HSZ.out (k := kd) (by have h1 := HTB.out; have h2 := HK.out; rcases HKK.out with e | e <;> omega) (by omega) kk HX.out s
          obtain ⟨rfl, rfl⟩ := (HLU.out _ hq5).1 rfl
          clear hq5
          go_wp2_with fail
          go_ret
          exact ⟨(), rfl, F, HH.out.stay (UV.trans (by first | exact E | exact E.drew | exact E.drewN _))⟩
         ·have HZ2 : Hid (∀ t, t < k + 1 → n2.testBit t = false) := Lib.hid (fun t ht => by
           rcases Nat.lt_or_eq_of_le (Nat.le_of_lt_succ ht) with e | rfl
           ·exact HZB.out t e
           ·exact HX.out)
          have kT2 : k + 1 < T0 := by
           refine Classical.byContradiction fun hcon => A0.out ?_
           apply Nat.eq_of_testBit_eq
           intro t
           rw [Nat.zero_testBit]
           by_cases ht : t < k + 1
           ·exact HZ2.out t ht
           ·exact Nat.testBit_lt_two_pow (Nat.lt_of_lt_of_le HLT.out (Nat.pow_le_pow_right (by decide) (by omega)))
          have R8 := RR.drop (k := 1) (by omega)
          rw [List.drop_drop] at R8
          have rn2 : 2 ≤ rn := by have := hrn.out; omega
          have c1 : 1 < rc := by omega
          have w6 : IntKind.i64.wrap (tz + 1) = tz + 1 := IntWalk.i64_in _ (by omega)
          clear HZB RR
          go_wp2_with fail
          go_roundw
          case rel => exact ⟨k + 1, rn - 1, rc - 1, some ⟨rb, ro + 1, none⟩, tz + 1, by first | rfl | go_num, by have := HTZ.out; omega, rfl, by omega, (by first | exact R8.up (by first | exact Up.refl _ | exact (Up.refl _).drew | exact (Up.refl _).drewN _) | (rw [Nat.add_comm] at R8; exact R8.up (by first | exact Up.refl _ | exact (Up.refl _).drew | exact (Up.refl _).drewN _))), Lib.hid (show rn - 1 = T0 - (k + 1) by have := hrn.out; omega), kT2, HZ2, (by first | exact E | exact E.drew | exact E.drewN _)⟩
          case measure => have h1 := HTZ.out; have h2 := hrn.out; simp [intOf]; omega
        ·obtain rfl : kd = k := by omega
         obtain rfl : tz = (ku : Int) := by rw [htz]; exact G2.out _ rfl
         have HM3 : Hid (n2 = 2 ^ kd * M.bq (rs0.drop kd)) := by
          show _ = _
          rw [← HB1.out]
          exact M.bq_low (by have := HLR.out; omega) (fun t ht => by rw [HB0.out t (by omega)]; exact HZB.out t ht)
         obtain ⟨m3, hm3⟩ : ∃ m3, M.bq (rs0.drop kd) = m3 := ⟨_, rfl⟩
         rw [hm3] at HM3
         have hAA : M.sz n2 t 0 = M.sz (m3 * 2 ^ ku) (M.qz i) 0 := by
          have h1 := HTB.out
          have h2 := HK.out
          have h3 := HM3.out
          have h4 := HZ.out
          rcases HKK.out with e | e
          ·rw [e, Nat.pow_zero, Nat.mul_one, h3, Nat.mul_comm]
           exact M.sz_halves (by omega) (by omega)
          ·rw [e, Nat.pow_zero, Nat.one_mul] at h3
           rw [h3]
           exact (M.sz_twos (by omega) (by omega)).symm
         obtain ⟨A, hAd⟩ : ∃ A, m3 * 2 ^ ku = A := ⟨_, rfl⟩
         rw [hAd] at hAA
         have HEND : Hid (∀ o, ((A < M.qn i ∧ o = some (if s = true then M.ng (2 ^ M.qS i) A else A)) ∨ (¬ A < M.qn i ∧ o = none)) → M.Ql i s a t f o) := Lib.hid (fun o ho => M.ql_end HSZ.out hAA s o ho)
         have m30 : 0 < m3 := Nat.pos_of_ne_zero (fun e => A0.out (by rw [HM3.out, e, Nat.mul_zero]))
         have HAG : Hid (2 ^ ku ≤ A) := Lib.hid (by rw [← hAd]; exact Nat.le_mul_of_pos_left _ m30)
         have HAD := Lib.hid hAd
         have HM3' := Lib.hid hm3
         have nni : (nn : Int) > 0 := by omega
         have rn6 : rn ≤ 1536 := by have := hrn.out; omega
         clear hAA hAd hm3 m30 htz HZB kk hk
         have Q1 := HQ.out.up (by first | exact E | exact E.drew | exact E.drewN _)
         have Q10 := Q1.get 0
         have Q11 := Q1.get 1
         have Q12 := Q1.get 2
         have Q1f := Q1.fr 2
         have Q1l := Ob.lt Q1
         simp only [M.z7, M.z8, M.z9] at Q10 Q11 Q12
         by_cases kS : (S : Int) < (ku : Int)
         ·have hq5 := HEND.out none (.inr ⟨by rw [HQN.out]; have h1 := HAG.out; have h2 : 2 ^ T1 ≤ 2 ^ ku := Nat.pow_le_pow_right (by decide) (by have := HT1.out; omega); omega, rfl⟩)
          obtain ⟨rfl, rfl⟩ := (HLU.out _ hq5).1 rfl
          clear hq5
          go_wp2_with fail
          go_ret
          exact ⟨(), rfl, F, HH.out.stay (UV.trans (by first | exact E | exact E.drew | exact E.drewN _))⟩
         ·go_upto_region 24 with (first | (at_make; refine wpList_make_rb _ rfl (.tmp 88) (.tmp 88) 40 rfl info_bool Tryz.underlying40 (ku : Int) (ku : Int) ku rfl rfl (by omega) (by omega) (by omega) ?_; intro w8 OL hg8) | (at_builtin; refine wpList_append_rb _ rfl (.tmp 89) (.tmp 90) 40 rfl info_bool wr.heap.size Tryz.underlying40 _ ku (List.replicate ku false) rfl OL _ _ rn rc _ rfl (RR.up ((Up.refl _).grown hg8 (by simp))) (by omega) (by have := hg8.size; omega) ?_; intro v9 w9 OL9 hg9 hat9))
          clear Q1 Q10 Q11 Q12 Q1f Q1l
          have E8 : Up V w8 := E.grown hg8 (by simp)
          have E9 : Up V w9 := E8.grown hg9 (fun b hb => by have h1 := (World.ownsRow.lt OL b hb).1; have h2 := E.size; omega)
          obtain ⟨RA, rc9, rfl, RF⟩ := OL9.rb
          obtain ⟨rs, hrs9⟩ : ∃ rs, List.replicate ku false ++ rs0.drop kd = rs := ⟨_, rfl⟩
          rw [hrs9] at RF
          have hA : M.bq rs = A := by rw [← hrs9, M.bq_append, M.bq_rep, List.length_replicate, HM3'.out, ← HAD.out, Nat.zero_add, Nat.mul_comm]
          obtain ⟨rnn, hrnn⟩ : ∃ rnn, ku + rn = rnn := ⟨_, rfl⟩
          rw [hrnn] at RF ⊢
          have rn9 : rnn ≤ 5000 := by omega
          replace RF := RF.lower (Nat.zero_le _)
          clear hg8 hg9 hat9 OL OL9 RR hrs9 hrnn E E8 kS
          have E := E9
          clear E9
          have hrn := RF.num
          have HAL : Hid (A < 2 ^ rnn) := Lib.hid (show A < 2 ^ rnn by rw [← hA, ← hrn]; exact M.bq_lt rs)
          have HBT : Hid (∀ j, rs.getD j false = A.testBit j) := Lib.hid (fun j => by rw [← hA, M.bq_bit])
          clear hA hrn
          have Q1 := HQ.out.up (by first | exact E | exact E.drew | exact E.drewN _)
          have Q10 := Q1.get 0
          have Q11 := Q1.get 1
          have Q12 := Q1.get 2
          have Q1f := Q1.fr 2
          have Q1l := Ob.lt Q1
          simp only [M.z7, M.z8, M.z9] at Q10 Q11 Q12
          go_upto_region 25 with (at_make; refine wpList_make_rb _ rfl (.tmp 97) (.tmp 97) 40 rfl info_bool Tryz.underlying40 (T1 : Int) (T1 : Int) T1 rfl rfl (by omega) (by omega) (by omega) ?_; intro wl OL0 hgl)
          clear Q1 Q10 Q11 Q12 Q1f Q1l
          have ul : Up w9 wl := by first | exact (Up.refl _).grown hgl (by simp) | exact (Up.refl _).drew.grown hgl (by simp)
          clear hgl
          have E0 := Lib.hid E
          clear E
          go_wp2_with fail
          go_loopw [14] (fun iv wx => ∃ (j : Nat) (zs : List Bool), iv = .int .i64 (j : Int) ∧ j ≤ rnn ∧ Up w9 wx ∧ Obw wx w9.heap.size (.slice (some ⟨w9.heap.size, 0, none⟩) T1 T1) T1 zs ∧ Hid (M.Tri T1 A j zs)) (fun iv _ => rnn - (intOf iv).toNat)
          case atStart => exact ⟨0, _, rfl, Nat.zero_le _, ul, OL0, M.Tri.start _ _⟩
          case round =>
           clear OL0 ul
           obtain ⟨j, zs, rfl, hj, EW, OZ, HTR⟩ := hrel
           by_cases jn : j < rnn
           ·have e1 : (j : Int) < (rnn : Int) := by omega
            obtain ⟨fb, fo, rfl, _⟩ := RF.form (by omega)
            have hc0 := (RF.up EW).cell jn
            rw [HBT.out j] at hc0
            obtain ⟨x, hx⟩ : ∃ x, A.testBit j = x := ⟨_, rfl⟩
            rw [hx] at hc0
            have HX := Lib.hid hx
            clear hx
            by_cases jT : j < T1
            ·have e2 : (j : Int) < (T1 : Int) := by omega
             have e3 : decide ((j : Int) ≥ (T1 : Int)) = false := decide_eq_false (by omega)
             have e4 : ¬ (T1 : Int) ≤ (j : Int) := by omega
             have hf := OZ.frozenAt j
             have hcz := OZ.cellAt j (by omega)
             rw [cb_get (by rw [OZ.num]; exact jT)] at hcz
             rcases (show x = true ∨ x = false by cases x <;> simp) with rfl | rfl
             all_goals
              go_wp2_with fail
              go_roundw
              case rel =>
               obtain ⟨h1, _⟩ := OZ.stored j (.bool _)
               rw [cb_set] at h1
               have hI := HTR.out.step jT
               rw [HX.out] at hI
               exact ⟨j + 1, _, by go_num, by omega, EW.setCell (Nat.le_refl _) _, h1, hI⟩
              case measure => simp [intOf]; omega
            ·have e2 : ¬ (j : Int) < (T1 : Int) := by omega
             have e3 : decide ((j : Int) ≥ (T1 : Int)) = true := decide_eq_true (by omega)
             have e4 : (T1 : Int) ≤ (j : Int) := by omega
             rcases (show x = true ∨ x = false by cases x <;> simp) with rfl | rfl
             ·have hq5 := HEND.out none (.inr ⟨by rw [HQN.out]; exact M.too_high (by omega) HX.out, rfl⟩)
              obtain ⟨rfl, rfl⟩ := (HLU.out _ hq5).1 rfl
              clear hq5
              go_wp2_with fail
              go_ret
              have EF := E0.out.trans EW
              exact ⟨(), rfl, F, HH.out.stay (UV.trans (by first | exact EF | exact EF.drew | exact EF.drewN _))⟩
             ·go_wp2_with fail
              go_roundw
              case rel => exact ⟨j + 1, zs, by go_num, by omega, by first | exact EW | exact EW.drew | exact EW.drewN _, by first | exact OZ | exact OZ.up ((Up.refl _).drew) | exact OZ.up ((Up.refl _).drewN _), HTR.out.pass (by omega) HX.out⟩
              case measure => simp [intOf]; omega
           ·obtain rfl : rnn = j := by omega
            obtain ⟨hAT, hzs⟩ := HTR.out.fin HAL.out
            have HAQ : Hid (A < M.qn i) := Lib.hid (by rw [HQN.out]; exact hAT)
            have HBZ : Hid (M.bq (zs ++ [false]) = A) := by
             show _ = _
             rw [M.bq_append, hzs, M.bq_bqt, Nat.mod_eq_of_lt hAT]; simp [M.bq]
            have qS1 := HT1.out
            clear hAT hzs HTR
            go_upto_region 33 with (at_builtin; refine wpList_append_rb _ rfl (.tmp 126) (.tmp 127) 40 rfl info_bool w9.heap.size Tryz.underlying40 _ T1 zs rfl (OZ.up (by first | exact Up.refl _ | exact (Up.refl _).drew | exact (Up.refl _).drewN _ | exact (Up.refl _).alloc _ | exact ((Up.refl _).drew).alloc _ | exact ((Up.refl _).drewN _).alloc _)) _ _ 1 1 [_] rfl (lit_rb _ _) (by omega) (by have := EW.size; first | omega | (simp; omega)) ?_; intro v3 w3 OL3 hg3 hat3)
            have E3 : Up V w3 := (E0.out.trans (EW.trans (by first | exact Up.refl _ | exact (Up.refl _).drew | exact (Up.refl _).drewN _ | exact (Up.refl _).alloc _ | exact ((Up.refl _).drew).alloc _ | exact ((Up.refl _).drewN _).alloc _))).grown hg3 (fun b hb => by have h1 := (World.ownsRow.lt OZ b hb).1; have h2 := E0.out.size; omega)
            obtain ⟨B3, d3, rfl, RL3⟩ := OL3.rb
            rw [qS1] at RL3 ⊢
            have E3b := Lib.hid E3
            clear hg3 hat3 OL3 OZ EW qS1
            have E := E3
            have X1_ := X.up (by first | exact E | exact E.drew | exact E.drewN _)
            obtain ⟨X0, X1, X2, X3⟩ := X1_.g4
            clear E
            rcases (show s = true ∨ s = false by cases s <;> simp) with rfl | rfl
            ·have CT := Lib.hid (fun W (u : Up w3 W) => turned15_any W _ _ S d3 (zs ++ [false]) (RL3.up u) (by omega))
             go_wp2_with fail
             clear X1_ X0 X1 X2 X3
             refine (CT.out _ (by first | exact Up.refl _ | exact (Up.refl _).drew | exact (Up.refl _).drewN _)).mono ?_
             rintro _ w4 ⟨B4, d4, rfl, R4, u4⟩
             replace E3 := E3.trans (Up.trans (by first | exact Up.refl _ | exact (Up.refl _).drew | exact (Up.refl _).drewN _) u4)
             have e4 : (M.tqn false (zs ++ [false])).length = S := by rw [M.tqn_len, RL3.num]
             rw [e4] at R4 ⊢
             have RB : Hid (Rb w4 w.heap.size B4 S d4 (M.tqn false (zs ++ [false]))) := Lib.hid (R4.lower (by have h1 := UV.size; have h2 := E3b.out.size; simp at *; omega))
             have HD : Hid (M.bq (M.tqn false (zs ++ [false])) = M.ng (2 ^ S) A) := Lib.hid (by rw [M.bq_tqn, RL3.num, HBZ.out]; rfl)
             have E := E3
             clear R4 e4 u4 CT
             have Q1 := HQ.out.up (by first | exact E | exact E.drew | exact E.drewN _)
             have Q10 := Q1.get 0
             have Q11 := Q1.get 1
             have Q12 := Q1.get 2
             have Q1f := Q1.fr 2
             have Q1l := Ob.lt Q1
             simp only [M.z7, M.z8, M.z9] at Q10 Q11 Q12
             go_wp2_with fail
             clear Q1 Q10 Q11 Q12 Q1f Q1l
             go_ret
             have hx := HH.out.put (UV.trans (by first | exact E | exact E.drew | exact E.drewN _)) (by rw [HS.out]; exact RB.out)
             rw [HD.out] at hx
             obtain ⟨rfl, hb9⟩ := (HLU.out _ (HEND.out _ (.inl ⟨HAQ.out, rfl⟩))).2 _ rfl
             have hb8 : b' = M.ng (2 ^ S) A := by rw [hb9]; simp [HS.out]
             rw [HS.out] at hx
             rw [hb8]
             exact ⟨(), rfl, hx⟩
            ·have RB : Hid (Rb w3 w.heap.size B3 S d3 (zs ++ [false])) := Lib.hid (RL3.lower (by have h1 := UV.size; have h2 := E0.out.size; omega))
             have HD : Hid (M.bq (zs ++ [false]) = A) := Lib.hid HBZ.out
             have E := E3
             have Q1 := HQ.out.up (by first | exact E | exact E.drew | exact E.drewN _)
             have Q10 := Q1.get 0
             have Q11 := Q1.get 1
             have Q12 := Q1.get 2
             have Q1f := Q1.fr 2
             have Q1l := Ob.lt Q1
             simp only [M.z7, M.z8, M.z9] at Q10 Q11 Q12
             go_wp2_with fail
             clear Q1 Q10 Q11 Q12 Q1f Q1l
             go_ret
             have hx := HH.out.put (UV.trans (by first | exact E | exact E.drew | exact E.drewN _)) (by rw [HS.out]; exact RB.out)
             rw [HD.out] at hx
             obtain ⟨rfl, hb9⟩ := (HLU.out _ (HEND.out _ (.inl ⟨HAQ.out, rfl⟩))).2 _ rfl
             have hb8 : b' = A := by rw [hb9]; simp [HS.out]
             rw [HS.out] at hx
             rw [hb8]
             exact ⟨(), rfl, hx⟩
end Go.Proofs.YtijpffgocookaaaGreatDoor
