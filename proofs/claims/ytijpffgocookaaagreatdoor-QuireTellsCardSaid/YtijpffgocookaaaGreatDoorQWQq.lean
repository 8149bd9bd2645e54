import Derived.Test.YtijpffgocookaaaGreatDoorQWQp
import Derived.Test.YtijpffgocookaaaGreatDoorQWRva
import Derived.Test.YtijpffgocookaaaGreatDoorQWEx6
set_option maxHeartbeats 32000000
set_option linter.unusedVariables false
set_option linter.unusedSimpArgs false
namespace Go.Proofs.YtijpffgocookaaaGreatDoor
open Go.RowKit Go.Shelf
theorem M.form_kind {i : Nat} (i1 : 1 ≤ i) (i2 : i ≤ 14) : (M.tb i).k = 1 ↔ i ≤ 4 := by
 refine M.all14 (p := fun i => (M.tb i).k = 1 ↔ i ≤ 4) ?_ ?_ ?_ ?_ ?_ ?_ ?_ ?_ ?_ ?_ ?_ ?_ ?_ ?_ i i1 i2 <;> decide
set_option maxRecDepth 100000 in
theorem qm_size {p i b : Nat} {w : World} {F : Nat → Prop} (h : Iq p i b w F) : Calls Tryz.prog 37 #[ptr p] w (fun e w' => e = .returned (.int .i64 (M.qS i : Int)) ∧ Up w w') := by
 obtain ⟨f, S, Z, A, n, c0, K0, hb, Q, N⟩ := h.open_
 rw [K0.s]
 exact qu_size w (Lib.hid K0) _ Q
set_option maxRecDepth 100000 in
theorem qm_bits {p i b : Nat} {w : World} {F : Nat → Prop} (h : Iq p i b w F)  : Calls Tryz.prog 30 #[ptr p] w (fun e w' => ∃ v, e = .returned v ∧ Nt w' w.heap.size 20 v b ∧ Up w w') := by
 have HH := Lib.hid h
 obtain ⟨f, S, Z, A, n, c0, K0, hb, Q, N⟩ := h.open_
 have K := Lib.hid K0
 clear h K0
 have CN := Lib.hid (fun W (u : Up w W) => norm_any W 0 20 (.slice A n c0) b (N.up u).nw)
 clear N hb
 have U := Up.refl w
 go_enter Tryz.func30, Tryz.ntmps30
 obtain ⟨Q0, Q1, Q2, Q3, Q4, Q5, Q6, Q7, Q8⟩ := Q.g9
 go_wp2_with fail
 clear Q0 Q1 Q2 Q3 Q4 Q5 Q6 Q7 Q8
 refine (CN.out _ (by first | exact U | exact U.drew | exact U.drewN _)).mono ?_
 have SZ0 : Hid (w.heap.size ≤ _) := Lib.hid (show Up w _ from (by first | exact U | exact U.drew | exact U.drewN _)).size
 rintro _ w1 ⟨vM_, rfl, M_, h1⟩
 replace U := Up.trans (by first | exact U | exact U.drew | exact U.drewN _) h1
 replace Q := Q.up (Up.trans (by first | exact Up.refl _ | exact (Up.refl _).drew | exact (Up.refl _).drewN _) h1)
 clear h1
 obtain ⟨AM_, nM_, cM_, rfl, M_⟩ := M_.slq
 obtain ⟨Q0, Q1, Q2, Q3, Q4, Q5, Q6, Q7, Q8⟩ := Q.g9
 go_wp2_with fail
 clear Q0 Q1 Q2 Q3 Q4 Q5 Q6 Q7 Q8
 go_ret
 exact ⟨_, rfl, M_.lower SZ0.out, (by first | exact U | exact U.drew | exact U.drewN _)⟩
set_option maxRecDepth 100000 in
theorem qm_nar {p i b : Nat} {w : World} {F : Nat → Prop} (h : Iq p i b w F) (r : Bool) (hr : decide (b = M.qn i) = r) : Calls Tryz.prog 32 #[ptr p] w (fun e w' => e = .returned (.bool r) ∧ Up w w') := by
 have HH := Lib.hid h
 obtain ⟨f, S, Z, A, n, c0, K0, hb, Q, N⟩ := h.open_
 have K := Lib.hid K0
 clear h K0
 have hq : 2 ^ (S - 1) = M.qn i := by unfold M.qn; rw [K.out.s]
 obtain ⟨z, hz⟩ : ∃ z, M.cmp b (M.qn i) = z := ⟨_, rfl⟩
 have e1 : (z == 0) = r := by
  rw [← hr, ← hz]
  unfold M.cmp
  split
  ·rw [decide_eq_false (by omega)]; rfl
  ·split
   ·rename_i e; rw [decide_eq_true e]; rfl
   ·rename_i e; rw [decide_eq_false e]; rfl
 have CH := Lib.hid (fun W (u : Up w W) => qu_highest W K (.slice A n c0) (Q.up u))
 rw [hq] at CH
 have CC := Lib.hid (fun W (u : Up w W) lo' v' (N' : Nt W lo' 20 v' (M.qn i)) => (cmp_at W 0 lo' 20 20 (.slice A n c0) v' b (M.qn i) z (N.up u).nw N'.nw (Lib.hid hz)).mono (fun (e : Ending) (w' : World) ⟨h1, k, h2⟩ => show e = Ending.returned (.int .i64 z) ∧ Up W w' from ⟨h1, h2 ▸ (Up.refl W).drewN k⟩))
 have Q8 := Q.get 8
 simp only [M.z7, M.z8, M.z9] at Q8
 have Ql := Ob.lt Q
 clear hz hq hr N hb
 obtain ⟨V, hV⟩ : ∃ V, V = w := ⟨_, rfl⟩
 have UV : Up V V := Up.refl V
 subst hV
 go_enter Tryz.func32, Tryz.ntmps32
 go_wp2_with fail
 go_region_held3 (fun w' => w'.cell? ⟨p, 8, none⟩ = some (.slice A n c0)) (go_keep) (first
  | (go_at_call 62; (refine (CH.out _ (by first | with_reducible assumption | exact UV.drewN _ | exact UV.drew)).mono ?_); rintro _ wA ⟨vA, rfl, NA, hA⟩; obtain ⟨AA, nA, cA, rfl, NA⟩ := NA.slq; have UA : Up V wA := Up.trans (by first | with_reducible assumption | exact UV.drewN _ | exact UV.drew) hA; have Q8A := cell_up UA Q8)
  | (go_at_call 61; (refine (CC.out _ (by first | with_reducible assumption | exact UV.drewN _ | exact UV.drew | exact UA.drewN _ | exact UA.drew) _ _ (by first | exact NA | exact NA.up ((Up.refl _).drewN _) | exact NA.up ((Up.refl _).drew))).mono ?_); rintro _ wB ⟨rfl, hB⟩; have UB : Up V wB := Up.trans (by first | with_reducible assumption | exact UV.drewN _ | exact UV.drew | exact UA.drewN _ | exact UA.drew) hB; have Q8B := cell_up UB Q8))
 go_wp2_with fail
 go_ret
 exact ⟨rfl, by first | exact UB | exact UB.drew | exact UB.drewN _⟩
set_option maxRecDepth 100000 in
theorem qm_value {p i b : Nat} {w : World} {F : Nat → Prop} (h : Iq p i b w F) (hn : b ≠ M.qn i) (s : Bool) (N1 : Nat) (t fv : Int) (hqv : M.Qv i b s N1 t fv) : Calls Tryz.prog 28 #[ptr p] w (Xo s 20 N1 t fv true w) := by
 have HH := Lib.hid h
 obtain ⟨f, S, Z, A, n, c0, K0, hb, Q, N⟩ := h.open_
 have K := Lib.hid K0
 clear h K0
 have CN := Lib.hid (fun W (u : Up w W) => qm_nar (HH.out.stay u).1 false (decide_eq_false hn))
 have CHd := Lib.hid (fun W (u : Up w W) => qu_held W K A n c0 b (Q.up u) (N.up u) hb)
 obtain ⟨g, hg⟩ : ∃ g, decide (M.qn i ≤ b) = g := ⟨_, rfl⟩
 rw [hg] at CHd
 have CR := Lib.hid (fun W (u : Up w W) lo v2 (N2 : Nt W lo 20 v2 (M.qm i b)) => reduced_any W lo 20 g v2 (-(Z : Int)) 0 (M.qm i b) N2.nw (by omega) (by have := K.out.z2; omega) (by omega))
 have HV := Lib.hid (fun (a' : Nat) (t' f' : Int) (rd : M.Rdx (M.qm i b) (-(Z : Int)) 0 20 a' t' f') => M.qv_red (i := i) (b := b) (K.out.s.symm ▸ hb) hqv rd.zero (fun h0 => by
  obtain ⟨k2, k5, h1, h2, h3, h4, h5, _⟩ := rd.pos h0
  exact ⟨k2, k5, h1, h2, h3, by rw [h4, K.out.z], h5⟩))
 rw [hg] at HV
 clear hg
 clear hn N hb hqv
 obtain ⟨V, hV⟩ : ∃ V, w.alloc (.cells #[.bool false, .slice none 0 0, .int .i64 0, .int .i64 0] 34) = V := ⟨_, rfl⟩
 have bR : Bx V w.heap.size false (.slice none 0 0) 0 0 := by rw [← hV]; exact Bx.mk_ w _ _ _ _
 have sV : Hid (w.heap.size < V.heap.size) := Lib.hid (World.block_lt_of_cell? _ _ bR.1.1)
 have U : Up w V := by rw [← hV]; exact (Up.refl _).alloc _
 replace Q := Q.up U
 have uV := Up.refl V
 go_enter Tryz.func28, Tryz.ntmps28
 go_upto_region 1 with fail
 clear hV
 obtain ⟨Q0, Q1, Q2, Q3, Q4, Q5, Q6, Q7, Q8⟩ := Q.g9
 go_wp2_with fail
 clear Q0 Q1 Q2 Q3 Q4 Q5 Q6 Q7 Q8
 refine (CN.out _ (by first | exact U | exact U.drew | exact U.drewN _)).mono ?_
 rintro _ w1 ⟨rfl, h1⟩
 replace U := Up.trans (by first | exact U | exact U.drew | exact U.drewN _) h1
 replace Q := Q.up (Up.trans (by first | exact Up.refl _ | exact (Up.refl _).drew | exact (Up.refl _).drewN _) h1)
 replace bR := bR.up (Up.trans (by first | exact Up.refl _ | exact (Up.refl _).drew | exact (Up.refl _).drewN _) h1)
 replace uV := uV.trans (Up.trans (by first | exact Up.refl _ | exact (Up.refl _).drew | exact (Up.refl _).drewN _) h1)
 clear h1
 obtain ⟨Q0, Q1, Q2, Q3, Q4, Q5, Q6, Q7, Q8⟩ := Q.g9
 go_wp2_with fail
 clear Q0 Q1 Q2 Q3 Q4 Q5 Q6 Q7 Q8
 refine (CHd.out _ (by first | exact U | exact U.drew | exact U.drewN _)).mono ?_
 rintro _ w2 ⟨v2, rfl, N2, h2⟩
 replace U := Up.trans (by first | exact U | exact U.drew | exact U.drewN _) h2
 replace Q := Q.up (Up.trans (by first | exact Up.refl _ | exact (Up.refl _).drew | exact (Up.refl _).drewN _) h2)
 replace bR := bR.up (Up.trans (by first | exact Up.refl _ | exact (Up.refl _).drew | exact (Up.refl _).drewN _) h2)
 replace uV := uV.trans (Up.trans (by first | exact Up.refl _ | exact (Up.refl _).drew | exact (Up.refl _).drewN _) h2)
 clear h2
 obtain ⟨A2, n2, c2, rfl, N2⟩ := N2.slq
 obtain ⟨Q0, Q1, Q2, Q3, Q4, Q5, Q6, Q7, Q8⟩ := Q.g9
 go_wp2_with fail
 clear Q0 Q1 Q2 Q3 Q4 Q5 Q6 Q7 Q8
 refine (CR.out _ (by first | exact U | exact U.drew | exact U.drewN _) _ _ N2).mono ?_
 have SZ0 : Hid (V.heap.size ≤ _) := Lib.hid (show Up V _ from by first | exact uV | exact uV.drew | exact uV.drewN _).size
 have SZ1 : Hid (w.heap.size ≤ _) := Lib.hid (show Up w _ from (by first | exact U | exact U.drew | exact U.drewN _)).size
 rintro _ w3 ⟨v3, a3, t3, f3, rfl, N3, h3, rd⟩
 replace U := Up.trans (by first | exact U | exact U.drew | exact U.drewN _) h3
 replace Q := Q.up (Up.trans (by first | exact Up.refl _ | exact (Up.refl _).drew | exact (Up.refl _).drewN _) h3)
 replace bR := bR.up (Up.trans (by first | exact Up.refl _ | exact (Up.refl _).drew | exact (Up.refl _).drewN _) h3)
 replace uV := uV.trans (Up.trans (by first | exact Up.refl _ | exact (Up.refl _).drew | exact (Up.refl _).drewN _) h3)
 clear h3
 obtain ⟨A3, n3, c3, rfl, N3⟩ := N3.slq
 obtain ⟨rfl, rfl, rfl, rfl⟩ := HV.out _ _ _ rd
 have FIN := Lib.hid (show _ ∧ _ from ⟨(N3.set4 (Nat.lt_of_lt_of_le sV.out SZ0.out) (.bool s) (.slice A3 n3 c3) (.int .i64 t) (.int .i64 fv)).lower SZ1.out, U.set4 (Nat.le_refl _) (.bool s) (.slice A3 n3 c3) (.int .i64 t) (.int .i64 fv)⟩)
 obtain ⟨⟨b0, b1, b2, b3⟩, g0, g1, g2, g3⟩ := bR
 clear rd HV
 obtain ⟨Q0, Q1, Q2, Q3, Q4, Q5, Q6, Q7, Q8⟩ := Q.g9
 go_wp2_with fail
 clear Q0 Q1 Q2 Q3 Q4 Q5 Q6 Q7 Q8
 exact bodyPost_ret (v := .tuple #[xv s (.slice A3 n3 c3) t fv, .bool true]) (by simp [results, Tryz.results28, go_sem, b0, b1, b2, b3]) rfl ⟨_, rfl, FIN.out.1, FIN.out.2⟩
set_option maxRecDepth 100000 in
theorem qm_value_ {p i b : Nat} {w : World} {F : Nat → Prop} (h : Iq p i b w F) (hn : b = M.qn i) : Calls Tryz.prog 28 #[ptr p] w (Xo false 0 0 0 0 false w) := by
 have HH := Lib.hid h
 obtain ⟨f, S, Z, A, n, c0, K0, hb, Q, N⟩ := h.open_
 have K := Lib.hid K0
 clear h K0
 have CN := Lib.hid (fun W (u : Up w W) => qm_nar (HH.out.stay u).1 true (decide_eq_true hn))
 clear hn N hb
 obtain ⟨V, hV⟩ : ∃ V, w.alloc (.cells #[.bool false, .slice none 0 0, .int .i64 0, .int .i64 0] 34) = V := ⟨_, rfl⟩
 have bR : Bx V w.heap.size false (.slice none 0 0) 0 0 := by rw [← hV]; exact Bx.mk_ w _ _ _ _
 have sV : Hid (w.heap.size < V.heap.size) := Lib.hid (World.block_lt_of_cell? _ _ bR.1.1)
 have U : Up w V := by rw [← hV]; exact (Up.refl _).alloc _
 replace Q := Q.up U
 have uV := Up.refl V
 go_enter Tryz.func28, Tryz.ntmps28
 go_upto_region 1 with fail
 clear hV
 obtain ⟨Q0, Q1, Q2, Q3, Q4, Q5, Q6, Q7, Q8⟩ := Q.g9
 go_wp2_with fail
 clear Q0 Q1 Q2 Q3 Q4 Q5 Q6 Q7 Q8
 refine (CN.out _ (by first | exact U | exact U.drew | exact U.drewN _)).mono ?_
 rintro _ w1 ⟨rfl, h1⟩
 replace U := Up.trans (by first | exact U | exact U.drew | exact U.drewN _) h1
 replace Q := Q.up (Up.trans (by first | exact Up.refl _ | exact (Up.refl _).drew | exact (Up.refl _).drewN _) h1)
 replace bR := bR.up (Up.trans (by first | exact Up.refl _ | exact (Up.refl _).drew | exact (Up.refl _).drewN _) h1)
 replace uV := uV.trans (Up.trans (by first | exact Up.refl _ | exact (Up.refl _).drew | exact (Up.refl _).drewN _) h1)
 clear h1
 have FIN := Lib.hid (show Up w (set4 w1 w.heap.size (.bool false) (.slice none 0 0) (.int .i64 0) (.int .i64 0)) from U.set4 (Nat.le_refl _) _ _ _ _)
 obtain ⟨⟨b0, b1, b2, b3⟩, g0, g1, g2, g3⟩ := bR
 obtain ⟨Q0, Q1, Q2, Q3, Q4, Q5, Q6, Q7, Q8⟩ := Q.g9
 go_wp2_with fail
 clear Q0 Q1 Q2 Q3 Q4 Q5 Q6 Q7 Q8
 exact bodyPost_ret (v := .tuple #[xv false (.slice none 0 0) 0 0, .bool false]) (by simp [results, Tryz.results28, go_sem, b0, b1, b2, b3]) rfl ⟨_, rfl, Nt.nil _ _ _, FIN.out⟩
set_option maxRecDepth 100000 in
theorem qm_clear {p i b : Nat} {w : World} {F : Nat → Prop} (h : Iq p i b w F)  : Calls Tryz.prog 21 #[ptr p] w (Mu (α := Unit) F (fun _ => Iq p i 0) (fun _ => .tuple #[]) w) := by
 have HH := Lib.hid h
 obtain ⟨f, S, Z, A, n, c0, K0, hb, Q, N⟩ := h.open_
 have K := Lib.hid K0
 clear h K0
 have U := Up.refl w
 have Q8 := Q.get 8
 have Qf := Q.fr 8
 have Ql := Ob.lt Q
 simp only [M.z7, M.z8, M.z9] at Q8
 go_enter Tryz.func21, Tryz.ntmps21
 go_wp2_with fail
 go_end0
 exact ⟨(), rfl, HH.out.put (by first | exact U | exact U.drew | exact U.drewN _) (Nt.nil _ _ _) (Nat.le_refl _) (Nat.two_pow_pos _)⟩
set_option maxRecDepth 100000 in
theorem qm_neg {p i b : Nat} {w : World} {F : Nat → Prop} (h : Iq p i b w F)  : Calls Tryz.prog 19 #[ptr p] w (Mu (α := Unit) F (fun _ => Iq p i (M.ng (2 ^ M.qS i) b)) (fun _ => .tuple #[]) w) := by
 have HH := Lib.hid h
 obtain ⟨f, S, Z, A, n, c0, K0, hb, Q, N⟩ := h.open_
 have K := Lib.hid K0
 clear h K0
 have CT := Lib.hid (fun W (u : Up w W) => qu_turned W K (.slice A n c0) (Q.up u) 0 20 (.slice A n c0) b (N.up u) (Nat.le_of_lt hb))
 have HS : Hid (M.ng (2 ^ M.qS i) b = M.ng (2 ^ S) b) := Lib.hid (by rw [K.out.s])
 have HL : Hid (M.ng (2 ^ S) b < 2 ^ M.qS i) := Lib.hid (by rw [K.out.s]; exact M.ng_lt (Nat.two_pow_pos _))
 clear N hb
 have U := Up.refl w
 go_enter Tryz.func19, Tryz.ntmps19
 obtain ⟨Q0, Q1, Q2, Q3, Q4, Q5, Q6, Q7, Q8⟩ := Q.g9
 go_wp2_with fail
 clear Q0 Q1 Q2 Q3 Q4 Q5 Q6 Q7 Q8
 refine (CT.out _ (by first | exact U | exact U.drew | exact U.drewN _)).mono ?_
 have SZ0 : Hid (w.heap.size ≤ _) := Lib.hid (show Up w _ from (by first | exact U | exact U.drew | exact U.drewN _)).size
 rintro _ w1 ⟨vM_, rfl, M_, h1⟩
 replace U := Up.trans (by first | exact U | exact U.drew | exact U.drewN _) h1
 replace Q := Q.up (Up.trans (by first | exact Up.refl _ | exact (Up.refl _).drew | exact (Up.refl _).drewN _) h1)
 clear h1
 obtain ⟨AM_, nM_, cM_, rfl, M_⟩ := M_.slq
 have Qf := Q.fr 8
 have Ql := Ob.lt Q
 obtain ⟨Q0, Q1, Q2, Q3, Q4, Q5, Q6, Q7, Q8⟩ := Q.g9
 go_wp2_with fail
 clear Q0 Q1 Q2 Q3 Q4 Q5 Q6 Q7 Q8
 go_end0
 rw [HS.out]
 exact ⟨(), rfl, HH.out.put (by first | exact U | exact U.drew | exact U.drewN _) M_ SZ0.out HL.out⟩
set_option maxRecDepth 100000 in
theorem qm_set {p i b : Nat} {w : World} {F : Nat → Prop} (h : Iq p i b w F) (lo : Nat) (XA : Option Addr) (xn xc : Nat) (xs : List Nat) (hw : Wd w lo XA xn xc xs) (hn : xn ≤ 20) (b2 : Nat) (x : Int) (hx : M.Qs i (M.val xs) b b2 x) : Calls Tryz.prog 25 #[ptr p, .slice XA xn xc] w (Mu (α := Unit) F (fun _ => Iq p i b2) (fun _ => .int .i64 x) w) := by
 have HH := Lib.hid h
 obtain ⟨f, S, Z, A, n, c0, K0, hb, Q, N⟩ := h.open_
 have K := Lib.hid K0
 clear h K0
 have hS := K.out.s
 obtain ⟨a, ha⟩ : ∃ a, M.val xs = a := ⟨_, rfl⟩
 rw [ha] at hx
 have NW : Nw w lo 20 (.slice XA xn xc) a := ⟨XA, xn, xc, xs, rfl, hw, ha, hn⟩
 obtain ⟨B, hB⟩ : ∃ B : Nat, M.bits a = B := ⟨_, rfl⟩
 have CB := Lib.hid (fun W (u : Up w W) => bits_at2 W lo 20 (.slice XA xn xc) a (B : Int) (NW.up u) (Lib.hid (by rw [hB])))
 have CS := Lib.hid (fun W (u : Up w W) => qu_size W K (.slice A n c0) (Q.up u))
 have CN := Lib.hid (fun W (u : Up w W) => norm_any W lo 20 (.slice XA xn xc) a (NW.up u))
 have U := Up.refl w
 rcases hx with ⟨hl, rfl, rfl⟩ | ⟨hl, rfl, rfl⟩
 ·have d1 : ¬ S < B := by have h := M.too_many hl; rw [hB, hS] at h; simpa using h
  have HL := Lib.hid hl
  clear hl NW hB hS hb N ha hw
  go_enter Tryz.func25, Tryz.ntmps25
  obtain ⟨Q0, Q1, Q2, Q3, Q4, Q5, Q6, Q7, Q8⟩ := Q.g9
  go_wp2_with fail
  clear Q0 Q1 Q2 Q3 Q4 Q5 Q6 Q7 Q8
  refine (CB.out _ (by first | exact U | exact U.drew | exact U.drewN _)).mono ?_
  rintro _ _ ⟨rfl, rfl⟩
  obtain ⟨Q0, Q1, Q2, Q3, Q4, Q5, Q6, Q7, Q8⟩ := Q.g9
  go_wp2_with fail
  clear Q0 Q1 Q2 Q3 Q4 Q5 Q6 Q7 Q8
  refine (CS.out _ (by first | exact U | exact U.drew | exact U.drewN _)).mono ?_
  rintro _ w1 ⟨rfl, h1⟩
  replace U := Up.trans (by first | exact U | exact U.drew | exact U.drewN _) h1
  replace Q := Q.up (Up.trans (by first | exact Up.refl _ | exact (Up.refl _).drew | exact (Up.refl _).drewN _) h1)
  clear h1
  obtain ⟨Q0, Q1, Q2, Q3, Q4, Q5, Q6, Q7, Q8⟩ := Q.g9
  go_wp2_with fail
  clear Q0 Q1 Q2 Q3 Q4 Q5 Q6 Q7 Q8
  refine (CN.out _ (by first | exact U | exact U.drew | exact U.drewN _)).mono ?_
  have SZ0 : Hid (w.heap.size ≤ _) := Lib.hid (show Up w _ from (by first | exact U | exact U.drew | exact U.drewN _)).size
  rintro _ w2 ⟨vM_, rfl, M_, h2⟩
  replace U := Up.trans (by first | exact U | exact U.drew | exact U.drewN _) h2
  replace Q := Q.up (Up.trans (by first | exact Up.refl _ | exact (Up.refl _).drew | exact (Up.refl _).drewN _) h2)
  clear h2
  obtain ⟨AM_, nM_, cM_, rfl, M_⟩ := M_.slq
  have Qf := Q.fr 8
  have Ql := Ob.lt Q
  obtain ⟨Q0, Q1, Q2, Q3, Q4, Q5, Q6, Q7, Q8⟩ := Q.g9
  go_wp2_with fail
  clear Q0 Q1 Q2 Q3 Q4 Q5 Q6 Q7 Q8
  go_ret
  exact ⟨(), rfl, HH.out.put (by first | exact U | exact U.drew | exact U.drewN _) M_ SZ0.out HL.out⟩
 ·have d1 : S < B := by have h := M.too_many_ hl; rw [hB, hS] at h; simpa using h
  have HL := Lib.hid hl
  clear hl NW hB hS hb N ha hw
  go_enter Tryz.func25, Tryz.ntmps25
  obtain ⟨Q0, Q1, Q2, Q3, Q4, Q5, Q6, Q7, Q8⟩ := Q.g9
  go_wp2_with fail
  clear Q0 Q1 Q2 Q3 Q4 Q5 Q6 Q7 Q8
  refine (CB.out _ (by first | exact U | exact U.drew | exact U.drewN _)).mono ?_
  rintro _ _ ⟨rfl, rfl⟩
  obtain ⟨Q0, Q1, Q2, Q3, Q4, Q5, Q6, Q7, Q8⟩ := Q.g9
  go_wp2_with fail
  clear Q0 Q1 Q2 Q3 Q4 Q5 Q6 Q7 Q8
  refine (CS.out _ (by first | exact U | exact U.drew | exact U.drewN _)).mono ?_
  rintro _ w1 ⟨rfl, h1⟩
  replace U := Up.trans (by first | exact U | exact U.drew | exact U.drewN _) h1
  replace Q := Q.up (Up.trans (by first | exact Up.refl _ | exact (Up.refl _).drew | exact (Up.refl _).drewN _) h1)
  clear h1
  obtain ⟨Q0, Q1, Q2, Q3, Q4, Q5, Q6, Q7, Q8⟩ := Q.g9
  go_wp2_with fail
  clear Q0 Q1 Q2 Q3 Q4 Q5 Q6 Q7 Q8
  go_ret
  exact ⟨(), rfl, F, HH.out.stay (by first | exact U | exact U.drew | exact U.drewN _)⟩
set_option maxRecDepth 100000 in
theorem qm_add {p i b : Nat} {w : World} {F : Nat → Prop} (h : Iq p i b w F) (TT : Hid (Tz w)) (TF : Hid (TabF w)) (a d : Nat) (ha : a < 18446744073709551616) (hd : d < 18446744073709551616) (o : Option Nat) (x : Int) (hq : M.Qa i a d o x) : Calls Tryz.prog 16 #[ptr p, u64 a, u64 d] w (Mu (α := Unit) F (fun _ => Iq p i (M.qst i b (o))) (fun _ => .int .i64 x) w) := by
 have HH := Lib.hid h
 obtain ⟨f, S, Z, A, n, c0, K0, hb, Q, N⟩ := h.open_
 have K := Lib.hid K0
 clear h K0
 have CS : Hid (∀ W : World, W = w → Calls Tryz.prog 47 #[ptr p, u64 a, u64 d, .bool false] W (Mu (α := Unit) F (fun _ => Iq p i (M.qst i b (o))) (fun _ => .int .i64 x) W)) := by
  rintro W rfl
  exact qu_sum HH.out TT TF (Lib.hid (fun W2 (u : Up W W2) r hr => qm_nar (HH.out.stay u).1 r hr)) a d ha hd o x hq false (o) (by simp)
 clear hq N hb Q
 go_enter Tryz.func16, Tryz.ntmps16
 go_wp2_with fail
 refine (CS.out _ rfl).mono ?_
 rintro _ w1 ⟨_, rfl, F', h1, h2, h3⟩
 go_wp2_with fail
 go_ret
 exact ⟨(), rfl, F', h1, h2, h3⟩
set_option maxRecDepth 100000 in
theorem qm_sub {p i b : Nat} {w : World} {F : Nat → Prop} (h : Iq p i b w F) (TT : Hid (Tz w)) (TF : Hid (TabF w)) (a d : Nat) (ha : a < 18446744073709551616) (hd : d < 18446744073709551616) (o : Option Nat) (x : Int) (hq : M.Qa i a d o x) : Calls Tryz.prog 18 #[ptr p, u64 a, u64 d] w (Mu (α := Unit) F (fun _ => Iq p i (M.qst i b (M.tk i true o))) (fun _ => .int .i64 x) w) := by
 have HH := Lib.hid h
 obtain ⟨f, S, Z, A, n, c0, K0, hb, Q, N⟩ := h.open_
 have K := Lib.hid K0
 clear h K0
 have CS : Hid (∀ W : World, W = w → Calls Tryz.prog 47 #[ptr p, u64 a, u64 d, .bool true] W (Mu (α := Unit) F (fun _ => Iq p i (M.qst i b (M.tk i true o))) (fun _ => .int .i64 x) W)) := by
  rintro W rfl
  exact qu_sum HH.out TT TF (Lib.hid (fun W2 (u : Up W W2) r hr => qm_nar (HH.out.stay u).1 r hr)) a d ha hd o x hq true (M.tk i true o) (by simp)
 clear hq N hb Q
 go_enter Tryz.func18, Tryz.ntmps18
 go_wp2_with fail
 refine (CS.out _ rfl).mono ?_
 rintro _ w1 ⟨_, rfl, F', h1, h2, h3⟩
 go_wp2_with fail
 go_ret
 exact ⟨(), rfl, F', h1, h2, h3⟩
set_option maxRecDepth 100000 in
theorem qm_load {p i b : Nat} {w : World} {F : Nat → Prop} (h : Iq p i b w F) (lo : Nat) (s : Bool) (vx : Value) (a : Nat) (t fv : Int) (NX : Nt w lo 20 vx a) (bt : -600 ≤ t ∧ t ≤ 600) (bf : -600 ≤ fv ∧ fv ≤ 600) (b2 : Nat) (x : Int) (hx : M.Qld i s a t fv b b2 x) : Calls Tryz.prog 22 #[ptr p, xv s vx t fv] w (Mu (α := Unit) F (fun _ => Iq p i b2) (fun _ => .int .i64 x) w) := by
 have HH := Lib.hid h
 obtain ⟨f, S, Z, A, n, c0, K0, hb, Q, N⟩ := h.open_
 have K := Lib.hid K0
 clear h K0
 obtain ⟨XA, xn, xc, rfl, NX⟩ := NX.slq
 have hz2 := K.out.z2
 have hz1 := K.out.z1
 have CRt := Lib.hid (fun W (u : Up w W) => right_nt W lo 20 s (.slice XA xn xc) a t fv (NX.up u) true (Lib.hid (decide_eq_true ⟨NX.lt128 (by omega), by unfold M.pw; omega, by unfold M.pw; omega⟩)))
 have CRd := Lib.hid (fun W (u : Up w W) => reduced_any W lo 20 s (.slice XA xn xc) t fv a (NX.up u).nw (by omega) (by omega) (by omega))
 have HQ := Lib.hid hx
 have HB := Lib.hid (show (-600 ≤ t ∧ t ≤ 600) ∧ (-600 ≤ fv ∧ fv ≤ 600) from ⟨bt, bf⟩)
 clear hx bt bf hz1 hz2 N hb NX
 have U := Up.refl w
 go_enter Tryz.func22, Tryz.ntmps22
 go_upto_region 1 with fail
 obtain ⟨VX, hVX, X, uVX⟩ := Ob.nw w 34 #[.bool s, .slice XA xn xc, .int .i64 t, .int .i64 fv]
 rw [hVX]
 replace U := U.trans uVX
 have sVX : VX.heap.size = w.heap.size + 1 := by rw [← hVX]; exact Array.size_push _
 clear hVX
 replace Q := Q.up uVX
 clear sVX uVX
 obtain ⟨Q0, Q1, Q2, Q3, Q4, Q5, Q6, Q7, Q8⟩ := Q.g9
 obtain ⟨X0, X1, X2, X3⟩ := X.g4
 go_wp2_with fail
 clear Q0 Q1 Q2 Q3 Q4 Q5 Q6 Q7 Q8 X0 X1 X2 X3
 refine (CRt.out _ (by first | exact U | exact U.drew | exact U.drewN _)).mono ?_
 rintro _ w1 ⟨rfl, h1⟩
 replace U := Up.trans (by first | exact U | exact U.drew | exact U.drewN _) h1
 replace Q := Q.up (Up.trans (by first | exact Up.refl _ | exact (Up.refl _).drew | exact (Up.refl _).drewN _) h1)
 replace X := X.up (Up.trans (by first | exact Up.refl _ | exact (Up.refl _).drew | exact (Up.refl _).drewN _) h1)
 clear h1
 clear CRt
 obtain ⟨Q0, Q1, Q2, Q3, Q4, Q5, Q6, Q7, Q8⟩ := Q.g9
 obtain ⟨X0, X1, X2, X3⟩ := X.g4
 go_wp2_with fail
 clear Q0 Q1 Q2 Q3 Q4 Q5 Q6 Q7 Q8 X0 X1 X2 X3
 refine (CRd.out _ (by first | exact U | exact U.drew | exact U.drewN _)).mono ?_
 rintro _ w2 ⟨v3, a3, t3, f3, rfl, N3, h2, rd⟩
 replace U := Up.trans (by first | exact U | exact U.drew | exact U.drewN _) h2
 replace Q := Q.up (Up.trans (by first | exact Up.refl _ | exact (Up.refl _).drew | exact (Up.refl _).drewN _) h2)
 replace X := X.up (Up.trans (by first | exact Up.refl _ | exact (Up.refl _).drew | exact (Up.refl _).drewN _) h2)
 clear h2
 clear CRd
 obtain ⟨A3, n3, c3, rfl, N3⟩ := N3.slq
 have SZ0 : Hid (w.heap.size ≤ w2.heap.size) := Lib.hid U.size
 have hbb := HB.out
 have hZ := K.out.z
 have hZ2 := K.out.z2
 have hZ1 := K.out.z1
 have rt : (-600 ≤ t3 ∧ t3 ≤ 2000) ∧ (-600 ≤ f3 ∧ f3 ≤ 2000) := by
  rcases Nat.eq_zero_or_pos a with e | e
  ·obtain ⟨_, h1, h2⟩ := rd.zero e; omega
  ·obtain ⟨k2, k5, _, _, _, h4, h5, h6, h7⟩ := rd.pos e; omega
 by_cases hno : t3 + (Z : Int) < 0 ∨ (0 ≤ t3 + (Z : Int) ∧ f3 < 0)
 ·have HE : Hid (b2 = b ∧ x = 8) := by
   refine Lib.hid (M.qld_no ?_ HQ.out)
   rcases Nat.eq_zero_or_pos a with e | e
   ·obtain ⟨_, h1, h2⟩ := rd.zero e; omega
   ·obtain ⟨k2, k5, h1, h2, h3, h4, h5, _⟩ := rd.pos e
    exact M.ql_no K.out.i1 K.out.i2 h1 h2 h3 (by omega) (by omega) (by rw [hZ]; omega) s
  have CS := Lib.hid (fun W (u : Up w2 W) => qu_steps_no W K (.slice A n c0) (Q.up u) s _ 20 A3 n3 c3 a3 t3 f3 (N3.up u) (by omega) (by omega) hno)
  clear rd hno rt hbb hZ hZ1 hZ2 HQ HB N3
  obtain ⟨Q0, Q1, Q2, Q3, Q4, Q5, Q6, Q7, Q8⟩ := Q.g9
  obtain ⟨X0, X1, X2, X3⟩ := X.g4
  go_wp2_with fail
  clear Q0 Q1 Q2 Q3 Q4 Q5 Q6 Q7 Q8 X0 X1 X2 X3
  refine (CS.out _ (by first | exact Up.refl _ | exact (Up.refl _).drew | exact (Up.refl _).drewN _)).mono ?_
  rintro _ w9 ⟨rfl, h9⟩
  replace U := Up.trans (by first | exact U | exact U.drew | exact U.drewN _) h9
  replace Q := Q.up (Up.trans (by first | exact Up.refl _ | exact (Up.refl _).drew | exact (Up.refl _).drewN _) h9)
  replace X := X.up (Up.trans (by first | exact Up.refl _ | exact (Up.refl _).drew | exact (Up.refl _).drewN _) h9)
  clear h9 CS
  obtain ⟨Q0, Q1, Q2, Q3, Q4, Q5, Q6, Q7, Q8⟩ := Q.g9
  obtain ⟨X0, X1, X2, X3⟩ := X.g4
  go_wp2_with fail
  clear Q0 Q1 Q2 Q3 Q4 Q5 Q6 Q7 Q8 X0 X1 X2 X3
  go_ret
  rw [HE.out.1, HE.out.2]
  exact ⟨(), rfl, F, HH.out.stay (by first | exact U | exact U.drew | exact U.drewN _)⟩
 ·obtain ⟨k, hk⟩ : ∃ k : Nat, t3 + (Z : Int) = (k : Int) := ⟨(t3 + Z).toNat, by omega⟩
  obtain ⟨j, hj⟩ : ∃ j : Nat, f3 = (j : Int) := ⟨f3.toNat, by omega⟩
  obtain ⟨A', hA⟩ : ∃ A', a3 * 5 ^ j * 2 ^ k = A' := ⟨_, rfl⟩
  have hsz : M.sz a t fv = M.sz a3 t3 f3 := by
   rcases Nat.eq_zero_or_pos a with e | e
   ·obtain ⟨h0, _⟩ := rd.zero e
    subst e; rw [h0, M.sz_zero.2 rfl, M.sz_zero.2 rfl]
   ·obtain ⟨k2, k5, h1, h2, h3, h4, h5, _⟩ := rd.pos e
    rw [h4, h5]; exact M.sz_red h1 (by omega) (by omega)
  obtain ⟨y1, y2⟩ := M.ql_yes K.out.i1 K.out.i2 hsz (k := k) (j := j) (by rw [hZ]; omega) hj hA s
  have few := M.few_bits (A := A') K.out.i1 K.out.i2
  rw [K.out.s] at few
  have HQN : 2 ^ S = M.qn i + M.qn i := by rw [M.qn_two K.out.i1 K.out.i2, K.out.s]
  have CS := Lib.hid (fun W (u : Up w2 W) (r : Bool) (hr : decide (A' < M.qn i) = r) => qu_steps_yes W K (.slice A n c0) (Q.up u) s _ 20 A3 n3 c3 a3 t3 f3 (N3.up u) (by omega) k j A' r hk hj (by omega) (by omega) (by omega) hA (few.trans hr))
  by_cases hl : A' < M.qn i
  ·have HE : Hid (b2 = (if s = true then M.ng (2 ^ S) A' else A') ∧ x = 0) := Lib.hid (by rw [← K.out.s]; exact M.qld_yes (y1 hl) HQ.out)
   have hd := decide_eq_true hl
   have HL : Hid ((if s = true then M.ng (2 ^ S) A' else A') < 2 ^ M.qS i) := Lib.hid (by
    rw [K.out.s]; split
    ·exact M.ng_lt (Nat.two_pow_pos _)
    ·have := M.qn_pos i; omega)
   have HAS : Hid (A' < 2 ^ S) := Lib.hid (show A' < 2 ^ S from by have := M.qn_pos i; omega)
   have HS2 := Lib.hid K.out.s2
   clear rd hno rt hbb hZ hZ1 hZ2 HQ HB N3 few hk hj hA hsz y1 y2 HQN hl
   obtain ⟨Q0, Q1, Q2, Q3, Q4, Q5, Q6, Q7, Q8⟩ := Q.g9
   obtain ⟨X0, X1, X2, X3⟩ := X.g4
   go_wp2_with fail
   clear Q0 Q1 Q2 Q3 Q4 Q5 Q6 Q7 Q8 X0 X1 X2 X3
   refine (CS.out _ (by first | exact Up.refl _ | exact (Up.refl _).drew | exact (Up.refl _).drewN _) true hd).mono ?_
   have SZ2 : Hid (w.heap.size ≤ _) := Lib.hid (show Up w _ from (by first | exact U | exact U.drew | exact U.drewN _)).size
   rintro _ w9 ⟨v9, rfl, N9, h9⟩
   obtain ⟨A9, n9, c9, rfl, N9⟩ := N9.slq
   replace U := Up.trans (by first | exact U | exact U.drew | exact U.drewN _) h9
   replace Q := Q.up (Up.trans (by first | exact Up.refl _ | exact (Up.refl _).drew | exact (Up.refl _).drewN _) h9)
   replace X := X.up (Up.trans (by first | exact Up.refl _ | exact (Up.refl _).drew | exact (Up.refl _).drewN _) h9)
   clear h9 CS
   clear hd
   cases s
   ·have CG := Lib.hid (fun W (u : Up w9 W) => qu_signed_pos W K (.slice A n c0) (Q.up u) A9 n9 c9)
    have U9 := Up.refl w9
    obtain ⟨Q0, Q1, Q2, Q3, Q4, Q5, Q6, Q7, Q8⟩ := Q.g9
    obtain ⟨X0, X1, X2, X3⟩ := X.g4
    go_wp2_with fail
    clear Q0 Q1 Q2 Q3 Q4 Q5 Q6 Q7 Q8 X0 X1 X2 X3
    refine (CG.out _ (by first | exact Up.refl _ | exact (Up.refl _).drew | exact (Up.refl _).drewN _)).mono ?_
    rintro _ w10 ⟨rfl, h10⟩
    replace U := Up.trans (by first | exact U | exact U.drew | exact U.drewN _) h10
    replace Q := Q.up (Up.trans (by first | exact Up.refl _ | exact (Up.refl _).drew | exact (Up.refl _).drewN _) h10)
    replace X := X.up (Up.trans (by first | exact Up.refl _ | exact (Up.refl _).drew | exact (Up.refl _).drewN _) h10)
    replace N9 := N9.up (Up.trans (by first | exact Up.refl _ | exact (Up.refl _).drew | exact (Up.refl _).drewN _) h10)
    clear h10 CG
    have Qf := Q.fr 8
    have Ql := Ob.lt Q
    obtain ⟨Q0, Q1, Q2, Q3, Q4, Q5, Q6, Q7, Q8⟩ := Q.g9
    obtain ⟨X0, X1, X2, X3⟩ := X.g4
    go_wp2_with fail
    clear Q0 Q1 Q2 Q3 Q4 Q5 Q6 Q7 Q8 X0 X1 X2 X3
    go_ret
    rw [HE.out.1, HE.out.2]
    exact ⟨(), rfl, HH.out.put (by first | exact U | exact U.drew | exact U.drewN _) (by rw [if_neg (by decide)]; exact (N9.fit20 HAS.out HS2.out)) (by first | exact Nat.le_refl _ | exact SZ2.out) HL.out⟩
   ·have CG := Lib.hid (fun W (u : Up w9 W) => qu_signed_neg W K (.slice A n c0) (Q.up u) _ 20 (.slice A9 n9 c9) A' ((N9.fit20 HAS.out HS2.out).up u) (Nat.le_of_lt HAS.out))
    obtain ⟨Q0, Q1, Q2, Q3, Q4, Q5, Q6, Q7, Q8⟩ := Q.g9
    obtain ⟨X0, X1, X2, X3⟩ := X.g4
    go_wp2_with fail
    clear Q0 Q1 Q2 Q3 Q4 Q5 Q6 Q7 Q8 X0 X1 X2 X3
    have SZ3 : Hid (w.heap.size ≤ _) := Lib.hid (show Up w _ from (by first | exact U | exact U.drew | exact U.drewN _)).size
    refine (CG.out _ (by first | exact Up.refl _ | exact (Up.refl _).drew | exact (Up.refl _).drewN _)).mono ?_
    rintro _ w10 ⟨v10, rfl, N10, h10⟩
    obtain ⟨A10, n10, c10, rfl, N10⟩ := N10.slq
    replace U := Up.trans (by first | exact U | exact U.drew | exact U.drewN _) h10
    replace Q := Q.up (Up.trans (by first | exact Up.refl _ | exact (Up.refl _).drew | exact (Up.refl _).drewN _) h10)
    replace X := X.up (Up.trans (by first | exact Up.refl _ | exact (Up.refl _).drew | exact (Up.refl _).drewN _) h10)
    clear h10 CG
    have Qf := Q.fr 8
    have Ql := Ob.lt Q
    obtain ⟨Q0, Q1, Q2, Q3, Q4, Q5, Q6, Q7, Q8⟩ := Q.g9
    obtain ⟨X0, X1, X2, X3⟩ := X.g4
    go_wp2_with fail
    clear Q0 Q1 Q2 Q3 Q4 Q5 Q6 Q7 Q8 X0 X1 X2 X3
    go_ret
    rw [HE.out.1, HE.out.2]
    exact ⟨(), rfl, HH.out.put (by first | exact U | exact U.drew | exact U.drewN _) (by first | (rw [if_pos trivial]; exact N10) | (rw [if_pos rfl]; exact N10)) SZ3.out HL.out⟩
  ·have HE : Hid (b2 = b ∧ x = 8) := Lib.hid (M.qld_no (y2 hl) HQ.out)
   have hd := decide_eq_false hl
   clear rd hno rt hbb hZ hZ1 hZ2 HQ HB N3 few hk hj hA hsz y1 y2 HQN hl
   obtain ⟨Q0, Q1, Q2, Q3, Q4, Q5, Q6, Q7, Q8⟩ := Q.g9
   obtain ⟨X0, X1, X2, X3⟩ := X.g4
   go_wp2_with fail
   clear Q0 Q1 Q2 Q3 Q4 Q5 Q6 Q7 Q8 X0 X1 X2 X3
   refine (CS.out _ (by first | exact Up.refl _ | exact (Up.refl _).drew | exact (Up.refl _).drewN _) false hd).mono ?_
   have SZ2 : Hid (w.heap.size ≤ _) := Lib.hid (show Up w _ from (by first | exact U | exact U.drew | exact U.drewN _)).size
   rintro _ w9 ⟨v9, rfl, N9, h9⟩
   obtain ⟨A9, n9, c9, rfl, N9⟩ := N9.slq
   replace U := Up.trans (by first | exact U | exact U.drew | exact U.drewN _) h9
   replace Q := Q.up (Up.trans (by first | exact Up.refl _ | exact (Up.refl _).drew | exact (Up.refl _).drewN _) h9)
   replace X := X.up (Up.trans (by first | exact Up.refl _ | exact (Up.refl _).drew | exact (Up.refl _).drewN _) h9)
   clear h9 CS
   clear hd N9
   obtain ⟨Q0, Q1, Q2, Q3, Q4, Q5, Q6, Q7, Q8⟩ := Q.g9
   obtain ⟨X0, X1, X2, X3⟩ := X.g4
   go_wp2_with fail
   clear Q0 Q1 Q2 Q3 Q4 Q5 Q6 Q7 Q8 X0 X1 X2 X3
   go_ret
   rw [HE.out.1, HE.out.2]
   exact ⟨(), rfl, F, HH.out.stay (by first | exact U | exact U.drew | exact U.drewN _)⟩
set_option maxRecDepth 100000 in
theorem qm_posit {p i b : Nat} {w : World} {F : Nat → Prop} (h : Iq p i b w F) (TT : Hid (Tz w)) (TF : Hid (TabF w)) (q : Int) (hp : M.Qp i b q) : Calls Tryz.prog 33 #[ptr p] w (fun e w' => e = .returned (.int .u64 q) ∧ Up w w') := by
 have HH := Lib.hid h
 obtain ⟨f, S, Z, A, n, c0, K0, hb, Q, N⟩ := h.open_
 have K := Lib.hid K0
 clear h K0
 have HT := Lib.hid K.out.tb
 rcases hp with ⟨hn, rfl⟩ | ⟨hn, hr⟩
 ·have CN := Lib.hid (fun W (u : Up w W) => qm_nar (HH.out.stay u).1 true (decide_eq_true hn))
  clear hn N hb
  have U := Up.refl w
  go_enter Tryz.func33, Tryz.ntmps33
  obtain ⟨Q0, Q1, Q2, Q3, Q4, Q5, Q6, Q7, Q8⟩ := Q.g9
  go_wp2_with fail
  clear Q0 Q1 Q2 Q3 Q4 Q5 Q6 Q7 Q8
  refine (CN.out _ (by first | exact U | exact U.drew | exact U.drewN _)).mono ?_
  rintro _ w1 ⟨rfl, h1⟩
  replace U := Up.trans (by first | exact U | exact U.drew | exact U.drewN _) h1
  replace Q := Q.up (Up.trans (by first | exact Up.refl _ | exact (Up.refl _).drew | exact (Up.refl _).drewN _) h1)
  clear h1
  obtain ⟨Q0, Q1, Q2, Q3, Q4, Q5, Q6, Q7, Q8⟩ := Q.g9
  go_wp2_with fail
  clear Q0 Q1 Q2 Q3 Q4 Q5 Q6 Q7 Q8
  go_ret
  rw [HT.out]
  exact ⟨rfl, (by first | exact U | exact U.drew | exact U.drewN _)⟩
 ·have CN := Lib.hid (fun W (u : Up w W) => qm_nar (HH.out.stay u).1 false (decide_eq_false hn))
  have CHd := Lib.hid (fun W (u : Up w W) => qu_held W K A n c0 b (Q.up u) (N.up u) hb)
  obtain ⟨g, hg⟩ : ∃ g, decide (M.qn i ≤ b) = g := ⟨_, rfl⟩
  rw [hg] at CHd hr
  rw [K.out.z] at hr
  have CR := Lib.hid (fun W (u : Up w W) lo v (N2 : Nt W lo 20 v (M.qm i b)) => rnd_round W (Lib.hid (TT.out.up u)) (Lib.hid (TF.out.up u)) (i : Int) 2 lo 20 g v (-(Z : Int)) 0 (M.qm i b) N2 (by omega) (by have := K.out.z2; omega) (by omega) (N2.lt128 (by omega)) q 0 (.inr ⟨i, rfl, K.out.i1, M.four14 K.out.i2, .inr ⟨.inr rfl, M.rv_special K.out.i1 K.out.i2 hr, rfl⟩⟩))
  clear hn hg hr N hb
  have U := Up.refl w
  go_enter Tryz.func33, Tryz.ntmps33
  obtain ⟨Q0, Q1, Q2, Q3, Q4, Q5, Q6, Q7, Q8⟩ := Q.g9
  go_wp2_with fail
  clear Q0 Q1 Q2 Q3 Q4 Q5 Q6 Q7 Q8
  refine (CN.out _ (by first | exact U | exact U.drew | exact U.drewN _)).mono ?_
  rintro _ w1 ⟨rfl, h1⟩
  replace U := Up.trans (by first | exact U | exact U.drew | exact U.drewN _) h1
  replace Q := Q.up (Up.trans (by first | exact Up.refl _ | exact (Up.refl _).drew | exact (Up.refl _).drewN _) h1)
  clear h1
  clear CN
  obtain ⟨Q0, Q1, Q2, Q3, Q4, Q5, Q6, Q7, Q8⟩ := Q.g9
  go_upto_region 3 with fail
  clear Q0 Q1 Q2 Q3 Q4 Q5 Q6 Q7 Q8
  obtain ⟨V, hV⟩ : ∃ V, V = w1 := ⟨_, rfl⟩
  subst hV
  have UV := Up.refl V
  have Q7 := Q.get 7
  simp only [M.z7, M.z8, M.z9] at Q7
  have Ql := Ob.lt Q
  replace CHd := Lib.hid (fun W (u : Up V W) => CHd.out W (U.trans u))
  replace CR := Lib.hid (fun W (u : Up V W) => CR.out W (U.trans u))
  go_region_held3 (fun w' => w'.cell? ⟨p, 7, none⟩ = some (.int .i64 (i : Int))) (go_keep) (first
   | (go_at_call 60; (refine (CHd.out _ (by first | with_reducible assumption | exact UV.drewN _ | exact UV.drew)).mono ?_); rintro _ wA ⟨vA, rfl, NA, hA⟩; obtain ⟨AA, nA, cA, rfl, NA⟩ := NA.slq; have UA : Up V wA := Up.trans (by first | with_reducible assumption | exact UV.drewN _ | exact UV.drew) hA; have Q7A := cell_up UA Q7)
   | (go_at_call 43; (refine (CR.out _ (by first | with_reducible assumption | exact UV.drewN _ | exact UV.drew | exact UA.drewN _ | exact UA.drew) _ _ (by first | exact NA | exact NA.up ((Up.refl _).drewN _) | exact NA.up ((Up.refl _).drew))).mono ?_); rintro _ wB ⟨rfl, hB⟩; have UB : Up V wB := Up.trans (by first | with_reducible assumption | exact UV.drewN _ | exact UV.drew | exact UA.drewN _ | exact UA.drew) hB; have Q7B := cell_up UB Q7))
  go_wp2_with fail
  go_ret
  exact ⟨rfl, by first | exact U.trans UB | exact (U.trans UB).drew | exact (U.trans UB).drewN _⟩
set_option maxRecDepth 100000 in
theorem qm_new (w : World) (TF : TabF w) (i : Nat) (i1 : 1 ≤ i) (i2 : i ≤ 4) (F : Nat → Prop) : Calls Tryz.prog 13 #[.int .i64 (i : Int)] w (Mu F (fun p => Iq p i 0) (fun p => .tuple #[ptr p, .int .i64 0]) w) := by
 obtain ⟨f, hf⟩ : ∃ f, M.tb i = f := ⟨_, rfl⟩
 have CO := Lib.hid (of_in w TF i f (Lib.hid hf) i1 (M.four14 i2))
 have k1 := (M.q_facts i1 i2).1
 rw [hf] at k1
 have d1 : (f.k != 1) = false := by simpa using k1
 have HF := Lib.hid hf
 have HI := Lib.hid (And.intro i1 i2)
 clear k1 hf i1 i2 TF
 go_enter Tryz.func13, Tryz.ntmps13
 go_wp2_with fail
 refine CO.out.mono ?_
 rintro _ w1 ⟨rfl, u1⟩
 go_upto_region 2 with fail
 obtain ⟨V, hV⟩ : ∃ V, w1.alloc (.cells #[.int .i64 f.k, .int .i64 f.W, .int .i64 f.m, .int .i64 f.b, .int .u64 f.t, .int .u64 f.n, .int .u64 f.x] 74) = V := ⟨_, rfl⟩
 have C : Bf V w1.heap.size 74 f := by rw [← hV]; exact Bf.mk_ _ _ _
 have uV : Up w1 V := Up.al hV
 rw [hV]
 clear hV
 have U := u1.trans uV
 obtain ⟨x0, x1, x2, x3, x4, x5, x6⟩ := Bf.cs C
 try simp only [Nat.zero_add] at x1 x2 x3 x4 x5 x6
 go_wp2_with fail
 go_ret2
 refine ⟨V.heap.size, rfl, fun k => k = V.heap.size, ⟨⟨HI.out.1, HI.out.2, Nat.two_pow_pos _⟩, none, 0, 0, ?_, Nt.nil _ _ _, fun h => absurd h (by decide), fun k => ⟨fun h => .inl h, fun h => by rcases h with h | ⟨h, _⟩; exact h; exact absurd h (by decide)⟩⟩, Fr.of_up (U.alloc _), fun k h => .inr (by have := U.size; omega)⟩
 rw [HF.out]
 exact Ob.mk_ _ _ _
set_option maxRecDepth 100000 in
theorem qm_none (w : World) (TF : TabF w) (ii : Int) (h : ¬ (1 ≤ ii ∧ ii ≤ 4)) : Calls Tryz.prog 13 #[.int .i64 ii] w (fun e w' => e = .returned (.tuple #[.pointer none, .int .i64 3]) ∧ Up w w') := by
 by_cases hin : 1 ≤ ii ∧ ii ≤ 14
 ·obtain ⟨i, rfl⟩ : ∃ i : Nat, ii = i := ⟨ii.toNat, by omega⟩
  obtain ⟨f, hf⟩ : ∃ f, M.tb i = f := ⟨_, rfl⟩
  have CO := Lib.hid (of_in w TF i f (Lib.hid hf) (by omega) (by omega))
  have hk := M.form_kind (i := i) (by omega) (by omega)
  have d1 : (f.k != 1) = true := by
   have : f.k ≠ 1 := fun e => by have := hk.1 (by rw [hf]; exact e); omega
   simpa using this
  clear hk hf h hin TF
  go_enter Tryz.func13, Tryz.ntmps13
  go_wp2_with fail
  refine CO.out.mono ?_
  rintro _ w1 ⟨rfl, u1⟩
  go_upto_region 2 with fail
  obtain ⟨V, hV⟩ : ∃ V, w1.alloc (.cells #[.int .i64 f.k, .int .i64 f.W, .int .i64 f.m, .int .i64 f.b, .int .u64 f.t, .int .u64 f.n, .int .u64 f.x] 74) = V := ⟨_, rfl⟩
  have C : Bf V w1.heap.size 74 f := by rw [← hV]; exact Bf.mk_ _ _ _
  have uV : Up w1 V := Up.al hV
  rw [hV]
  clear hV
  have U := u1.trans uV
  obtain ⟨x0, x1, x2, x3, x4, x5, x6⟩ := Bf.cs C
  try simp only [Nat.zero_add] at x1 x2 x3 x4 x5 x6
  go_wp2_with fail
  go_ret2
  exact ⟨rfl, by first | exact U | exact U.drew | exact U.drewN _⟩
 ·have CO := Lib.hid (of_out w ii (by omega))
  clear h hin
  go_enter Tryz.func13, Tryz.ntmps13
  go_wp2_with fail
  refine CO.out.mono ?_
  rintro _ w1 ⟨rfl, u1⟩
  go_wp2_with fail
  go_ret2
  exact ⟨rfl, by (repeat (first | exact u1 | refine Up.drew ?_ | refine Up.alloc ?_ _)); try exact u1⟩
theorem qui_face : Qui Iq where
 kpt := Iq.kpt
 rng := fun h => ⟨h.1.1, h.1.2.1, h.1.2.2⟩
 new := fun w TF i i1 i2 F => qm_new w TF i i1 i2 F
 none_ := fun w TF ii h => qm_none w TF ii h
 size := fun h _ _ => qm_size h
 bits := fun h _ _ => qm_bits h
 set := fun h _ _ lo A n c xs hw hn b' x hx => qm_set h lo A n c xs hw hn b' x hx
 nar := fun h _ _ r hr => qm_nar h r hr
 value := fun h _ _ hn s N t f hv => qm_value h hn s N t f hv
 value_ := fun h _ _ hn => qm_value_ h hn
 clear := fun h _ _ => qm_clear h
 neg := fun h _ _ => qm_neg h
 add := fun h TT TF a c ha hc o x hq => qm_add h (Lib.hid TT) (Lib.hid TF) a c ha hc o x hq
 sub := fun h TT TF a c ha hc o x hq => qm_sub h (Lib.hid TT) (Lib.hid TF) a c ha hc o x hq
 load := fun h _ _ lo s v a t f N bt bf b' x hx => qm_load h lo s v a t f N bt bf b' x hx
 posit := fun h TT TF q hq => qm_posit h (Lib.hid TT) (Lib.hid TF) q hq
end Go.Proofs.YtijpffgocookaaaGreatDoor
