import Derived.Test.YtcmlanfgafancaaGreatDoorQDKb
import Derived.Deep.RegionHeld3
import Derived.Deep.DrawnRows
import Derived.OwnWalk
import Derived.Deep.DeepCutAuto
set_option maxHeartbeats 32000000
set_option linter.unusedVariables false
set_option linter.unusedSimpArgs false
namespace Go.Proofs.YtcmlanfgafancaaGreatDoor
open Go.RowKit
namespace M
theorem floor_sz {a T F T' F' : Nat} {t f k : Int} (lt : -5000 ≤ t) (lf : -5000 ≤ f) (lk : -5000 ≤ k) (hT : max 0 (t - k) = (T : Int)) (hF : max 0 (f - k) = (F : Int)) (hT' : max 0 (-(t - k)) = (T' : Int)) (hF' : max 0 (-(f - k)) = (F' : Int)) :
  ∃ c, 0 < c ∧ sz a t f = a * 5 ^ F * 2 ^ T * c ∧ sz 1 k k = 5 ^ F' * 2 ^ T' * c := by
 obtain ⟨p, hp⟩ : ∃ p : Nat, (p : Int) = min f k + 5000 := ⟨(min f k + 5000).toNat, by omega⟩
 obtain ⟨q, hq⟩ : ∃ q : Nat, (q : Int) = min t k + 5000 := ⟨(min t k + 5000).toNat, by omega⟩
 refine ⟨5 ^ p * 2 ^ q, Nat.mul_pos (Nat.pow_pos (by decide)) (p2 q), ?_, ?_⟩
 ·unfold sz ov
  rw [bse_eq, show (f - -5000).toNat = F + p by omega, show (t - -5000).toNat = T + q by omega, Nat.pow_add, Nat.pow_add]
  ac_rfl
 ·unfold sz ov
  rw [bse_eq, show (k - -5000).toNat = F' + p by omega, Nat.one_mul]
  rw [Nat.pow_add 5, show F' + p = T' + q by omega, Nat.pow_add 2]
  ac_rfl
theorem bes_of {A B c X : Nat} {k : Int} (c0 : 0 < c) (b0 : 0 < B) (hX : X = A * c) (hu : sz 1 k k = B * c) : Bes X k (A / B) (part (A % B) B) := by
 have hA : A = A / B * B + A % B := by rw [Nat.mul_comm]; exact (Nat.div_add_mod A B).symm
 have hr : A % B < B := Nat.mod_lt _ b0
 generalize A / B = q at *
 generalize A % B = r at *
 have e1 : sz q k k = q * B * c := by rw [sz_one, hu, Nat.mul_assoc]
 have e2 : sz (q + 1) k k = q * B * c + B * c := by rw [sz_succ, e1, hu]
 have eX : X = q * B * c + r * c := by rw [hX, hA, Nat.add_mul]
 have l1 : r * c < B * c := Nat.mul_lt_mul_of_pos_right hr c0
 generalize q * B * c = Q at *
 by_cases r0 : r = 0
 ·subst r0
  rw [Nat.zero_mul] at *
  have : part 0 B = 0 := by unfold part; rw [if_pos rfl]
  rw [this]
  exact ⟨by omega, by omega, .inl rfl, fun _ => by omega, (fun e => by cases e), (fun e => by cases e), (fun e => by cases e), fun e => absurd rfl e⟩
 ·have r1 : 0 < r * c := Nat.mul_pos (by omega) c0
  have hp : part r B = 2 + cmp (r * 2) B := by unfold part; rw [if_neg r0]
  rcases Nat.lt_trichotomy (r * 2) B with h | h | h
  ·have l2 : r * 2 * c < B * c := Nat.mul_lt_mul_of_pos_right h c0
   rw [Nat.mul_right_comm] at l2
   rw [cmp_lt h] at hp
   rw [show part r B = 1 by omega]
   exact ⟨by omega, by omega, .inr (.inl rfl), (fun e => by cases e), fun _ => by omega, (fun e => by cases e), (fun e => by cases e), fun _ => by omega⟩
  ·have l2 : r * 2 * c = B * c := by rw [h]
   rw [Nat.mul_right_comm] at l2
   rw [cmp_eq h] at hp
   rw [show part r B = 2 by omega]
   exact ⟨by omega, by omega, .inr (.inr (.inl rfl)), (fun e => by cases e), (fun e => by cases e), fun _ => by omega, (fun e => by cases e), fun _ => by omega⟩
  ·have l2 : B * c < r * 2 * c := Nat.mul_lt_mul_of_pos_right h c0
   rw [Nat.mul_right_comm] at l2
   rw [cmp_gt h] at hp
   rw [show part r B = 3 by omega]
   exact ⟨by omega, by omega, .inr (.inr (.inr rfl)), (fun e => by cases e), (fun e => by cases e), (fun e => by cases e), fun _ => by omega, fun _ => by omega⟩
theorem dig_bounds : ∀ (n x : Nat), x ≤ n → 0 < x → 10 ^ ((Lib.decDigits x).length - 1) ≤ x ∧ x < 10 ^ (Lib.decDigits x).length ∧ 0 < (Lib.decDigits x).length := by
 intro n
 induction n with
 | zero => intro x h h0; omega
 | succ n ih =>
  intro x hx h0
  rcases Nat.lt_or_ge x 10 with h | h
  ·rw [Lib.decDigits, dif_pos h]
   simp
   omega
  ·obtain ⟨h1, h2, h3⟩ := ih (x / 10) (by omega) (by omega)
   rw [Lib.decDigits, dif_neg (by omega), List.length_append]
   obtain ⟨l, hl⟩ : ∃ l, (Lib.decDigits (x / 10)).length = l := ⟨_, rfl⟩
   rw [hl] at h1 h2 h3 ⊢
   simp only [List.length_cons, List.length_nil, Nat.zero_add, Nat.add_sub_cancel]
   refine ⟨?_, ?_, by omega⟩
   ·obtain ⟨l', rfl⟩ : ∃ l', l = l' + 1 := ⟨l - 1, by omega⟩
    rw [Nat.add_sub_cancel] at h1
    rw [Nat.pow_succ]
    omega
   ·rw [Nat.pow_succ]
    omega
theorem log_tp {a T F : Nat} {z m t : Int} (a0 : a ≠ 0) (hz : -3000 ≤ z ∧ z ≤ 3000) (hm : min z 0 = m) (hT : (T : Int) = z - m) (hF : (F : Int) = 0 - m) (ht : Tp (sz a z 0) t) : log10 a F T m = t := by
 have hw : 0 < a * 5 ^ F * 2 ^ T := Nat.mul_pos (Nat.mul_pos (by omega) (Nat.pow_pos (by omega))) (Nat.pow_pos (by omega))
 obtain ⟨d1, d2, d3⟩ := dig_bounds _ _ (Nat.le_refl _) hw
 unfold log10
 rw [if_neg a0]
 obtain ⟨l, hl⟩ : ∃ l, (Lib.decDigits (a * 5 ^ F * 2 ^ T)).length = l := ⟨_, rfl⟩
 rw [hl] at d1 d2 d3 ⊢
 have es : sz a z 0 = a * 5 ^ F * 2 ^ T * sz 1 m m := by
  unfold sz ov
  rw [bse_eq, show ((0 : Int) - -5000).toNat = F + (m - -5000).toNat by omega, show (z - -5000).toNat = T + (m - -5000).toNat by omega, Nat.pow_add, Nat.pow_add]
  generalize (m - -5000).toNat = c
  ac_rfl
 have up := sz_pos m m
 have q1 : sz 1 (m + l - 1) (m + l - 1) ≤ sz a z 0 := by
  rw [show m + (l : Int) - 1 = m + ((l - 1 : Nat) : Int) by omega, sz_pow (l - 1) m (by omega), es]
  exact Nat.mul_le_mul_right _ d1
 have q2 : sz a z 0 < sz 1 (m + l - 1 + 1) (m + l - 1 + 1) := by
  rw [show m + (l : Int) - 1 + 1 = m + (l : Int) by omega, sz_pow l m (by omega), es]
  exact Nat.mul_lt_mul_of_pos_right d2 up
 have b1 := ht.le
 have b2 := ht.lt
 have b3 := ht.lo
 rcases (show m + (l : Int) - 1 < t ∨ m + (l : Int) - 1 = t ∨ t < m + (l : Int) - 1 by omega) with c | c | c
 ·have := sz_mono10 (i := m + (l : Int) - 1 + 1) (j := t) (by omega) (by omega)
  omega
 ·exact c
 ·have := sz_mono10 (i := t + 1) (j := m + (l : Int) - 1) (by omega) (by omega)
  omega
end M
theorem floor_bes (w : World) (lo s : Nat) (neg : Bool) (v : Value) (t f : Int) (a : Nat) (h : Nw w lo s v a) (hs : s ≤ 1000) (bt : -5000 ≤ t ∧ t ≤ 5000) (bf : -5000 ≤ f ∧ f ≤ 5000) (k : Int) (bk : -4900 ≤ k ∧ k ≤ 4900) (d : Nat) (z : Int) (hb : M.Bes (M.sz a t f) k d z) :
  Calls Tryz.prog 156 #[xv neg v t f, .int .i64 k] w (Flo 20000 d z w) := by
 obtain ⟨T, hT⟩ : ∃ T : Nat, max 0 (t - k) = (T : Int) := ⟨(max 0 (t - k)).toNat, by omega⟩
 obtain ⟨F, hF⟩ : ∃ F : Nat, max 0 (f - k) = (F : Int) := ⟨(max 0 (f - k)).toNat, by omega⟩
 obtain ⟨T', hT'⟩ : ∃ T : Nat, max 0 (-(t - k)) = (T : Int) := ⟨(max 0 (-(t - k))).toNat, by omega⟩
 obtain ⟨F', hF'⟩ : ∃ F : Nat, max 0 (-(f - k)) = (F : Int) := ⟨(max 0 (-(f - k))).toNat, by omega⟩
 obtain ⟨c, c0, e1, e2⟩ := M.floor_sz (a := a) bt.1 bf.1 (by omega) hT hF hT' hF'
 have hB := M.bes_of c0 (Nat.mul_pos (Nat.pow_pos (by decide)) (M.p2 T')) e1 e2
 obtain ⟨g1, g2⟩ := M.bes_uniq hB hb
 refine (floor_any w lo s neg v t f a h (by omega) (by omega) (by omega) k k (by show _ = _; omega) T F T' F' (by show _ = _; omega) (by show _ = _; omega) (by show _ = _; omega) (by show _ = _; omega) d _ (by show _ = _; rw [Nat.one_mul]; exact g1) rfl z (by show _ = _; rw [Nat.one_mul]; exact g2)).mono ?_
 rintro _ w' ⟨v', rfl, h', u⟩
 exact ⟨v', rfl, h'.more (by omega), u⟩
def Nrs (P : Nat → Prop) (ng : Bool) (k : Int) (d : Nat) (z : Int) (w : World) (e : Ending) (w' : World) : Prop :=
 (∃ A n c y, e = .returned (.tuple #[xv ng (.slice A n c) k k, .bool true]) ∧ M.Ch P d z y ∧ Nt w' w.heap.size 2 (.slice A n c) y ∧ Up w w') ∨
 (e = .returned (.tuple #[xv false (.slice none 0 0) 0 0, .bool false]) ∧ M.No P d ∧ Up w w')
theorem Nt.oth {w V : World} {lo s g : Nat} {v : Value} {a : Nat} (h : Nt w lo s v a) (h0 : 0 < a) (ho : ∀ b', b' ≠ g → V.heap[b']? = w.heap[b']?) (hne : v.ownBlock ≠ some g) : Nt V lo s v a := by
 obtain ⟨A, n, c, xs, rfl, h1, h2⟩ := h
 refine ⟨A, n, c, xs, rfl, ⟨h1.num, h1.len, h1.small, h1.wds, fun hn => ?_⟩, h2⟩
 obtain ⟨b, o, rfl, hb, hc⟩ := h1.at_ hn
 have hbg : b ≠ g := fun e => hne (by rw [← e]; rfl)
 exact ⟨b, o, rfl, hb, fun j hj => ⟨(World.cell?_of_block (w := w) (ho b hbg)).trans (hc j hj).1, (World.frozen?_of_block (w := w) (ho b hbg)).trans (hc j hj).2⟩⟩
theorem wpAnyH_name {P : Program} {md : Region.Mode} {ops : Array Oper} {Q : Exit → Act → World → Prop} {S : World → Prop} {fuel : Nat} {listed : Array Bool} {a : Act} {w : World}
  (hp : ∀ c (d : Nat) v a w, Q (.panic c) (a.put (some d) v) w → Q (.panic c) a w) (h : ∀ Q0 : Exit → Act → World → Prop, (∀ c (d : Nat) v a w, Q0 (.panic c) (a.put (some d) v) w → Q0 (.panic c) a w) → (∀ a w, Q .normal a w → Q0 .normal a w) → wpAnyH P md ops Q0 S fuel listed a w) :
  wpAnyH P md ops Q S fuel listed a w := h Q hp (fun _ _ h => h)
set_option maxRecDepth 100000 in
theorem near_any (w : World) (A1 : Option Addr) (n1 c1 : Nat) (z1 : Int) (A2 : Option Addr) (n2 c2 : Nat) (z2 : Int) (ev : Bool) (lo1 lo2 : Nat) (m1 m2 : Nat) (N1 : Nt w lo1 1 (.slice A1 n1 c1) m1) (N2 : Nt w lo2 1 (.slice A2 n2 c2) m2) (b1 : -3000 ≤ z1 ∧ z1 ≤ 3000) (b2 : -3000 ≤ z2 ∧ z2 ≤ 3000) (lo : Nat) (ng : Bool) (A : Option Addr) (n c : Nat) (z : Int) (a : Nat) (h : Nt w lo 1 (.slice A n c) a) (zb : -3000 ≤ z ∧ z ≤ 3000) (k : Int) (kb : -4000 ≤ k ∧ k ≤ 4400) (d : Nat) (r : Int) (hB : M.Bes (M.sz a z 0) k d r) (d0 : 0 < d) (db : d < 1000000000000000000000) : Calls Tryz.prog 88 #[.agg #[.bool false, .slice A1 n1 c1, .int .i64 z1, .int .i64 0, .bool false, .slice A2 n2 c2, .int .i64 z2, .int .i64 0, .bool ev], xv ng (.slice A n c) z 0, .int .i64 k] w (Nrs (fun y => M.In m1 z1 m2 z2 ev (M.sz y k k)) ng k d r w) := by
 have f2 : d < 18446744073709551616 ^ 2 := by omega
 have h1 : d < 18446744073709551616 ^ 128 := by have := M.c_128; omega
 have h2 : d + 1 < 18446744073709551616 ^ 128 := by have := M.c_128; have := M.c_21; omega
 have F2 := Lib.hid f2
 have H1 := Lib.hid h1
 have H2 := Lib.hid h2
 clear f2 h1 h2
 have CF := Lib.hid (fun W (U : Up w W) => floor_bes W lo 1 ng _ z 0 a (h.nw.up U) (by omega) (by omega) (by omega) k (by omega) d r hB)
 have CD := Lib.hid (fun W lo' s' v' y (N : Nt W lo' s' v' y) (hy : y < 18446744073709551616 ^ 128) => dec_yes W lo' s' ng v' y k N.nw hy (by unfold M.pw; omega))
 have CH := Lib.hid (fun W (U : Up w W) lo' A' n' c' y (N : Nt W lo' 3 (.slice A' n' c') y) (q : Bool) (hq : Hid (q = true ↔ M.In m1 z1 m2 z2 ev (M.sz y k k))) => has_any W A1 n1 c1 z1 A2 n2 c2 z2 ev lo1 lo2 m1 m2 (N1.up U) (N2.up U) b1 b2 lo' 3 ng A' n' c' k k y N (by omega) (by omega) (by omega) q hq)
 have CO : Hid (∀ W : World, Calls Tryz.prog 144 #[.int .u64 1] W (Res 1 1 W)) := Lib.hid (fun W => of_any W 1 (by omega))
 have CA := Lib.hid (fun W lo' lo'' v v' (Nd : Nt W lo' 2 v d) (No : Nt W lo'' 1 v' 1) => add_of W lo' lo'' 2 1 2 v v' d 1 Nd.nw No.nw (by omega) (by omega) (by omega))
 have CE := Lib.hid (fun W lo' v (Nd : Nt W lo' 2 v d) (t : Bool) (ht : Hid (d.testBit 0 = t)) => even_at W lo' 2 v d Nd.nw t ht)
 have rng := hB.rng
 have EX : ∀ y : Nat, ∃ q : Bool, q = true ↔ M.In m1 z1 m2 z2 ev (M.sz y k k) := fun y => by
  by_cases e : M.In m1 z1 m2 z2 ev (M.sz y k k)
  ·exact ⟨true, fun _ => e, fun _ => rfl⟩
  ·exact ⟨false, fun h => (by cases h), fun h => absurd h e⟩
 obtain ⟨qd, hqd⟩ := EX d
 obtain ⟨qe, hqe⟩ := EX (d + 1)
 have HQD := Lib.hid hqd
 have HQE := Lib.hid hqe
 have HR := Lib.hid rng
 have DB := Lib.hid db
 clear h zb kb hB N1 N2 b1 b2 EX hqd hqe rng db
 have U := Up.refl w
 go_enter Tryz.func88, Tryz.ntmps88
 go_wp2_with fail
 obtain ⟨V1, hV1⟩ : ∃ V1, w.alloc (.cells #[.bool false, .slice A1 n1 c1, .int .i64 z1, .int .i64 0, .bool false, .slice A2 n2 c2, .int .i64 z2, .int .i64 0, .bool ev] 90) = V1 := ⟨_, rfl⟩
 have S : Ob V1 (w.heap.size) 90 #[.bool false, .slice A1 n1 c1, .int .i64 z1, .int .i64 0, .bool false, .slice A2 n2 c2, .int .i64 z2, .int .i64 0, .bool ev] := by rw [← hV1]; exact Ob.mk_ _ _ _
 have sV1 : V1.heap.size = w.heap.size + 1 := by rw [← hV1]; exact (Array.size_push _)
 have uV1 : Up w V1 := Up.al hV1
 have ltS : w.heap.size ≤ w.heap.size := by have := U.size; omega
 rw [hV1]
 clear hV1
 replace U := U.trans uV1
 clear uV1
 obtain ⟨V2, hV2⟩ : ∃ V2, V1.alloc (.cells #[.bool ng, .slice A n c, .int .i64 z, .int .i64 0] 84) = V2 := ⟨_, rfl⟩
 have X : Ob V2 (w.heap.size + 1) 84 #[.bool ng, .slice A n c, .int .i64 z, .int .i64 0] := by rw [← sV1, ← hV2]; exact Ob.mk_ _ _ _
 have sV2 : V2.heap.size = w.heap.size + 1 + 1 := by rw [← hV2]; exact (Array.size_push _).trans (congrArg (· + 1) sV1)
 have uV2 : Up V1 V2 := Up.al hV2
 have ltX : w.heap.size ≤ w.heap.size + 1 := Nat.le_succ_of_le ltS
 rw [hV2]
 clear hV2
 replace S := S.up uV2
 replace U := U.trans uV2
 clear uV2
 obtain ⟨V3, hV3⟩ : ∃ V3, V2.alloc (.cells #[.bool false, .slice none 0 0, .int .i64 0, .int .i64 0] 84) = V3 := ⟨_, rfl⟩
 have R : Ob V3 (w.heap.size + 1 + 1) 84 #[.bool false, .slice none 0 0, .int .i64 0, .int .i64 0] := by rw [← sV2, ← hV3]; exact Ob.mk_ _ _ _
 have sV3 : V3.heap.size = w.heap.size + 1 + 1 + 1 := by rw [← hV3]; exact (Array.size_push _).trans (congrArg (· + 1) sV2)
 have uV3 : Up V2 V3 := Up.al hV3
 have ltR : w.heap.size ≤ w.heap.size + 1 + 1 := Nat.le_succ_of_le ltX
 rw [hV3]
 clear hV3
 replace S := S.up uV3
 replace X := X.up uV3
 replace U := U.trans uV3
 clear uV3
 clear sV3 sV2 sV1
 have glS := S.lt
 have glX := X.lt
 have glR := R.lt
 obtain ⟨X0, X1, X2, X3, Xf0, Xf1, Xf2, Xf3, Xl⟩ := X.c4
 go_wp2_with fail
 clear X0 Xf0 X1 Xf1 X2 Xf2 X3 Xf3 Xl
 refine (CF.out _ U).mono ?_
 rintro _ w4 ⟨vd, rfl, nd, h4⟩
 replace U := U.trans h4
 replace S := S.up h4
 replace X := X.up h4
 replace R := R.up h4
 clear h4
 replace nd := nd.fit F2.out
 obtain ⟨Ad, nd0, cd, rfl, nd⟩ := nd.sl
 clear CF
 have rR := R.lt
 obtain ⟨X0, X1, X2, X3, Xf0, Xf1, Xf2, Xf3, Xl⟩ := X.c4
 go_wp2_with fail
 clear X0 Xf0 X1 Xf1 X2 Xf2 X3 Xf3 Xl
 refine (CD.out _ _ _ _ _ nd H1.out).mono ?_
 rintro _ w5 ⟨vn, rfl, nn, h5⟩
 replace U := U.trans h5
 replace S := S.up h5
 replace X := X.up h5
 replace R := R.up h5
 replace nd := nd.up h5
 clear h5
 obtain ⟨An, nn0, cn, rfl, nn⟩ := nn.sl
 have onN := nn.own_hi d0 (Nat.le_refl _)
 have onR := nn.own_lo d0 rR
 have lnn : w.heap.size ≤ w4.heap.size := by omega
 go_upto_region 3 with fail
 have gNS := S.lt
 have gNX := X.lt
 have gNR := R.lt
 obtain ⟨V6, hV6⟩ : ∃ V6, w5.alloc (.cells #[.bool ng, .slice An nn0 cn, .int .i64 k, .int .i64 k] 84) = V6 := ⟨_, rfl⟩
 have N : Ob V6 (w5.heap.size) 84 #[.bool ng, .slice An nn0 cn, .int .i64 k, .int .i64 k] := by rw [← hV6]; exact Ob.mk_ _ _ _
 have sV6 : V6.heap.size = w5.heap.size + 1 := by rw [← hV6]; exact (Array.size_push _)
 have uV6 : Up w5 V6 := Up.al hV6
 have ltN : w.heap.size ≤ w5.heap.size := by have := U.size; omega
 rw [hV6]
 clear hV6
 replace U := U.trans uV6
 replace S := S.up uV6
 replace X := X.up uV6
 replace R := R.up uV6
 replace nd := nd.up uV6
 replace nn := nn.up uV6
 clear uV6
 clear sV6
 have glN := N.lt
 go_cut [12, 13] (fun f12 f13 wx => ∃ gF AF nF0 cF, f12 = .pointer (some ⟨gF, 0, none⟩) ∧ Ob wx gF 84 #[.bool ng, .slice AF nF0 cF, .int .i64 k, .int .i64 k] ∧ Nt wx V6.heap.size 3 (.slice AF nF0 cF) (d + 1) ∧ (Value.slice AF nF0 cF).ownBlock ≠ some gF ∧ V6.heap.size ≤ gF ∧ Up V6 wx)
 case first =>
  have uD : Up V6 V6.drew := (Up.refl _).drew
  refine wp_region_held_drew (S := fun w' => Ob w' (w.heap.size + 1) 84 #[.bool ng, .slice A n c, .int .i64 z, .int .i64 0]) (by kernel_rfl) (X.up uD) (fun hHeld => ?_)
  refine wpAnyH_name (fun _ _ _ _ _ h => h) (fun Q0 HP HN => ?_)
  refine wpAnyH_take (i := 0) (v := ?_) rfl ?_ ?_ ?_ ?_ ?_ ?_ ?_
  rotate_left
  ·kernel_rfl
  ·kernel_rfl
  ·kernel_rfl
  ·exact fun c a w h => HP c _ _ a w h
  ·refine Or.inl ⟨by rfl, ?_⟩
   intro wq hSq
   have hS0 : Ob wq (w.heap.size + 1) 84 #[.bool ng, .slice A n c, .int .i64 z, .int .i64 0] := hSq
   obtain ⟨q0_0, q0_1, q0_2, q0_3⟩ := hS0.g4
   go_simp
   all_goals with_reducible rfl
  ·assumption
  try simp only [Act.put, M.z1, M.z2, M.z3, M.z4, M.z5, M.z6]
  refine wpAnyH_take (i := 1) (v := ?_) rfl ?_ ?_ ?_ ?_ ?_ ?_ ?_
  rotate_left
  ·kernel_rfl
  ·kernel_rfl
  ·kernel_rfl
  ·exact fun c a w h => HP c _ _ a w h
  ·refine Or.inl ⟨by rfl, ?_⟩
   intro wq hSq
   have hS0 : Ob wq (w.heap.size + 1) 84 #[.bool ng, .slice A n c, .int .i64 z, .int .i64 0] := hSq
   obtain ⟨q0_0, q0_1, q0_2, q0_3⟩ := hS0.g4
   go_simp
   all_goals with_reducible rfl
  ·assumption
  try simp only [Act.put, M.z1, M.z2, M.z3, M.z4, M.z5, M.z6]
  refine wpAnyH_take (i := 2) (v := ?_) rfl ?_ ?_ ?_ ?_ ?_ ?_ ?_
  rotate_left
  ·kernel_rfl
  ·kernel_rfl
  ·kernel_rfl
  ·exact fun c a w h => HP c _ _ a w h
  ·refine Or.inl ⟨by rfl, ?_⟩
   intro wq hSq
   have hS0 : Ob wq (w.heap.size + 1) 84 #[.bool ng, .slice A n c, .int .i64 z, .int .i64 0] := hSq
   obtain ⟨q0_0, q0_1, q0_2, q0_3⟩ := hS0.g4
   go_simp
   all_goals with_reducible rfl
  ·assumption
  try simp only [Act.put, M.z1, M.z2, M.z3, M.z4, M.z5, M.z6]
  refine wpAnyH_take (i := 5) (v := ?_) rfl ?_ ?_ ?_ ?_ ?_ ?_ ?_
  rotate_left
  ·kernel_rfl
  ·kernel_rfl
  ·kernel_rfl
  ·exact fun c a w h => HP c _ _ a w h
  ·refine Or.inl ⟨by rfl, ?_⟩
   intro wq hSq
   have hS0 : Ob wq (w.heap.size + 1) 84 #[.bool ng, .slice A n c, .int .i64 z, .int .i64 0] := hSq
   obtain ⟨q0_0, q0_1, q0_2, q0_3⟩ := hS0.g4
   go_simp
   all_goals with_reducible rfl
  ·assumption
  try simp only [Act.put, M.z1, M.z2, M.z3, M.z4, M.z5, M.z6]
  refine wpAnyH_ready (rs := [3, 10]) ?_ ?_ ?_
  ·kernel_rfl
  ·simp
  refine AllReadyH.cons rfl (fun KQ hK => ?_) (AllReadyH.cons rfl (fun KQ hK => ?_) AllReadyH.nil)
  ·go_simp
   refine (CO.out _).mono ?_
   rintro _ Y0 ⟨vo, rfl, no, vY0⟩
   have uY0 : Up V6 Y0 := uD.trans vY0
   refine hK.out _ _ (X.up uY0) (fun _ => ?_)
   try simp only [Act.put, M.z1, M.z2, M.z3, M.z4, M.z5, M.z6]
   clear hK
   refine wpAnyH_ready (rs := [4, 10]) ?_ ?_ ?_
   ·kernel_rfl
   ·simp
   refine AllReadyH.cons rfl (fun KQ hK => ?_) (AllReadyH.cons rfl (fun KQ hK => ?_) AllReadyH.nil)
   ·go_simp
    refine (CA.out _ _ _ _ _ (nd.up uY0) no).mono ?_
    rintro _ Y1 ⟨va, rfl, na, vY1⟩
    have uY1 : Up V6 Y1 := uY0.trans vY1
    replace no := no.up vY1
    refine hK.out _ _ (X.up uY1) (fun _ => ?_)
    try simp only [Act.put, M.z1, M.z2, M.z3, M.z4, M.z5, M.z6]
    clear hK
    refine wpAnyH_ready (rs := [6, 10]) ?_ ?_ ?_
    ·kernel_rfl
    ·simp
    refine AllReadyH.cons rfl (fun KQ hK => ?_) (AllReadyH.cons rfl (fun KQ hK => ?_) AllReadyH.nil)
    ·go_simp
     refine (CD.out _ _ _ _ _ na H2.out).mono ?_
     rintro _ Y2 ⟨vf, rfl, nf, vY2⟩
     have uY2 : Up V6 Y2 := uY1.trans vY2
     obtain ⟨AF, nF0, cF, rfl, nf⟩ := nf.sl
     replace no := no.up vY2
     replace na := na.up vY2
     refine hK.out _ _ (X.up uY2) (fun _ => ?_)
     try simp only [Act.put, M.z1, M.z2, M.z3, M.z4, M.z5, M.z6]
     clear hK
     refine wpAnyH_take (i := 7) (v := ?_) rfl ?_ ?_ ?_ ?_ ?_ ?_ ?_
     rotate_left
     ·kernel_rfl
     ·kernel_rfl
     ·kernel_rfl
     ·exact fun c a w h => HP c _ _ a w h
     ·refine Or.inl ⟨by rfl, ?_⟩
      intro wq hSq
      have hS0 : Ob wq (w.heap.size + 1) 84 #[.bool ng, .slice A n c, .int .i64 z, .int .i64 0] := hSq
      obtain ⟨q0_0, q0_1, q0_2, q0_3⟩ := hS0.g4
      go_simp
      all_goals with_reducible rfl
     ·assumption
     try simp only [Act.put, M.z1, M.z2, M.z3, M.z4, M.z5, M.z6]
     refine wpAnyH_take (i := 8) (v := ?_) rfl ?_ ?_ ?_ ?_ ?_ ?_ ?_
     rotate_left
     ·kernel_rfl
     ·kernel_rfl
     ·kernel_rfl
     ·exact fun c a w h => HP c _ _ a w h
     ·refine Or.inl ⟨by rfl, ?_⟩
      intro wq hSq
      have hS0 : Ob wq (w.heap.size + 1) 84 #[.bool ng, .slice A n c, .int .i64 z, .int .i64 0] := hSq
      obtain ⟨q0_0, q0_1, q0_2, q0_3⟩ := hS0.g4
      go_simp
      all_goals with_reducible rfl
     ·assumption
     try simp only [Act.put, M.z1, M.z2, M.z3, M.z4, M.z5, M.z6]
     refine wpAnyH_take (i := 9) (v := ?_) rfl ?_ ?_ ?_ ?_ ?_ ?_ ?_
     rotate_left
     ·kernel_rfl
     ·kernel_rfl
     ·kernel_rfl
     ·exact fun c a w h => HP c _ _ a w h
     ·refine Or.inl ⟨by rfl, ?_⟩
      intro wq hSq
      have hS0 : Ob wq (w.heap.size + 1) 84 #[.bool ng, .slice A n c, .int .i64 z, .int .i64 0] := hSq
      obtain ⟨q0_0, q0_1, q0_2, q0_3⟩ := hS0.g4
      go_simp
      all_goals with_reducible rfl
     ·assumption
     try simp only [Act.put, M.z1, M.z2, M.z3, M.z4, M.z5, M.z6]
     refine wpAnyH_ready (rs := [10]) ?_ ?_ ?_
     ·kernel_rfl
     ·simp
     refine AllReadyH.cons rfl (fun KQ hK => ?_) AllReadyH.nil
     go_simp
     refine hK.out _ (Y2.alloc (.cells #[.bool false, .slice none 0 0, .int .i64 0, .int .i64 0] 84)) (X.up (uY2.alloc _)) (fun _ => ?_)
     try simp only [Act.put, M.z1, M.z2, M.z3, M.z4, M.z5, M.z6]
     clear hK
     obtain ⟨E3, hE3⟩ : ∃ E3, Y2.alloc (.cells #[.bool false, .slice none 0 0, .int .i64 0, .int .i64 0] 84) = E3 := ⟨_, rfl⟩
     have RF : Ob E3 Y2.heap.size 84 #[.bool false, .slice none 0 0, .int .i64 0, .int .i64 0] := by rw [← hE3]; exact Ob.mk_ _ _ _
     have lRF : V6.heap.size ≤ Y2.heap.size := Up.size uY2
     have aE3 : Up Y2 E3 := by rw [← hE3]; exact (Up.refl _).alloc _
     have uE3 : Up V6 E3 := uY2.trans aE3
     rw [hE3]
     clear hE3
     have onf := nf.own_hi (Nat.succ_pos _) (Nat.le_refl _)
     refine wpAnyH_ready (rs := [11]) ?_ ?_ ?_
     ·kernel_rfl
     ·simp
     refine AllReadyH.cons rfl (fun KQ hK => ?_) AllReadyH.nil
     rw [if_pos (by rfl)]
     refine wp_store_row 84 (.tmp 12) (.tmp 36) rfl Y2.heap.size #[.bool ng, .slice AF nF0 cF, .int .i64 k, .int .i64 k] rfl rfl 84 #[.bool false, .slice none 0 0, .int .i64 0, .int .i64 0] RF (by kernel_rfl) rfl (by simp [Value.oneCell']) ?_
     obtain ⟨WF, hWF⟩ : ∃ WF, E3.setRow Y2.heap.size #[.bool ng, .slice AF nF0 cF, .int .i64 k, .int .i64 k] = WF := ⟨_, rfl⟩
     have uF : Up V6 WF := by rw [← hWF]; exact uE3.setRow_ lRF _
     have aF : Up Y2 WF := by rw [← hWF]; exact aE3.setRow_ (Nat.le_refl _) _
     have RG : Ob WF (Y2.heap.size) 84 #[.bool ng, .slice AF nF0 cF, .int .i64 k, .int .i64 k] := by rw [← hWF]; exact setRow_heap E3 (Y2.heap.size) _ _ 84 _ RF
     have oF : ∀ b', b' ≠ Y2.heap.size → WF.heap[b']? = E3.heap[b']? := by rw [← hWF]; exact fun b' hne => setRow_other E3 (Y2.heap.size) b' _ hne
     rw [hWF]
     clear hWF
     replace no := no.up aF
     replace na := na.up aF
     replace nf := nf.up aF
     refine hK.out _ _ (X.up uF) (fun _ => ?_)
     simp only [Act.put]
     clear hK
     refine wpAnyH_ready (rs := [12]) ?_ ?_ ?_
     ·kernel_rfl
     ·simp
     refine AllReadyH.cons rfl (fun KQ hK => ?_) AllReadyH.nil
     go_simp
     refine hK.out _ _ (X.up uF) (fun _ => ?_)
     try simp only [Act.put, M.z1, M.z2, M.z3, M.z4, M.z5, M.z6]
     clear hK
     refine wpAnyH_done ?_ (HN _ _ ?_) _
     ·kernel_rfl
     go_wp2_with fail
     go_meet
     exact ⟨_, AF, nF0, cF, rfl, RG, nf.lower (by have := lRF; have := Up.size uD; first | omega | (refine Up.size ?_; assumption)), onf, lRF, uF⟩
    ·go_simp
     refine hK.out _ (Y1.alloc (.cells #[.bool false, .slice none 0 0, .int .i64 0, .int .i64 0] 84)) (X.up (uY1.alloc _)) (fun _ => ?_)
     try simp only [Act.put, M.z1, M.z2, M.z3, M.z4, M.z5, M.z6]
     clear hK
     obtain ⟨E2, hE2⟩ : ∃ E2, Y1.alloc (.cells #[.bool false, .slice none 0 0, .int .i64 0, .int .i64 0] 84) = E2 := ⟨_, rfl⟩
     have RF : Ob E2 Y1.heap.size 84 #[.bool false, .slice none 0 0, .int .i64 0, .int .i64 0] := by rw [← hE2]; exact Ob.mk_ _ _ _
     have lRF : V6.heap.size ≤ Y1.heap.size := Up.size uY1
     have aE2 : Up Y1 E2 := by rw [← hE2]; exact (Up.refl _).alloc _
     have uE2 : Up V6 E2 := uY1.trans aE2
     rw [hE2]
     clear hE2
     refine wpAnyH_ready (rs := [6]) ?_ ?_ ?_
     ·kernel_rfl
     ·simp
     refine AllReadyH.cons rfl (fun KQ hK => ?_) AllReadyH.nil
     go_simp
     have lY3 := RF.lt
     refine (CD.out _ _ _ _ _ (na.up aE2) H2.out).mono ?_
     rintro _ Y3 ⟨vf, rfl, nf, vY3⟩
     have uY3 : Up V6 Y3 := uE2.trans vY3
     obtain ⟨AF, nF0, cF, rfl, nf⟩ := nf.sl
     have aY3 := aE2.trans vY3
     replace RF := RF.up vY3
     refine hK.out _ _ (X.up uY3) (fun _ => ?_)
     try simp only [Act.put, M.z1, M.z2, M.z3, M.z4, M.z5, M.z6]
     clear hK
     refine wpAnyH_take (i := 7) (v := ?_) rfl ?_ ?_ ?_ ?_ ?_ ?_ ?_
     rotate_left
     ·kernel_rfl
     ·kernel_rfl
     ·kernel_rfl
     ·exact fun c a w h => HP c _ _ a w h
     ·refine Or.inl ⟨by rfl, ?_⟩
      intro wq hSq
      have hS0 : Ob wq (w.heap.size + 1) 84 #[.bool ng, .slice A n c, .int .i64 z, .int .i64 0] := hSq
      obtain ⟨q0_0, q0_1, q0_2, q0_3⟩ := hS0.g4
      go_simp
      all_goals with_reducible rfl
     ·assumption
     try simp only [Act.put, M.z1, M.z2, M.z3, M.z4, M.z5, M.z6]
     refine wpAnyH_take (i := 8) (v := ?_) rfl ?_ ?_ ?_ ?_ ?_ ?_ ?_
     rotate_left
     ·kernel_rfl
     ·kernel_rfl
     ·kernel_rfl
     ·exact fun c a w h => HP c _ _ a w h
     ·refine Or.inl ⟨by rfl, ?_⟩
      intro wq hSq
      have hS0 : Ob wq (w.heap.size + 1) 84 #[.bool ng, .slice A n c, .int .i64 z, .int .i64 0] := hSq
      obtain ⟨q0_0, q0_1, q0_2, q0_3⟩ := hS0.g4
      go_simp
      all_goals with_reducible rfl
     ·assumption
     try simp only [Act.put, M.z1, M.z2, M.z3, M.z4, M.z5, M.z6]
     refine wpAnyH_take (i := 9) (v := ?_) rfl ?_ ?_ ?_ ?_ ?_ ?_ ?_
     rotate_left
     ·kernel_rfl
     ·kernel_rfl
     ·kernel_rfl
     ·exact fun c a w h => HP c _ _ a w h
     ·refine Or.inl ⟨by rfl, ?_⟩
      intro wq hSq
      have hS0 : Ob wq (w.heap.size + 1) 84 #[.bool ng, .slice A n c, .int .i64 z, .int .i64 0] := hSq
      obtain ⟨q0_0, q0_1, q0_2, q0_3⟩ := hS0.g4
      go_simp
      all_goals with_reducible rfl
     ·assumption
     try simp only [Act.put, M.z1, M.z2, M.z3, M.z4, M.z5, M.z6]
     refine wpAnyH_ready (rs := [11]) ?_ ?_ ?_
     ·kernel_rfl
     ·simp
     refine AllReadyH.cons rfl (fun KQ hK => ?_) AllReadyH.nil
     rw [if_pos (by rfl)]
     refine wp_store_row 84 (.tmp 12) (.tmp 36) rfl Y1.heap.size #[.bool ng, .slice AF nF0 cF, .int .i64 k, .int .i64 k] rfl rfl 84 #[.bool false, .slice none 0 0, .int .i64 0, .int .i64 0] RF (by kernel_rfl) rfl (by simp [Value.oneCell']) ?_
     obtain ⟨WF, hWF⟩ : ∃ WF, Y3.setRow Y1.heap.size #[.bool ng, .slice AF nF0 cF, .int .i64 k, .int .i64 k] = WF := ⟨_, rfl⟩
     have uF : Up V6 WF := by rw [← hWF]; exact uY3.setRow_ lRF _
     have aF : Up Y1 WF := by rw [← hWF]; exact aY3.setRow_ (Nat.le_refl _) _
     have RG : Ob WF (Y1.heap.size) 84 #[.bool ng, .slice AF nF0 cF, .int .i64 k, .int .i64 k] := by rw [← hWF]; exact setRow_heap Y3 (Y1.heap.size) _ _ 84 _ RF
     have oF : ∀ b', b' ≠ Y1.heap.size → WF.heap[b']? = Y3.heap[b']? := by rw [← hWF]; exact fun b' hne => setRow_other Y3 (Y1.heap.size) b' _ hne
     rw [hWF]
     clear hWF
     replace no := no.up aF
     replace na := na.up aF
     have onf := nf.own_lo (Nat.succ_pos _) (by assumption)
     replace nf := Nt.other nf oF (by assumption)
     refine hK.out _ _ (X.up uF) (fun _ => ?_)
     simp only [Act.put]
     clear hK
     refine wpAnyH_ready (rs := [12]) ?_ ?_ ?_
     ·kernel_rfl
     ·simp
     refine AllReadyH.cons rfl (fun KQ hK => ?_) AllReadyH.nil
     go_simp
     refine hK.out _ _ (X.up uF) (fun _ => ?_)
     try simp only [Act.put, M.z1, M.z2, M.z3, M.z4, M.z5, M.z6]
     clear hK
     refine wpAnyH_done ?_ (HN _ _ ?_) _
     ·kernel_rfl
     go_wp2_with fail
     go_meet
     exact ⟨_, AF, nF0, cF, rfl, RG, nf.lower (by have := lRF; have := Up.size uD; first | omega | (refine Up.size ?_; assumption)), onf, lRF, uF⟩
   ·go_simp
    refine hK.out _ (Y0.alloc (.cells #[.bool false, .slice none 0 0, .int .i64 0, .int .i64 0] 84)) (X.up (uY0.alloc _)) (fun _ => ?_)
    try simp only [Act.put, M.z1, M.z2, M.z3, M.z4, M.z5, M.z6]
    clear hK
    obtain ⟨E1, hE1⟩ : ∃ E1, Y0.alloc (.cells #[.bool false, .slice none 0 0, .int .i64 0, .int .i64 0] 84) = E1 := ⟨_, rfl⟩
    have RF : Ob E1 Y0.heap.size 84 #[.bool false, .slice none 0 0, .int .i64 0, .int .i64 0] := by rw [← hE1]; exact Ob.mk_ _ _ _
    have lRF : V6.heap.size ≤ Y0.heap.size := Up.size uY0
    have aE1 : Up Y0 E1 := by rw [← hE1]; exact (Up.refl _).alloc _
    have uE1 : Up V6 E1 := uY0.trans aE1
    rw [hE1]
    clear hE1
    refine wpAnyH_ready (rs := [4]) ?_ ?_ ?_
    ·kernel_rfl
    ·simp
    refine AllReadyH.cons rfl (fun KQ hK => ?_) AllReadyH.nil
    go_simp
    have lY2 := RF.lt
    refine (CA.out _ _ _ _ _ (nd.up uE1) (no.up aE1)).mono ?_
    rintro _ Y2 ⟨va, rfl, na, vY2⟩
    have uY2 : Up V6 Y2 := uE1.trans vY2
    have aY2 := aE1.trans vY2
    replace RF := RF.up vY2
    refine hK.out _ _ (X.up uY2) (fun _ => ?_)
    try simp only [Act.put, M.z1, M.z2, M.z3, M.z4, M.z5, M.z6]
    clear hK
    refine wpAnyH_ready (rs := [6]) ?_ ?_ ?_
    ·kernel_rfl
    ·simp
    refine AllReadyH.cons rfl (fun KQ hK => ?_) AllReadyH.nil
    go_simp
    have lY3 := RF.lt
    refine (CD.out _ _ _ _ _ na H2.out).mono ?_
    rintro _ Y3 ⟨vf, rfl, nf, vY3⟩
    have uY3 : Up V6 Y3 := uY2.trans vY3
    obtain ⟨AF, nF0, cF, rfl, nf⟩ := nf.sl
    replace na := na.up vY3
    have aY3 := aY2.trans vY3
    replace RF := RF.up vY3
    refine hK.out _ _ (X.up uY3) (fun _ => ?_)
    try simp only [Act.put, M.z1, M.z2, M.z3, M.z4, M.z5, M.z6]
    clear hK
    refine wpAnyH_take (i := 7) (v := ?_) rfl ?_ ?_ ?_ ?_ ?_ ?_ ?_
    rotate_left
    ·kernel_rfl
    ·kernel_rfl
    ·kernel_rfl
    ·exact fun c a w h => HP c _ _ a w h
    ·refine Or.inl ⟨by rfl, ?_⟩
     intro wq hSq
     have hS0 : Ob wq (w.heap.size + 1) 84 #[.bool ng, .slice A n c, .int .i64 z, .int .i64 0] := hSq
     obtain ⟨q0_0, q0_1, q0_2, q0_3⟩ := hS0.g4
     go_simp
     all_goals with_reducible rfl
    ·assumption
    try simp only [Act.put, M.z1, M.z2, M.z3, M.z4, M.z5, M.z6]
    refine wpAnyH_take (i := 8) (v := ?_) rfl ?_ ?_ ?_ ?_ ?_ ?_ ?_
    rotate_left
    ·kernel_rfl
    ·kernel_rfl
    ·kernel_rfl
    ·exact fun c a w h => HP c _ _ a w h
    ·refine Or.inl ⟨by rfl, ?_⟩
     intro wq hSq
     have hS0 : Ob wq (w.heap.size + 1) 84 #[.bool ng, .slice A n c, .int .i64 z, .int .i64 0] := hSq
     obtain ⟨q0_0, q0_1, q0_2, q0_3⟩ := hS0.g4
     go_simp
     all_goals with_reducible rfl
    ·assumption
    try simp only [Act.put, M.z1, M.z2, M.z3, M.z4, M.z5, M.z6]
    refine wpAnyH_take (i := 9) (v := ?_) rfl ?_ ?_ ?_ ?_ ?_ ?_ ?_
    rotate_left
    ·kernel_rfl
    ·kernel_rfl
    ·kernel_rfl
    ·exact fun c a w h => HP c _ _ a w h
    ·refine Or.inl ⟨by rfl, ?_⟩
     intro wq hSq
     have hS0 : Ob wq (w.heap.size + 1) 84 #[.bool ng, .slice A n c, .int .i64 z, .int .i64 0] := hSq
     obtain ⟨q0_0, q0_1, q0_2, q0_3⟩ := hS0.g4
     go_simp
     all_goals with_reducible rfl
    ·assumption
    try simp only [Act.put, M.z1, M.z2, M.z3, M.z4, M.z5, M.z6]
    refine wpAnyH_ready (rs := [11]) ?_ ?_ ?_
    ·kernel_rfl
    ·simp
    refine AllReadyH.cons rfl (fun KQ hK => ?_) AllReadyH.nil
    rw [if_pos (by rfl)]
    refine wp_store_row 84 (.tmp 12) (.tmp 36) rfl Y0.heap.size #[.bool ng, .slice AF nF0 cF, .int .i64 k, .int .i64 k] rfl rfl 84 #[.bool false, .slice none 0 0, .int .i64 0, .int .i64 0] RF (by kernel_rfl) rfl (by simp [Value.oneCell']) ?_
    obtain ⟨WF, hWF⟩ : ∃ WF, Y3.setRow Y0.heap.size #[.bool ng, .slice AF nF0 cF, .int .i64 k, .int .i64 k] = WF := ⟨_, rfl⟩
    have uF : Up V6 WF := by rw [← hWF]; exact uY3.setRow_ lRF _
    have aF : Up Y0 WF := by rw [← hWF]; exact aY3.setRow_ (Nat.le_refl _) _
    have RG : Ob WF (Y0.heap.size) 84 #[.bool ng, .slice AF nF0 cF, .int .i64 k, .int .i64 k] := by rw [← hWF]; exact setRow_heap Y3 (Y0.heap.size) _ _ 84 _ RF
    have oF : ∀ b', b' ≠ Y0.heap.size → WF.heap[b']? = Y3.heap[b']? := by rw [← hWF]; exact fun b' hne => setRow_other Y3 (Y0.heap.size) b' _ hne
    rw [hWF]
    clear hWF
    replace no := no.up aF
    replace na := Nt.other na oF (by assumption)
    have onf := nf.own_lo (Nat.succ_pos _) (by assumption)
    replace nf := Nt.other nf oF (by assumption)
    refine hK.out _ _ (X.up uF) (fun _ => ?_)
    simp only [Act.put]
    clear hK
    refine wpAnyH_ready (rs := [12]) ?_ ?_ ?_
    ·kernel_rfl
    ·simp
    refine AllReadyH.cons rfl (fun KQ hK => ?_) AllReadyH.nil
    go_simp
    refine hK.out _ _ (X.up uF) (fun _ => ?_)
    try simp only [Act.put, M.z1, M.z2, M.z3, M.z4, M.z5, M.z6]
    clear hK
    refine wpAnyH_done ?_ (HN _ _ ?_) _
    ·kernel_rfl
    go_wp2_with fail
    go_meet
    exact ⟨_, AF, nF0, cF, rfl, RG, nf.lower (by have := lRF; have := Up.size uD; first | omega | (refine Up.size ?_; assumption)), onf, lRF, uF⟩
  ·go_simp
   refine hK.out _ (V6.drew.alloc (.cells #[.bool false, .slice none 0 0, .int .i64 0, .int .i64 0] 84)) (X.up (uD.alloc _)) (fun _ => ?_)
   try simp only [Act.put, M.z1, M.z2, M.z3, M.z4, M.z5, M.z6]
   clear hK
   obtain ⟨E0, hE0⟩ : ∃ E0, V6.drew.alloc (.cells #[.bool false, .slice none 0 0, .int .i64 0, .int .i64 0] 84) = E0 := ⟨_, rfl⟩
   have RF : Ob E0 V6.drew.heap.size 84 #[.bool false, .slice none 0 0, .int .i64 0, .int .i64 0] := by rw [← hE0]; exact Ob.mk_ _ _ _
   have lRF : V6.heap.size ≤ V6.drew.heap.size := Up.size uD
   have aE0 : Up V6.drew E0 := by rw [← hE0]; exact (Up.refl _).alloc _
   have uE0 : Up V6 E0 := uD.trans aE0
   rw [hE0]
   clear hE0
   refine wpAnyH_ready (rs := [3]) ?_ ?_ ?_
   ·kernel_rfl
   ·simp
   refine AllReadyH.cons rfl (fun KQ hK => ?_) AllReadyH.nil
   go_simp
   have lY1 := RF.lt
   refine (CO.out _).mono ?_
   rintro _ Y1 ⟨vo, rfl, no, vY1⟩
   have uY1 : Up V6 Y1 := uE0.trans vY1
   have aY1 := aE0.trans vY1
   replace RF := RF.up vY1
   refine hK.out _ _ (X.up uY1) (fun _ => ?_)
   try simp only [Act.put, M.z1, M.z2, M.z3, M.z4, M.z5, M.z6]
   clear hK
   refine wpAnyH_ready (rs := [4]) ?_ ?_ ?_
   ·kernel_rfl
   ·simp
   refine AllReadyH.cons rfl (fun KQ hK => ?_) AllReadyH.nil
   go_simp
   have lY2 := RF.lt
   refine (CA.out _ _ _ _ _ (nd.up uY1) no).mono ?_
   rintro _ Y2 ⟨va, rfl, na, vY2⟩
   have uY2 : Up V6 Y2 := uY1.trans vY2
   replace no := no.up vY2
   have aY2 := aY1.trans vY2
   replace RF := RF.up vY2
   refine hK.out _ _ (X.up uY2) (fun _ => ?_)
   try simp only [Act.put, M.z1, M.z2, M.z3, M.z4, M.z5, M.z6]
   clear hK
   refine wpAnyH_ready (rs := [6]) ?_ ?_ ?_
   ·kernel_rfl
   ·simp
   refine AllReadyH.cons rfl (fun KQ hK => ?_) AllReadyH.nil
   go_simp
   have lY3 := RF.lt
   refine (CD.out _ _ _ _ _ na H2.out).mono ?_
   rintro _ Y3 ⟨vf, rfl, nf, vY3⟩
   have uY3 : Up V6 Y3 := uY2.trans vY3
   obtain ⟨AF, nF0, cF, rfl, nf⟩ := nf.sl
   replace no := no.up vY3
   replace na := na.up vY3
   have aY3 := aY2.trans vY3
   replace RF := RF.up vY3
   refine hK.out _ _ (X.up uY3) (fun _ => ?_)
   try simp only [Act.put, M.z1, M.z2, M.z3, M.z4, M.z5, M.z6]
   clear hK
   refine wpAnyH_take (i := 7) (v := ?_) rfl ?_ ?_ ?_ ?_ ?_ ?_ ?_
   rotate_left
   ·kernel_rfl
   ·kernel_rfl
   ·kernel_rfl
   ·exact fun c a w h => HP c _ _ a w h
   ·refine Or.inl ⟨by rfl, ?_⟩
    intro wq hSq
    have hS0 : Ob wq (w.heap.size + 1) 84 #[.bool ng, .slice A n c, .int .i64 z, .int .i64 0] := hSq
    obtain ⟨q0_0, q0_1, q0_2, q0_3⟩ := hS0.g4
    go_simp
    all_goals with_reducible rfl
   ·assumption
   try simp only [Act.put, M.z1, M.z2, M.z3, M.z4, M.z5, M.z6]
   refine wpAnyH_take (i := 8) (v := ?_) rfl ?_ ?_ ?_ ?_ ?_ ?_ ?_
   rotate_left
   ·kernel_rfl
   ·kernel_rfl
   ·kernel_rfl
   ·exact fun c a w h => HP c _ _ a w h
   ·refine Or.inl ⟨by rfl, ?_⟩
    intro wq hSq
    have hS0 : Ob wq (w.heap.size + 1) 84 #[.bool ng, .slice A n c, .int .i64 z, .int .i64 0] := hSq
    obtain ⟨q0_0, q0_1, q0_2, q0_3⟩ := hS0.g4
    go_simp
    all_goals with_reducible rfl
   ·assumption
   try simp only [Act.put, M.z1, M.z2, M.z3, M.z4, M.z5, M.z6]
   refine wpAnyH_take (i := 9) (v := ?_) rfl ?_ ?_ ?_ ?_ ?_ ?_ ?_
   rotate_left
   ·kernel_rfl
   ·kernel_rfl
   ·kernel_rfl
   ·exact fun c a w h => HP c _ _ a w h
   ·refine Or.inl ⟨by rfl, ?_⟩
    intro wq hSq
    have hS0 : Ob wq (w.heap.size + 1) 84 #[.bool ng, .slice A n c, .int .i64 z, .int .i64 0] := hSq
    obtain ⟨q0_0, q0_1, q0_2, q0_3⟩ := hS0.g4
    go_simp
    all_goals with_reducible rfl
   ·assumption
   try simp only [Act.put, M.z1, M.z2, M.z3, M.z4, M.z5, M.z6]
   refine wpAnyH_ready (rs := [11]) ?_ ?_ ?_
   ·kernel_rfl
   ·simp
   refine AllReadyH.cons rfl (fun KQ hK => ?_) AllReadyH.nil
   rw [if_pos (by rfl)]
   refine wp_store_row 84 (.tmp 12) (.tmp 36) rfl V6.drew.heap.size #[.bool ng, .slice AF nF0 cF, .int .i64 k, .int .i64 k] rfl rfl 84 #[.bool false, .slice none 0 0, .int .i64 0, .int .i64 0] RF (by kernel_rfl) rfl (by simp [Value.oneCell']) ?_
   obtain ⟨WF, hWF⟩ : ∃ WF, Y3.setRow V6.drew.heap.size #[.bool ng, .slice AF nF0 cF, .int .i64 k, .int .i64 k] = WF := ⟨_, rfl⟩
   have uF : Up V6 WF := by rw [← hWF]; exact uY3.setRow_ lRF _
   have aF : Up V6.drew WF := by rw [← hWF]; exact aY3.setRow_ (Nat.le_refl _) _
   have RG : Ob WF (V6.drew.heap.size) 84 #[.bool ng, .slice AF nF0 cF, .int .i64 k, .int .i64 k] := by rw [← hWF]; exact setRow_heap Y3 (V6.drew.heap.size) _ _ 84 _ RF
   have oF : ∀ b', b' ≠ V6.drew.heap.size → WF.heap[b']? = Y3.heap[b']? := by rw [← hWF]; exact fun b' hne => setRow_other Y3 (V6.drew.heap.size) b' _ hne
   rw [hWF]
   clear hWF
   replace no := Nt.other no oF (by assumption)
   replace na := Nt.other na oF (by assumption)
   have onf := nf.own_lo (Nat.succ_pos _) (by assumption)
   replace nf := Nt.other nf oF (by assumption)
   refine hK.out _ _ (X.up uF) (fun _ => ?_)
   simp only [Act.put]
   clear hK
   refine wpAnyH_ready (rs := [12]) ?_ ?_ ?_
   ·kernel_rfl
   ·simp
   refine AllReadyH.cons rfl (fun KQ hK => ?_) AllReadyH.nil
   go_simp
   refine hK.out _ _ (X.up uF) (fun _ => ?_)
   try simp only [Act.put, M.z1, M.z2, M.z3, M.z4, M.z5, M.z6]
   clear hK
   refine wpAnyH_done ?_ (HN _ _ ?_) _
   ·kernel_rfl
   go_wp2_with fail
   go_meet
   exact ⟨_, AF, nF0, cF, rfl, RG, nf.lower (by have := lRF; have := Up.size uD; first | omega | (refine Up.size ?_; assumption)), onf, lRF, uF⟩
 case rest =>
  obtain ⟨gF, AF, nF0, cF, rfl, F, nf, onf, lF, uc⟩ := hcut
  have onF := nn.own_hi d0 lF
  have ofN := nf.own_lo (Nat.succ_pos _) glN
  have ofR := nf.own_lo (b := w.heap.size + 1 + 1) (Nat.succ_pos _) (by omega)
  have lFN : w5.heap.size < gF := Nat.lt_of_lt_of_le glN lF
  have lRN : w.heap.size + 1 + 1 < w5.heap.size := by omega
  have lnf : w.heap.size ≤ V6.heap.size := Nat.le_trans ltN (Nat.le_of_lt glN)
  have ltF : w.heap.size ≤ gF := Nat.le_trans lnf lF
  replace U := U.trans uc
  replace S := S.up uc
  replace X := X.up uc
  replace R := R.up uc
  replace N := N.up uc
  replace nd := nd.up uc
  replace nn := nn.up uc
  clear uc
  rcases HR.out with rfl | rfl | rfl | rfl
  ·
   clear CE
   obtain ⟨S0, S1, S2, S3, S4, S5, S6, S7, S8, Sf0, Sf1, Sf2, Sf3, Sf4, Sf5, Sf6, Sf7, Sf8, Sl⟩ := S.c9
   obtain ⟨N0, N1, N2, N3, Nf0, Nf1, Nf2, Nf3, Nl⟩ := N.c4
   go_wp2_with fail
   clear S0 Sf0 S1 Sf1 S2 Sf2 S3 Sf3 S4 Sf4 S5 Sf5 S6 Sf6 S7 Sf7 S8 Sf8 Sl
   clear N0 Nf0 N1 Nf1 N2 Nf2 N3 Nf3 Nl
   refine (CH.out _ U _ _ _ _ _ (nn.more (by omega)) qd HQD).mono ?_
   rintro _ w20 ⟨rfl, h20⟩
   replace U := U.trans h20
   replace S := S.up h20
   replace X := X.up h20
   replace R := R.up h20
   replace N := N.up h20
   replace F := F.up h20
   replace nn := nn.up h20
   replace nf := nf.up h20
   clear h20
   cases qd
   ·
    obtain ⟨S0, S1, S2, S3, S4, S5, S6, S7, S8, Sf0, Sf1, Sf2, Sf3, Sf4, Sf5, Sf6, Sf7, Sf8, Sl⟩ := S.c9
    obtain ⟨F0, F1, F2, F3, Ff0, Ff1, Ff2, Ff3, Fl⟩ := F.c4
    go_wp2_with fail
    clear S0 Sf0 S1 Sf1 S2 Sf2 S3 Sf3 S4 Sf4 S5 Sf5 S6 Sf6 S7 Sf7 S8 Sf8 Sl
    clear F0 Ff0 F1 Ff1 F2 Ff2 F3 Ff3 Fl
    refine (CH.out _ U _ _ _ _ _ nf qe HQE).mono ?_
    rintro _ w21 ⟨rfl, h21⟩
    replace U := U.trans h21
    replace S := S.up h21
    replace X := X.up h21
    replace R := R.up h21
    replace N := N.up h21
    replace F := F.up h21
    replace nn := nn.up h21
    replace nf := nf.up h21
    clear h21 CH
    cases qe
    ·
     go_wp2_with (refine store_ob2 rfl 84 (.tmp 6) (.tmp 61) rfl _ #[.bool false, .slice none 0 0, .int .i64 0, .int .i64 0] #[.bool false, .slice none 0 0, .int .i64 0, .int .i64 0] rfl rfl 4 (by kernel_rfl) rfl rfl (by simp [Value.oneCell']) w U ltR 84 R ?_; clear U; intro V11 Z9 U ho; clear ho R; have R := Z9; clear Z9)
     obtain ⟨R0, R1, R2, R3⟩ := R.g4
     refine bodyPost_ret (v := .tuple #[xv false (.slice none 0 0) 0 0, .bool false]) (by simp [results, Tryz.results88, go_sem, R0, R1, R2, R3]) rfl ?_
     exact .inr ⟨rfl, ⟨(fun e => by cases HQD.out.2 e), (fun e => by cases HQE.out.2 e)⟩, U⟩
    ·
     obtain ⟨F0, F1, F2, F3, Ff0, Ff1, Ff2, Ff3, Fl⟩ := F.c4
     go_wp2_with (refine store_ob2 rfl 84 (.tmp 6) (.tmp 60) rfl _ #[.bool false, .slice none 0 0, .int .i64 0, .int .i64 0] #[.bool ng, .slice AF nF0 cF, .int .i64 k, .int .i64 k] rfl rfl 4 (by kernel_rfl) rfl rfl (by simp [Value.oneCell']) w U ltR 84 R ?_; clear U; intro V11 Z9 U ho; replace nf := nf.oth (Nat.succ_pos _) ho ofR; clear ho R; have R := Z9; clear Z9)
     obtain ⟨R0, R1, R2, R3⟩ := R.g4
     refine bodyPost_ret (v := .tuple #[xv ng (.slice AF nF0 cF) k k, .bool true]) (by simp [results, Tryz.results88, go_sem, R0, R1, R2, R3]) rfl ?_
     exact .inl ⟨_, _, _, _, rfl, .inr ⟨(fun e => by omega), .inr ⟨(fun e => by cases HQD.out.2 e), (HQE.out.1 (by first | rfl | trivial)), rfl⟩⟩, ((nf.fit (by first | exact F2.out | (have := DB.out; have := M.c_21; omega)))).lower lnf, U⟩
   ·
    clear CH
    obtain ⟨N0, N1, N2, N3, Nf0, Nf1, Nf2, Nf3, Nl⟩ := N.c4
    go_wp2_with (refine store_ob2 rfl 84 (.tmp 6) (.tmp 55) rfl _ #[.bool false, .slice none 0 0, .int .i64 0, .int .i64 0] #[.bool ng, .slice An nn0 cn, .int .i64 k, .int .i64 k] rfl rfl 4 (by kernel_rfl) rfl rfl (by simp [Value.oneCell']) w U ltR 84 R ?_; clear U; intro V11 Z9 U ho; replace nn := nn.oth d0 ho onR; clear ho R; have R := Z9; clear Z9)
    obtain ⟨R0, R1, R2, R3⟩ := R.g4
    refine bodyPost_ret (v := .tuple #[xv ng (.slice An nn0 cn) k k, .bool true]) (by simp [results, Tryz.results88, go_sem, R0, R1, R2, R3]) rfl ?_
    exact .inl ⟨_, _, _, _, rfl, .inr ⟨(fun e => by omega), .inl ⟨(HQD.out.1 (by first | rfl | trivial)), rfl⟩⟩, ((nn.fit (by first | exact F2.out | (have := DB.out; have := M.c_21; omega)))).lower lnn, U⟩
  ·
   clear CE
   obtain ⟨S0, S1, S2, S3, S4, S5, S6, S7, S8, Sf0, Sf1, Sf2, Sf3, Sf4, Sf5, Sf6, Sf7, Sf8, Sl⟩ := S.c9
   obtain ⟨N0, N1, N2, N3, Nf0, Nf1, Nf2, Nf3, Nl⟩ := N.c4
   go_wp2_with fail
   clear S0 Sf0 S1 Sf1 S2 Sf2 S3 Sf3 S4 Sf4 S5 Sf5 S6 Sf6 S7 Sf7 S8 Sf8 Sl
   clear N0 Nf0 N1 Nf1 N2 Nf2 N3 Nf3 Nl
   refine (CH.out _ U _ _ _ _ _ (nn.more (by omega)) qd HQD).mono ?_
   rintro _ w20 ⟨rfl, h20⟩
   replace U := U.trans h20
   replace S := S.up h20
   replace X := X.up h20
   replace R := R.up h20
   replace N := N.up h20
   replace F := F.up h20
   replace nn := nn.up h20
   replace nf := nf.up h20
   clear h20
   cases qd
   ·
    obtain ⟨S0, S1, S2, S3, S4, S5, S6, S7, S8, Sf0, Sf1, Sf2, Sf3, Sf4, Sf5, Sf6, Sf7, Sf8, Sl⟩ := S.c9
    obtain ⟨F0, F1, F2, F3, Ff0, Ff1, Ff2, Ff3, Fl⟩ := F.c4
    go_wp2_with fail
    clear S0 Sf0 S1 Sf1 S2 Sf2 S3 Sf3 S4 Sf4 S5 Sf5 S6 Sf6 S7 Sf7 S8 Sf8 Sl
    clear F0 Ff0 F1 Ff1 F2 Ff2 F3 Ff3 Fl
    refine (CH.out _ U _ _ _ _ _ nf qe HQE).mono ?_
    rintro _ w21 ⟨rfl, h21⟩
    replace U := U.trans h21
    replace S := S.up h21
    replace X := X.up h21
    replace R := R.up h21
    replace N := N.up h21
    replace F := F.up h21
    replace nn := nn.up h21
    replace nf := nf.up h21
    clear h21 CH
    cases qe
    ·
     go_wp2_with (refine store_ob2 rfl 84 (.tmp 6) (.tmp 61) rfl _ #[.bool false, .slice none 0 0, .int .i64 0, .int .i64 0] #[.bool false, .slice none 0 0, .int .i64 0, .int .i64 0] rfl rfl 4 (by kernel_rfl) rfl rfl (by simp [Value.oneCell']) w U ltR 84 R ?_; clear U; intro V11 Z9 U ho; clear ho R; have R := Z9; clear Z9)
     obtain ⟨R0, R1, R2, R3⟩ := R.g4
     refine bodyPost_ret (v := .tuple #[xv false (.slice none 0 0) 0 0, .bool false]) (by simp [results, Tryz.results88, go_sem, R0, R1, R2, R3]) rfl ?_
     exact .inr ⟨rfl, ⟨(fun e => by cases HQD.out.2 e), (fun e => by cases HQE.out.2 e)⟩, U⟩
    ·
     obtain ⟨F0, F1, F2, F3, Ff0, Ff1, Ff2, Ff3, Fl⟩ := F.c4
     go_wp2_with (refine store_ob2 rfl 84 (.tmp 6) (.tmp 60) rfl _ #[.bool false, .slice none 0 0, .int .i64 0, .int .i64 0] #[.bool ng, .slice AF nF0 cF, .int .i64 k, .int .i64 k] rfl rfl 4 (by kernel_rfl) rfl rfl (by simp [Value.oneCell']) w U ltR 84 R ?_; clear U; intro V11 Z9 U ho; replace nf := nf.oth (Nat.succ_pos _) ho ofR; clear ho R; have R := Z9; clear Z9)
     obtain ⟨R0, R1, R2, R3⟩ := R.g4
     refine bodyPost_ret (v := .tuple #[xv ng (.slice AF nF0 cF) k k, .bool true]) (by simp [results, Tryz.results88, go_sem, R0, R1, R2, R3]) rfl ?_
     exact .inl ⟨_, _, _, _, rfl, .inr ⟨(fun e => by omega), .inr ⟨(fun e => by cases HQD.out.2 e), (HQE.out.1 (by first | rfl | trivial)), rfl⟩⟩, ((nf.fit (by first | exact F2.out | (have := DB.out; have := M.c_21; omega)))).lower lnf, U⟩
   ·
    clear CH
    obtain ⟨N0, N1, N2, N3, Nf0, Nf1, Nf2, Nf3, Nl⟩ := N.c4
    go_wp2_with (refine store_ob2 rfl 84 (.tmp 6) (.tmp 55) rfl _ #[.bool false, .slice none 0 0, .int .i64 0, .int .i64 0] #[.bool ng, .slice An nn0 cn, .int .i64 k, .int .i64 k] rfl rfl 4 (by kernel_rfl) rfl rfl (by simp [Value.oneCell']) w U ltR 84 R ?_; clear U; intro V11 Z9 U ho; replace nn := nn.oth d0 ho onR; clear ho R; have R := Z9; clear Z9)
    obtain ⟨R0, R1, R2, R3⟩ := R.g4
    refine bodyPost_ret (v := .tuple #[xv ng (.slice An nn0 cn) k k, .bool true]) (by simp [results, Tryz.results88, go_sem, R0, R1, R2, R3]) rfl ?_
    exact .inl ⟨_, _, _, _, rfl, .inr ⟨(fun e => by omega), .inl ⟨(HQD.out.1 (by first | rfl | trivial)), rfl⟩⟩, ((nn.fit (by first | exact F2.out | (have := DB.out; have := M.c_21; omega)))).lower lnn, U⟩
  ·
   by_cases hd : d % 2 = 1
   ·
    have ht : Hid (d.testBit 0 = true) := by show _ = _; rw [Nat.testBit_zero]; exact decide_eq_true hd
    go_wp2_with fail
    refine (CE.out _ _ _ nd true ht).mono ?_
    rintro _ _ ⟨rfl, rfl⟩
    clear CE ht
    have HD := Lib.hid hd
    clear hd
    go_upto_region 5 with fail
    obtain ⟨N0, N1, N2, N3, Nf0, Nf1, Nf2, Nf3, Nl⟩ := N.c4
    obtain ⟨F0, F1, F2, F3, Ff0, Ff1, Ff2, Ff3, Fl⟩ := F.c4
    go_upto_region 6 with (first | (refine store_ob2 rfl 84 (.tmp 10) (.tmp 49) rfl _ #[.bool ng, .slice An nn0 cn, .int .i64 k, .int .i64 k] #[.bool ng, .slice AF nF0 cF, .int .i64 k, .int .i64 k] rfl rfl 4 (by kernel_rfl) rfl rfl (by simp [Value.oneCell']) w U ltN 84 N ?_; clear U; intro V9 Z9 U ho; replace nn := nn.oth d0 ho onN; replace nf := nf.oth (Nat.succ_pos _) ho ofN; replace S := Ob.oth S ho (by omega); replace X := Ob.oth X ho (by omega); replace R := Ob.oth R ho (by omega); replace F := Ob.oth F ho (by omega); clear ho N; have N := Z9; clear Z9) | (refine store_ob2 rfl 84 (.tmp 12) (.tmp 50) rfl _ #[.bool ng, .slice AF nF0 cF, .int .i64 k, .int .i64 k] #[.bool ng, .slice An nn0 cn, .int .i64 k, .int .i64 k] rfl rfl 4 (by kernel_rfl) rfl rfl (by simp [Value.oneCell']) w U ltF 84 F ?_; clear U; intro V10 Z9 U ho; replace nn := nn.oth d0 ho onF; replace nf := nf.oth (Nat.succ_pos _) ho onf; replace S := Ob.oth S ho (by omega); replace X := Ob.oth X ho (by omega); replace R := Ob.oth R ho (by omega); replace N := Ob.oth N ho (by omega); clear ho F; have F := Z9; clear Z9))
    clear N0 Nf0 N1 Nf1 N2 Nf2 N3 Nf3 Nl
    clear F0 Ff0 F1 Ff1 F2 Ff2 F3 Ff3 Fl
    obtain ⟨S0, S1, S2, S3, S4, S5, S6, S7, S8, Sf0, Sf1, Sf2, Sf3, Sf4, Sf5, Sf6, Sf7, Sf8, Sl⟩ := S.c9
    obtain ⟨N0, N1, N2, N3, Nf0, Nf1, Nf2, Nf3, Nl⟩ := N.c4
    go_wp2_with fail
    clear S0 Sf0 S1 Sf1 S2 Sf2 S3 Sf3 S4 Sf4 S5 Sf5 S6 Sf6 S7 Sf7 S8 Sf8 Sl
    clear N0 Nf0 N1 Nf1 N2 Nf2 N3 Nf3 Nl
    refine (CH.out _ U _ _ _ _ _ nf qe HQE).mono ?_
    rintro _ w20 ⟨rfl, h20⟩
    replace U := U.trans h20
    replace S := S.up h20
    replace X := X.up h20
    replace R := R.up h20
    replace N := N.up h20
    replace F := F.up h20
    replace nn := nn.up h20
    replace nf := nf.up h20
    clear h20
    cases qe
    ·
     obtain ⟨S0, S1, S2, S3, S4, S5, S6, S7, S8, Sf0, Sf1, Sf2, Sf3, Sf4, Sf5, Sf6, Sf7, Sf8, Sl⟩ := S.c9
     obtain ⟨F0, F1, F2, F3, Ff0, Ff1, Ff2, Ff3, Fl⟩ := F.c4
     go_wp2_with fail
     clear S0 Sf0 S1 Sf1 S2 Sf2 S3 Sf3 S4 Sf4 S5 Sf5 S6 Sf6 S7 Sf7 S8 Sf8 Sl
     clear F0 Ff0 F1 Ff1 F2 Ff2 F3 Ff3 Fl
     refine (CH.out _ U _ _ _ _ _ (nn.more (by omega)) qd HQD).mono ?_
     rintro _ w21 ⟨rfl, h21⟩
     replace U := U.trans h21
     replace S := S.up h21
     replace X := X.up h21
     replace R := R.up h21
     replace N := N.up h21
     replace F := F.up h21
     replace nn := nn.up h21
     replace nf := nf.up h21
     clear h21 CH
     cases qd
     ·
      go_wp2_with (refine store_ob2 rfl 84 (.tmp 6) (.tmp 61) rfl _ #[.bool false, .slice none 0 0, .int .i64 0, .int .i64 0] #[.bool false, .slice none 0 0, .int .i64 0, .int .i64 0] rfl rfl 4 (by kernel_rfl) rfl rfl (by simp [Value.oneCell']) w U ltR 84 R ?_; clear U; intro V11 Z9 U ho; clear ho R; have R := Z9; clear Z9)
      obtain ⟨R0, R1, R2, R3⟩ := R.g4
      refine bodyPost_ret (v := .tuple #[xv false (.slice none 0 0) 0 0, .bool false]) (by simp [results, Tryz.results88, go_sem, R0, R1, R2, R3]) rfl ?_
      exact .inr ⟨rfl, ⟨(fun e => by cases HQD.out.2 e), (fun e => by cases HQE.out.2 e)⟩, U⟩
     ·
      obtain ⟨F0, F1, F2, F3, Ff0, Ff1, Ff2, Ff3, Fl⟩ := F.c4
      go_wp2_with (refine store_ob2 rfl 84 (.tmp 6) (.tmp 60) rfl _ #[.bool false, .slice none 0 0, .int .i64 0, .int .i64 0] #[.bool ng, .slice An nn0 cn, .int .i64 k, .int .i64 k] rfl rfl 4 (by kernel_rfl) rfl rfl (by simp [Value.oneCell']) w U ltR 84 R ?_; clear U; intro V11 Z9 U ho; replace nn := nn.oth d0 ho onR; clear ho R; have R := Z9; clear Z9)
      obtain ⟨R0, R1, R2, R3⟩ := R.g4
      refine bodyPost_ret (v := .tuple #[xv ng (.slice An nn0 cn) k k, .bool true]) (by simp [results, Tryz.results88, go_sem, R0, R1, R2, R3]) rfl ?_
      exact .inl ⟨_, _, _, _, rfl, .inl ⟨(.inr ⟨rfl, HD.out⟩), .inr ⟨(fun e => by cases HQE.out.2 e), (HQD.out.1 (by first | rfl | trivial)), rfl⟩⟩, ((nn.fit (by first | exact F2.out | (have := DB.out; have := M.c_21; omega)))).lower lnn, U⟩
    ·
     clear CH
     obtain ⟨N0, N1, N2, N3, Nf0, Nf1, Nf2, Nf3, Nl⟩ := N.c4
     go_wp2_with (refine store_ob2 rfl 84 (.tmp 6) (.tmp 55) rfl _ #[.bool false, .slice none 0 0, .int .i64 0, .int .i64 0] #[.bool ng, .slice AF nF0 cF, .int .i64 k, .int .i64 k] rfl rfl 4 (by kernel_rfl) rfl rfl (by simp [Value.oneCell']) w U ltR 84 R ?_; clear U; intro V11 Z9 U ho; replace nf := nf.oth (Nat.succ_pos _) ho ofR; clear ho R; have R := Z9; clear Z9)
     obtain ⟨R0, R1, R2, R3⟩ := R.g4
     refine bodyPost_ret (v := .tuple #[xv ng (.slice AF nF0 cF) k k, .bool true]) (by simp [results, Tryz.results88, go_sem, R0, R1, R2, R3]) rfl ?_
     exact .inl ⟨_, _, _, _, rfl, .inl ⟨(.inr ⟨rfl, HD.out⟩), .inl ⟨(HQE.out.1 (by first | rfl | trivial)), rfl⟩⟩, ((nf.fit (by first | exact F2.out | (have := DB.out; have := M.c_21; omega)))).lower lnf, U⟩
   ·
    have ht : Hid (d.testBit 0 = false) := by show _ = _; rw [Nat.testBit_zero]; exact decide_eq_false hd
    go_wp2_with fail
    refine (CE.out _ _ _ nd false ht).mono ?_
    rintro _ _ ⟨rfl, rfl⟩
    clear CE ht
    have HD := Lib.hid hd
    clear hd
    obtain ⟨S0, S1, S2, S3, S4, S5, S6, S7, S8, Sf0, Sf1, Sf2, Sf3, Sf4, Sf5, Sf6, Sf7, Sf8, Sl⟩ := S.c9
    obtain ⟨N0, N1, N2, N3, Nf0, Nf1, Nf2, Nf3, Nl⟩ := N.c4
    go_wp2_with fail
    clear S0 Sf0 S1 Sf1 S2 Sf2 S3 Sf3 S4 Sf4 S5 Sf5 S6 Sf6 S7 Sf7 S8 Sf8 Sl
    clear N0 Nf0 N1 Nf1 N2 Nf2 N3 Nf3 Nl
    refine (CH.out _ U _ _ _ _ _ (nn.more (by omega)) qd HQD).mono ?_
    rintro _ w20 ⟨rfl, h20⟩
    replace U := U.trans h20
    replace S := S.up h20
    replace X := X.up h20
    replace R := R.up h20
    replace N := N.up h20
    replace F := F.up h20
    replace nn := nn.up h20
    replace nf := nf.up h20
    clear h20
    cases qd
    ·
     obtain ⟨S0, S1, S2, S3, S4, S5, S6, S7, S8, Sf0, Sf1, Sf2, Sf3, Sf4, Sf5, Sf6, Sf7, Sf8, Sl⟩ := S.c9
     obtain ⟨F0, F1, F2, F3, Ff0, Ff1, Ff2, Ff3, Fl⟩ := F.c4
     go_wp2_with fail
     clear S0 Sf0 S1 Sf1 S2 Sf2 S3 Sf3 S4 Sf4 S5 Sf5 S6 Sf6 S7 Sf7 S8 Sf8 Sl
     clear F0 Ff0 F1 Ff1 F2 Ff2 F3 Ff3 Fl
     refine (CH.out _ U _ _ _ _ _ nf qe HQE).mono ?_
     rintro _ w21 ⟨rfl, h21⟩
     replace U := U.trans h21
     replace S := S.up h21
     replace X := X.up h21
     replace R := R.up h21
     replace N := N.up h21
     replace F := F.up h21
     replace nn := nn.up h21
     replace nf := nf.up h21
     clear h21 CH
     cases qe
     ·
      go_wp2_with (refine store_ob2 rfl 84 (.tmp 6) (.tmp 61) rfl _ #[.bool false, .slice none 0 0, .int .i64 0, .int .i64 0] #[.bool false, .slice none 0 0, .int .i64 0, .int .i64 0] rfl rfl 4 (by kernel_rfl) rfl rfl (by simp [Value.oneCell']) w U ltR 84 R ?_; clear U; intro V11 Z9 U ho; clear ho R; have R := Z9; clear Z9)
      obtain ⟨R0, R1, R2, R3⟩ := R.g4
      refine bodyPost_ret (v := .tuple #[xv false (.slice none 0 0) 0 0, .bool false]) (by simp [results, Tryz.results88, go_sem, R0, R1, R2, R3]) rfl ?_
      exact .inr ⟨rfl, ⟨(fun e => by cases HQD.out.2 e), (fun e => by cases HQE.out.2 e)⟩, U⟩
     ·
      obtain ⟨F0, F1, F2, F3, Ff0, Ff1, Ff2, Ff3, Fl⟩ := F.c4
      go_wp2_with (refine store_ob2 rfl 84 (.tmp 6) (.tmp 60) rfl _ #[.bool false, .slice none 0 0, .int .i64 0, .int .i64 0] #[.bool ng, .slice AF nF0 cF, .int .i64 k, .int .i64 k] rfl rfl 4 (by kernel_rfl) rfl rfl (by simp [Value.oneCell']) w U ltR 84 R ?_; clear U; intro V11 Z9 U ho; replace nf := nf.oth (Nat.succ_pos _) ho ofR; clear ho R; have R := Z9; clear Z9)
      obtain ⟨R0, R1, R2, R3⟩ := R.g4
      refine bodyPost_ret (v := .tuple #[xv ng (.slice AF nF0 cF) k k, .bool true]) (by simp [results, Tryz.results88, go_sem, R0, R1, R2, R3]) rfl ?_
      exact .inl ⟨_, _, _, _, rfl, .inr ⟨(fun e => by have := HD.out; omega), .inr ⟨(fun e => by cases HQD.out.2 e), (HQE.out.1 (by first | rfl | trivial)), rfl⟩⟩, ((nf.fit (by first | exact F2.out | (have := DB.out; have := M.c_21; omega)))).lower lnf, U⟩
    ·
     clear CH
     obtain ⟨N0, N1, N2, N3, Nf0, Nf1, Nf2, Nf3, Nl⟩ := N.c4
     go_wp2_with (refine store_ob2 rfl 84 (.tmp 6) (.tmp 55) rfl _ #[.bool false, .slice none 0 0, .int .i64 0, .int .i64 0] #[.bool ng, .slice An nn0 cn, .int .i64 k, .int .i64 k] rfl rfl 4 (by kernel_rfl) rfl rfl (by simp [Value.oneCell']) w U ltR 84 R ?_; clear U; intro V11 Z9 U ho; replace nn := nn.oth d0 ho onR; clear ho R; have R := Z9; clear Z9)
     obtain ⟨R0, R1, R2, R3⟩ := R.g4
     refine bodyPost_ret (v := .tuple #[xv ng (.slice An nn0 cn) k k, .bool true]) (by simp [results, Tryz.results88, go_sem, R0, R1, R2, R3]) rfl ?_
     exact .inl ⟨_, _, _, _, rfl, .inr ⟨(fun e => by have := HD.out; omega), .inl ⟨(HQD.out.1 (by first | rfl | trivial)), rfl⟩⟩, ((nn.fit (by first | exact F2.out | (have := DB.out; have := M.c_21; omega)))).lower lnn, U⟩
  ·
   clear CE
   go_upto_region 5 with fail
   obtain ⟨N0, N1, N2, N3, Nf0, Nf1, Nf2, Nf3, Nl⟩ := N.c4
   obtain ⟨F0, F1, F2, F3, Ff0, Ff1, Ff2, Ff3, Fl⟩ := F.c4
   go_upto_region 6 with (first | (refine store_ob2 rfl 84 (.tmp 10) (.tmp 49) rfl _ #[.bool ng, .slice An nn0 cn, .int .i64 k, .int .i64 k] #[.bool ng, .slice AF nF0 cF, .int .i64 k, .int .i64 k] rfl rfl 4 (by kernel_rfl) rfl rfl (by simp [Value.oneCell']) w U ltN 84 N ?_; clear U; intro V9 Z9 U ho; replace nn := nn.oth d0 ho onN; replace nf := nf.oth (Nat.succ_pos _) ho ofN; replace S := Ob.oth S ho (by omega); replace X := Ob.oth X ho (by omega); replace R := Ob.oth R ho (by omega); replace F := Ob.oth F ho (by omega); clear ho N; have N := Z9; clear Z9) | (refine store_ob2 rfl 84 (.tmp 12) (.tmp 50) rfl _ #[.bool ng, .slice AF nF0 cF, .int .i64 k, .int .i64 k] #[.bool ng, .slice An nn0 cn, .int .i64 k, .int .i64 k] rfl rfl 4 (by kernel_rfl) rfl rfl (by simp [Value.oneCell']) w U ltF 84 F ?_; clear U; intro V10 Z9 U ho; replace nn := nn.oth d0 ho onF; replace nf := nf.oth (Nat.succ_pos _) ho onf; replace S := Ob.oth S ho (by omega); replace X := Ob.oth X ho (by omega); replace R := Ob.oth R ho (by omega); replace N := Ob.oth N ho (by omega); clear ho F; have F := Z9; clear Z9))
   clear N0 Nf0 N1 Nf1 N2 Nf2 N3 Nf3 Nl
   clear F0 Ff0 F1 Ff1 F2 Ff2 F3 Ff3 Fl
   obtain ⟨S0, S1, S2, S3, S4, S5, S6, S7, S8, Sf0, Sf1, Sf2, Sf3, Sf4, Sf5, Sf6, Sf7, Sf8, Sl⟩ := S.c9
   obtain ⟨N0, N1, N2, N3, Nf0, Nf1, Nf2, Nf3, Nl⟩ := N.c4
   go_wp2_with fail
   clear S0 Sf0 S1 Sf1 S2 Sf2 S3 Sf3 S4 Sf4 S5 Sf5 S6 Sf6 S7 Sf7 S8 Sf8 Sl
   clear N0 Nf0 N1 Nf1 N2 Nf2 N3 Nf3 Nl
   refine (CH.out _ U _ _ _ _ _ nf qe HQE).mono ?_
   rintro _ w20 ⟨rfl, h20⟩
   replace U := U.trans h20
   replace S := S.up h20
   replace X := X.up h20
   replace R := R.up h20
   replace N := N.up h20
   replace F := F.up h20
   replace nn := nn.up h20
   replace nf := nf.up h20
   clear h20
   cases qe
   ·
    obtain ⟨S0, S1, S2, S3, S4, S5, S6, S7, S8, Sf0, Sf1, Sf2, Sf3, Sf4, Sf5, Sf6, Sf7, Sf8, Sl⟩ := S.c9
    obtain ⟨F0, F1, F2, F3, Ff0, Ff1, Ff2, Ff3, Fl⟩ := F.c4
    go_wp2_with fail
    clear S0 Sf0 S1 Sf1 S2 Sf2 S3 Sf3 S4 Sf4 S5 Sf5 S6 Sf6 S7 Sf7 S8 Sf8 Sl
    clear F0 Ff0 F1 Ff1 F2 Ff2 F3 Ff3 Fl
    refine (CH.out _ U _ _ _ _ _ (nn.more (by omega)) qd HQD).mono ?_
    rintro _ w21 ⟨rfl, h21⟩
    replace U := U.trans h21
    replace S := S.up h21
    replace X := X.up h21
    replace R := R.up h21
    replace N := N.up h21
    replace F := F.up h21
    replace nn := nn.up h21
    replace nf := nf.up h21
    clear h21 CH
    cases qd
    ·
     go_wp2_with (refine store_ob2 rfl 84 (.tmp 6) (.tmp 61) rfl _ #[.bool false, .slice none 0 0, .int .i64 0, .int .i64 0] #[.bool false, .slice none 0 0, .int .i64 0, .int .i64 0] rfl rfl 4 (by kernel_rfl) rfl rfl (by simp [Value.oneCell']) w U ltR 84 R ?_; clear U; intro V11 Z9 U ho; clear ho R; have R := Z9; clear Z9)
     obtain ⟨R0, R1, R2, R3⟩ := R.g4
     refine bodyPost_ret (v := .tuple #[xv false (.slice none 0 0) 0 0, .bool false]) (by simp [results, Tryz.results88, go_sem, R0, R1, R2, R3]) rfl ?_
     exact .inr ⟨rfl, ⟨(fun e => by cases HQD.out.2 e), (fun e => by cases HQE.out.2 e)⟩, U⟩
    ·
     obtain ⟨F0, F1, F2, F3, Ff0, Ff1, Ff2, Ff3, Fl⟩ := F.c4
     go_wp2_with (refine store_ob2 rfl 84 (.tmp 6) (.tmp 60) rfl _ #[.bool false, .slice none 0 0, .int .i64 0, .int .i64 0] #[.bool ng, .slice An nn0 cn, .int .i64 k, .int .i64 k] rfl rfl 4 (by kernel_rfl) rfl rfl (by simp [Value.oneCell']) w U ltR 84 R ?_; clear U; intro V11 Z9 U ho; replace nn := nn.oth d0 ho onR; clear ho R; have R := Z9; clear Z9)
     obtain ⟨R0, R1, R2, R3⟩ := R.g4
     refine bodyPost_ret (v := .tuple #[xv ng (.slice An nn0 cn) k k, .bool true]) (by simp [results, Tryz.results88, go_sem, R0, R1, R2, R3]) rfl ?_
     exact .inl ⟨_, _, _, _, rfl, .inl ⟨(.inl (by decide)), .inr ⟨(fun e => by cases HQE.out.2 e), (HQD.out.1 (by first | rfl | trivial)), rfl⟩⟩, ((nn.fit (by first | exact F2.out | (have := DB.out; have := M.c_21; omega)))).lower lnn, U⟩
   ·
    clear CH
    obtain ⟨N0, N1, N2, N3, Nf0, Nf1, Nf2, Nf3, Nl⟩ := N.c4
    go_wp2_with (refine store_ob2 rfl 84 (.tmp 6) (.tmp 55) rfl _ #[.bool false, .slice none 0 0, .int .i64 0, .int .i64 0] #[.bool ng, .slice AF nF0 cF, .int .i64 k, .int .i64 k] rfl rfl 4 (by kernel_rfl) rfl rfl (by simp [Value.oneCell']) w U ltR 84 R ?_; clear U; intro V11 Z9 U ho; replace nf := nf.oth (Nat.succ_pos _) ho ofR; clear ho R; have R := Z9; clear Z9)
    obtain ⟨R0, R1, R2, R3⟩ := R.g4
    refine bodyPost_ret (v := .tuple #[xv ng (.slice AF nF0 cF) k k, .bool true]) (by simp [results, Tryz.results88, go_sem, R0, R1, R2, R3]) rfl ?_
    exact .inl ⟨_, _, _, _, rfl, .inl ⟨(.inl (by decide)), .inl ⟨(HQE.out.1 (by first | rfl | trivial)), rfl⟩⟩, ((nf.fit (by first | exact F2.out | (have := DB.out; have := M.c_21; omega)))).lower lnf, U⟩
end Go.Proofs.YtcmlanfgafancaaGreatDoor
