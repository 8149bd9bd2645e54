/-
  The document's answer for package qtext: Parse, as it is read and made.
-/
import Derived.Test.YtjmnobgllnaljaaGreatDoorCc
import Derived.Test.YtjmnobgllnaljaaGreatDoorCd
import Derived.Test.YtjmnobgllnaljaaGreatDoorCq
import Derived.Test.YtjmnobgllnaljaaGreatDoorSza
import Derived.Test.YtjmnobgllnaljaaGreatDoorRef4
namespace Go.Proofs.YtjmnobgllnaljaaGreatDoor
open Go.RowKit Go.Shelf
set_option linter.unusedVariables false
set_option linter.unusedSimpArgs false

theorem M.fitk {a k s : Nat} (h : a < 2 ^ k) (hk : k ≤ 64 * s) : a < 18446744073709551616 ^ s := by
  rw [show (18446744073709551616 : Nat) = 2 ^ 64 by decide, ← Nat.pow_mul]
  exact M.lt_two h hk
theorem Nh.slr {w : World} {lo s : Nat} {v : Value} {a : Nat} (h : Nh w lo s v a) : ∃ A n c, v = .slice A n c ∧ Nh w lo s (.slice A n c) a := by
  obtain ⟨A, n, c, xs, rfl, h⟩ := h
  exact ⟨A, n, c, rfl, A, n, c, xs, rfl, h⟩
theorem Nh.nil16 {w : World} {lo s : Nat} {A : Option Addr} {n c a : Nat} (h : Nh w lo s (.slice A n c) a) : n = 0 ↔ a = 0 := by
  obtain ⟨A', n', c', xs, e, h1, h2, h3, _, h4⟩ := h
  injection e with _ e2 _
  subst e2
  constructor
  · intro h
    have e : xs = [] := List.eq_nil_of_length_eq_zero (by rw [h1.num, h])
    rw [← h3, e]
    rfl
  · intro h
    have := M.hlen_of_lt (k := 0) h2 h4 (by rw [h3, h]; exact Nat.lt_of_lt_of_le Nat.zero_lt_one (Nat.le_refl _))
    have := h1.num
    omega
set_option maxHeartbeats 8000000 in
set_option maxRecDepth 100000 in
theorem rparse16_any (w : World) (S : ByteArray) (l : List UInt8) (hl : Tx S l) (hs : l.length ≤ 3000) (e : Int) (we : (Lit.int .i64 e).wf = true) (g : Bool) (m : Nat) (x : Int) (h : M.Qr l e g m x) : Calls Tryz.prog 14 #[.string S, .int .i64 e] w (Prq g m x w) := by
  have U := Up.refl w
  have nb : ∀ {x y : Int}, x ≠ y → (x != y) = true := fun h => by simpa using h
  have qe : ∀ {x y : Int}, x ≠ y → (x == y) = false := fun h => by simpa using h
  rcases h with ⟨he, rfl, rfl, rfl⟩ | ⟨he, h⟩
  · by_cases f1 : e < -1200
    · have d1 : decide (e < -1200) = true := decide_eq_true f1
      go_enter Tryz.func14, Tryz.ntmps14
      go_wp2_with fail
      go_ret3
      exact ⟨_, rfl, Nt.nil _ _ _, by first | exact U | exact U.drew | exact U.drewN _⟩

    · have f2 : 1200 < e := by omega
      have d1 : decide (e < -1200) = false := decide_eq_false f1
      have d2 : decide (1200 < e) = true := decide_eq_true f2
      go_enter Tryz.func14, Tryz.ntmps14
      go_wp2_with fail
      go_ret3
      exact ⟨_, rfl, Nt.nil _ _ _, by first | exact U | exact U.drew | exact U.drewN _⟩

  have d1 : decide (e < -1200) = false := decide_eq_false (by omega)
  have d2 : decide (1200 < e) = false := decide_eq_false (by omega)
  rcases h with ⟨hn, rfl, rfl, rfl⟩ | ⟨ng, d, k, bg, ct, hn, h⟩
  · obtain ⟨⟨r, j, er⟩, hr⟩ : ∃ q, M.rs l = q := ⟨_, rfl⟩
    have hk : er ≠ 0 ∨ (er = 0 ∧ ((r.kind : Nat) : Int) ≠ 1) := by
      by_cases h0 : er = 0
      · exact .inr ⟨h0, fun h1 => hn _ _ (M.isn_of_rs hr ⟨h0, by omega⟩)⟩
      · exact .inl h0
    obtain ⟨K, hK⟩ : ∃ K : Int, (r.kind : Int) = K := ⟨_, rfl⟩
    obtain ⟨I, hI⟩ : ∃ I : Int, (j : Int) = I := ⟨_, rfl⟩
    have CS := Lib.hid (fun W => rscan_val W S l (Lib.hid hl) hs r j er (Lib.hid hr) K r.neg r.n.d r.n.k r.n.big r.n.cut I hK rfl rfl hI)
    rw [hK] at hk
    generalize r.neg = ng, r.n.d = d, r.n.k = k, r.n.big = bg, r.n.cut = ct at CS
    clear hr hK hI hn
    rcases hk with hk | ⟨rfl, hk⟩
    · have k1 := qe hk
      have k2 := nb hk
      go_enter Tryz.func14, Tryz.ntmps14
      go_wp2_with fail
      refine (CS.out _).mono ?_
      rintro _ w1 ⟨As, ns, cs, xs, rfl, hx, hv, hn, hm, u1⟩
      go_upto_region 4 with fail
      obtain ⟨V, hV⟩ : ∃ V, w1.alloc (.cells #[.int .i64 K, .bool ng, .slice As ns cs, .int .i64 k, .int .i64 bg, .bool ct] 54) = V := ⟨_, rfl⟩
      have X : Ob V w1.heap.size 54 #[.int .i64 K, .bool ng, .slice As ns cs, .int .i64 k, .int .i64 bg, .bool ct] := by rw [← hV]; exact Ob.mk_ _ _ _
      have uV : Up w1 V := by rw [← hV]; exact (Up.refl _).alloc _
      rw [hV]
      clear hV
      replace U := Up.trans (Up.trans (by first | exact U | exact U.drew | exact U.drewN _) u1) uV
      clear hx hv hn hm u1 uV
      have X0 := X.get 0
      have X1 := X.get 1
      have X2 := X.get 2
      have X3 := X.get 3
      have X4 := X.get 4
      have X5 := X.get 5
      simp only [List.getElem?_toArray, List.getElem?_cons_zero, List.getElem?_cons_succ] at X0 X1 X2 X3 X4 X5
      go_wp2_with fail
      go_ret3
      exact ⟨_, rfl, Nt.nil _ _ _, by first | exact U | exact U.drew | exact U.drewN _⟩

    · have k1 := qe hk
      have k2 := nb hk
      go_enter Tryz.func14, Tryz.ntmps14
      go_wp2_with fail
      refine (CS.out _).mono ?_
      rintro _ w1 ⟨As, ns, cs, xs, rfl, hx, hv, hn, hm, u1⟩
      go_upto_region 4 with fail
      obtain ⟨V, hV⟩ : ∃ V, w1.alloc (.cells #[.int .i64 K, .bool ng, .slice As ns cs, .int .i64 k, .int .i64 bg, .bool ct] 54) = V := ⟨_, rfl⟩
      have X : Ob V w1.heap.size 54 #[.int .i64 K, .bool ng, .slice As ns cs, .int .i64 k, .int .i64 bg, .bool ct] := by rw [← hV]; exact Ob.mk_ _ _ _
      have uV : Up w1 V := by rw [← hV]; exact (Up.refl _).alloc _
      rw [hV]
      clear hV
      replace U := Up.trans (Up.trans (by first | exact U | exact U.drew | exact U.drewN _) u1) uV
      clear hx hv hn hm u1 uV
      have X0 := X.get 0
      have X1 := X.get 1
      have X2 := X.get 2
      have X3 := X.get 3
      have X4 := X.get 4
      have X5 := X.get 5
      simp only [List.getElem?_toArray, List.getElem?_cons_zero, List.getElem?_cons_succ] at X0 X1 X2 X3 X4 X5
      go_wp2_with fail
      go_ret3
      exact ⟨_, rfl, Nt.nil _ _ _, by first | exact U | exact U.drew | exact U.drewN _⟩

  have hr := M.isn_rs hn
  have CS := Lib.hid (fun W => rscan_val W S l (Lib.hid hl) hs _ 0 0 (Lib.hid hr) 1 ng d k bg ct 0 rfl rfl rfl rfl)
  clear hr
  by_cases hb : bg ≠ 0
  · have k1 := qe hb
    have k2 := nb hb
    obtain ⟨rfl, rfl, rfl⟩ : g = false ∧ m = 0 ∧ x = 8 := by
      rcases h with ⟨_, h1, h2, h3⟩ | ⟨b, h1, _⟩
      · exact ⟨h1, h2, h3⟩
      · exact absurd h1 hb
    clear h hn hb
    go_enter Tryz.func14, Tryz.ntmps14
    go_wp2_with fail
    refine (CS.out _).mono ?_
    rintro _ w1 ⟨As, ns, cs, xs, rfl, hx, hv, hn, hm, u1⟩
    go_upto_region 4 with fail
    obtain ⟨V, hV⟩ : ∃ V, w1.alloc (.cells #[.int .i64 1, .bool ng, .slice As ns cs, .int .i64 k, .int .i64 bg, .bool ct] 54) = V := ⟨_, rfl⟩
    have X : Ob V w1.heap.size 54 #[.int .i64 1, .bool ng, .slice As ns cs, .int .i64 k, .int .i64 bg, .bool ct] := by rw [← hV]; exact Ob.mk_ _ _ _
    have uV : Up w1 V := by rw [← hV]; exact (Up.refl _).alloc _
    rw [hV]
    clear hV
    replace U := Up.trans (Up.trans (by first | exact U | exact U.drew | exact U.drewN _) u1) uV
    clear hx hv hn hm u1 uV
    have X0 := X.get 0
    have X1 := X.get 1
    have X2 := X.get 2
    have X3 := X.get 3
    have X4 := X.get 4
    have X5 := X.get 5
    simp only [List.getElem?_toArray, List.getElem?_cons_zero, List.getElem?_cons_succ] at X0 X1 X2 X3 X4 X5
    go_wp2_with fail
    go_ret3
    exact ⟨_, rfl, Nt.nil _ _ _, by first | exact U | exact U.drew | exact U.drewN _⟩

  replace hb : bg = 0 := Classical.not_not.1 hb
  obtain ⟨k1, k2⟩ := M.isn_far hn hb
  subst hb
  cases ct with
  | true =>
    obtain ⟨rfl, rfl, rfl⟩ : g = false ∧ m = 0 ∧ x = 8 := by
      rcases h with ⟨_, h1, h2, h3⟩ | ⟨b, _, h1, _⟩
      · exact ⟨h1, h2, h3⟩
      · cases h1
    clear h hn
    go_enter Tryz.func14, Tryz.ntmps14
    go_wp2_with fail
    refine (CS.out _).mono ?_
    rintro _ w1 ⟨As, ns, cs, xs, rfl, hx, hv, hn, hm, u1⟩
    go_upto_region 4 with fail
    obtain ⟨V, hV⟩ : ∃ V, w1.alloc (.cells #[.int .i64 1, .bool ng, .slice As ns cs, .int .i64 k, .int .i64 0, .bool true] 54) = V := ⟨_, rfl⟩
    have X : Ob V w1.heap.size 54 #[.int .i64 1, .bool ng, .slice As ns cs, .int .i64 k, .int .i64 0, .bool true] := by rw [← hV]; exact Ob.mk_ _ _ _
    have uV : Up w1 V := by rw [← hV]; exact (Up.refl _).alloc _
    rw [hV]
    clear hV
    replace U := Up.trans (Up.trans (by first | exact U | exact U.drew | exact U.drewN _) u1) uV
    clear hx hv hn hm u1 uV
    have X0 := X.get 0
    have X1 := X.get 1
    have X2 := X.get 2
    have X3 := X.get 3
    have X4 := X.get 4
    have X5 := X.get 5
    simp only [List.getElem?_toArray, List.getElem?_cons_zero, List.getElem?_cons_succ] at X0 X1 X2 X3 X4 X5
    go_wp2_with fail
    go_ret3
    exact ⟨_, rfl, Nt.nil _ _ _, by first | exact U | exact U.drew | exact U.drewN _⟩

  | false =>
    clear hn
    obtain ⟨t, ht⟩ : ∃ t, k - e = t := ⟨_, rfl⟩
    obtain ⟨T, hT⟩ : ∃ T : Nat, max t 0 = (T : Int) := ⟨(max t 0).toNat, by omega⟩
    obtain ⟨F, hF⟩ : ∃ F : Nat, max k 0 = (F : Int) := ⟨(max k 0).toNat, by omega⟩
    obtain ⟨T', hT'⟩ : ∃ T' : Nat, max (-t) 0 = (T' : Int) := ⟨(max (-t) 0).toNat, by omega⟩
    obtain ⟨F', hF'⟩ : ∃ F' : Nat, max (-k) 0 = (F' : Int) := ⟨(max (-k) 0).toNat, by omega⟩
    have hw : IntKind.i64.wrap t = t := by unfold IntKind.wrap; simp [IntKind.min, IntKind.max, IntKind.signed, IntKind.bits]; omega
    have CP := Lib.hid (fun W lo v (N : Nw W lo 2001 v d) => parts_any W lo 2001 false v t k d N (by decide) T F T' F' (Lib.hid hT) (Lib.hid hF) (Lib.hid hT') (Lib.hid hF') (by omega) (by omega) (by omega) (by omega))
    have key : ∀ b, M.ys b e 0 = M.ys d k k ↔ b * (5 ^ F' * 2 ^ T') = d * 5 ^ F * 2 ^ T := fun b => M.ys_parts (by omega) (by omega) (by rw [ht]; exact hT) hF (by rw [ht]; exact hT') hF'
    have hun : 0 < 5 ^ F' * 2 ^ T' := Nat.mul_pos (Nat.pow_pos (by omega)) (Nat.two_pow_pos _)
    have bF : F ≤ 1000 ∧ F' ≤ 3000 ∧ T ≤ 2200 ∧ T' ≤ 4200 := by omega
    obtain ⟨OV, hOV⟩ : ∃ OV, d * 5 ^ F * 2 ^ T = OV := ⟨_, rfl⟩
    obtain ⟨UN, hUN⟩ : ∃ UN, 5 ^ F' * 2 ^ T' = UN := ⟨_, rfl⟩
    obtain ⟨s1, hs1⟩ : ∃ s1, 2 * 2001 + F + T + 10 = s1 := ⟨_, rfl⟩
    obtain ⟨s2, hs2⟩ : ∃ s2, F' + T' + 10 = s2 := ⟨_, rfl⟩
    rw [hOV, hUN, hs1, hs2] at CP
    simp only [hOV, hUN] at key
    rw [hUN] at hun
    have hs3 : s1 ≤ 10000 := by omega
    have hs4 : s2 ≤ 10000 := by omega
    obtain ⟨Q, hQ⟩ : ∃ Q, OV / UN = Q := ⟨_, rfl⟩
    obtain ⟨R, hR⟩ : ∃ R, OV % UN = R := ⟨_, rfl⟩
    have hdm : UN * Q + R = OV := by rw [← hQ, ← hR]; exact Nat.div_add_mod OV UN
    have CO := Lib.hid (fun W lo lo' v v' (N : Nh W lo s1 v OV) (N' : Nh W lo' s2 v' UN) => over_of W lo lo' s1 s2 v v' OV UN N N' hun (by omega) (by omega))
    rw [hQ, hR] at CO
    obtain ⟨B, hB⟩ : ∃ B : Nat, M.bits Q = B := ⟨_, rfl⟩
    have hBT : Q < 2 ^ 2048 ↔ B ≤ 2048 := by
      rw [← hB]
      exact ⟨fun h => M.bits_le_of_lt h, fun h => M.lt_2048 (M.bits_lt Q) h⟩
    have CB := Lib.hid (fun W lo v (N : Nh W lo s1 v Q) => rbits_of W lo s1 v Q N (by omega) (B : Int) (Lib.hid (by rw [hB])))
    have CW := Lib.hid (fun W lo v (N : Nh W lo s1 v Q) => words_of W lo s1 v Q N (by omega))
    have hR0 : R = 0 ↔ ∃ b, M.ys b e 0 = M.ys d k k := by
      constructor
      · intro h0
        exact ⟨Q, (key Q).2 (by rw [Nat.mul_comm]; omega)⟩
      · rintro ⟨b, hb⟩
        rw [← hR, ← (key b).1 hb, Nat.mul_mod_left]
    have hQb : ∀ b, M.ys b e 0 = M.ys d k k → Q = b := fun b hb => by rw [← hQ, ← (key b).1 hb, Nat.mul_div_cancel _ hun]
    clear hdm key hun hOV hUN hs1 hs2 hT hF hT' hF' bF hQ hR hB
    by_cases hb : R ≠ 0
    · obtain ⟨rfl, rfl, rfl⟩ : g = false ∧ m = 0 ∧ x = 8 := by
        rcases h with ⟨_, h1, h2, h3⟩ | ⟨b, _, _, h1, _⟩
        · exact ⟨h1, h2, h3⟩
        · exact absurd (hR0.2 ⟨b, h1⟩) hb
      clear h hR0 hQb hBT
      go_enter Tryz.func14, Tryz.ntmps14
      go_wp2_with fail
      refine (CS.out _).mono ?_
      rintro _ w1 ⟨As, ns, cs, xs, rfl, hx, hv, hn, hm, u1⟩
      go_upto_region 4 with fail
      obtain ⟨V, hV⟩ : ∃ V, w1.alloc (.cells #[.int .i64 1, .bool ng, .slice As ns cs, .int .i64 k, .int .i64 0, .bool false] 54) = V := ⟨_, rfl⟩
      have X : Ob V w1.heap.size 54 #[.int .i64 1, .bool ng, .slice As ns cs, .int .i64 k, .int .i64 0, .bool false] := by rw [← hV]; exact Ob.mk_ _ _ _
      have uV : Up w1 V := by rw [← hV]; exact (Up.refl _).alloc _
      rw [hV]
      clear hV
      have N0 : Nw V w.heap.size 2001 (.slice As ns cs) d := Nw.up ⟨As, ns, cs, xs, rfl, hx, hv, hn⟩ uV
      replace U := Up.trans (Up.trans (by first | exact U | exact U.drew | exact U.drewN _) u1) uV
      clear hx hv hn hm u1 uV
      have X0 := X.get 0
      have X1 := X.get 1
      have X2 := X.get 2
      have X3 := X.get 3
      have X4 := X.get 4
      have X5 := X.get 5
      simp only [List.getElem?_toArray, List.getElem?_cons_zero, List.getElem?_cons_succ] at X0 X1 X2 X3 X4 X5
      go_wp2_with fail
      clear X0 X1 X2 X3 X4 X5
      refine (CP.out _ _ _ (by first | exact N0 | exact N0.up (Up.refl _).drew | exact N0.up ((Up.refl _).drewN _))).mono ?_
      rintro _ w2 ⟨v1, v2, rfl, N1, N2, u2⟩
      replace U := Up.trans (by first | exact U | exact U.drew | exact U.drewN _) u2
      replace X := X.up (Up.trans (by first | exact Up.refl _ | exact (Up.refl _).drew | exact (Up.refl _).drewN _) u2)
      clear N0 u2
      obtain ⟨A1, n1, c1, rfl, N1⟩ := N1.slr
      obtain ⟨A2, n2, c2, rfl, N2⟩ := N2.slr
      have X0 := X.get 0
      have X1 := X.get 1
      have X2 := X.get 2
      have X3 := X.get 3
      have X4 := X.get 4
      have X5 := X.get 5
      simp only [List.getElem?_toArray, List.getElem?_cons_zero, List.getElem?_cons_succ] at X0 X1 X2 X3 X4 X5
      go_wp2_with fail
      clear X0 X1 X2 X3 X4 X5
      refine (CO.out _ _ _ _ _ (by first | exact N1 | exact N1.up (Up.refl _).drew | exact N1.up ((Up.refl _).drewN _)) (by first | exact N2 | exact N2.up (Up.refl _).drew | exact N2.up ((Up.refl _).drewN _))).mono ?_
      rintro _ w3 ⟨v3, v4, rfl, N3, N4, u3⟩
      replace U := Up.trans (by first | exact U | exact U.drew | exact U.drewN _) u3
      replace X := X.up (Up.trans (by first | exact Up.refl _ | exact (Up.refl _).drew | exact (Up.refl _).drewN _) u3)
      clear N1 N2 u3
      obtain ⟨A3, n3, c3, rfl, N3⟩ := N3.slr
      obtain ⟨A4, n4, c4, rfl, N4⟩ := N4.slr
      have h3 := N3.nil16
      have h4 := N4.nil16
      have X0 := X.get 0
      have X1 := X.get 1
      have X2 := X.get 2
      have X3 := X.get 3
      have X4 := X.get 4
      have X5 := X.get 5
      simp only [List.getElem?_toArray, List.getElem?_cons_zero, List.getElem?_cons_succ] at X0 X1 X2 X3 X4 X5
      have d4 : (0 : Int) < (n4 : Int) := by omega
      clear h3 h4
      go_wp2_with fail
      go_ret3
      exact ⟨_, rfl, Nt.nil _ _ _, by first | exact U | exact U.drew | exact U.drewN _⟩

    replace hb : R = 0 := Classical.not_not.1 hb
    have hrest : (¬ Q < 2 ^ 2048 ∧ g = false ∧ m = 0 ∧ x = 4) ∨ (Q < 2 ^ 2048 ∧ g = (ng && decide (Q ≠ 0)) ∧ m = Q ∧ x = 0) := by
      rcases h with ⟨h1 | h1 | h1, _⟩ | ⟨b, _, _, h1, h2⟩
      · exact absurd rfl h1
      · cases h1
      · obtain ⟨b, hb2⟩ := hR0.1 hb
        exact absurd hb2 (h1 b)
      · rw [hQb b h1]; exact h2
    clear h hR0 hQb
    subst hb
    rcases hrest with ⟨hq, rfl, rfl, rfl⟩ | ⟨hq, rfl, rfl, rfl⟩
    · rw [hBT] at hq
      have d5 : (2048 : Int) < (B : Int) := by omega
      clear hBT hq
      go_enter Tryz.func14, Tryz.ntmps14
      go_wp2_with fail
      refine (CS.out _).mono ?_
      rintro _ w1 ⟨As, ns, cs, xs, rfl, hx, hv, hn, hm, u1⟩
      go_upto_region 4 with fail
      obtain ⟨V, hV⟩ : ∃ V, w1.alloc (.cells #[.int .i64 1, .bool ng, .slice As ns cs, .int .i64 k, .int .i64 0, .bool false] 54) = V := ⟨_, rfl⟩
      have X : Ob V w1.heap.size 54 #[.int .i64 1, .bool ng, .slice As ns cs, .int .i64 k, .int .i64 0, .bool false] := by rw [← hV]; exact Ob.mk_ _ _ _
      have uV : Up w1 V := by rw [← hV]; exact (Up.refl _).alloc _
      rw [hV]
      clear hV
      have N0 : Nw V w.heap.size 2001 (.slice As ns cs) d := Nw.up ⟨As, ns, cs, xs, rfl, hx, hv, hn⟩ uV
      replace U := Up.trans (Up.trans (by first | exact U | exact U.drew | exact U.drewN _) u1) uV
      clear hx hv hn hm u1 uV
      have X0 := X.get 0
      have X1 := X.get 1
      have X2 := X.get 2
      have X3 := X.get 3
      have X4 := X.get 4
      have X5 := X.get 5
      simp only [List.getElem?_toArray, List.getElem?_cons_zero, List.getElem?_cons_succ] at X0 X1 X2 X3 X4 X5
      go_wp2_with fail
      clear X0 X1 X2 X3 X4 X5
      refine (CP.out _ _ _ (by first | exact N0 | exact N0.up (Up.refl _).drew | exact N0.up ((Up.refl _).drewN _))).mono ?_
      rintro _ w2 ⟨v1, v2, rfl, N1, N2, u2⟩
      replace U := Up.trans (by first | exact U | exact U.drew | exact U.drewN _) u2
      replace X := X.up (Up.trans (by first | exact Up.refl _ | exact (Up.refl _).drew | exact (Up.refl _).drewN _) u2)
      clear N0 u2
      obtain ⟨A1, n1, c1, rfl, N1⟩ := N1.slr
      obtain ⟨A2, n2, c2, rfl, N2⟩ := N2.slr
      have X0 := X.get 0
      have X1 := X.get 1
      have X2 := X.get 2
      have X3 := X.get 3
      have X4 := X.get 4
      have X5 := X.get 5
      simp only [List.getElem?_toArray, List.getElem?_cons_zero, List.getElem?_cons_succ] at X0 X1 X2 X3 X4 X5
      go_wp2_with fail
      clear X0 X1 X2 X3 X4 X5
      refine (CO.out _ _ _ _ _ (by first | exact N1 | exact N1.up (Up.refl _).drew | exact N1.up ((Up.refl _).drewN _)) (by first | exact N2 | exact N2.up (Up.refl _).drew | exact N2.up ((Up.refl _).drewN _))).mono ?_
      rintro _ w3 ⟨v3, v4, rfl, N3, N4, u3⟩
      replace U := Up.trans (by first | exact U | exact U.drew | exact U.drewN _) u3
      replace X := X.up (Up.trans (by first | exact Up.refl _ | exact (Up.refl _).drew | exact (Up.refl _).drewN _) u3)
      clear N1 N2 u3
      obtain ⟨A3, n3, c3, rfl, N3⟩ := N3.slr
      obtain ⟨A4, n4, c4, rfl, N4⟩ := N4.slr
      have h3 := N3.nil16
      have h4 := N4.nil16
      have X0 := X.get 0
      have X1 := X.get 1
      have X2 := X.get 2
      have X3 := X.get 3
      have X4 := X.get 4
      have X5 := X.get 5
      simp only [List.getElem?_toArray, List.getElem?_cons_zero, List.getElem?_cons_succ] at X0 X1 X2 X3 X4 X5
      obtain rfl : n4 = 0 := h4.2 rfl
      clear h3 h4
      go_wp2_with fail
      refine (CB.out _ _ _ (by first | exact N3 | exact N3.up (Up.refl _).drew | exact N3.up ((Up.refl _).drewN _))).mono ?_
      rintro _ _ ⟨rfl, rfl⟩
      go_wp2_with fail
      go_ret3
      exact ⟨_, rfl, Nt.nil _ _ _, by first | exact U | exact U.drew | exact U.drewN _⟩

    · have hfit := M.fitk (k := 2048) (s := 32) hq (by decide)
      rw [hBT] at hq
      have d5 : ¬ (2048 : Int) < (B : Int) := by omega
      clear hBT hq
      obtain ⟨dz, hdz⟩ : ∃ dz, decide (m ≠ 0) = dz := ⟨_, rfl⟩
      rw [hdz]
      cases ng
      · go_enter Tryz.func14, Tryz.ntmps14
        go_wp2_with fail
        refine (CS.out _).mono ?_
        rintro _ w1 ⟨As, ns, cs, xs, rfl, hx, hv, hn, hm, u1⟩
        go_upto_region 4 with fail
        obtain ⟨V, hV⟩ : ∃ V, w1.alloc (.cells #[.int .i64 1, .bool false, .slice As ns cs, .int .i64 k, .int .i64 0, .bool false] 54) = V := ⟨_, rfl⟩
        have X : Ob V w1.heap.size 54 #[.int .i64 1, .bool false, .slice As ns cs, .int .i64 k, .int .i64 0, .bool false] := by rw [← hV]; exact Ob.mk_ _ _ _
        have uV : Up w1 V := by rw [← hV]; exact (Up.refl _).alloc _
        rw [hV]
        clear hV
        have N0 : Nw V w.heap.size 2001 (.slice As ns cs) d := Nw.up ⟨As, ns, cs, xs, rfl, hx, hv, hn⟩ uV
        replace U := Up.trans (Up.trans (by first | exact U | exact U.drew | exact U.drewN _) u1) uV
        clear hx hv hn hm u1 uV
        have X0 := X.get 0
        have X1 := X.get 1
        have X2 := X.get 2
        have X3 := X.get 3
        have X4 := X.get 4
        have X5 := X.get 5
        simp only [List.getElem?_toArray, List.getElem?_cons_zero, List.getElem?_cons_succ] at X0 X1 X2 X3 X4 X5
        go_wp2_with fail
        clear X0 X1 X2 X3 X4 X5
        refine (CP.out _ _ _ (by first | exact N0 | exact N0.up (Up.refl _).drew | exact N0.up ((Up.refl _).drewN _))).mono ?_
        rintro _ w2 ⟨v1, v2, rfl, N1, N2, u2⟩
        replace U := Up.trans (by first | exact U | exact U.drew | exact U.drewN _) u2
        replace X := X.up (Up.trans (by first | exact Up.refl _ | exact (Up.refl _).drew | exact (Up.refl _).drewN _) u2)
        clear N0 u2
        obtain ⟨A1, n1, c1, rfl, N1⟩ := N1.slr
        obtain ⟨A2, n2, c2, rfl, N2⟩ := N2.slr
        have X0 := X.get 0
        have X1 := X.get 1
        have X2 := X.get 2
        have X3 := X.get 3
        have X4 := X.get 4
        have X5 := X.get 5
        simp only [List.getElem?_toArray, List.getElem?_cons_zero, List.getElem?_cons_succ] at X0 X1 X2 X3 X4 X5
        go_wp2_with fail
        clear X0 X1 X2 X3 X4 X5
        refine (CO.out _ _ _ _ _ (by first | exact N1 | exact N1.up (Up.refl _).drew | exact N1.up ((Up.refl _).drewN _)) (by first | exact N2 | exact N2.up (Up.refl _).drew | exact N2.up ((Up.refl _).drewN _))).mono ?_
        rintro _ w3 ⟨v3, v4, rfl, N3, N4, u3⟩
        replace U := Up.trans (by first | exact U | exact U.drew | exact U.drewN _) u3
        replace X := X.up (Up.trans (by first | exact Up.refl _ | exact (Up.refl _).drew | exact (Up.refl _).drewN _) u3)
        clear N1 N2 u3
        obtain ⟨A3, n3, c3, rfl, N3⟩ := N3.slr
        obtain ⟨A4, n4, c4, rfl, N4⟩ := N4.slr
        have h3 := N3.nil16
        have h4 := N4.nil16
        have X0 := X.get 0
        have X1 := X.get 1
        have X2 := X.get 2
        have X3 := X.get 3
        have X4 := X.get 4
        have X5 := X.get 5
        simp only [List.getElem?_toArray, List.getElem?_cons_zero, List.getElem?_cons_succ] at X0 X1 X2 X3 X4 X5
        obtain rfl : n4 = 0 := h4.2 rfl
        skip
        clear h3 h4
        go_wp2_with fail
        refine (CB.out _ _ _ (by first | exact N3 | exact N3.up (Up.refl _).drew | exact N3.up ((Up.refl _).drewN _))).mono ?_
        rintro _ _ ⟨rfl, rfl⟩
        have hsz := U.size
        go_wp2_with fail
        refine (CW.out _ _ _ (by first | exact N3 | exact N3.up (Up.refl _).drew | exact N3.up ((Up.refl _).drewN _))).mono ?_
        rintro _ w4 ⟨v5, rfl, N5, u5⟩
        replace U := Up.trans (by first | exact U | exact U.drew | exact U.drewN _) u5
        have N6 := ((N5.fit (k := 32) hfit).more (s' := 40) (by decide)).lower (lo' := w.heap.size) (by first | exact hsz | (simp; omega))
        go_wp2_with fail
        skip
        go_ret3
        exact ⟨_, rfl, by first | exact N6 | exact N6.up ((Up.refl _).drewN _), by first | exact U | exact U.drew | exact U.drewN _⟩

      · cases dz
        · go_enter Tryz.func14, Tryz.ntmps14
          go_wp2_with fail
          refine (CS.out _).mono ?_
          rintro _ w1 ⟨As, ns, cs, xs, rfl, hx, hv, hn, hm, u1⟩
          go_upto_region 4 with fail
          obtain ⟨V, hV⟩ : ∃ V, w1.alloc (.cells #[.int .i64 1, .bool true, .slice As ns cs, .int .i64 k, .int .i64 0, .bool false] 54) = V := ⟨_, rfl⟩
          have X : Ob V w1.heap.size 54 #[.int .i64 1, .bool true, .slice As ns cs, .int .i64 k, .int .i64 0, .bool false] := by rw [← hV]; exact Ob.mk_ _ _ _
          have uV : Up w1 V := by rw [← hV]; exact (Up.refl _).alloc _
          rw [hV]
          clear hV
          have N0 : Nw V w.heap.size 2001 (.slice As ns cs) d := Nw.up ⟨As, ns, cs, xs, rfl, hx, hv, hn⟩ uV
          replace U := Up.trans (Up.trans (by first | exact U | exact U.drew | exact U.drewN _) u1) uV
          clear hx hv hn hm u1 uV
          have X0 := X.get 0
          have X1 := X.get 1
          have X2 := X.get 2
          have X3 := X.get 3
          have X4 := X.get 4
          have X5 := X.get 5
          simp only [List.getElem?_toArray, List.getElem?_cons_zero, List.getElem?_cons_succ] at X0 X1 X2 X3 X4 X5
          go_wp2_with fail
          clear X0 X1 X2 X3 X4 X5
          refine (CP.out _ _ _ (by first | exact N0 | exact N0.up (Up.refl _).drew | exact N0.up ((Up.refl _).drewN _))).mono ?_
          rintro _ w2 ⟨v1, v2, rfl, N1, N2, u2⟩
          replace U := Up.trans (by first | exact U | exact U.drew | exact U.drewN _) u2
          replace X := X.up (Up.trans (by first | exact Up.refl _ | exact (Up.refl _).drew | exact (Up.refl _).drewN _) u2)
          clear N0 u2
          obtain ⟨A1, n1, c1, rfl, N1⟩ := N1.slr
          obtain ⟨A2, n2, c2, rfl, N2⟩ := N2.slr
          have X0 := X.get 0
          have X1 := X.get 1
          have X2 := X.get 2
          have X3 := X.get 3
          have X4 := X.get 4
          have X5 := X.get 5
          simp only [List.getElem?_toArray, List.getElem?_cons_zero, List.getElem?_cons_succ] at X0 X1 X2 X3 X4 X5
          go_wp2_with fail
          clear X0 X1 X2 X3 X4 X5
          refine (CO.out _ _ _ _ _ (by first | exact N1 | exact N1.up (Up.refl _).drew | exact N1.up ((Up.refl _).drewN _)) (by first | exact N2 | exact N2.up (Up.refl _).drew | exact N2.up ((Up.refl _).drewN _))).mono ?_
          rintro _ w3 ⟨v3, v4, rfl, N3, N4, u3⟩
          replace U := Up.trans (by first | exact U | exact U.drew | exact U.drewN _) u3
          replace X := X.up (Up.trans (by first | exact Up.refl _ | exact (Up.refl _).drew | exact (Up.refl _).drewN _) u3)
          clear N1 N2 u3
          obtain ⟨A3, n3, c3, rfl, N3⟩ := N3.slr
          obtain ⟨A4, n4, c4, rfl, N4⟩ := N4.slr
          have h3 := N3.nil16
          have h4 := N4.nil16
          have X0 := X.get 0
          have X1 := X.get 1
          have X2 := X.get 2
          have X3 := X.get 3
          have X4 := X.get 4
          have X5 := X.get 5
          simp only [List.getElem?_toArray, List.getElem?_cons_zero, List.getElem?_cons_succ] at X0 X1 X2 X3 X4 X5
          obtain rfl : n4 = 0 := h4.2 rfl
          obtain rfl : n3 = 0 := h3.2 (by simpa using hdz)
          clear h3 h4
          go_wp2_with fail
          refine (CB.out _ _ _ (by first | exact N3 | exact N3.up (Up.refl _).drew | exact N3.up ((Up.refl _).drewN _))).mono ?_
          rintro _ _ ⟨rfl, rfl⟩
          have hsz := U.size
          go_wp2_with fail
          refine (CW.out _ _ _ (by first | exact N3 | exact N3.up (Up.refl _).drew | exact N3.up ((Up.refl _).drewN _))).mono ?_
          rintro _ w4 ⟨v5, rfl, N5, u5⟩
          replace U := Up.trans (by first | exact U | exact U.drew | exact U.drewN _) u5
          have N6 := ((N5.fit (k := 32) hfit).more (s' := 40) (by decide)).lower (lo' := w.heap.size) (by first | exact hsz | (simp; omega))
          go_wp2_with fail
          skip
          go_ret3
          exact ⟨_, rfl, by first | exact N6 | exact N6.up ((Up.refl _).drewN _), by first | exact U | exact U.drew | exact U.drewN _⟩

        · go_enter Tryz.func14, Tryz.ntmps14
          go_wp2_with fail
          refine (CS.out _).mono ?_
          rintro _ w1 ⟨As, ns, cs, xs, rfl, hx, hv, hn, hm, u1⟩
          go_upto_region 4 with fail
          obtain ⟨V, hV⟩ : ∃ V, w1.alloc (.cells #[.int .i64 1, .bool true, .slice As ns cs, .int .i64 k, .int .i64 0, .bool false] 54) = V := ⟨_, rfl⟩
          have X : Ob V w1.heap.size 54 #[.int .i64 1, .bool true, .slice As ns cs, .int .i64 k, .int .i64 0, .bool false] := by rw [← hV]; exact Ob.mk_ _ _ _
          have uV : Up w1 V := by rw [← hV]; exact (Up.refl _).alloc _
          rw [hV]
          clear hV
          have N0 : Nw V w.heap.size 2001 (.slice As ns cs) d := Nw.up ⟨As, ns, cs, xs, rfl, hx, hv, hn⟩ uV
          replace U := Up.trans (Up.trans (by first | exact U | exact U.drew | exact U.drewN _) u1) uV
          clear hx hv hn hm u1 uV
          have X0 := X.get 0
          have X1 := X.get 1
          have X2 := X.get 2
          have X3 := X.get 3
          have X4 := X.get 4
          have X5 := X.get 5
          simp only [List.getElem?_toArray, List.getElem?_cons_zero, List.getElem?_cons_succ] at X0 X1 X2 X3 X4 X5
          go_wp2_with fail
          clear X0 X1 X2 X3 X4 X5
          refine (CP.out _ _ _ (by first | exact N0 | exact N0.up (Up.refl _).drew | exact N0.up ((Up.refl _).drewN _))).mono ?_
          rintro _ w2 ⟨v1, v2, rfl, N1, N2, u2⟩
          replace U := Up.trans (by first | exact U | exact U.drew | exact U.drewN _) u2
          replace X := X.up (Up.trans (by first | exact Up.refl _ | exact (Up.refl _).drew | exact (Up.refl _).drewN _) u2)
          clear N0 u2
          obtain ⟨A1, n1, c1, rfl, N1⟩ := N1.slr
          obtain ⟨A2, n2, c2, rfl, N2⟩ := N2.slr
          have X0 := X.get 0
          have X1 := X.get 1
          have X2 := X.get 2
          have X3 := X.get 3
          have X4 := X.get 4
          have X5 := X.get 5
          simp only [List.getElem?_toArray, List.getElem?_cons_zero, List.getElem?_cons_succ] at X0 X1 X2 X3 X4 X5
          go_wp2_with fail
          clear X0 X1 X2 X3 X4 X5
          refine (CO.out _ _ _ _ _ (by first | exact N1 | exact N1.up (Up.refl _).drew | exact N1.up ((Up.refl _).drewN _)) (by first | exact N2 | exact N2.up (Up.refl _).drew | exact N2.up ((Up.refl _).drewN _))).mono ?_
          rintro _ w3 ⟨v3, v4, rfl, N3, N4, u3⟩
          replace U := Up.trans (by first | exact U | exact U.drew | exact U.drewN _) u3
          replace X := X.up (Up.trans (by first | exact Up.refl _ | exact (Up.refl _).drew | exact (Up.refl _).drewN _) u3)
          clear N1 N2 u3
          obtain ⟨A3, n3, c3, rfl, N3⟩ := N3.slr
          obtain ⟨A4, n4, c4, rfl, N4⟩ := N4.slr
          have h3 := N3.nil16
          have h4 := N4.nil16
          have X0 := X.get 0
          have X1 := X.get 1
          have X2 := X.get 2
          have X3 := X.get 3
          have X4 := X.get 4
          have X5 := X.get 5
          simp only [List.getElem?_toArray, List.getElem?_cons_zero, List.getElem?_cons_succ] at X0 X1 X2 X3 X4 X5
          obtain rfl : n4 = 0 := h4.2 rfl
          have d6 : (0 : Int) < (n3 : Int) := by
            have : m ≠ 0 := by simpa using hdz
            omega
          have d7 : decide (0 < n3) = true := decide_eq_true (by omega)
          clear h3 h4
          go_wp2_with fail
          refine (CB.out _ _ _ (by first | exact N3 | exact N3.up (Up.refl _).drew | exact N3.up ((Up.refl _).drewN _))).mono ?_
          rintro _ _ ⟨rfl, rfl⟩
          have hsz := U.size
          go_wp2_with fail
          refine (CW.out _ _ _ (by first | exact N3 | exact N3.up (Up.refl _).drew | exact N3.up ((Up.refl _).drewN _))).mono ?_
          rintro _ w4 ⟨v5, rfl, N5, u5⟩
          replace U := Up.trans (by first | exact U | exact U.drew | exact U.drewN _) u5
          have N6 := ((N5.fit (k := 32) hfit).more (s' := 40) (by decide)).lower (lo' := w.heap.size) (by first | exact hsz | (simp; omega))
          go_wp2_with fail
          try simp only [d7]
          go_ret3
          exact ⟨_, rfl, by first | exact N6 | exact N6.up ((Up.refl _).drewN _), by first | exact U | exact U.drew | exact U.drewN _⟩

end Go.Proofs.YtjmnobgllnaljaaGreatDoor
