/-
  The walk of ParseTells: true, and nothing that was there has turned.
-/
import Derived.Test.YtbbjlcgfaigmdaaGreatDoorUJd
import Derived.Test.YtbbjlcgfaigmdaaGreatDoorUJt0
namespace Go.Proofs.YtbbjlcgfaigmdaaGreatDoor
open Go.RowKit Go.Shelf
set_option linter.unusedSimpArgs false
set_option linter.unusedVariables false

/-- The reference's Parse. -/
theorem rparse_any (w : World) (ii mode : Int) (s : ByteArray) (l : List UInt8) (hl : Hid (s.data.toList = l)) (hs : l.length ≤ 3000) (p : Int) (n : Nat) (e : Int) (h : M.Jc ii mode l p n e) : Calls Tryz.prog 12 #[.int .i64 ii, .int .i64 mode, .string s] w (Pn p n e w) := by
  have nb : ∀ {x y : Int}, x ≠ y → (x != y) = true := fun h => by simpa using h
  have qb : ∀ {x y : Int}, x = y → (x == y) = true := fun h => by simpa using h
  have qe : ∀ {x y : Int}, x ≠ y → (x == y) = false := fun h => by simpa using h
  rcases h with ⟨a, rfl, rfl, rfl⟩ | ⟨i, rfl, a, b, ⟨d, rfl, rfl, rfl⟩ | ⟨d, r, j, er, hr, g⟩⟩
  · exact rp_form w ii mode s a
  · exact rp_mode w i _ (Lib.hid rfl) a b mode s (nb fun e => d (.inl e)) (nb fun e => d (.inr e))
  have md : (mode != 1) = false ∨ ((mode != 1) = true ∧ (mode != 2) = false) := by
    rcases d with rfl | rfl
    · exact .inl (by decide)
    · exact .inr ⟨by decide, by decide⟩
  have ok := M.ok i a b
  have ok2 := M.ok2 i a b
  have ok3 := M.ok3 i a b
  obtain ⟨S, hS⟩ : ∃ S, M.sgn (M.tb i) = S := ⟨_, rfl⟩
  have CG := Lib.hid (fun W => rsign_any W (M.tb i) ok S (Lib.hid hS))
  rcases g with ⟨g0, rfl, rfl, rfl⟩ | ⟨rfl, g⟩
  · rcases M.rs_cases hr with ⟨rfl, _⟩ | ⟨e0, _⟩
    · exact rp_scan w i _ (Lib.hid rfl) a b mode s md r.neg (r.kind : Int) n r.n.d r.n.k r.n.big r.n.cut (Lib.hid fun W => rscan_val W s l hl hs r n 2 (Lib.hid hr) _ _ _ _ _ _ (n : Int) rfl rfl rfl rfl)
    · exact absurd e0 g0
  have j0 : j = 0 := by
    rcases M.rs_cases hr with ⟨e0, _⟩ | ⟨_, h, _⟩
    · exact absurd e0 (by decide)
    · exact h
  subst j0
  have SC := fun (K : Int) (ng : Bool) (bg : Int) (h1 : (r.kind : Int) = K) (h2 : r.neg = ng) (h3 : r.n.big = bg) => Lib.hid (fun W => rscan_val W s l hl hs r 0 0 (Lib.hid hr) K ng r.n.d r.n.k bg r.n.cut 0 h1 h2 (by rw [← h3]) rfl)
  rcases g with ⟨k1, g⟩ | ⟨k1, g, rfl, rfl⟩
  · obtain ⟨ng, hng⟩ : ∃ ng, r.neg = ng := ⟨_, rfl⟩
    have hk : r.kind = 2 ∨ r.kind = 3 ∨ r.kind = 4 := by
      rcases M.rs_cases hr with ⟨e0, _⟩ | ⟨_, _, x, hx, rfl⟩
      · exact absurd e0 (by decide)
      · rcases (M.itm_bounds l x hx).2 with ⟨h1, h2, _⟩ | ⟨h1, _⟩ <;> omega
    rw [hng] at g
    have A0 : ∀ x : Int, 0 ≤ x → x < 18446744073709551616 → Go.bits BinOp.or IntKind.u64 x 0 = x := fun x h1 h2 => by
      obtain ⟨X, rfl⟩ := Int.eq_ofNat_of_zero_le h1
      exact or_0 X (by omega)
    have on := ok.n
    have hm := ok.hm
    cases ng
    · rcases hk with hk | hk | hk
      · rw [hk] at g
        rcases g with ⟨_, h, rfl, rfl, rfl⟩ | ⟨g1, _⟩ | ⟨g1, _⟩ | ⟨h, _, _, rfl, rfl, rfl⟩
        · exact rp_infp w i _ (Lib.hid rfl) a b mode s md (r.n.d) (r.n.k) (r.n.big) (r.n.cut) (SC 2 false _ (by rw [hk]; rfl) hng rfl) (qe h) _ (A0 _ on.1 (by omega))
        · exact absurd g1 (by decide)
        · exact absurd g1 (by decide)
        · exact rp_none2p w i _ (Lib.hid rfl) a b mode s md (r.n.d) (r.n.k) (r.n.big) (r.n.cut) (SC 2 false _ (by rw [hk]; rfl) hng rfl) (qb (Classical.not_not.1 fun e => h ⟨rfl, e⟩))
      · rw [hk] at g
        rcases g with ⟨g1, _⟩ | ⟨_, h, h2, rfl, rfl, rfl⟩ | ⟨g1, _⟩ | ⟨_, h, _, rfl, rfl, rfl⟩
        · exact absurd g1 (by decide)
        · exact rp_nanp w i _ (Lib.hid rfl) a b mode s md (r.n.d) (r.n.k) (r.n.big) (r.n.cut) (SC 3 false _ (by rw [hk]; rfl) hng rfl) (qe h2) (qe h)
        · exact absurd g1 (by decide)
        · by_cases c : (M.tb i).k = 1
          · exact rp_none3tp w i _ (Lib.hid rfl) a b mode s md (r.n.d) (r.n.k) (r.n.big) (r.n.cut) (SC 3 false _ (by rw [hk]; rfl) hng rfl) (qb c)
          · exact rp_none3p w i _ (Lib.hid rfl) a b mode s md (r.n.d) (r.n.k) (r.n.big) (r.n.cut) (SC 3 false _ (by rw [hk]; rfl) hng rfl) (qe c) (qb (Classical.not_not.1 fun e => h ⟨rfl, e, c⟩))
      · rw [hk] at g
        rcases g with ⟨g1, _⟩ | ⟨g1, _⟩ | ⟨_, h, h2, rfl, rfl, rfl⟩ | ⟨_, _, h, rfl, rfl, rfl⟩
        · exact absurd g1 (by decide)
        · exact absurd g1 (by decide)
        · exact rp_narp w i _ (Lib.hid rfl) a b mode s md (r.n.d) (r.n.k) (r.n.big) (r.n.cut) (SC 4 false _ (by rw [hk]; rfl) hng rfl) (qb h)
        · exact rp_none4p w i _ (Lib.hid rfl) a b mode s md (r.n.d) (r.n.k) (r.n.big) (r.n.cut) (SC 4 false _ (by rw [hk]; rfl) hng rfl) (qe fun e => h ⟨rfl, e, rfl⟩)
    · rcases hk with hk | hk | hk
      · rw [hk] at g
        rcases g with ⟨_, h, rfl, rfl, rfl⟩ | ⟨g1, _⟩ | ⟨g1, _⟩ | ⟨h, _, _, rfl, rfl, rfl⟩
        · exact rp_infn w i _ (Lib.hid rfl) a b mode s md (r.n.d) (r.n.k) (r.n.big) (r.n.cut) (SC 2 true _ (by rw [hk]; rfl) hng rfl) S CG (qe h) _ (by have := ((M.sgn_ok ok).2 (by have := (ok3.most h).1; omega)).1; rw [← hS, this]; exact M.or_inf ok ok3 h)
        · exact absurd g1 (by decide)
        · exact absurd g1 (by decide)
        · exact rp_none2n w i _ (Lib.hid rfl) a b mode s md (r.n.d) (r.n.k) (r.n.big) (r.n.cut) (SC 2 true _ (by rw [hk]; rfl) hng rfl) S CG (qb (Classical.not_not.1 fun e => h ⟨rfl, e⟩))
      · rw [hk] at g
        rcases g with ⟨g1, _⟩ | ⟨_, h, h2, rfl, rfl, rfl⟩ | ⟨g1, _⟩ | ⟨_, h, _, rfl, rfl, rfl⟩
        · exact absurd g1 (by decide)
        · exact rp_nann w i _ (Lib.hid rfl) a b mode s md (r.n.d) (r.n.k) (r.n.big) (r.n.cut) (SC 3 true _ (by rw [hk]; rfl) hng rfl) S CG (qe h2) (qe h)
        · exact absurd g1 (by decide)
        · by_cases c : (M.tb i).k = 1
          · exact rp_none3tn w i _ (Lib.hid rfl) a b mode s md (r.n.d) (r.n.k) (r.n.big) (r.n.cut) (SC 3 true _ (by rw [hk]; rfl) hng rfl) S CG (qb c)
          · exact rp_none3n w i _ (Lib.hid rfl) a b mode s md (r.n.d) (r.n.k) (r.n.big) (r.n.cut) (SC 3 true _ (by rw [hk]; rfl) hng rfl) S CG (qe c) (qb (Classical.not_not.1 fun e => h ⟨rfl, e, c⟩))
      · rw [hk] at g
        rcases g with ⟨g1, _⟩ | ⟨g1, _⟩ | ⟨_, h, h2, rfl, rfl, rfl⟩ | ⟨_, _, h, rfl, rfl, rfl⟩
        · exact absurd g1 (by decide)
        · exact absurd g1 (by decide)
        · exact absurd h2 (by decide)
        · by_cases c : (M.tb i).k = 1
          · exact rp_none4tn w i _ (Lib.hid rfl) a b mode s md (r.n.d) (r.n.k) (r.n.big) (r.n.cut) (SC 4 true _ (by rw [hk]; rfl) hng rfl) S CG (qb c)
          · exact rp_none4n w i _ (Lib.hid rfl) a b mode s md (r.n.d) (r.n.k) (r.n.big) (r.n.cut) (SC 4 true _ (by rw [hk]; rfl) hng rfl) S CG (qe c)
  · obtain ⟨hd, hk, hb⟩ := M.itm_num hr k1
    obtain ⟨ng, hng⟩ : ∃ ng, r.neg = ng := ⟨_, rfl⟩
    rw [hng] at g
    have RR := fun (lo sz : Nat) (t : Int) (A : Nat) (hx : M.szn r.n = M.sz A t t) (hsz : sz ≤ 100000) (ht : -5000 ≤ t ∧ t ≤ 5000) W v (N : Nt W lo sz v A) => rround8_any W i (M.tb i) (Lib.hid rfl) a b mode lo sz ng v t t A N hsz ht ht p (by rw [← hx]; exact g)
    rcases hb with hb | hb | hb
    · have hx : M.szn r.n = M.sz r.n.d r.n.k r.n.k := by unfold M.szn; rw [if_pos hb]
      have CR := Lib.hid (fun W lo v N => RR lo 2001 r.n.k r.n.d hx (by decide) (by omega) W v N)
      cases ng
      · exact rp_nump0 w i _ (Lib.hid rfl) a b mode s md r.n.d r.n.k r.n.cut (SC 1 false 0 (by rw [k1]; rfl) hng hb) p CR
      · exact rp_numn0 w i _ (Lib.hid rfl) a b mode s md r.n.d r.n.k r.n.cut (SC 1 true 0 (by rw [k1]; rfl) hng hb) S CG p CR
    · have hx : M.szn r.n = M.sz 1 1000 1000 := by unfold M.szn; rw [if_neg (by omega), hb]; rfl
      have CR := Lib.hid (fun W lo v N => RR lo 1 1000 1 hx (by decide) (by decide) W v N)
      cases ng
      · exact rp_nump1 w i _ (Lib.hid rfl) a b mode s md r.n.d r.n.k r.n.cut (SC 1 false 1 (by rw [k1]; rfl) hng hb) p CR
      · exact rp_numn1 w i _ (Lib.hid rfl) a b mode s md r.n.d r.n.k r.n.cut (SC 1 true 1 (by rw [k1]; rfl) hng hb) S CG p CR
    · have hx : M.szn r.n = M.sz 1 (-1000) (-1000) := by unfold M.szn; rw [if_neg (by omega), hb]; rfl
      have CR := Lib.hid (fun W lo v N => RR lo 1 (-1000) 1 hx (by decide) (by decide) W v N)
      cases ng
      · exact rp_numpm w i _ (Lib.hid rfl) a b mode s md r.n.d r.n.k r.n.cut (SC 1 false (-1) (by rw [k1]; rfl) hng hb) p CR
      · exact rp_numnm w i _ (Lib.hid rfl) a b mode s md r.n.d r.n.k r.n.cut (SC 1 true (-1) (by rw [k1]; rfl) hng hb) S CG p CR
set_option maxHeartbeats 4000000 in
set_option maxRecDepth 100000 in
theorem ptells_walk (w : World) (L : Hid (Lp w)) (x0 : Int) (_wx0 : (Lit.int .i64 x0).wf = true) (x1 : Int) (_wx1 : (Lit.int .i64 x1).wf = true) (s : ByteArray) (_ws : s.size ≤ maxLen) :
    Calls Tryz.prog 3 #[.int .i64 x0, .int .i64 x1, .string s] w (True10 w) := by
  obtain ⟨k, hk, hk1, hk2⟩ : ∃ k : Nat, min (s.size : Int) 300 = (k : Int) ∧ k ≤ s.size ∧ k ≤ 300 := ⟨min s.size 300, by omega, by omega, by omega⟩
  obtain ⟨T, hT⟩ : ∃ T, s.extract 0 k = T := ⟨_, rfl⟩
  obtain ⟨l, hl⟩ : ∃ l, T.data.toList = l := ⟨_, rfl⟩
  have hTk : T.size = k := by rw [← hT]; simp; omega
  have hll : T.size = l.length := by rw [← hl]; exact (Array.length_toList).symm
  have hT1 : T.size ≤ 1000000 := by omega
  have HL := Lib.hid hl
  clear hl
  obtain ⟨p, n, e, hj⟩ := M.jc_ex x0 x1 l
  have CP := Lib.hid (fun W (U : Up w W) => jparse_any W (Lib.hid (L.out.up U)) x0 x1 T l HL hT1 p n e hj)
  have CQ := Lib.hid (fun W => rparse_any W x0 x1 T l HL (by omega) p n e hj)
  clear hj hll HL
  have U := Up.refl w
  go_enter Tryz.func3, Tryz.ntmps3
  go_wp2_with fail
  refine (shown10_any _ L).mono ?_
  rintro _ w1 ⟨rfl, u1⟩
  replace U := U.trans u1
  clear u1
  go_wp2_with fail
  refine (CP.out _ U).mono ?_
  rintro _ w2 ⟨rfl, u_⟩
  replace U := U.trans u_
  clear u_ CP
  go_wp2_with fail
  refine (CQ.out _).mono ?_
  rintro _ w3 ⟨rfl, u_⟩
  replace U := U.trans u_
  clear u_ CQ
  go_wp2_with fail
  go_ret
  exact ⟨rfl, U⟩
end Go.Proofs.YtbbjlcgfaigmdaaGreatDoor
