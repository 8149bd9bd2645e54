/-
  The walk of NatOwn: true, and nothing that was there has turned.
-/
import Derived.Test.YteeepfhjbemgoaaDoorFirst
import Derived.Test.YteeepfhjbemgoaaDoorUse
namespace Go.Proofs.YteeepfhjbemgoaaDoor
open Go.RowKit Go.Shelf

/-- v is a slice whose cells lie in blocks from lo on, below LB, and may be written. -/
def Wb (w : World) (lo LB : Nat) (v : Value) : Prop := ∃ A n c, v = .slice A n c ∧ n ≤ c ∧ n ≤ 1099511627776 ∧
  (0 < n → ∃ b o, A = some ⟨b, o, none⟩ ∧ lo ≤ b ∧ b < LB ∧ ∀ j, j < n → (∃ x, w.cell? ⟨b, o + j, none⟩ = some x) ∧ w.frozen? ⟨b, o + j, none⟩ = false)
theorem Wb.of_nt {w w' : World} {lo lo' s : Nat} {v : Value} {a : Nat} (h : Nt w lo' s v a) (hl : lo ≤ lo') (hu : Up w w') : Wb w' lo w.heap.size v := by
  obtain ⟨A, n, c, xs, e, h1, _⟩ := h
  refine ⟨A, n, c, e, h1.len, h1.small, fun h0 => ?_⟩
  obtain ⟨b, o, eA, hb, hc⟩ := h1.at_ h0
  refine ⟨b, o, eA, by omega, World.block_lt_of_cell? w _ (hc 0 h0).1, fun j hj => ?_⟩
  obtain ⟨k1, k2⟩ := hc j hj
  have hlt := World.block_lt_of_cell? w _ k1
  exact ⟨⟨_, (Below.cell hu hlt).trans k1⟩, (Below.frozen hu hlt).trans k2⟩
theorem cell_set_some {w : World} {p q : Addr} {x y : Value} (h : w.cell? q = some y) : ∃ z, (w.setCell p x).cell? q = some z := by
  by_cases e : p = q
  · subst e
    exact ⟨x, World.cell?_setCell_same w _ _ h⟩
  · exact ⟨y, by rw [World.cell?_setCell_other _ _ _ _ e]; exact h⟩
theorem Wb.set {w : World} {lo LB : Nat} {v : Value} (h : Wb w lo LB v) (p : Addr) (x : Value) : Wb (w.setCell p x) lo LB v := by
  obtain ⟨A, n, c, e, h1, h2, h3⟩ := h
  refine ⟨A, n, c, e, h1, h2, fun h0 => ?_⟩
  obtain ⟨b, o, eA, hb, hb2, hc⟩ := h3 h0
  refine ⟨b, o, eA, hb, hb2, fun j hj => ?_⟩
  obtain ⟨⟨y, k1⟩, k2⟩ := hc j hj
  exact ⟨cell_set_some k1, by rw [World.frozen?_setCell]; exact k2⟩
/-- The row of the eight answers. -/
structure Ls (w : World) (lo LB : Nat) (vs : List Value) : Prop where
  row : ∀ i, i < 8 → w.cell? ⟨LB, i, none⟩ = some (vs.getD i undef)
  wb : ∀ i, i < 8 → Wb w lo LB (vs.getD i undef)
theorem Ls.set {w : World} {lo LB : Nat} {vs : List Value} (h : Ls w lo LB vs) {p : Addr} (hp : p.block < LB) (x : Value) : Ls (w.setCell p x) lo LB vs :=
  ⟨fun i hi => by rw [World.cell?_setCell_other _ _ _ _ (fun e => by rw [e] at hp; simp at hp)]; exact h.row i hi, fun i hi => (h.wb i hi).set p x⟩
theorem div_all (w : World) (lo lo' s s' : Nat) (v v' : Value) (a b : Nat) (h : Nw w lo s v a) (h' : Nw w lo' s' v' b) (hs : s ≤ 1000000000) :
    ∃ q r is, Calls Tryd.prog 23 #[v, v'] w (Div3 (s + 1) q r is w) := by
  rcases Nat.eq_zero_or_pos b with e | e
  · subst e
    exact ⟨0, 0, false, (div_zero w lo lo' s s' v v' a h h').mono fun _ _ ⟨v1, v2, h1, h2, h3, h4⟩ => ⟨v1, v2, h1, h2.more (by omega), h3.more (by omega), h4⟩⟩
  · exact ⟨_, _, _, div_any w lo lo' s s' v v' a b h h' e hs⟩
theorem Nt.ls {w : World} {lo s : Nat} {v : Value} {a : Nat} (h : Nt w lo s v a) : Nt w lo s v a := h

set_option maxHeartbeats 16000000 in
set_option maxRecDepth 100000 in
theorem own_walk (w : World) (hTW : TabW w) (hEW : ErrW w) (A0 : Option Addr) (n0 c0 : Nat) (x0 : List Nat) (e0 : Src w A0 n0 c0 x0) (A1 : Option Addr) (n1 c1 : Nat) (x1 : List Nat) (e1 : Src w A1 n1 c1 x1) :
    Calls Tryd.prog 4 #[.slice A0 n0 c0, .slice A1 n1 c1] w (True_ w) := by
  have U := Up.refl w
  go_enter Tryd.func4, Tryd.ntmps4
  go_wp2_with fail
  refine (shown_any _ hTW hEW).mono ?_
  rintro _ w1 ⟨rfl, h1⟩
  replace e0 := e0.up h1
  replace e1 := e1.up h1
  replace U := U.trans h1
  clear h1
  go_wp2_with fail
  refine (few_lit _ _ _ _ _ e0 10 _ rfl (by omega)).mono ?_
  rintro _ w2 ⟨va, na, rfl, a, h2⟩
  replace e0 := e0.up h2
  replace e1 := e1.up h2
  replace U := U.trans h2
  clear h2
  clear e0
  go_wp2_with fail
  refine (few_lit _ _ _ _ _ e1 10 _ rfl (by omega)).mono ?_
  rintro _ w3 ⟨vb, nb, rfl, b, h3⟩
  replace e1 := e1.up h3
  replace a := a.up h3
  replace U := U.trans h3
  clear h3
  clear e1
  obtain ⟨S1, hS1⟩ : ∃ S, (⟨(Lib.decDigits na).toArray⟩ : ByteArray) = S := ⟨_, rfl⟩
  obtain ⟨S2, hS2⟩ : ∃ S, (⟨(Lib.decDigits nb).toArray⟩ : ByteArray) = S := ⟨_, rfl⟩
  have HS1 := Lib.hid hS1
  have HS2 := Lib.hid hS2
  clear hS1 hS2
  go_wp2_with fail
  refine (text_of _ _ _ _ _ a (by omega) (hTW.up U) _ HS1.out).mono ?_
  rintro _ w4 ⟨rfl, h4⟩
  replace a := a.up h4
  replace b := b.up h4
  replace U := U.trans h4
  clear h4
  go_wp2_with fail
  refine (text_of _ _ _ _ _ b (by omega) (hTW.up U) _ HS2.out).mono ?_
  rintro _ w5 ⟨rfl, h5⟩
  replace a := a.up h5
  replace b := b.up h5
  replace U := U.trans h5
  clear h5
  go_wp2_with fail
  have UB := U
  have V := Up.refl w5
  have a0 := a
  have b0 := b
  obtain ⟨q, r, is, hdiv⟩ := div_all _ _ _ _ _ _ _ _ _ a b (by omega)
  have HD := Lib.hid hdiv
  clear hdiv
  have szV := Up.size V
  refine (HD.out).mono ?_
  rintro _ w6 ⟨vq, vr, rfl, fq, fr, h6⟩
  replace a := a.up h6
  replace b := b.up h6
  replace U := U.trans h6
  replace V := V.trans h6
  clear h6
  replace fq := fq.lower szV
  replace fr := fr.lower szV
  clear szV
  obtain ⟨Afq, sfq, cfq, wfq, rfl, fq⟩ := fq
  replace fq : Nt w6 _ _ (.slice Afq sfq cfq) _ := ⟨Afq, sfq, cfq, wfq, rfl, fq⟩
  obtain ⟨Afr, sfr, cfr, wfr, rfl, fr⟩ := fr
  replace fr : Nt w6 _ _ (.slice Afr sfr cfr) _ := ⟨Afr, sfr, cfr, wfr, rfl, fr⟩
  clear HD
  go_wp2_with fail
  have szV := Up.size V
  refine (sub_any _ _ _ _ _ _ _ _ _ a b).mono ?_
  rintro _ w7 ⟨vd, rfl, fd, h7⟩
  replace a := a.up h7
  replace b := b.up h7
  replace fq := fq.up h7
  replace fr := fr.up h7
  replace U := U.trans h7
  replace V := V.trans h7
  clear h7
  replace fd := fd.lower szV
  clear szV
  obtain ⟨Afd, sfd, cfd, wfd, rfl, fd⟩ := fd
  replace fd : Nt w7 _ _ (.slice Afd sfd cfd) _ := ⟨Afd, sfd, cfd, wfd, rfl, fd⟩
  go_wp2_with fail
  have szV := Up.size V
  refine (add_of _ _ _ _ _ 10 _ _ _ _ a b (by omega) (by omega) (by omega)).mono ?_
  rintro _ w8 ⟨vp, rfl, fp, h8⟩
  replace a := a.up h8
  replace b := b.up h8
  replace fq := fq.up h8
  replace fr := fr.up h8
  replace fd := fd.up h8
  replace U := U.trans h8
  replace V := V.trans h8
  clear h8
  replace fp := fp.lower szV
  clear szV
  obtain ⟨Afp, sfp, cfp, wfp, rfl, fp⟩ := fp
  replace fp : Nt w8 _ _ (.slice Afp sfp cfp) _ := ⟨Afp, sfp, cfp, wfp, rfl, fp⟩
  go_wp2_with fail
  have szV := Up.size V
  refine (mul_any _ _ _ _ _ _ _ _ _ a b (by omega) (by omega)).mono ?_
  rintro _ w9 ⟨vm, rfl, fm, h9⟩
  replace a := a.up h9
  replace b := b.up h9
  replace fq := fq.up h9
  replace fr := fr.up h9
  replace fd := fd.up h9
  replace fp := fp.up h9
  replace U := U.trans h9
  replace V := V.trans h9
  clear h9
  replace fm := fm.lower szV
  clear szV
  obtain ⟨Afm, sfm, cfm, wfm, rfl, fm⟩ := fm
  replace fm : Nt w9 _ _ (.slice Afm sfm cfm) _ := ⟨Afm, sfm, cfm, wfm, rfl, fm⟩
  go_wp2_with fail
  have szV := Up.size V
  refine (shl_any _ _ _ _ _ a (by omega) 0 0 (by omega)).mono ?_
  rintro _ w10 ⟨vl, rfl, fl, h10⟩
  replace a := a.up h10
  replace b := b.up h10
  replace fq := fq.up h10
  replace fr := fr.up h10
  replace fd := fd.up h10
  replace fp := fp.up h10
  replace fm := fm.up h10
  replace U := U.trans h10
  replace V := V.trans h10
  clear h10
  replace fl := fl.lower szV
  clear szV
  obtain ⟨Afl, sfl, cfl, wfl, rfl, fl⟩ := fl
  replace fl : Nt w10 _ _ (.slice Afl sfl cfl) _ := ⟨Afl, sfl, cfl, wfl, rfl, fl⟩
  go_wp2_with fail
  have szV := Up.size V
  refine (shr_any _ _ _ _ _ a 0 0 (by omega)).mono ?_
  rintro _ w11 ⟨vs, rfl, fs, h11⟩
  replace a := a.up h11
  replace b := b.up h11
  replace fq := fq.up h11
  replace fr := fr.up h11
  replace fd := fd.up h11
  replace fp := fp.up h11
  replace fm := fm.up h11
  replace fl := fl.up h11
  replace U := U.trans h11
  replace V := V.trans h11
  clear h11
  replace fs := fs.lower szV
  clear szV
  obtain ⟨Afs, sfs, cfs, wfs, rfl, fs⟩ := fs
  replace fs : Nt w11 _ _ (.slice Afs sfs cfs) _ := ⟨Afs, sfs, cfs, wfs, rfl, fs⟩
  go_wp2_with fail
  have szV := Up.size V
  refine (norm_any _ _ _ _ _ a).mono ?_
  rintro _ w12 ⟨vn, rfl, fn, h12⟩
  replace a := a.up h12
  replace b := b.up h12
  replace fq := fq.up h12
  replace fr := fr.up h12
  replace fd := fd.up h12
  replace fp := fp.up h12
  replace fm := fm.up h12
  replace fl := fl.up h12
  replace fs := fs.up h12
  replace U := U.trans h12
  replace V := V.trans h12
  clear h12
  replace fn := fn.lower szV
  clear szV
  obtain ⟨Afn, sfn, cfn, wfn, rfl, fn⟩ := fn
  replace fn : Nt w12 _ _ (.slice Afn sfn cfn) _ := ⟨Afn, sfn, cfn, wfn, rfl, fn⟩
  go_wp2_with fail
  obtain ⟨Z, hZ⟩ : ∃ Z, w12.alloc (.cells #[.slice Afq sfq cfq, .slice Afr sfr cfr, .slice Afd sfd cfd, .slice Afp sfp cfp, .slice Afm sfm cfm, .slice Afl sfl cfl, .slice Afs sfs cfs, .slice Afn sfn cfn] 23) = Z := ⟨_, rfl⟩
  have uZ : Up w12 Z := by rw [← hZ]; exact (Up.refl _).alloc _
  obtain ⟨vs8, hvs⟩ : ∃ l : List Value, l = [.slice Afq sfq cfq, .slice Afr sfr cfr, .slice Afd sfd cfd, .slice Afp sfp cfp, .slice Afm sfm cfm, .slice Afl sfl cfl, .slice Afs sfs cfs, .slice Afn sfn cfn] := ⟨_, rfl⟩
  have hls : Ls Z w5.heap.size w12.heap.size vs8 := by
    refine ⟨fun i hi => ?_, fun i hi => ?_⟩
    · rw [hvs, ← hZ]
      have hi' : i = 0 ∨ i = 1 ∨ i = 2 ∨ i = 3 ∨ i = 4 ∨ i = 5 ∨ i = 6 ∨ i = 7 := by omega
      rcases hi' with rfl | rfl | rfl | rfl | rfl | rfl | rfl | rfl <;> simp
    · rw [hvs]
      have hi' : i = 0 ∨ i = 1 ∨ i = 2 ∨ i = 3 ∨ i = 4 ∨ i = 5 ∨ i = 6 ∨ i = 7 := by omega
      rcases hi' with rfl | rfl | rfl | rfl | rfl | rfl | rfl | rfl
      · exact Wb.of_nt fq (Nat.le_refl _) uZ
      · exact Wb.of_nt fr (Nat.le_refl _) uZ
      · exact Wb.of_nt fd (Nat.le_refl _) uZ
      · exact Wb.of_nt fp (Nat.le_refl _) uZ
      · exact Wb.of_nt fm (Nat.le_refl _) uZ
      · exact Wb.of_nt fl (Nat.le_refl _) uZ
      · exact Wb.of_nt fs (Nat.le_refl _) uZ
      · exact Wb.of_nt fn (Nat.le_refl _) uZ
  have HLS := Lib.hid hls
  rw [hZ]
  replace V := V.trans uZ
  have szB : w.heap.size ≤ w5.heap.size := Nat.le_trans (Nat.le_refl _) (Up.size UB)
  clear hls hZ uZ hvs fq fr fd fp fm fl fs fn a b U
  obtain ⟨LB, hLB⟩ : ∃ n, w12.heap.size = n := ⟨_, rfl⟩
  rw [hLB] at HLS ⊢
  clear hLB
  go_loopw [14] (fun iv wr => ∃ i : Nat, i ≤ 8 ∧ iv = .int .i64 i ∧ Up w5 wr ∧ Hid (Ls wr w5.heap.size LB vs8)) (fun iv _ => 8 - (intOf iv).toNat)
  case atStart => exact ⟨0, by omega, rfl, V, HLS⟩
  case round =>
    obtain ⟨i, hi, rfl, U, HL⟩ := hrel
    clear V HLS
    by_cases hlt : i < 8
    · obtain ⟨A, n, c, ev, hnc, hn, hat⟩ := HL.out.wb i hlt
      have hr := HL.out.row i hlt
      rw [ev] at hr
      have HAT : Hid (∀ wi, Ls wi w5.heap.size LB vs8 → 0 < n → ∃ b o, A = some ⟨b, o, none⟩ ∧ w5.heap.size ≤ b ∧ b < LB ∧ ∀ j, j < n → (∃ x, wi.cell? ⟨b, o + j, none⟩ = some x) ∧ wi.frozen? ⟨b, o + j, none⟩ = false) := by
        intro wi hl
        obtain ⟨A', n', c', ev', _, _, hat'⟩ := hl.wb i hlt
        rw [ev] at ev'
        injection ev' with h1 h2 h3
        subst h1 h2 h3
        exact hat'
      have HR : Hid (∀ wi, Ls wi w5.heap.size LB vs8 → wi.cell? ⟨LB, i, none⟩ = some (.slice A n c)) := by
        intro wi hl
        have := hl.row i hlt
        rw [ev] at this
        exact this
      clear ev hat hr
      go_wp2_with fail
      go_loopw [15] (fun kv wi => ∃ k : Nat, k ≤ n ∧ kv = .int .i64 k ∧ Up w5 wi ∧ Hid (Ls wi w5.heap.size LB vs8)) (fun kv _ => n - (intOf kv).toNat)
      case atStart => exact ⟨0, by omega, rfl, U, HL⟩
      case round =>
        obtain ⟨k, hk, rfl, U2, HL2⟩ := hrel
        clear U HL
        have hr := HR.out _ HL2.out
        by_cases hkn : k < n
        · obtain ⟨b, o, rfl, hb1, hb2, hc⟩ := HAT.out _ HL2.out (by omega)
          obtain ⟨⟨x, hx⟩, hf⟩ := hc k hkn
          clear hc
          go_wp2_with fail
          go_roundw
          case rel => exact ⟨k + 1, by omega, by go_num, U2.setCell (by show w5.heap.size ≤ b; omega) _, HL2.out.set (by show b < LB; omega) _⟩
          case measure => simp [intOf]; omega
        · go_wp2_with fail
          go_roundw
          case rel => exact ⟨i + 1, by omega, by go_num, U2, HL2⟩
          case measure => simp [intOf]; omega
    · have hi8 : i = 8 := by omega
      subst hi8
      have a := a0.up U
      have b := b0.up U
      replace U := UB.trans U
      go_wp2_with fail
      refine (text_of _ _ _ _ _ a (by omega) (hTW.up U) _ HS1.out).mono ?_
      rintro _ wx ⟨rfl, ux⟩
      replace b := b.up ux
      replace U := U.trans ux
      clear ux
      go_wp2_with fail
      refine (text_of _ _ _ _ _ b (by omega) (hTW.up U) _ HS2.out).mono ?_
      rintro _ wy ⟨rfl, uy⟩
      go_wp2_with fail
      go_ret
      exact ⟨rfl, U.trans uy⟩
end Go.Proofs.YteeepfhjbemgoaaDoor
