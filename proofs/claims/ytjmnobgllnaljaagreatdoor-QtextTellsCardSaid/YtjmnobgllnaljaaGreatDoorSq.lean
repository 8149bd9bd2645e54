/-
  Package scan: Scan: its contract.
-/
import Derived.Test.YtjmnobgllnaljaaGreatDoorSp
namespace Go.Proofs.YtjmnobgllnaljaaGreatDoor
open Go.RowKit Go.Shelf

namespace M
/-- What a text is told as: the item, the place, the error. -/
def rs (l : List UInt8) : It × Nat × Int := match scan l with
  | .error i => (⟨0, false, ⟨0, 0, 0, false⟩⟩, i, 2)
  | .ok x => (itm x, 0, 0)
theorem scf_len : ∀ (r : List UInt8) (x y : Sc) (i : Nat), scf x i r = .ok y → y.ds.length + y.pw.length ≤ x.ds.length + x.pw.length + r.length
  | [], x, y, i, h => by
    rw [scf] at h
    split at h
    · injection h with h; rw [h]; simp
    · cases h
  | c :: r, x, y, i, h => by
    rw [scf] at h
    split at h
    · cases h
    · have h1 := scf_len r _ y _ h
      have h2 : (stp x c).ds.length + (stp x c).pw.length ≤ x.ds.length + x.pw.length + 1 := by
        unfold stp
        by_cases a : nx x.st c.toNat = 8
        · have b : ¬ (nx x.st c.toNat = 2 ∨ nx x.st c.toNat = 5) := by omega
          simp only [a]
          simp
          omega
        · simp only [a, if_false]
          split
          · simp; omega
          · omega
      rw [List.length_cons]
      omega
theorem scan_len (l : List UInt8) (y : Sc) (h : scan l = .ok y) : y.ds.length + y.pw.length ≤ l.length := by
  have := scf_len l sc0 y 0 h
  simpa [sc0] using this
theorem rs_error {l : List UInt8} {i : Nat} (h : scan l = .error i) : rs l = (⟨0, false, ⟨0, 0, 0, false⟩⟩, i, 2) := by simp [rs, h]
theorem rs_ok {l : List UInt8} {x : Sc} (h : scan l = .ok x) : rs l = (itm x, 0, 0) := by simp [rs, h]
end M
/-- Scan's answer. -/
def Scn (r : M.It) (i : Nat) (er : Int) (w : World) (e : Ending) (w' : World) : Prop :=
  ∃ v, e = .returned (.tuple #[itv (r.kind : Int) r.neg v r.n.k r.n.big r.n.cut, .int .i64 (i : Int), .int .i64 er]) ∧ Nt w' w.heap.size 2001 v r.n.d ∧ Up w w'
set_option maxHeartbeats 8000000 in
set_option maxRecDepth 100000 in
theorem scan_any (w : World) (EW : Hid (ErrW w)) (A : Option Addr) (n c : Nat) (l : List UInt8) (hS : Sb w A n c l) (hn : n ≤ 100000000) (r : M.It) (i : Nat) (er : Int) (hr : Hid (M.rs l = (r, i, er))) :
    Calls Tryz.prog 52 #[.slice A n c] w (Scn r i er w) := by
  have CS := Lib.hid (ssplit_any w A n c l hS hn)
  have HNUM : Hid (l.length = n) := hS.num
  have CS2 := Lib.hid (fun V1 (U : Up w V1) => ssplit_any V1 A n c l (hS.up U) hn)
  clear hS CS
  have U := Up.refl w
  go_enter Tryz.func52, Tryz.ntmps52
  go_upto_region 1 with fail
  obtain ⟨V1, hV1⟩ : ∃ V1, w.alloc (.cells #[.int .i64 0, .bool false, .slice none 0 0, .int .i64 0, .int .i64 0, .bool false] 51) = V1 := ⟨_, rfl⟩
  have R : Ob V1 w.heap.size 51 #[.int .i64 0, .bool false, .slice none 0 0, .int .i64 0, .int .i64 0, .bool false] := by rw [← hV1]; exact Ob.mk_ _ _ _
  replace U : Up w V1 := by rw [← hV1]; exact U.alloc _
  rw [hV1]
  clear hV1
  have CS := Lib.hid (CS2.out V1 U)
  clear CS2
  go_wp2_with fail
  refine CS.out.mono ?_
  rintro e V2 h2
  rcases h2 with h2 | h2
  · obtain ⟨j, hsc, rfl, u2⟩ := h2
    have HR := hr.out
    rw [M.rs_error hsc] at HR
    have HRR := Lib.hid HR
    replace U := U.trans u2
    replace R := R.up u2
    have gR := R.lt
    clear HR hr hsc u2 CS
    go_upto_region 2 with (refine store_ob rfl 106 (.tmp 5) (.tmp 11) rfl _ #[.int .i64 0, .bool false, .slice none 0 0, .slice none 0 0, .bool false, .slice none 0 0] #[.int .i64 0, .bool false, .slice none 0 0, .slice none 0 0, .bool false, .slice none 0 0] rfl rfl 6 (by kernel_rfl) rfl rfl (by simp [Value.oneCell']) V2 ((Up.refl _).alloc _) (Nat.le_refl _) 106 (Ob.mk_ _ _ _) ?_; intro V3 P u3)
    replace U := U.trans u3
    replace R := R.up u3
    clear u3
    go_wp2_with (refine store_ob2 rfl 51 (.tmp 2) (.tmp 16) rfl _ #[.int .i64 0, .bool false, .slice none 0 0, .int .i64 0, .int .i64 0, .bool false] #[.int .i64 0, .bool false, .slice none 0 0, .int .i64 0, .int .i64 0, .bool false] rfl rfl 6 (by kernel_rfl) rfl rfl (by simp [Value.oneCell']) w U (Nat.le_refl _) 51 R ?_; clear U; intro V9 Z9 U ho)
    obtain ⟨z0, z1, z2, z3, z4, z5⟩ := Z9.six
    refine bodyPost_ret (v := .tuple #[itv 0 false (.slice none 0 0) 0 0 false, .int .i64 (j : Int), .int .i64 2]) (by simp [results, Tryz.results52, go_sem, z0, z1, z2, z3, z4, z5]) rfl ?_
    have e := HRR.out
    cases e
    exact ⟨_, rfl, Nt.nil _ _ _, U⟩
  · obtain ⟨x, hsc, A1, A2, A3, n1, c1, n2, c2, n3, c3, dn, l1, l2, l3, K, ng, rfl, u2, hng, hK, hp⟩ := h2
    have HR := hr.out
    rw [M.rs_ok hsc] at HR
    have HRR := Lib.hid HR
    have HSC := Lib.hid hsc
    have HNG := Lib.hid hng
    have HK := Lib.hid hK
    have HP := Lib.hid hp
    replace U := U.trans u2
    replace R := R.up u2
    have gR := R.lt
    clear HR hr hsc u2 CS hng hK hp
    go_upto_region 2 with (refine store_ob rfl 106 (.tmp 5) (.tmp 11) rfl _ #[.int .i64 0, .bool false, .slice none 0 0, .slice none 0 0, .bool false, .slice none 0 0] #[.int .i64 K, .bool ng, .slice A1 n1 c1, .slice A2 n2 c2, .bool dn, .slice A3 n3 c3] rfl rfl 6 (by kernel_rfl) rfl rfl (by simp [Value.oneCell']) V2 ((Up.refl _).alloc _) (Nat.le_refl _) 106 (Ob.mk_ _ _ _) ?_; intro V3 P u3)
    replace U := U.trans u3
    replace R := R.up u3
    have U3 := Lib.hid u3
    clear u3
    obtain ⟨p0, p1, p2, p3, p4, p5⟩ := P.six
    by_cases hx : 10 ≤ x.st
    · have hK1 : (K != 1) = true := by
        rw [bne_iff_ne, HK.out, if_pos hx]
        omega
      go_wp2_with (refine store_ob2 rfl 51 (.tmp 2) (.tmp 25) rfl _ #[.int .i64 0, .bool false, .slice none 0 0, .int .i64 0, .int .i64 0, .bool false] #[.int .i64 K, .bool ng, .slice none 0 0, .int .i64 0, .int .i64 0, .bool false] rfl rfl 6 (by kernel_rfl) rfl rfl (by simp [Value.oneCell']) w U (Nat.le_refl _) 51 R ?_; clear U; intro V9 Z9 U ho)
      obtain ⟨z0, z1, z2, z3, z4, z5⟩ := Z9.six
      refine bodyPost_ret (v := .tuple #[itv K ng (.slice none 0 0) 0 0 false, .int .i64 0, .int .i64 0]) (by simp [results, Tryz.results52, go_sem, z0, z1, z2, z3, z4, z5]) rfl ?_
      have e := HRR.out
      rw [M.itm, if_pos hx] at e
      cases e
      refine ⟨_, ?_, Nt.nil _ _ _, U⟩
      rw [HK.out, if_pos hx, HNG.out]
      rfl
    · have hK2 : K = 1 := by rw [HK.out, if_neg hx]; rfl
      subst hK2
      obtain ⟨k1, k2, k3, k4, k5, k6, k7, k8, k9⟩ := HP.out (by omega)
      have hle : n1 ≤ 100000000 ∧ n2 ≤ 100000000 ∧ n3 ≤ 100000000 := by
        have := M.scan_len _ _ HSC.out
        have h1 := k1.num
        have h2 := k2.num
        have h3 := k3.num
        have h4 := HNUM.out
        rw [← k4, ← k7, List.length_append] at this
        omega
      have HD : Hid (M.allD (l1 ++ l2) = true) := by show _ = _; rw [k4]; exact k8
      have HPW : Hid (M.allD l3 = true) := by show _ = _; rw [k7]; exact k9
      have HIT : Hid (M.num (l1 ++ l2) ((if dn = true then -(M.vsa 0 l3 : Int) else (M.vsa 0 l3 : Int)) - (n2 : Int)) = (M.itm x).n) := by
        show _ = _
        rw [M.itm, if_neg hx, k4, k5, k6, k7]
        rfl
      have HKD : Hid ((M.itm x).kind = 1 ∧ (M.itm x).neg = x.neg) := by
        show _ ∧ _
        rw [M.itm, if_neg hx]
        exact ⟨rfl, rfl⟩
      have HLE := Lib.hid hle
      have CN := Lib.hid (number1_any' V3 (Lib.hid (EW.out.up U)) ng A1 A2 A3 n1 c1 n2 c2 n3 c3 dn l1 l2 l3 (k1.up U3.out) (k2.up U3.out) (k3.up U3.out) HD.out HPW.out HLE.out.1 HLE.out.2.1 HLE.out.2.2 _ HIT)
      clear k1 k2 k3 k4 k5 k6 k7 k8 k9 hle hx HP HIT U3
      go_wp2_with fail
      refine CN.out.mono ?_
      rintro _ V4 ⟨v4, rfl, ⟨A4, n4, c4, ys4, rfl, N4⟩, u4⟩
      replace U := U.trans u4
      replace R := R.up u4
      replace N4 : Nt V4 V3.heap.size 2001 (.slice A4 n4 c4) (M.itm x).n.d := ⟨_, _, _, _, rfl, N4⟩
      have gR2 : w.heap.size < V3.heap.size := Nat.lt_of_lt_of_le gR (by have := P.lt; omega)
      obtain ⟨kk, hkk⟩ : ∃ kk, (M.itm x).n.k = kk := ⟨_, rfl⟩
      obtain ⟨bg, hbg⟩ : ∃ bg, (M.itm x).n.big = bg := ⟨_, rfl⟩
      obtain ⟨ct, hct⟩ : ∃ ct, (M.itm x).n.cut = ct := ⟨_, rfl⟩
      rw [hkk, hbg, hct]
      have HKK := Lib.hid hkk
      have HBG := Lib.hid hbg
      have HCT := Lib.hid hct
      clear hkk hbg hct CN u4
      go_wp2_with (refine store_ob2 rfl 51 (.tmp 2) (.tmp 27) rfl _ #[.int .i64 0, .bool false, .slice none 0 0, .int .i64 0, .int .i64 0, .bool false] #[.int .i64 1, .bool ng, .slice A4 n4 c4, .int .i64 kk, .int .i64 bg, .bool ct] rfl rfl 6 (by kernel_rfl) rfl rfl (by simp [Value.oneCell']) w U (Nat.le_refl _) 51 R ?_; clear U; intro V9 Z9 U ho)
      obtain ⟨z0, z1, z2, z3, z4, z5⟩ := Z9.six
      refine bodyPost_ret (v := .tuple #[itv 1 ng (.slice A4 n4 c4) kk bg ct, .int .i64 0, .int .i64 0]) (by simp [results, Tryz.results52, go_sem, z0, z1, z2, z3, z4, z5]) rfl ?_
      have e := HRR.out
      cases e
      refine ⟨_, ?_, (N4.other ho gR2).lower (by omega), U⟩
      rw [HKK.out, HBG.out, HCT.out, HKD.out.1, HKD.out.2, HNG.out]
      rfl
end Go.Proofs.YtjmnobgllnaljaaGreatDoor
