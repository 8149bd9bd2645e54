/-
  Layer 9's laws: same, number: their contracts.
-/
import Derived.Test.YtpmpdecaadfnmaaDoorSc
import Derived.Test.YtpmpdecaadfnmaaDoorNa
namespace Go.Proofs.YtpmpdecaadfnmaaDoor
open Go.RowKit Go.Shelf

set_option maxHeartbeats 4000000 in
set_option maxRecDepth 100000 in
theorem same_true (w : World) (K : Int) (ng : Bool) (v v' : Value) (k bg : Int) (ct : Bool) (lo lo' s s' d : Nat) (h : Nw w lo s v d) (h' : Nw w lo' s' v' d) :
    Calls Tryd.prog 14 #[itv K ng v k bg ct, itv K ng v' k bg ct] w (fun e w' => e = .returned (.bool true) ∧ Up w w') := by
  obtain ⟨A1, n1, c1, xs1, rfl, N1⟩ := h
  obtain ⟨A2, n2, c2, xs2, rfl, N2⟩ := h'
  have C := Lib.hid (fun W (u : Up w W) => by
    have := cmp_any W lo lo' s s' (.slice A1 n1 c1) (.slice A2 n2 c2) d d (Nw.up ⟨A1, n1, c1, xs1, rfl, N1⟩ u) (Nw.up ⟨A2, n2, c2, xs2, rfl, N2⟩ u)
    rw [M.cmp_eq rfl] at this
    exact this)
  clear N1 N2
  go_enter Tryd.func14, Tryd.ntmps14
  go_upto_region 1 with fail
  obtain ⟨V1, hV1⟩ : ∃ V1, (w.alloc (.cells #[.int .i64 K, .bool ng, .slice A1 n1 c1, .int .i64 k, .int .i64 bg, .bool ct] 27)).alloc (.cells #[.int .i64 K, .bool ng, .slice A2 n2 c2, .int .i64 k, .int .i64 bg, .bool ct] 27) = V1 := ⟨_, rfl⟩
  have hsz : (w.alloc (.cells #[.int .i64 K, .bool ng, .slice A1 n1 c1, .int .i64 k, .int .i64 bg, .bool ct] 27)).heap.size = w.heap.size + 1 := Array.size_push _
  have X : Ob V1 w.heap.size 27 #[.int .i64 K, .bool ng, .slice A1 n1 c1, .int .i64 k, .int .i64 bg, .bool ct] := by rw [← hV1]; exact (Ob.mk_ w _ _).up ((Up.refl _).alloc _)
  have Y : Ob V1 (w.heap.size + 1) 27 #[.int .i64 K, .bool ng, .slice A2 n2 c2, .int .i64 k, .int .i64 bg, .bool ct] := by rw [← hV1, ← hsz]; exact Ob.mk_ _ _ _
  have U : Up w V1 := by rw [← hV1]; exact ((Up.refl w).alloc _).alloc _
  rw [hV1]
  clear hV1 hsz
  obtain ⟨x0, x1, x2, x3, x4, x5⟩ := X.six
  obtain ⟨y0, y1, y2, y3, y4, y5⟩ := Y.six
  clear X Y
  have e1 : (K == K) = true := by simp
  have e2 : (ng == ng) = true := by simp
  have e3 : (k == k) = true := by simp
  have e4 : (bg == bg) = true := by simp
  have e5 : (ct == ct) = true := by simp
  first
    | go_quiet ((go_at_call 19; first | exact Val.quiet2 (C.out _ (U.drewN _)) | exact Val.quiet (C.out _ (U.drewN _)) | exact Val.quiet (C.out _ U)))
    | go_wp2_with (go_at_call 19; refine (C.out _ U).mono ?_; rintro _ _ ⟨rfl, q, rfl⟩)
  go_wp2_with fail
  go_ret
  first
    | exact ⟨rfl, U.drewN _⟩
    | exact ⟨rfl, U⟩

theorem M.nd_le : ∀ (k u : Nat), u < 10 ^ (k + 1) → Lib.nDigits u ≤ k + 1
  | 0, u, h => by rw [Lib.nDigits_small (by simpa using h)]; exact Nat.le_refl _
  | k + 1, u, h => by
    by_cases h10 : u < 10
    · rw [Lib.nDigits_small h10]; omega
    · rw [Lib.nDigits_big h10]
      have := M.nd_le k (u / 10) (by rw [Nat.pow_succ] at h; omega)
      omega
/-- A whole number, as text. -/
def M.nt (z : Int) : List UInt8 := (if z < 0 then [45] else []) ++ Lib.decDigits z.natAbs
set_option maxHeartbeats 4000000 in
set_option maxRecDepth 100000 in
theorem numtext_any (w : World) (TW : Hid (TabW w)) (z : Int) (hz : -10000000 ≤ z ∧ z ≤ 10000000) (S : ByteArray) (hS : Hid ((⟨(M.nt z).toArray⟩ : ByteArray) = S)) :
    Calls Tryd.prog 13 #[.int .i64 z] w (Str S w) := by
  obtain ⟨T, hT⟩ : ∃ T : ByteArray, (⟨(Lib.decDigits z.natAbs).toArray⟩ : ByteArray) = T := ⟨_, rfl⟩
  have hTs : T.size ≤ 20 := by
    rw [← hT]
    show (Lib.decDigits z.natAbs).toArray.size ≤ 20
    rw [List.size_toArray, Lib.decDigits_length]
    exact Nat.le_trans (M.nd_le 9 _ (by omega)) (by omega)
  have HT := Lib.hid hT
  clear hT
  obtain ⟨m, hm⟩ : ∃ m, z.natAbs = m := ⟨_, rfl⟩
  rw [hm] at HT
  by_cases h : z < 0
  · have hzm : -z = (m : Int) := by omega
    have d : decide (z < 0) = true := decide_eq_true h
    have hw : IntKind.i64.wrap (-z) = (m : Int) := by simp [IntKind.wrap, IntKind.bits, IntKind.signed]; omega
    have hw2 : IntKind.u64.wrap (m : Int) = (m : Int) := by simp [IntKind.wrap, IntKind.bits, IntKind.signed]; omega
    have HSS : Hid ((⟨#[45]⟩ : ByteArray) ++ T = S) := by
      show _ = _
      rw [← hS.out, ← HT.out, M.nt, if_pos h, hm]
      apply ByteArray.ext
      rw [ByteArray.data_append]
      simp
    have CO := Lib.hid (of_lit w m (m : Int) rfl (by omega))
    clear hS hm
    go_enter Tryd.func13, Tryd.ntmps13
    go_wp2_with fail
    refine CO.out.mono ?_
    rintro _ w1 ⟨v1, rfl, N1, u1⟩
    have CT := Lib.hid (text_of w1 _ _ _ _ N1.nw (by omega) (TW.out.up u1) T HT.out)
    obtain ⟨R, hR⟩ : ∃ R, (⟨#[45]⟩ : ByteArray) ++ T = R := ⟨_, rfl⟩
    have HR := Lib.hid hR
    clear CO N1
    go_wp2_with fail
    refine CT.out.mono ?_
    rintro _ w2 ⟨rfl, u2⟩
    go_wp2_with fail
    go_ret
    exact ⟨congrArg (fun t => Ending.returned (.string t)) (by first | exact HSS.out | rw [← HSS.out, ← HR.out]), u1.trans u2⟩
  · have hzm : z = (m : Int) := by omega
    have d : decide (z < 0) = false := decide_eq_false h
    have hw2 : IntKind.u64.wrap z = (m : Int) := by rw [hzm]; simp [IntKind.wrap, IntKind.bits, IntKind.signed]; omega
    have HSS : Hid (T = S) := by
      show _ = _
      rw [← hS.out, ← HT.out, M.nt, if_neg h, hm]
      rfl
    have CO := Lib.hid (of_lit w m (m : Int) rfl (by omega))
    clear hS hm
    go_enter Tryd.func13, Tryd.ntmps13
    go_wp2_with fail
    refine CO.out.mono ?_
    rintro _ w1 ⟨v1, rfl, N1, u1⟩
    have CT := Lib.hid (text_of w1 _ _ _ _ N1.nw (by omega) (TW.out.up u1) T HT.out)
    clear CO N1
    go_wp2_with fail
    refine CT.out.mono ?_
    rintro _ w2 ⟨rfl, u2⟩
    go_wp2_with fail
    go_ret
    exact ⟨congrArg (fun t => Ending.returned (.string t)) HSS.out, u1.trans u2⟩
end Go.Proofs.YtpmpdecaadfnmaaDoor
