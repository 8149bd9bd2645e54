/-
  Layer 9's laws: same, number: their contracts.
-/
import Derived.Test.YtpmpdecaadfnmaaGreatDoorSc
import Derived.Test.YtpmpdecaadfnmaaGreatDoorNa
namespace Go.Proofs.YtpmpdecaadfnmaaGreatDoor
open Go.RowKit Go.Shelf

set_option maxHeartbeats 4000000 in
set_option maxRecDepth 100000 in
theorem same_true (w : World) (K : Int) (ng : Bool) (v v' : Value) (k bg : Int) (ct : Bool) (lo lo' s s' d : Nat) (h : Nw w lo s v d) (h' : Nw w lo' s' v' d) :
    Calls Tryz.prog 7 #[itv K ng v k bg ct, itv K ng v' k bg ct] w (fun e w' => e = .returned (.bool true) ∧ Up w w') := by
  obtain ⟨A1, n1, c1, xs1, rfl, N1⟩ := h
  obtain ⟨A2, n2, c2, xs2, rfl, N2⟩ := h'
  have C := Lib.hid (fun W (u : Up w W) => by
    have := cmp_any W lo lo' s s' (.slice A1 n1 c1) (.slice A2 n2 c2) d d (Nw.up ⟨A1, n1, c1, xs1, rfl, N1⟩ u) (Nw.up ⟨A2, n2, c2, xs2, rfl, N2⟩ u)
    rw [M.cmp_eq rfl] at this
    exact this)
  clear N1 N2
  go_enter Tryz.func7, Tryz.ntmps7
  go_upto_region 1 with fail
  obtain ⟨V1, hV1⟩ : ∃ V1, (w.alloc (.cells #[.int .i64 K, .bool ng, .slice A1 n1 c1, .int .i64 k, .int .i64 bg, .bool ct] 27)).alloc (.cells #[.int .i64 K, .bool ng, .slice A2 n2 c2, .int .i64 k, .int .i64 bg, .bool ct] 27) = V1 := ⟨_, rfl⟩
  have hsz : (w.alloc (.cells #[.int .i64 K, .bool ng, .slice A1 n1 c1, .int .i64 k, .int .i64 bg, .bool ct] 27)).heap.size = w.heap.size + 1 := Array.size_push _
  have X : Ob V1 w.heap.size 27 #[.int .i64 K, .bool ng, .slice A1 n1 c1, .int .i64 k, .int .i64 bg, .bool ct] := by rw [← hV1]; exact (Ob.mk_ w _ _).up ((Up.refl _).alloc _)
  have Y : Ob V1 (w.heap.size + 1) 27 #[.int .i64 K, .bool ng, .slice A2 n2 c2, .int .i64 k, .int .i64 bg, .bool ct] := by rw [← hV1, ← hsz]; exact Ob.mk_ _ _ _
  have U : Up w V1 := by rw [← hV1]; exact ((Up.refl w).alloc _).alloc _
  rw [hV1]
  clear hV1 hsz
  obtain ⟨x0, x1, x2, x3, x4, x5⟩ := X.six
  obtain ⟨y0, y1, y2, y3, y4, y5⟩ := Y.six
  clear X Y
  have e1 : (K == K) = true := by simp
  have e2 : (ng == ng) = true := by simp
  have e3 : (k == k) = true := by simp
  have e4 : (bg == bg) = true := by simp
  have e5 : (ct == ct) = true := by simp
  first
    | go_quiet ((go_at_call 15; first | exact Val.quiet2 (C.out _ (U.drewN _)) | exact Val.quiet (C.out _ (U.drewN _)) | exact Val.quiet (C.out _ U)))
    | go_wp2_with (go_at_call 15; refine (C.out _ U).mono ?_; rintro _ _ ⟨rfl, q, rfl⟩)
  go_wp2_with fail
  go_ret
  first
    | exact ⟨rfl, U.drewN _⟩
    | exact ⟨rfl, U⟩

theorem M.nd_le : ∀ (k u : Nat), u < 10 ^ (k + 1) → Lib.nDigits u ≤ k + 1
  | 0, u, h => by rw [Lib.nDigits_small (by simpa using h)]; exact Nat.le_refl _
  | k + 1, u, h => by
    by_cases h10 : u < 10
    · rw [Lib.nDigits_small h10]; omega
    · rw [Lib.nDigits_big h10]
      have := M.nd_le k (u / 10) (by rw [Nat.pow_succ] at h; omega)
      omega
/-- A whole number, as text. -/
def M.nt (z : Int) : List UInt8 := (if z < 0 then [45] else []) ++ Lib.decDigits z.natAbs
end Go.Proofs.YtpmpdecaadfnmaaGreatDoor
