/-
  The reference of layer 5: Value, and which number is less.
-/
import Derived.Test.YtjcbncfpcechnaaDoorPs2
import Derived.OwnWalk
namespace Go.Proofs.YtjcbncfpcechnaaDoor
open Go.RowKit

/-- What Value comes to. -/
def V3 (m : Nat) (z : Int) (t : Bool) (w : World) (e : Ending) (w' : World) : Prop := e = .returned (.tuple #[u64 m, .int .i64 z, .bool t]) ∧ Up w w'
def Bo (t : Bool) (w : World) (e : Ending) (w' : World) : Prop := e = .returned (.bool t) ∧ w = w'

set_option maxHeartbeats 4000000 in
set_option maxRecDepth 100000 in
theorem rvalue_in (w : World) (n k r q : Nat) (R : Int) (hn : n ≤ 64) (h : M.Ps n k R r q) (X m t : Nat) (hX : Hid (2 ^ (r - 2) + M.fr r q = X)) (hm : Hid (X = m * 2 ^ t)) (hodd : m % 2 = 1) (z : Int) (hz : Hid (4 * R + M.ex r q - (r - 2 : Nat) + t = z)) :
    Calls Tryd.prog 41 #[.int .i64 ((n : Int) + 1), u64 k] w (V3 m z true w) := by
  have rg := h.rng
  obtain ⟨E, hE⟩ : ∃ E, M.ex r q = E := ⟨_, rfl⟩
  have hE3 : E ≤ 3 := by rw [← hE]; exact M.ex_le h.1
  obtain ⟨F, hF⟩ : ∃ F, M.fr r q = F := ⟨_, rfl⟩
  obtain ⟨B, hB⟩ : ∃ B, r - 2 = B := ⟨_, rfl⟩
  have hFB : F < 2 ^ B := by rw [← hF, ← hB]; exact M.fr_lt r q
  have hB62 : B ≤ 62 := by omega
  have CS := Lib.hid (fun W => rsplit_in W n k r q R hn h E F (B : Int) (Lib.hid hE) (Lib.hid hF) (Lib.hid (by rw [hB])))
  have hX2 := hX.out
  have hz2 := hz.out
  rw [hF, hB] at hX2
  rw [hE, hB] at hz2
  have p62 : 2 ^ B ≤ 2 ^ 62 := M.p2le hB62
  have c62 : (2 : Nat) ^ 62 = 4611686018427387904 := by decide
  have HX2 := Lib.hid hX2
  have HZ2 := Lib.hid hz2
  have bX : X < 9223372036854775808 := by omega
  have bF : F < 4611686018427387904 := by omega
  have tX : t ≤ 64 := by
    have h1 : 2 ^ t ≤ X := by rw [hm.out]; exact Nat.le_mul_of_pos_left _ (by omega)
    have h2 : t < 64 := M.p2inj (by have : (2 : Nat) ^ 64 = 18446744073709551616 := by decide
                                    omega)
    omega
  have R1 : -64 ≤ R := by omega
  have R2 : R ≤ 64 := by omega
  clear hX hz hX2 hz2 hE hF hB hFB p62 c62 h rg
  go_enter Tryd.func41, Tryd.ntmps41
  go_wp2_with fail
  refine (CS.out _).mono ?_
  rintro _ w1 ⟨rfl, U⟩
  clear CS
  go_wp2_with fail
  obtain ⟨V, hV⟩ : ∃ V, w1.alloc (.cells #[.int .i64 R, .int .i64 E, .int .u64 F, .int .i64 B] 83) = V := ⟨_, rfl⟩
  have a : Ob V w1.heap.size 83 #[.int .i64 R, .int .i64 E, .int .u64 F, .int .i64 B] := by rw [← hV]; exact Ob.mk_ _ _ _
  replace U : Up w V := by rw [← hV]; exact U.alloc _
  rw [hV]
  clear hV
  have a0 := a.get 0
  have a1 := a.get 1
  have a2 := a.get 2
  have a3 := a.get 3
  simp only [List.getElem?_toArray, List.getElem?_cons_zero, List.getElem?_cons_succ] at a0 a1 a2 a3
  go_wp2_with fail
  go_loop [10, 11] (fun ov iv => ∃ o i : Nat, ov = u64 o ∧ iv = .int .i64 (i : Int) ∧ i ≤ B ∧ o ≤ 4611686018427387904 ∧ Hid (o = 2 ^ i)) (fun _ iv => B - (intOf iv).toNat)
  case atStart => exact ⟨1, 0, rfl, rfl, by omega, by omega, rfl⟩
  case round =>
    obtain ⟨o, i, rfl, rfl, hi, ho, HO⟩ := hrel
    by_cases hlt : i < B
    · have HO2 : Hid (2 * o = 2 ^ (i + 1)) := by show _ = _; rw [HO.out, M.p2s]
      have ho2 : 2 * o ≤ 4611686018427387904 := by
        have h1 : 2 ^ (i + 1) ≤ 2 ^ 62 := M.p2le (by omega)
        have h2 := HO2.out
        have h3 : (2 : Nat) ^ 62 = 4611686018427387904 := by decide
        omega
      clear HO
      go_wp2_with fail
      go_round
      case rel => exact ⟨2 * o, i + 1, by go_num, by go_num, hlt, ho2, HO2⟩
      case measure => simp [intOf]; omega
    · have hX' : F + o = X := by
        have := HX2.out
        rw [HO.out, show i = B by omega]
        omega
      have hXi : (F : Int) + (o : Int) = (X : Int) := by omega
      clear HO hi
      have hX0 : 0 < X := by
        rw [hm.out]
        exact Nat.mul_pos (by omega) (M.p2 t)
      obtain ⟨e0, he0⟩ : ∃ e0, 4 * R + (E : Int) - (B : Int) = e0 := ⟨_, rfl⟩
      have be0 : -1000 ≤ e0 ∧ e0 ≤ 1000 := by omega
      have HE0 := Lib.hid he0
      have b4 : IntKind.i64.wrap (4 * R) = 4 * R := by simp [IntKind.wrap, IntKind.bits, IntKind.signed]; omega
      go_wp2_with fail
      go_loop [9, 12] (fun xv ev => ∃ (x : Nat) (y : Int) (s : Nat), xv = u64 x ∧ ev = .int .i64 y ∧ s ≤ t ∧ x ≤ X ∧ 0 < x ∧ Hid (x = m * 2 ^ (t - s)) ∧ y = e0 + s) (fun xv _ => (intOf xv).toNat)
      case atStart => exact ⟨X, e0, 0, by go_num, by first | rfl | (rw [HE0.out]) | (simp [HE0.out]), by omega, Nat.le_refl _, hX0, by show _ = _; rw [hm.out]; rfl, by omega⟩
      case round =>
        obtain ⟨x, y, s, rfl, rfl, hs, hxX, hx0, HX, hy⟩ := hrel
        by_cases hst : s < t
        · obtain ⟨x', hx'⟩ : ∃ x', x / 2 = x' := ⟨_, rfl⟩
          have h2 : x = 2 * (m * 2 ^ (t - (s + 1))) := by
            rw [HX.out, show t - s = (t - (s + 1)) + 1 by omega, M.p2s]
            ac_rfl
          have HX3 : Hid (x' = m * 2 ^ (t - (s + 1))) := by show _ = _; omega
          have q1 : (x : Int) % 2 = 0 := by omega
          have q2 : (x : Int) / 2 = (x' : Int) := by omega
          have q3 : x' < x ∧ 0 < x' := by omega
          clear h2 hx' HX
          go_wp2_with fail
          go_round
          case rel => exact ⟨x', y + 1, s + 1, rfl, by go_num, hst, by omega, q3.2, HX3, by omega⟩
          case measure => simp [intOf]; omega
        · have hxm : x = m := by rw [HX.out, show t - s = 0 by omega]; simp
          have q1 : (x : Int) % 2 = 1 := by omega
          have hyz : y = z := by have := HZ2.out; have := HE0.out; omega
          subst hxm hyz
          clear HX
          go_wp2_with fail
          go_ret3
          exact ⟨rfl, U⟩
set_option maxHeartbeats 1000000 in
set_option maxRecDepth 100000 in
theorem rvalue_out (w : World) (wd : Int) (k : Nat) (hk : k < 18446744073709551616) (h : wd < 3 ∨ 65 < wd ∨ k = 0 ∨ 2 ^ (wd - 1).toNat ≤ k) :
    Calls Tryd.prog 41 #[.int .i64 wd, u64 k] w (V3 0 0 false w) := by
  have CS := Lib.hid (fun W => rsplit_out W wd k hk h)
  clear hk h
  go_enter Tryd.func41, Tryd.ntmps41
  go_wp2_with fail
  refine (CS.out _).mono ?_
  rintro _ w1 ⟨rfl, U⟩
  clear CS
  go_wp2_with fail
  refine bodyPost_ret (v := .tuple #[u64 0, .int .i64 0, .bool false]) (by simp [results, Tryd.results41, go_sem]) rfl ?_
  exact ⟨rfl, U.alloc _⟩
end Go.Proofs.YtjcbncfpcechnaaDoor
