/-
  Layer 16: what its walks want of the variables; what is asked of package qtext; a number that is cut.
-/
import Derived.Test.YtjmnobgllnaljaaGreatDoorCb
import Derived.Test.YtjmnobgllnaljaaGreatDoorHs
import Derived.Test.YtjmnobgllnaljaaGreatDoorExa
namespace Go.Proofs.YtjmnobgllnaljaaGreatDoor
open Go.RowKit Go.Shelf
set_option linter.unusedVariables false
set_option linter.unusedSimpArgs false

/-- A slice of words that may be written. -/
def Fz (w : World) (A : Option Addr) (n : Nat) : Prop := ∀ ad, A = some ad → ∀ j, j < n → w.frozen? (ad.add j) = false
theorem Src.wd0 {w : World} {A : Option Addr} {n c : Nat} {xs : List Nat} (h : Src w A n c xs) (hz : Fz w A n) (hn : n ≤ 1099511627776) : Wd w 0 A n c xs := by
  refine ⟨h.num, h.len, hn, h.wds, fun h0 => ?_⟩
  rcases A with _ | ⟨b, o, sp⟩
  · have := h.none_ rfl
    have := h.len
    omega
  · have c0 := h.at_ _ rfl 0 h0
    have e : sp = none := by
      rcases sp with _ | sp
      · rfl
      · exfalso
        simp only [Addr.add, if_pos rfl, World.cell?] at c0
        split at c0 <;> simp at c0
    subst e
    refine ⟨b, o, rfl, Nat.zero_le _, fun j hj => ?_⟩
    have e : (Addr.mk b o none).add j = ⟨b, o + j, none⟩ := by
      unfold Addr.add
      split
      · rename_i e; subst e; rfl
      · rfl
    rw [← e]
    exact ⟨h.at_ _ rfl j hj, hz _ rfl j hj⟩
/-- What the walks want of the variables. -/
structure Lt (w : World) : Prop where
  ten : TabW w
  syn : ErrW w
theorem Lt.up {w w' : World} (h : Lt w) (u : Up w w') : Lt w' := ⟨h.ten.up u, h.syn.up u⟩
/-- What a call of a text and an error comes to. -/
def Ptq (l : List UInt8) (x : Int) (w : World) (e : Ending) (w' : World) : Prop := ∃ s, e = .returned (.tuple #[.string s, .int .i64 x]) ∧ Tx s l ∧ Up w w'
/-- .. of a sign, a number and an error. -/
def Prq (g : Bool) (m : Nat) (x : Int) (w : World) (e : Ending) (w' : World) : Prop := ∃ v, e = .returned (.tuple #[.bool g, v, .int .i64 x]) ∧ Nt w' w.heap.size 40 v m ∧ Up w w'
/-- What is asked of package qtext. -/
structure Qtx : Prop where
  text : ∀ (w : World), Lt w → ∀ (neg : Bool) (lo : Nat) (v : Value) (a : Nat) (e : Int), Nt w lo 40 v a → (Lit.int .i64 e).wf = true → ∀ l x, M.Qt neg a e l x → Calls Tryz.prog 11 #[.bool neg, v, .int .i64 e] w (Ptq l x w)
  parse : ∀ (w : World), Lt w → ∀ (s : ByteArray) (l : List UInt8) (e : Int), Tx s l → l.length ≤ 100000 → (Lit.int .i64 e).wf = true → ∀ g m x, M.Qr l e g m x → Calls Tryz.prog 13 #[.string s, .int .i64 e] w (Prq g m x w)
/-- True, and nothing that was there has turned. -/
def True16 (w : World) (e : Ending) (w' : World) : Prop := e = .returned (.bool true) ∧ Up w w'
theorem Ptq.lit {l : List UInt8} {x : Int} {w : World} {e : Ending} {w' : World} (h : Ptq l x w e w') : e = .returned (.tuple #[.string ⟨l.toArray⟩, .int .i64 x]) ∧ Up w w' := by
  obtain ⟨s, rfl, tS, u⟩ := h
  rw [Tx.uniq tS (Tx.lit l)]
  exact ⟨rfl, u⟩
theorem Nt.slr {w : World} {lo s : Nat} {v : Value} {a : Nat} (h : Nt w lo s v a) : ∃ A n c, v = .slice A n c ∧ Nt w lo s (.slice A n c) a := by
  obtain ⟨A, n, c, xs, rfl, h⟩ := h
  exact ⟨A, n, c, rfl, A, n, c, xs, rfl, h⟩
set_option maxHeartbeats 4000000 in
set_option maxRecDepth 100000 in
/-- A number of no more words than so many. -/
theorem few16_ex (w : World) (A : Option Addr) (n c : Nat) (xs : List Nat) (h : Src w A n c xs) (hz : Fz w A n) (N : Nat) (hN : N ≤ 40) :
    ∃ a, a < 18446744073709551616 ^ N ∧ Hid (∀ W, Up w W → Calls Tryz.prog 10 #[.slice A n c, .int .i64 (N : Int)] W (Res N a W)) := by
  obtain ⟨k, hk⟩ : ∃ k : Nat, min (n : Int) (N : Int) = (k : Int) := ⟨min n N, by omega⟩
  have hkn : k ≤ n := by omega
  have hkN : k ≤ N := by omega
  have hnc := h.len
  have hwd := (h.take (m := k) (by omega)).wd0 (fun ad e j hj => hz ad e j (by omega)) (by omega)
  obtain ⟨ys, hys⟩ : ∃ ys, xs.take k = ys := ⟨_, rfl⟩
  rw [hys] at hwd
  have hnw : Nw w 0 N (.slice A k c) (M.val ys) := ⟨A, k, c, ys, rfl, hwd, rfl, hkN⟩
  refine ⟨M.val ys, hnw.lt, fun W U => ?_⟩
  have CN := Lib.hid (fun V (u : Up W V) => norm_any V 0 N (.slice A k c) (M.val ys) (hnw.up (U.trans u)))
  clear hnw hwd hys h hz
  have UW := Up.refl W
  go_enter Tryz.func10, Tryz.ntmps10
  go_wp2_with fail
  refine (CN.out _ (by first | exact UW | exact UW.drew | exact UW.drewN _)).mono ?_
  rintro _ w1 ⟨v, rfl, N1, u1⟩
  go_wp2_with fail
  go_ret
  exact ⟨v, rfl, N1, u1⟩
end Go.Proofs.YtjmnobgllnaljaaGreatDoor
