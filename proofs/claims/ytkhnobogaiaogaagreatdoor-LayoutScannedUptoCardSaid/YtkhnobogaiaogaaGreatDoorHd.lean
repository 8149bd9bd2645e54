/-
  Whether two digits are the same; what is asked of package layout; what each law of layer 12 shows first.
-/
import Derived.Test.YtkhnobogaiaogaaGreatDoorHc
import Derived.Deep.RegionHeld3
import Derived.Deep.RegionWith
namespace Go.Proofs.YtkhnobogaiaogaaGreatDoor
open Go.RowKit Go.Shelf
set_option linter.unusedVariables false

/-- The other error of package strconv. -/
def ErrR (w : World) : Prop := ∃ tp p, w.var? Tryz.prog "strconv.ErrRange" = some #[.iface tp p]
theorem ErrR.up {w w' : World} (h : ErrR w) (hu : Up w w') : ErrR w' := by
  obtain ⟨tp, p, h⟩ := h
  refine ⟨tp, p, ?_⟩
  unfold World.var? at *
  cases hg : Tryz.prog.globalNamed "strconv.ErrRange" with
  | none => simp [hg] at h
  | some g =>
    simp only [hg, Option.bind_some] at h ⊢
    have hlt : g < w.heap.size := by
      rcases Nat.lt_or_ge g w.heap.size with h' | h'
      · exact h'
      · rw [Array.getElem?_eq_none h'] at h; simp at h
    rw [Below.block hu g hlt]
    exact h
/-- Both. -/
structure ErrB (w : World) : Prop where
  syn : ErrW w
  rng : ErrR w
theorem ErrB.up {w w' : World} (h : ErrB w) (hu : Up w w') : ErrB w' := ⟨h.syn.up hu, h.rng.up hu⟩

set_option maxHeartbeats 2000000 in
set_option maxRecDepth 100000 in
theorem same12_any (w : World) (lo lo' s s' : Nat) (ng ng' : Bool) (v v' : Value) (k k' : Int) (a b : Nat) (N : Nw w lo s v a) (N' : Nw w lo' s' v' b) (r : Bool) (hr : Hid (decide (ng = ng' ∧ k = k' ∧ a = b) = r)) :
    Calls Tryz.prog 15 #[dv ng v k, dv ng' v' k'] w (Boo r w) := by
  obtain ⟨A, n, c, xs, rfl, _⟩ := id N
  obtain ⟨A', n', c', xs', rfl, _⟩ := id N'
  by_cases h1 : ng = ng'
  · subst h1
    have d1 : (ng == ng) = true := by simp
    by_cases h2 : k = k'
    · subst h2
      have d2 : (k == k) = true := by simp
      obtain ⟨z, hz⟩ : ∃ z, M.cmp a b = z := ⟨_, rfl⟩
      have HR : Hid ((z == 0) = r) := by
        show _ = _
        rw [← hr.out, ← hz, Bool.eq_iff_iff, decide_eq_true_iff, beq_iff_eq]
        unfold M.cmp
        constructor
        · intro h
          split at h
          · omega
          · split at h
            · exact ⟨rfl, rfl, by assumption⟩
            · omega
        · rintro ⟨_, _, h⟩
          rw [if_neg (by omega), if_pos h]
      have CC : Hid (∀ W : World, Up w W → Calls Tryz.prog 18 #[.slice A n c, .slice A' n' c'] W (Val (.int .i64 z) W)) := by
        intro W u
        rw [← hz]
        exact cmp_any W _ _ _ _ _ _ a b (N.up u) (N'.up u)
      clear hr hz N N'
      go_enter Tryz.func15, Tryz.ntmps15
      go_wp2_with fail
      refine (CC.out _ (((Up.refl w).alloc _).alloc _)).mono ?_
      rintro _ wC ⟨rfl, kk, rfl⟩
      go_wp2_with fail
      go_ret
      exact ⟨ret_bool HR.out, (((Up.refl w).alloc _).alloc _).drewN _⟩
    · have d2 : (k == k') = false := by rw [beq_eq_false_iff_ne]; exact h2
      have HR : Hid (false = r) := by
        show _ = _
        rw [← hr.out, eq_comm, decide_eq_false_iff_not]
        exact fun h => h2 h.2.1
      clear hr N N' h2
      go_enter Tryz.func15, Tryz.ntmps15
      go_wp2_with fail
      go_ret
      exact ⟨ret_bool HR.out, ((Up.refl w).alloc _).alloc _⟩
  · have d1 : (ng == ng') = false := by rw [beq_eq_false_iff_ne]; exact h1
    have HR : Hid (false = r) := by
      show _ = _
      rw [← hr.out, eq_comm, decide_eq_false_iff_not]
      exact fun h => h1 h.1
    clear hr N N' h1
    go_enter Tryz.func15, Tryz.ntmps15
    go_wp2_with fail
    go_ret
    exact ⟨ret_bool HR.out, ((Up.refl w).alloc _).alloc _⟩

namespace M
/-- What is told of a number and a power. -/
def lyn (ng : Bool) (a : Nat) (k : Int) : List UInt8 := if rtn a k then ly ng a k else []
theorem lyr_nrm {xs : List Nat} (h : Nrm xs) (ng : Bool) (k : Int) : lyr ng xs k = lyn ng (val xs) k := by
  unfold lyr lyn
  by_cases e : rtn (val xs) k
  · rw [if_pos (show rt xs k from ⟨h, e⟩), if_pos e]
  · rw [if_neg (show ¬ rt xs k from fun x => e x.2), if_neg e]
/-- What Unlay tells of a text. -/
def Ulr (l : List UInt8) (ng : Bool) (a : Nat) (k er : Int) : Prop :=
  (er = 0 ∧ rtn a k ∧ ly ng a k = l) ∨ (er = 2 ∧ ng = false ∧ a = 0 ∧ k = 0 ∧ ∀ ng a k, rtn a k → ly ng a k ≠ l)
theorem Ulr.of {l : List UInt8} {ng g : Bool} {a b : Nat} {k j er : Int} (h : Ulr l ng a k er) (h1 : rtn b j) (h2 : ly g b j = l) : er = 0 ∧ ng = g ∧ a = b ∧ k = j := by
  rcases h with ⟨e1, e2, e3⟩ | ⟨_, _, _, _, e⟩
  · obtain ⟨i1, i2, i3⟩ := ly_inj e2.lok h1.lok (e3.trans h2.symm)
    exact ⟨e1, i1, i2, i3⟩
  · exact absurd h2 (e g b j h1)
theorem Ulr.none {l : List UInt8} {ng : Bool} {a : Nat} {k er : Int} (h : Ulr l ng a k er) (h1 : ∀ ng a k, rtn a k → ly ng a k ≠ l) : er = 2 ∧ ng = false ∧ a = 0 ∧ k = 0 := by
  rcases h with ⟨_, e2, e3⟩ | ⟨e1, e2, e3, e4, _⟩
  · exact absurd e3 (h1 _ _ _ e2)
  · exact ⟨e1, e2, e3, e4⟩
end M
def Uly (l : List UInt8) (w : World) (e : Ending) (w' : World) : Prop :=
  ∃ ng A n c a k er, e = .returned (.tuple #[dv ng (.slice A n c) k, .int .i64 er]) ∧ M.Ulr l ng a k er ∧ Nt w' 0 128 (.slice A n c) a ∧ Up w w'
/-- What is asked of package layout. -/
structure Lay : Prop where
  right : ∀ (w : World) (ng : Bool) (A : Option Addr) (n c : Nat) (xs : List Nat) (k : Int) (r : Bool), TabW w → ErrB w → Dr w A n c xs → (-9223372036854775808 ≤ k ∧ k ≤ 9223372036854775807) → Hid (decide (M.rt xs k) = r) → Calls Tryz.prog 10 #[dv ng (.slice A n c) k] w (Boo r w)
  layout : ∀ (w : World) (ng : Bool) (A : Option Addr) (n c : Nat) (xs : List Nat) (k : Int), TabW w → ErrB w → Dr w A n c xs → (-9223372036854775808 ≤ k ∧ k ≤ 9223372036854775807) → Calls Tryz.prog 12 #[dv ng (.slice A n c) k] w (Tex (M.lyr ng xs k) w)
  unlay : ∀ (w : World) (s : ByteArray) (l : List UInt8), TabW w → ErrB w → Hid (Tx s l) → l.length ≤ 3000 → Calls Tryz.prog 14 #[.string s] w (Uly l w)

set_option maxHeartbeats 1000000 in
theorem of12_any (F : Lay) (w : World) (TW : TabW w) (EW : ErrB w) (ng : Bool) (x : Nat) (X k : Int) (hX : X = (x : Int)) (hx : x < 18446744073709551616) (hk : -9223372036854775808 ≤ k ∧ k ≤ 9223372036854775807) (l : List UInt8) (hl : M.lyn ng x k = l) :
    Calls Tryz.prog 21 #[.bool ng, .int .u64 X, .int .i64 k] w (Str ⟨l.toArray⟩ w) := by
  have C := Lib.hid (of_lit w x X hX hx)
  replace TW := Lib.hid TW
  replace EW := Lib.hid EW
  replace F := Lib.hid F
  have HK := Lib.hid hk
  have HL := Lib.hid hl
  clear hX hx hk hl
  go_enter Tryz.func21, Tryz.ntmps21
  go_wp2_with fail
  refine C.out.mono ?_
  rintro _ w1 ⟨v1, rfl, N1, u1⟩
  obtain ⟨A, n, c, xs, rfl, h1, h2, h3, h4⟩ := N1
  have CL := Lib.hid (F.out.layout w1 ng A n c xs k (TW.out.up u1) (EW.out.up u1) (h1.dr (by omega)) HK.out)
  have HE := Lib.hid (show M.lyr ng xs k = l by rw [M.lyr_nrm h4, h2]; exact HL.out)
  clear C h1 h2 h3 h4
  go_wp2_with fail
  refine CL.out.mono ?_
  rintro _ w2 ⟨R, rfl, HR, u2⟩
  have e : R = ⟨l.toArray⟩ := Tx.uniq (HR.to HE.out) (Tx.lit l)
  subst e
  go_wp2_with fail
  go_ret
  exact ⟨rfl, u1.trans u2⟩
end Go.Proofs.YtkhnobogaiaogaaGreatDoor
