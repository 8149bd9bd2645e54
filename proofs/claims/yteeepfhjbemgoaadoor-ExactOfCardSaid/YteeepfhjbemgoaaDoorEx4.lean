/-
  Package exact, and the laws' own helps: words that came in made normal; small, ten.
-/
import Derived.Test.YteeepfhjbemgoaaDoorEx3
import Derived.Test.YteeepfhjbemgoaaDoorRuse
namespace Go.Proofs.YteeepfhjbemgoaaDoor
open Go.RowKit Go.Shelf

theorem Src.keep {w : World} {A : Option Addr} {n c : Nat} {xs : List Nat} (h : Src w A n c xs) {m : Nat} (hm : m ≤ n) : Src w A m c (xs.take m) := h.take hm
/-- What trim comes to, of words that came in. -/
def TrimmedS (A : Option Addr) (n c a : Nat) (w : World) (e : Ending) (w' : World) : Prop :=
  ∃ m ys, e = .returned (.slice A m c) ∧ w = w' ∧ Src w A m c ys ∧ M.Nrm ys ∧ M.val ys = a ∧ m ≤ n

set_option maxHeartbeats 400000 in
theorem trim_src (w : World) (A : Option Addr) (n c : Nat) (xs : List Nat) (h : Src w A n c xs) (hn : n ≤ 140737488355328) :
    Calls Tryd.prog 65 #[.slice A n c] w (TrimmedS A n c (M.val xs) w) := by
  have h0 := h
  obtain ⟨hl, h1, h3, h5, h4⟩ := h
  have fin : ∀ m, m ≤ n → (0 < m → xs.getD (m - 1) 0 ≠ 0) → (∀ j, m ≤ j → j < n → xs.getD j 0 = 0) → Src w A m c (xs.take m) ∧ M.Nrm (xs.take m) ∧ M.val (xs.take m) = M.val xs ∧ m ≤ n :=
    fun m hm k1 k2 => ⟨h0.take hm, M.Nrm.take (by omega) k1, M.val_take_noughts (by omega) (fun j k3 k4 => k2 j k3 (by omega)), hm⟩
  have FIN := Lib.hid fin
  have H5 := Lib.hid h5
  have H4 := Lib.hid h4
  clear fin h0 hl h3 h5 h4
  go_enter Tryd.func65, Tryd.ntmps65
  go_wp2
  go_loop [0] (fun s => ∃ k : Nat, k ≤ n ∧ s = .slice A k c ∧ ∀ j, k ≤ j → j < n → xs.getD j 0 = 0) (fun s => lenOf s)
  case atStart => exact ⟨n, Nat.le_refl _, rfl, fun j _ _ => by omega⟩
  case round =>
    obtain ⟨k, hk, rfl, hz⟩ := hrel
    have HZ := Lib.hid hz
    clear hz
    by_cases hk0 : k = 0
    · subst hk0
      go_wp2
      go_ret
      obtain ⟨f1, f2, f3, f4⟩ := FIN.out 0 (by omega) (by omega) (fun j _ hj => HZ.out j (by omega) hj)
      exact ⟨0, _, rfl, rfl, f1, f2, f3, f4⟩
    · obtain ⟨ad, rfl⟩ : ∃ ad, A = some ad := by
        rcases A with _ | ad
        · have := H5.out rfl; omega
        · exact ⟨ad, rfl⟩
      obtain ⟨x, hx⟩ : ∃ x, xs.getD (k - 1) 0 = x := ⟨_, rfl⟩
      have hc1 := H4.out ad rfl (k - 1) (by omega)
      rw [hx] at hc1
      have HX := Lib.hid hx
      clear hx
      have hp : 0 < k := by omega
      clear hk0
      go_wp2
      · have hx0 : x = 0 := by
          have : ((x : Int) == 0) = true := by assumption
          simpa using this
        go_round
        case rel =>
          refine ⟨k - 1, by omega, by congr 1, fun j h1 h2 => ?_⟩
          by_cases hj : j = k - 1
          · rw [hj, HX.out, hx0]
          · exact HZ.out j (by omega) h2
        case measure => simp [lenOf]; omega
      · go_ret
        have hx0 : x ≠ 0 := by
          have : ((x : Int) == 0) = false := by assumption
          simpa using this
        obtain ⟨f1, f2, f3, f4⟩ := FIN.out k hk (fun _ => by rw [HX.out]; exact hx0) (fun j h1 h2 => HZ.out j h1 h2)
        exact ⟨k, _, rfl, rfl, f1, f2, f3, f4⟩

set_option maxHeartbeats 400000 in
theorem norm_src (w : World) (A : Option Addr) (n c : Nat) (xs : List Nat) (hx : Src w A n c xs) (hn : n ≤ 1000000000) : Calls Tryd.prog 29 #[.slice A n c] w (Res n (M.val xs) w) := by
  go_enter Tryd.func29, Tryd.ntmps29
  go_wp2_with fail
  refine (trim_src w A n c xs hx (by omega)).mono ?_
  rintro _ _ ⟨m, ys, rfl, rfl, hy, hny, hv, hmn⟩
  have HV := Lib.hid hv
  clear hv hx
  go_wp2_with (at_builtin; refine wpList_append_src _ rfl (.const (.slice none 0 0)) (.tmp 4) _ rfl info_u64 w.heap.size Tryd.underlying23 (.slice none 0 0) 0 [] rfl (World.ownsRow_nil _ _ _ _) A m c ys rfl hy (by omega) (Nat.le_refl _) ?_; intro v1 w1 hown1 hg1 hat1)
  go_ret
  have hup : Up w w1 := (Up.refl w).grown hg1 (by simp [Value.ownBlock])
  obtain ⟨A', c', rfl, hd⟩ := Ow.wd hown1 (M.Wds.append M.Wds.nil hy.wds) (by omega)
  exact ⟨_, rfl, ⟨A', _, c', _, rfl, hd, HV.out, by omega, hny⟩, hup⟩

/-- What ten comes to. -/
def Ten (k : Int) (w : World) (e : Ending) (w' : World) : Prop := ∃ v, e = .returned (xv false v k k) ∧ Nw w' w.heap.size 1 v 1 ∧ Up w w'
set_option maxHeartbeats 400000 in
theorem ten_any (w : World) (k : Int) : Calls Tryd.prog 78 #[.int .i64 k] w (Ten k w) := by
  go_enter Tryd.func78, Tryd.ntmps78
  go_wp2_with fail
  have hsz : (w.alloc (.cells #[.bool false, .slice (some ⟨w.heap.size + 1, 0, none⟩) 1 1, .int .i64 k, .int .i64 k] 44)).heap.size = w.heap.size + 1 := Array.size_push _
  have hL := lit1 (w.alloc (.cells #[.bool false, .slice (some ⟨w.heap.size + 1, 0, none⟩) 1 1, .int .i64 k, .int .i64 k] 44)) 1 1 rfl (by omega)
  rw [hsz] at hL
  clear hsz
  exact bodyPost_ret (v := xv false (.slice (some ⟨w.heap.size + 1, 0, none⟩) 1 1) k k) (by simp [results, Tryd.results78, go_sem]) rfl ⟨_, rfl, hL.lower (by omega), ((Up.refl w).alloc _).alloc _⟩

theorem Wd.set_other {w : World} {lo n c : Nat} {A : Option Addr} {xs : List Nat} (h : Wd w lo A n c xs) {p : Addr} (hp : p.block < lo) (u : Value) : Wd (w.setCell p u) lo A n c xs :=
  h.keep fun q _ hq => ⟨World.cell?_setCell_other w _ _ _ (by rintro rfl; omega), by rw [World.frozen?_setCell]⟩
/-- What small comes to. -/
def Small (neg : Bool) (t f : Int) (w : World) (e : Ending) (w' : World) : Prop := ∃ v a, e = .returned (xv neg v t f) ∧ Nt w' w.heap.size 12 v a ∧ Up w w'
theorem norm_up (w w' : World) (A : Option Addr) (n c : Nat) (xs : List Nat) (hx : Src w A n c xs) (hu : Up w w') (hn : n ≤ 1000000000) : Calls Tryd.prog 29 #[.slice A n c] w' (Res n (M.val xs) w') := norm_src w' A n c xs (hx.up hu) hn
end Go.Proofs.YteeepfhjbemgoaaDoor
