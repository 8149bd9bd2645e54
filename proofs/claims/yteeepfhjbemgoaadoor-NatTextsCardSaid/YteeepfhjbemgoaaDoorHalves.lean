/-
  The reference's Halves: its contract.
-/
import Derived.Test.YteeepfhjbemgoaaDoorShl
import Derived.Deep.RegionLaw
namespace Go.Proofs.YteeepfhjbemgoaaDoor
open Go.RowKit Go.Shelf

/-- What the reference's Trim comes to: the row without the noughts at its end. -/
def RTr (lo : Nat) (A : Option Addr) (n c : Nat) (xs : List Nat) (w : World) (e : Ending) (w' : World) : Prop :=
  ∃ m, e = .returned (.slice A m c) ∧ w = w' ∧ Wd w lo A m c (xs.take m) ∧ M.Nrm (xs.take m) ∧ m ≤ n ∧ ∀ j, m ≤ j → xs.getD j 0 = 0

set_option maxHeartbeats 400000 in
theorem rtrim_any (w : World) (lo : Nat) (A : Option Addr) (n c : Nat) (xs : List Nat) (h : Wd w lo A n c xs) :
    Calls Tryd.prog 56 #[.slice A n c] w (RTr lo A n c xs w) := by
  have h0 := h
  obtain ⟨hl, h1, h2, h3, h4⟩ := h
  have fin : ∀ m, m ≤ n → (0 < m → xs.getD (m - 1) 0 ≠ 0) → (∀ j, m ≤ j → j < n → xs.getD j 0 = 0) → Wd w lo A m c (xs.take m) ∧ M.Nrm (xs.take m) ∧ m ≤ n ∧ ∀ j, m ≤ j → xs.getD j 0 = 0 :=
    fun m hm k1 k2 => ⟨h0.take hm, M.Nrm.take (by omega) k1, hm, fun j k3 => by
      rcases Nat.lt_or_ge j n with k4 | k4
      · exact k2 j k3 k4
      · rw [List.getD_eq_getElem?_getD, List.getElem?_eq_none (by omega)]; rfl⟩
  have FIN := Lib.hid fin
  clear fin h0 hl h3
  go_enter Tryd.func56, Tryd.ntmps56
  go_wp2
  go_loop [3] (fun s => ∃ k : Nat, k ≤ n ∧ s = .int .i64 k ∧ ∀ j, k ≤ j → j < n → xs.getD j 0 = 0) (fun s => (intOf s).toNat)
  case atStart => exact ⟨n, Nat.le_refl _, rfl, fun j _ _ => by omega⟩
  case round =>
    obtain ⟨k, hk, rfl, hz⟩ := hrel
    have HZ := Lib.hid hz
    clear hz
    by_cases hk0 : k = 0
    · subst hk0
      go_wp2
      go_ret
      obtain ⟨f1, f2, f3, f4⟩ := FIN.out 0 (by omega) (by omega) (fun j _ hj => HZ.out j (by omega) hj)
      exact ⟨0, rfl, rfl, f1, f2, f3, f4⟩
    · obtain ⟨b, o, rfl, hb, hc⟩ := h4 (by omega)
      obtain ⟨x, hx⟩ : ∃ x, xs.getD (k - 1) 0 = x := ⟨_, rfl⟩
      have hc1 := (hc (k - 1) (by omega)).1
      rw [hx] at hc1
      have HX := Lib.hid hx
      clear hx hc
      have hp : 0 < k := by omega
      clear hk0
      go_wp2
      · have hx0 : x = 0 := by
          have : ((x : Int) == 0) = true := by assumption
          simpa using this
        go_round
        case rel =>
          refine ⟨k - 1, by omega, by go_num, fun j h1 h2 => ?_⟩
          by_cases hj : j = k - 1
          · rw [hj, HX.out, hx0]
          · exact HZ.out j (by omega) h2
        case measure => simp [intOf]; omega
      · go_ret
        have hx0 : x ≠ 0 := by
          have : ((x : Int) == 0) = false := by assumption
          simpa using this
        obtain ⟨f1, f2, f3, f4⟩ := FIN.out k hk (fun _ => by rw [HX.out]; exact hx0) (fun j h1 h2 => HZ.out j h1 h2)
        exact ⟨k, rfl, rfl, f1, f2, f3, f4⟩

set_option maxHeartbeats 400000 in
theorem get_any (w : World) (lo : Nat) (A : Option Addr) (n c : Nat) (xs : List Nat) (h : Wd w lo A n c xs) (i : Nat) (I : Int) (hI : I = (i : Int)) :
    Calls Tryd.prog 104 #[.slice A n c, .int .i64 I] w (Same (u64 (xs.getD i 0)) w) := by
  subst hI
  obtain ⟨hl, h1, h2, h3, h4⟩ := h
  by_cases hk : i < n
  · obtain ⟨b, o, rfl, hb, hc⟩ := h4 (by omega)
    have hc1 := (hc i hk).1
    generalize xs.getD i 0 = x at *
    clear hc h4 h3 hl
    go_enter Tryd.func104, Tryd.ntmps104
    go_wp2
    go_ret
    exact ⟨rfl, rfl⟩
  · have e : xs.getD i 0 = 0 := by rw [List.getD_eq_getElem?_getD, List.getElem?_eq_none (by omega)]; rfl
    rw [e]
    clear h4 h3 hl e
    go_enter Tryd.func104, Tryd.ntmps104
    go_wp2
    go_ret
    exact ⟨rfl, rfl⟩
end Go.Proofs.YteeepfhjbemgoaaDoor
namespace Go.Proofs.YteeepfhjbemgoaaDoor
open Go.RowKit Go.Shelf

namespace M
/-- The half words of words, the lowest first. -/
def hl : List Nat → List Nat
  | [] => []
  | x :: r => x % 4294967296 :: x / 4294967296 :: hl r
/-- The number of half words. -/
def vh : List Nat → Nat
  | [] => 0
  | x :: r => x + 4294967296 * vh r
theorem vh_hl : ∀ xs, vh (hl xs) = val xs
  | [] => rfl
  | x :: r => by
    rw [hl, vh, vh, vh_hl r, val]
    omega
theorem hl_append : ∀ a b, hl (a ++ b) = hl a ++ hl b
  | [], b => rfl
  | x :: r, b => by rw [List.cons_append, hl, hl, hl_append r b]; rfl
theorem hl_length : ∀ a, (hl a).length = 2 * a.length
  | [] => rfl
  | x :: r => by rw [hl, List.length_cons, List.length_cons, hl_length r, List.length_cons]; omega
/-- Each is a half word. -/
def Hs (xs : List Nat) : Prop := ∀ x ∈ xs, x < 4294967296
theorem Hs.wds {xs : List Nat} (h : Hs xs) : Wds xs := fun x hx => Nat.lt_trans (h x hx) (by omega)
theorem Hs.take {xs : List Nat} (h : Hs xs) (k : Nat) : Hs (xs.take k) := fun x hx => h x (List.mem_of_mem_take hx)
theorem hl_hs : ∀ {xs : List Nat}, Wds xs → Hs (hl xs)
  | [], _ => fun _ h => by cases h
  | x :: r, h => by
    intro y hy
    rw [hl, List.mem_cons, List.mem_cons] at hy
    have h1 := h x (by simp)
    rcases hy with rfl | rfl | hy
    · exact Nat.mod_lt _ (by omega)
    · omega
    · exact hl_hs h.tail y hy
theorem vh_append (a b : List Nat) : vh (a ++ b) = vh a + 4294967296 ^ a.length * vh b := by
  induction a with
  | nil => simp [vh]
  | cons x r ih =>
    rw [List.cons_append, vh, vh, ih, List.length_cons, Nat.pow_succ, Nat.mul_add, Nat.mul_comm (4294967296 ^ r.length) 4294967296, Nat.mul_assoc, Nat.add_assoc]
theorem vh_noughts : ∀ {a : List Nat}, (∀ j, a.getD j 0 = 0) → vh a = 0
  | [], _ => rfl
  | x :: r, h => by
    have h0 : x = 0 := h 0
    rw [vh, h0, vh_noughts (a := r) (fun j => h (j + 1))]
theorem vh_take {a : List Nat} {m : Nat} (h : ∀ j, m ≤ j → a.getD j 0 = 0) : vh (a.take m) = vh a := by
  conv => rhs; rw [← List.take_append_drop m a]
  rw [vh_append, vh_noughts (a := a.drop m) (fun j => by rw [List.getD_eq_getElem?_getD, List.getElem?_drop, ← List.getD_eq_getElem?_getD]; exact h _ (by omega))]
  simp
theorem take_snoc {a : List Nat} {k : Nat} (h : k < a.length) : a.take (k + 1) = a.take k ++ [a.getD k 0] := by
  rw [List.take_add_one, List.getD_eq_getElem?_getD, List.getElem?_eq_getElem h]
  rfl
end M
section
variable {P : Program} (w : World)
/-- append onto a row of the call's own, as a step of a region that draws its order. -/
theorem step_append_wd {ops : Array Oper} {o : Oper} {a : Act} {K : Act → World → Prop} {Q : Exit → Act → World → Prop} {E : Prop} (hgd : o.guard = none) (s x : Operand) (t : TypeId)
    (ho : o.op = .call { callee := .builtin .append, args := #[s, x], argTypes := #[t, t] })
    (hP : (P.info? 41).map (fun i => (i.zero, i.size, i.bytes)) = some (some (.int .u64 0), 1, 8)) (base : Nat) (ht : P.underlying t = some (.slice 41))
    (v : Value) (n : Nat) (xs : List Nat) (hs : a.eval s = v) (hown : Ow w base v n xs) (lo : Nat) (A : Option Addr) (m c : Nat) (ys : List Nat) (hx : a.eval x = .slice A m c) (hy : Wd w lo A m c ys)
    (hn : n + m ≤ 1099511627776) (hbase : base ≤ w.heap.size)
    (h : ∀ v' w', Ow w' base v' (n + m) (xs ++ ys) → w.grownBy w' v.ownBlock → (v'.ownBlock = v.ownBlock ∨ v'.ownBlock = some w.heap.size) → K (a.put o.dst v') w') :
    if Region.wanted o (yielded ops a.tmps) = true then Oper.wp P o a w K Q else E := by
  have hw : Region.wanted o (yielded ops a.tmps) = true := by simp [Region.wanted, hgd]
  rw [if_pos hw]
  obtain ⟨v', w', hr, h2, h3, h4⟩ := append_wd (P := P) w hP base t o.type ht v n xs hown lo A m c ys hy hn hbase
  unfold Oper.wp execOp
  simp only [ho, resolve, invoke, builtin, Sem.run_bind, Sem.run_pure, Result.andThen_ok, List.map_toArray, List.map_cons, List.map_nil, hs, hx, hr]
  exact h v' w' h2 h3 h4
end
/-- v is a slice of at most s half words, normal, that holds the number a. -/
def Nh (w : World) (lo s : Nat) (v : Value) (a : Nat) : Prop := ∃ A n c xs, v = .slice A n c ∧ Wd w lo A n c xs ∧ M.Hs xs ∧ M.vh xs = a ∧ n ≤ s ∧ M.Nrm xs
/-- What a call comes to that makes half words. -/
def Rh (s a : Nat) (w : World) (e : Ending) (w' : World) : Prop := ∃ v, e = .returned v ∧ Nh w' w.heap.size s v a ∧ Up w w'
theorem lit2_ow (w : World) (x y : Nat) : Ow (w.alloc (.cells #[u64 x, u64 y] 41)) w.heap.size (.slice (some ⟨w.heap.size, 0, none⟩) 2 2) 2 [x, y] := World.ownsRow_lit w #[u64 x, u64 y] 2 (Nat.le_refl _) (by simp only [maxLen]; omega) rfl
theorem lit2_wd (w : World) (x y : Nat) (X Y : Int) (hX : X = (x : Int)) (hY : Y = (y : Int)) (hx : x < 18446744073709551616) (hy : y < 18446744073709551616) :
    Wd (w.alloc (.cells #[.int .u64 X, .int .u64 Y] 41)) w.heap.size (some ⟨w.heap.size, 0, none⟩) 2 2 [x, y] := by
  subst hX hY
  exact Ow.wd_ (lit2_ow w x y) (M.Wds.cons hx (M.Wds.cons hy M.Wds.nil)) (by omega)

set_option maxHeartbeats 1000000 in
set_option maxRecDepth 100000 in
theorem halves_any (w : World) (lo : Nat) (A : Option Addr) (n c : Nat) (xs : List Nat) (hx : Wd w lo A n c xs) (hn : n ≤ 1000000000) :
    Calls Tryd.prog 17 #[.slice A n c] w (Rh (2 * n) (M.val xs) w) := by
  have b1 := hx.len
  have b2 := hx.small
  have hst : Ow (w.alloc (.cells #[] 41)) w.heap.size (.slice (some ⟨w.heap.size, 0, none⟩) 0 0) 0 [] := World.ownsRow_lit w #[] 0 (Nat.le_refl _) (by simp only [maxLen]; omega) rfl
  go_enter Tryd.func17, Tryd.ntmps17
  go_wp2_with fail
  go_loopw [3, 4] (fun sv i wr => ∃ (k : Nat) (hs : List Nat), k ≤ n ∧ i = .int .i64 k ∧ Up w wr ∧ w.heap.size ≤ wr.heap.size ∧ Ow wr w.heap.size sv (2 * k) hs ∧ Hid (hs = M.hl (xs.take k))) (fun _ i _ => n - (intOf i).toNat)
  case atStart => exact ⟨0, [], by omega, rfl, (Up.refl w).alloc _, by simp, hst, rfl⟩
  case round =>
    obtain ⟨k, hs, hk, rfl, hu, hsz, hown, HH⟩ := hrel
    have hcA := (hx.up hu).at_
    clear hst
    by_cases hlt : k < n
    · obtain ⟨bb, oo, rfl, _, hc⟩ := hcA (by omega)
      have hc1 := (hc k hlt).1
      obtain ⟨x, hxk⟩ : ∃ x, xs.getD k 0 = x := ⟨_, rfl⟩
      have hxb : x < 18446744073709551616 := by rw [← hxk]; exact hx.wds.getD k
      rw [hxk] at hc1
      obtain ⟨X0, hX0⟩ : ∃ X0, x % 4294967296 = X0 := ⟨_, rfl⟩
      obtain ⟨X1, hX1⟩ : ∃ X1, x / 4294967296 = X1 := ⟨_, rfl⟩
      have q0 : (x : Int) % 4294967296 = (X0 : Int) := by omega
      have q1 : (x : Int) / 4294967296 = (X1 : Int) := by omega
      have q2 : (x : Int).tmod 4294967296 = (X0 : Int) := by rw [Int.tmod_eq_emod_of_nonneg (by omega)]; exact q0
      have g0 : X0 < 18446744073709551616 := by omega
      have g1 : X1 < 18446744073709551616 := by omega
      have HE : Hid (hs ++ [X0, X1] = M.hl (xs.take (k + 1))) := by
        rw [Hid, M.take_snoc (by rw [hx.num]; exact hlt), M.hl_append, HH.out, hxk, M.hl, hX0, hX1]; rfl
      clear hc hcA hxk hX0 hX1
      go_wp2_with fail
      have hu2 : Up wr (wr.alloc (.cells #[.int .u64 (X0 : Int), .int .u64 (X1 : Int)] 41)).drew := ((Up.refl wr).alloc _).drewN 1
      have hown2 := Ow.up hown hu2
      have hw2 := (lit2_wd wr X0 X1 _ _ rfl rfl g0 g1).up ((Up.refl (wr.alloc (.cells #[.int .u64 (X0 : Int), .int .u64 (X1 : Int)] 41))).drewN 1)
      go_region_law (refine step_append_wd _ rfl (.tmp 12) (.tmp 23) _ rfl info_u64 w.heap.size Tryd.underlying22 _ (2 * k) hs (by simp [Act.eval]) hown2 _ _ 2 2 [X0, X1] (by simp [Act.eval]) hw2 (by omega) (Nat.le_trans hsz (Up.size hu2)) ?_; intro v3 w3 hown3 hg3 hat3)
      all_goals
        have hu3 : Up w w3 := (hu.trans hu2).grown hg3 (fun b hb => (World.ownsRow.lt hown2 b hb).1)
        clear hg3 hat3 hown hown2 hw2 hu2 hc1
        go_wp2_with fail
        go_roundw
        case rel => exact ⟨k + 1, _, by omega, by go_num, hu3, hu3.size, hown3, HE⟩
        case measure => simp [intOf]; omega
    · have hkn : k = n := by omega
      subst hkn
      have hhl : hs = M.hl xs := by rw [HH.out, List.take_of_length_le (by rw [hx.num]; exact Nat.le_refl _)]
      have hhs : M.Hs hs := by rw [hhl]; exact M.hl_hs hx.wds
      have hvh : M.vh hs = M.val xs := by rw [hhl]; exact M.vh_hl xs
      obtain ⟨A2, c2, rfl, hwd⟩ := Ow.wd hown hhs.wds (by omega)
      have HV := Lib.hid hvh
      clear hhl HH hvh hown hcA
      go_wp2_with fail
      refine (rtrim_any _ _ _ _ _ _ hwd).mono ?_
      rintro _ _ ⟨m, rfl, rfl, hm, hnm, hmn, hzz⟩
      have HZ := Lib.hid ((M.vh_take hzz).trans HV.out)
      clear hzz
      go_wp2_with fail
      go_ret
      exact ⟨_, rfl, ⟨A2, m, c2, _, rfl, hm, hhs.take m, HZ.out, by omega, hnm⟩, hu⟩
end Go.Proofs.YteeepfhjbemgoaaDoor
