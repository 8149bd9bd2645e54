/-
  The references of layers 1 and 2: halves, products, what goes up; Fives, Parts, Cmp.
-/
import Derived.Test.YtjmnobgllnaljaaGreatDoorNa
import Derived.Deep.RegionLaw
import Derived.Deep.QuietTactic
import Derived.Test.YtjmnobgllnaljaaGreatDoorExa
/-
  The reference's Halves: its contract.
-/
namespace Go.Proofs.YtjmnobgllnaljaaGreatDoor
open Go.RowKit Go.Shelf

/-- What the reference's Trim comes to: the row without the noughts at its end. -/
def RTr (lo : Nat) (A : Option Addr) (n c : Nat) (xs : List Nat) (w : World) (e : Ending) (w' : World) : Prop :=
  ∃ m, e = .returned (.slice A m c) ∧ w = w' ∧ Wd w lo A m c (xs.take m) ∧ M.Nrm (xs.take m) ∧ m ≤ n ∧ ∀ j, m ≤ j → xs.getD j 0 = 0

set_option maxHeartbeats 400000 in
theorem rtrim_any (w : World) (lo : Nat) (A : Option Addr) (n c : Nat) (xs : List Nat) (h : Wd w lo A n c xs) :
    Calls Tryz.prog 48 #[.slice A n c] w (RTr lo A n c xs w) := by
  have h0 := h
  obtain ⟨hl, h1, h2, h3, h4⟩ := h
  have fin : ∀ m, m ≤ n → (0 < m → xs.getD (m - 1) 0 ≠ 0) → (∀ j, m ≤ j → j < n → xs.getD j 0 = 0) → Wd w lo A m c (xs.take m) ∧ M.Nrm (xs.take m) ∧ m ≤ n ∧ ∀ j, m ≤ j → xs.getD j 0 = 0 :=
    fun m hm k1 k2 => ⟨h0.take hm, M.Nrm.take (by omega) k1, hm, fun j k3 => by
      rcases Nat.lt_or_ge j n with k4 | k4
      · exact k2 j k3 k4
      · rw [List.getD_eq_getElem?_getD, List.getElem?_eq_none (by omega)]; rfl⟩
  have FIN := Lib.hid fin
  clear fin h0 hl h3
  go_enter Tryz.func48, Tryz.ntmps48
  go_wp2
  go_loop [3] (fun s => ∃ k : Nat, k ≤ n ∧ s = .int .i64 k ∧ ∀ j, k ≤ j → j < n → xs.getD j 0 = 0) (fun s => (intOf s).toNat)
  case atStart => exact ⟨n, Nat.le_refl _, rfl, fun j _ _ => by omega⟩
  case round =>
    obtain ⟨k, hk, rfl, hz⟩ := hrel
    have HZ := Lib.hid hz
    clear hz
    by_cases hk0 : k = 0
    · subst hk0
      go_wp2
      go_ret
      obtain ⟨f1, f2, f3, f4⟩ := FIN.out 0 (by omega) (by omega) (fun j _ hj => HZ.out j (by omega) hj)
      exact ⟨0, rfl, rfl, f1, f2, f3, f4⟩
    · obtain ⟨b, o, rfl, hb, hc⟩ := h4 (by omega)
      obtain ⟨x, hx⟩ : ∃ x, xs.getD (k - 1) 0 = x := ⟨_, rfl⟩
      have hc1 := (hc (k - 1) (by omega)).1
      rw [hx] at hc1
      have HX := Lib.hid hx
      clear hx hc
      have hp : 0 < k := by omega
      clear hk0
      go_wp2
      · have hx0 : x = 0 := by
          have : ((x : Int) == 0) = true := by assumption
          simpa using this
        go_round
        case rel =>
          refine ⟨k - 1, by omega, by go_num, fun j h1 h2 => ?_⟩
          by_cases hj : j = k - 1
          · rw [hj, HX.out, hx0]
          · exact HZ.out j (by omega) h2
        case measure => simp [intOf]; omega
      · go_ret
        have hx0 : x ≠ 0 := by
          have : ((x : Int) == 0) = false := by assumption
          simpa using this
        obtain ⟨f1, f2, f3, f4⟩ := FIN.out k hk (fun _ => by rw [HX.out]; exact hx0) (fun j h1 h2 => HZ.out j h1 h2)
        exact ⟨k, rfl, rfl, f1, f2, f3, f4⟩

set_option maxHeartbeats 400000 in
theorem get_any (w : World) (lo : Nat) (A : Option Addr) (n c : Nat) (xs : List Nat) (h : Wd w lo A n c xs) (i : Nat) (I : Int) (hI : I = (i : Int)) :
    Calls Tryz.prog 76 #[.slice A n c, .int .i64 I] w (Same (u64 (xs.getD i 0)) w) := by
  subst hI
  obtain ⟨hl, h1, h2, h3, h4⟩ := h
  by_cases hk : i < n
  · obtain ⟨b, o, rfl, hb, hc⟩ := h4 (by omega)
    have hc1 := (hc i hk).1
    generalize xs.getD i 0 = x at *
    clear hc h4 h3 hl
    go_enter Tryz.func76, Tryz.ntmps76
    go_wp2
    go_ret
    exact ⟨rfl, rfl⟩
  · have e : xs.getD i 0 = 0 := by rw [List.getD_eq_getElem?_getD, List.getElem?_eq_none (by omega)]; rfl
    rw [e]
    clear h4 h3 hl e
    go_enter Tryz.func76, Tryz.ntmps76
    go_wp2
    go_ret
    exact ⟨rfl, rfl⟩
end Go.Proofs.YtjmnobgllnaljaaGreatDoor
namespace Go.Proofs.YtjmnobgllnaljaaGreatDoor
open Go.RowKit Go.Shelf

namespace M
/-- The half words of words, the lowest first. -/
def hl : List Nat → List Nat
  | [] => []
  | x :: r => x % 4294967296 :: x / 4294967296 :: hl r
/-- The number of half words. -/
def vh : List Nat → Nat
  | [] => 0
  | x :: r => x + 4294967296 * vh r
theorem vh_hl : ∀ xs, vh (hl xs) = val xs
  | [] => rfl
  | x :: r => by
    rw [hl, vh, vh, vh_hl r, val]
    omega
theorem hl_append : ∀ a b, hl (a ++ b) = hl a ++ hl b
  | [], b => rfl
  | x :: r, b => by rw [List.cons_append, hl, hl, hl_append r b]; rfl
theorem hl_length : ∀ a, (hl a).length = 2 * a.length
  | [] => rfl
  | x :: r => by rw [hl, List.length_cons, List.length_cons, hl_length r, List.length_cons]; omega
/-- Each is a half word. -/
def Hs (xs : List Nat) : Prop := ∀ x ∈ xs, x < 4294967296
theorem Hs.wds {xs : List Nat} (h : Hs xs) : Wds xs := fun x hx => Nat.lt_trans (h x hx) (by omega)
theorem Hs.take {xs : List Nat} (h : Hs xs) (k : Nat) : Hs (xs.take k) := fun x hx => h x (List.mem_of_mem_take hx)
theorem hl_hs : ∀ {xs : List Nat}, Wds xs → Hs (hl xs)
  | [], _ => fun _ h => by cases h
  | x :: r, h => by
    intro y hy
    rw [hl, List.mem_cons, List.mem_cons] at hy
    have h1 := h x (by simp)
    rcases hy with rfl | rfl | hy
    · exact Nat.mod_lt _ (by omega)
    · omega
    · exact hl_hs h.tail y hy
theorem vh_append (a b : List Nat) : vh (a ++ b) = vh a + 4294967296 ^ a.length * vh b := by
  induction a with
  | nil => simp [vh]
  | cons x r ih =>
    rw [List.cons_append, vh, vh, ih, List.length_cons, Nat.pow_succ, Nat.mul_add, Nat.mul_comm (4294967296 ^ r.length) 4294967296, Nat.mul_assoc, Nat.add_assoc]
theorem vh_noughts : ∀ {a : List Nat}, (∀ j, a.getD j 0 = 0) → vh a = 0
  | [], _ => rfl
  | x :: r, h => by
    have h0 : x = 0 := h 0
    rw [vh, h0, vh_noughts (a := r) (fun j => h (j + 1))]
theorem vh_take {a : List Nat} {m : Nat} (h : ∀ j, m ≤ j → a.getD j 0 = 0) : vh (a.take m) = vh a := by
  conv => rhs; rw [← List.take_append_drop m a]
  rw [vh_append, vh_noughts (a := a.drop m) (fun j => by rw [List.getD_eq_getElem?_getD, List.getElem?_drop, ← List.getD_eq_getElem?_getD]; exact h _ (by omega))]
  simp
theorem take_snoc {a : List Nat} {k : Nat} (h : k < a.length) : a.take (k + 1) = a.take k ++ [a.getD k 0] := by
  rw [List.take_add_one, List.getD_eq_getElem?_getD, List.getElem?_eq_getElem h]
  rfl
end M
section
variable {P : Program} (w : World)
/-- append onto a row of the call's own, as a step of a region that draws its order. -/
theorem step_append_wd {ops : Array Oper} {o : Oper} {a : Act} {K : Act → World → Prop} {Q : Exit → Act → World → Prop} {E : Prop} (hgd : o.guard = none) (s x : Operand) (t : TypeId)
    (ho : o.op = .call { callee := .builtin .append, args := #[s, x], argTypes := #[t, t] })
    (hP : (P.info? 37).map (fun i => (i.zero, i.size, i.bytes)) = some (some (.int .u64 0), 1, 8)) (base : Nat) (ht : P.underlying t = some (.slice 37))
    (v : Value) (n : Nat) (xs : List Nat) (hs : a.eval s = v) (hown : Ow w base v n xs) (lo : Nat) (A : Option Addr) (m c : Nat) (ys : List Nat) (hx : a.eval x = .slice A m c) (hy : Wd w lo A m c ys)
    (hn : n + m ≤ 1099511627776) (hbase : base ≤ w.heap.size)
    (h : ∀ v' w', Ow w' base v' (n + m) (xs ++ ys) → w.grownBy w' v.ownBlock → (v'.ownBlock = v.ownBlock ∨ v'.ownBlock = some w.heap.size) → K (a.put o.dst v') w') :
    if Region.wanted o (yielded ops a.tmps) = true then Oper.wp P o a w K Q else E := by
  have hw : Region.wanted o (yielded ops a.tmps) = true := by simp [Region.wanted, hgd]
  rw [if_pos hw]
  obtain ⟨v', w', hr, h2, h3, h4⟩ := append_wd (P := P) w hP base t o.type ht v n xs hown lo A m c ys hy hn hbase
  unfold Oper.wp execOp
  simp only [ho, resolve, invoke, builtin, Sem.run_bind, Sem.run_pure, Result.andThen_ok, List.map_toArray, List.map_cons, List.map_nil, hs, hx, hr]
  exact h v' w' h2 h3 h4
end
/-- v is a slice of at most s half words, normal, that holds the number a. -/
def Nh (w : World) (lo s : Nat) (v : Value) (a : Nat) : Prop := ∃ A n c xs, v = .slice A n c ∧ Wd w lo A n c xs ∧ M.Hs xs ∧ M.vh xs = a ∧ n ≤ s ∧ M.Nrm xs
/-- What a call comes to that makes half words. -/
def Rh (s a : Nat) (w : World) (e : Ending) (w' : World) : Prop := ∃ v, e = .returned v ∧ Nh w' w.heap.size s v a ∧ Up w w'
theorem lit2_ow (w : World) (x y : Nat) : Ow (w.alloc (.cells #[u64 x, u64 y] 37)) w.heap.size (.slice (some ⟨w.heap.size, 0, none⟩) 2 2) 2 [x, y] := World.ownsRow_lit w #[u64 x, u64 y] 2 (Nat.le_refl _) (by simp only [maxLen]; omega) rfl
theorem lit2_wd (w : World) (x y : Nat) (X Y : Int) (hX : X = (x : Int)) (hY : Y = (y : Int)) (hx : x < 18446744073709551616) (hy : y < 18446744073709551616) :
    Wd (w.alloc (.cells #[.int .u64 X, .int .u64 Y] 37)) w.heap.size (some ⟨w.heap.size, 0, none⟩) 2 2 [x, y] := by
  subst hX hY
  exact Ow.wd_ (lit2_ow w x y) (M.Wds.cons hx (M.Wds.cons hy M.Wds.nil)) (by omega)

set_option maxHeartbeats 1000000 in
set_option maxRecDepth 100000 in
theorem halves_any (w : World) (lo : Nat) (A : Option Addr) (n c : Nat) (xs : List Nat) (hx : Wd w lo A n c xs) (hn : n ≤ 1000000000) :
    Calls Tryz.prog 23 #[.slice A n c] w (Rh (2 * n) (M.val xs) w) := by
  have b1 := hx.len
  have b2 := hx.small
  have hst : Ow (w.alloc (.cells #[] 37)) w.heap.size (.slice (some ⟨w.heap.size, 0, none⟩) 0 0) 0 [] := World.ownsRow_lit w #[] 0 (Nat.le_refl _) (by simp only [maxLen]; omega) rfl
  go_enter Tryz.func23, Tryz.ntmps23
  go_wp2_with fail
  go_loopw [3, 4] (fun sv i wr => ∃ (k : Nat) (hs : List Nat), k ≤ n ∧ i = .int .i64 k ∧ Up w wr ∧ w.heap.size ≤ wr.heap.size ∧ Ow wr w.heap.size sv (2 * k) hs ∧ Hid (hs = M.hl (xs.take k))) (fun _ i _ => n - (intOf i).toNat)
  case atStart => exact ⟨0, [], by omega, rfl, (Up.refl w).alloc _, by simp, hst, rfl⟩
  case round =>
    obtain ⟨k, hs, hk, rfl, hu, hsz, hown, HH⟩ := hrel
    have hcA := (hx.up hu).at_
    clear hst
    by_cases hlt : k < n
    · obtain ⟨bb, oo, rfl, _, hc⟩ := hcA (by omega)
      have hc1 := (hc k hlt).1
      obtain ⟨x, hxk⟩ : ∃ x, xs.getD k 0 = x := ⟨_, rfl⟩
      have hxb : x < 18446744073709551616 := by rw [← hxk]; exact hx.wds.getD k
      rw [hxk] at hc1
      obtain ⟨X0, hX0⟩ : ∃ X0, x % 4294967296 = X0 := ⟨_, rfl⟩
      obtain ⟨X1, hX1⟩ : ∃ X1, x / 4294967296 = X1 := ⟨_, rfl⟩
      have q0 : (x : Int) % 4294967296 = (X0 : Int) := by omega
      have q1 : (x : Int) / 4294967296 = (X1 : Int) := by omega
      have q2 : (x : Int).tmod 4294967296 = (X0 : Int) := by rw [Int.tmod_eq_emod_of_nonneg (by omega)]; exact q0
      have g0 : X0 < 18446744073709551616 := by omega
      have g1 : X1 < 18446744073709551616 := by omega
      have HE : Hid (hs ++ [X0, X1] = M.hl (xs.take (k + 1))) := by
        rw [Hid, M.take_snoc (by rw [hx.num]; exact hlt), M.hl_append, HH.out, hxk, M.hl, hX0, hX1]; rfl
      clear hc hcA hxk hX0 hX1
      go_wp2_with fail
      have hu2 : Up wr (wr.alloc (.cells #[.int .u64 (X0 : Int), .int .u64 (X1 : Int)] 37)).drew := ((Up.refl wr).alloc _).drewN 1
      have hown2 := Ow.up hown hu2
      have hw2 := (lit2_wd wr X0 X1 _ _ rfl rfl g0 g1).up ((Up.refl (wr.alloc (.cells #[.int .u64 (X0 : Int), .int .u64 (X1 : Int)] 37))).drewN 1)
      go_region_law (refine step_append_wd _ rfl (.tmp 12) (.tmp 23) _ rfl info_u64 w.heap.size Tryz.underlying22 _ (2 * k) hs (by simp [Act.eval]) hown2 _ _ 2 2 [X0, X1] (by simp [Act.eval]) hw2 (by omega) (Nat.le_trans hsz (Up.size hu2)) ?_; intro v3 w3 hown3 hg3 hat3)
      all_goals
        have hu3 : Up w w3 := (hu.trans hu2).grown hg3 (fun b hb => (World.ownsRow.lt hown2 b hb).1)
        clear hg3 hat3 hown hown2 hw2 hu2 hc1
        go_wp2_with fail
        go_roundw
        case rel => exact ⟨k + 1, _, by omega, by go_num, hu3, hu3.size, hown3, HE⟩
        case measure => simp [intOf]; omega
    · have hkn : k = n := by omega
      subst hkn
      have hhl : hs = M.hl xs := by rw [HH.out, List.take_of_length_le (by rw [hx.num]; exact Nat.le_refl _)]
      have hhs : M.Hs hs := by rw [hhl]; exact M.hl_hs hx.wds
      have hvh : M.vh hs = M.val xs := by rw [hhl]; exact M.vh_hl xs
      obtain ⟨A2, c2, rfl, hwd⟩ := Ow.wd hown hhs.wds (by omega)
      have HV := Lib.hid hvh
      clear hhl HH hvh hown hcA
      go_wp2_with fail
      refine (rtrim_any _ _ _ _ _ _ hwd).mono ?_
      rintro _ _ ⟨m, rfl, rfl, hm, hnm, hmn, hzz⟩
      have HZ := Lib.hid ((M.vh_take hzz).trans HV.out)
      clear hzz
      go_wp2_with fail
      go_ret
      exact ⟨_, rfl, ⟨A2, m, c2, _, rfl, hm, hhs.take m, HZ.out, by omega, hnm⟩, hu⟩
end Go.Proofs.YtjmnobgllnaljaaGreatDoor
/-
  The reference's Compare and Same: their contracts.
-/
namespace Go.Proofs.YtjmnobgllnaljaaGreatDoor
open Go.RowKit Go.Shelf

namespace M
theorem vh_eq (xs : List Nat) : vh xs = xs.getD 0 0 + 4294967296 * vh xs.tail := by
  cases xs <;> simp [vh]
theorem getD_tail (xs : List Nat) (j : Nat) : xs.tail.getD j 0 = xs.getD (j + 1) 0 := by
  cases xs <;> simp
theorem vh_ext : ∀ {xs ys : List Nat}, (∀ j, xs.getD j 0 = ys.getD j 0) → vh xs = vh ys
  | [], ys, h => by rw [vh_noughts (a := ys) (fun j => (h j).symm)]; rfl
  | x :: r, ys, h => by
    rw [vh_eq (x :: r), vh_eq ys, h 0]
    have : vh r = vh ys.tail := vh_ext (fun j => by rw [getD_tail]; exact h (j + 1))
    rw [show (x :: r).tail = r from rfl, this]
theorem Hs.getD {xs : List Nat} (h : Hs xs) (j : Nat) : xs.getD j 0 < 4294967296 := by
  rw [List.getD_eq_getElem?_getD]
  cases e : xs[j]? with
  | none => show 0 < _; omega
  | some x => exact h x (List.mem_of_getElem? e)
theorem Hs.tail {xs : List Nat} (h : Hs xs) : Hs xs.tail := fun x hx => h x (List.mem_of_mem_tail hx)
theorem vh_lt_of_get : ∀ (i : Nat) {xs ys : List Nat}, Hs xs → xs.getD i 0 < ys.getD i 0 → (∀ j, i < j → xs.getD j 0 = ys.getD j 0) → vh xs < vh ys
  | 0, xs, ys, _, h, he => by
    rw [vh_eq xs, vh_eq ys]
    have : vh xs.tail = vh ys.tail := vh_ext (fun j => by rw [getD_tail, getD_tail]; exact he (j + 1) (by omega))
    omega
  | i + 1, xs, ys, hx, h, he => by
    have h1 := vh_lt_of_get i (xs := xs.tail) (ys := ys.tail) hx.tail (by rw [getD_tail, getD_tail]; exact h) (fun j hj => by rw [getD_tail, getD_tail]; exact he (j + 1) (by omega))
    rw [vh_eq xs, vh_eq ys]
    have := hx.getD 0
    omega
end M

set_option maxHeartbeats 1000000 in
theorem rcmp_any (w : World) (lo lo' : Nat) (A A' : Option Addr) (n c n' c' : Nat) (xs ys : List Nat) (h : Wd w lo A n c xs) (h' : Wd w lo' A' n' c' ys) (hx : M.Hs xs) (hy : M.Hs ys) :
    Calls Tryz.prog 51 #[.slice A n c, .slice A' n' c'] w (Same (.int .i64 (M.cmp (M.vh xs) (M.vh ys))) w) := by
  have b1 := h.small
  have b2 := h'.small
  obtain ⟨T, hT, hT1, hT2, hT3⟩ : ∃ T : Nat, max (n : Int) (n' : Int) = (T : Int) ∧ n ≤ T ∧ n' ≤ T ∧ T ≤ 1099511627776 := ⟨max n n', by omega, by omega, by omega, by omega⟩
  have hst : ∀ j, T ≤ j → xs.getD j 0 = ys.getD j 0 := fun j hj => by
    rw [List.getD_eq_getElem?_getD, List.getD_eq_getElem?_getD, List.getElem?_eq_none (by rw [h.num]; omega), List.getElem?_eq_none (by rw [h'.num]; omega)]
  have HST := Lib.hid hst
  clear hst
  go_enter Tryz.func51, Tryz.ntmps51
  go_wp2_with fail
  go_loop [5] (fun s => ∃ k : Nat, k ≤ T ∧ s = .int .i64 k ∧ Hid (∀ j, k ≤ j → xs.getD j 0 = ys.getD j 0)) (fun s => (intOf s).toNat)
  case atStart => exact ⟨T, Nat.le_refl _, rfl, HST⟩
  case round =>
    obtain ⟨k, hk, rfl, HZ⟩ := hrel
    by_cases hk0 : k = 0
    · subst hk0
      have he : M.cmp (M.vh xs) (M.vh ys) = 0 := M.cmp_eq (M.vh_ext (fun j => HZ.out j (by omega)))
      have HE := Lib.hid he
      clear he
      go_wp2_with fail
      go_ret
      exact ⟨by rw [HE.out]; rfl, rfl⟩
    · obtain ⟨k', hk'⟩ : ∃ k', k = k' + 1 := ⟨k - 1, by omega⟩
      have q1 : (k : Int) - 1 = (k' : Int) := by omega
      have cx := Lib.hid (get_any w lo A n c xs h k' _ rfl)
      have cy := Lib.hid (get_any w lo' A' n' c' ys h' k' _ rfl)
      obtain ⟨x, hxk⟩ : ∃ x, xs.getD k' 0 = x := ⟨_, rfl⟩
      obtain ⟨y, hyk⟩ : ∃ y, ys.getD k' 0 = y := ⟨_, rfl⟩
      have hxb : x < 4294967296 := by rw [← hxk]; exact hx.getD k'
      have hyb : y < 4294967296 := by rw [← hyk]; exact hy.getD k'
      rw [hxk] at cx
      rw [hyk] at cy
      have f1 : x < y → M.cmp (M.vh xs) (M.vh ys) = -1 := fun hlt => M.cmp_lt (M.vh_lt_of_get k' hx (by rw [hxk, hyk]; exact hlt) (fun j hj => HZ.out j (by omega)))
      have f2 : y < x → M.cmp (M.vh xs) (M.vh ys) = 1 := fun hlt => M.cmp_gt (M.vh_lt_of_get k' hy (by rw [hxk, hyk]; exact hlt) (fun j hj => (HZ.out j (by omega)).symm))
      have f3 : x = y → ∀ j, k' ≤ j → xs.getD j 0 = ys.getD j 0 := fun e j hj => by
        by_cases e1 : j = k'
        · rw [e1, hxk, hyk, e]
        · exact HZ.out j (by omega)
      have F1 := Lib.hid f1
      have F2 := Lib.hid f2
      have F3 := Lib.hid f3
      have hkp : 0 < k := by omega
      clear hxk hyk f1 f2 f3 hk0
      rcases Nat.lt_trichotomy x y with ht | ht | ht
      · have HE := Lib.hid (F1.out ht)
        go_wp2_with fail
        refine cx.out.mono ?_
        rintro _ _ ⟨rfl, rfl⟩
        go_wp2_with fail
        refine cy.out.mono ?_
        rintro _ _ ⟨rfl, rfl⟩
        go_wp2_with fail
        go_ret
        exact ⟨by rw [HE.out]; rfl, rfl⟩
      · have HE := Lib.hid (F3.out ht)
        subst ht
        go_wp2_with fail
        refine cx.out.mono ?_
        rintro _ _ ⟨rfl, rfl⟩
        go_wp2_with fail
        refine cy.out.mono ?_
        rintro _ _ ⟨rfl, rfl⟩
        go_wp2_with fail
        go_round
        case rel => exact ⟨k', by omega, by go_num, HE⟩
        case measure => simp [intOf]; omega
      · have HE := Lib.hid (F2.out ht)
        go_wp2_with fail
        refine cx.out.mono ?_
        rintro _ _ ⟨rfl, rfl⟩
        go_wp2_with fail
        refine cy.out.mono ?_
        rintro _ _ ⟨rfl, rfl⟩
        go_wp2_with fail
        go_ret
        exact ⟨by rw [HE.out]; rfl, rfl⟩

/-- What Same comes to, of a normal number. -/
def Sm (t : Bool) (w : World) (e : Ending) (w' : World) : Prop := e = .returned (.bool t) ∧ Up w w'

end Go.Proofs.YtjmnobgllnaljaaGreatDoor
/-
  The reference's Times: its contract.
-/
namespace Go.Proofs.YtjmnobgllnaljaaGreatDoor
open Go.RowKit Go.Shelf

namespace M
theorem vh_set : ∀ (zs : List Nat) (i x : Nat), i < zs.length → vh (zs.set i x) + 4294967296 ^ i * zs.getD i 0 = vh zs + 4294967296 ^ i * x
  | [], i, x, h => by simp at h
  | z :: zs, 0, x, _ => by simp [vh]; omega
  | z :: zs, i + 1, x, h => by
    have := vh_set zs i x (by simpa using h)
    simp only [List.set_cons_succ, vh, List.getD_cons_succ, Nat.pow_succ]
    have e1 : 4294967296 ^ i * 4294967296 * zs.getD i 0 = 4294967296 * (4294967296 ^ i * zs.getD i 0) := by rw [Nat.mul_comm (4294967296 ^ i), Nat.mul_assoc]
    have e2 : 4294967296 ^ i * 4294967296 * x = 4294967296 * (4294967296 ^ i * x) := by rw [Nat.mul_comm (4294967296 ^ i), Nat.mul_assoc]
    rw [e1, e2]
    omega
theorem vh_take_succ : ∀ (a : List Nat) (k : Nat), vh (a.take (k + 1)) = vh (a.take k) + 4294967296 ^ k * a.getD k 0
  | [], k => by simp [vh]
  | x :: r, 0 => by simp [vh]
  | x :: r, k + 1 => by
    rw [List.take_succ_cons, List.take_succ_cons, vh, vh, vh_take_succ r k, List.getD_cons_succ, Nat.mul_add, Nat.pow_succ, Nat.mul_comm (4294967296 ^ k) 4294967296, Nat.mul_assoc, Nat.add_assoc]
theorem Hs.set {a : List Nat} (h : Hs a) (i : Nat) {x : Nat} (hx : x < 4294967296) : Hs (a.set i x) := fun y hy => by
  rcases List.mem_or_eq_of_mem_set hy with h1 | h1
  · exact h y h1
  · rw [h1]; exact hx
theorem Hs.replicate (n : Nat) : Hs (List.replicate n 0) := fun y hy => by
  rw [List.mem_replicate] at hy; omega
/-- What is so between two rounds of the inner loop: x is the word, zs0 what stood there at first. -/
structure TIn (zs0 : List Nat) (x i m k cy : Nat) (ys zs : List Nat) : Prop where
  eq : vh zs + 4294967296 ^ (i + k) * cy = vh zs0 + 4294967296 ^ i * (x * vh (ys.take k))
  far : ∀ j, i + k ≤ j → zs.getD j 0 = zs0.getD j 0
  cy_lt : cy < 4294967296
  last : m < k → cy = 0
  k_le : k ≤ m + 1
theorem TIn.start (zs0 : List Nat) (x i m : Nat) (ys : List Nat) : TIn zs0 x i m 0 0 ys zs0 :=
  ⟨by simp [vh], fun _ _ => rfl, by omega, fun _ => rfl, by omega⟩
theorem mul_lt_hs {x y : Nat} (hx : x < 4294967296) (hy : y < 4294967296) : x * y ≤ 18446744065119617025 := by
  have := Nat.mul_le_mul (Nat.le_sub_one_of_lt hx) (Nat.le_sub_one_of_lt hy)
  simpa using this
theorem TIn.step {zs0 : List Nat} {x i m k cy : Nat} {ys zs : List Nat} (h : TIn zs0 x i m k cy ys zs) (hx : x < 4294967296) (hm : ys.length = m) (hy : Hs ys) (hz0 : ∀ j, i + m ≤ j → zs0.getD j 0 = 0) (hzs : Hs zs)
    (hgo : k < m ∨ 0 < cy) (hlen : i + m < zs.length) {y z t : Nat} (hyk : ys.getD k 0 = y) (hzk : zs.getD (i + k) 0 = z) (ht : x * y + z + cy = t) :
    t < 18446744073709551616 ∧ t / 4294967296 < 4294967296 ∧ i + k < zs.length ∧ TIn zs0 x i m (k + 1) (t / 4294967296) ys (zs.set (i + k) (t % 4294967296)) := by
  have hyb : y < 4294967296 := by rw [← hyk]; exact hy.getD k
  have hzb : z < 4294967296 := by rw [← hzk]; exact hzs.getD _
  have hxy := mul_lt_hs hx hyb
  have hcy := h.cy_lt
  have hkm : k ≤ m := by
    rcases hgo with h1 | h1
    · omega
    · rcases Nat.lt_or_ge m k with h2 | h2
      · have := h.last h2; omega
      · exact h2
  have hik : i + k < zs.length := by omega
  have ht1 : t < 18446744073709551616 := by omega
  refine ⟨ht1, by omega, hik, ?_, fun j hj => ?_, by omega, fun hmk => ?_, by omega⟩
  · have a1 := vh_set zs (i + k) (t % 4294967296) hik
    have a2 := h.eq
    rw [hzk] at a1
    rw [vh_take_succ, hyk]
    have e1 : 4294967296 ^ (i + (k + 1)) * (t / 4294967296) + 4294967296 ^ (i + k) * (t % 4294967296) = 4294967296 ^ (i + k) * t := by
      rw [← Nat.add_assoc, Nat.pow_succ, Nat.mul_assoc, ← Nat.mul_add]
      congr 1
      omega
    have e2 : 4294967296 ^ (i + k) * t = 4294967296 ^ (i + k) * (x * y) + 4294967296 ^ (i + k) * z + 4294967296 ^ (i + k) * cy := by
      rw [← ht, Nat.mul_add, Nat.mul_add]
    have e3 : 4294967296 ^ i * (x * (vh (ys.take k) + 4294967296 ^ k * y)) = 4294967296 ^ i * (x * vh (ys.take k)) + 4294967296 ^ (i + k) * (x * y) := by
      rw [Nat.mul_add, Nat.mul_add, Nat.pow_add, Nat.mul_left_comm x, Nat.mul_assoc]
    rw [e3]
    omega
  · rw [getD_set_ne' (by omega)]
    exact h.far j (by omega)
  · have hkm2 : k = m := by omega
    subst hkm2
    have hy0 : y = 0 := by rw [← hyk, List.getD_eq_getElem?_getD, List.getElem?_eq_none (by omega)]; rfl
    have hz00 : z = 0 := by rw [← hzk, h.far _ (by omega), hz0 _ (by omega)]
    subst hy0 hz00
    have : t = cy := by rw [← ht]; simp
    omega
/-- What is so between two rounds of the outer loop. -/
structure TOut (xs ys : List Nat) (m i : Nat) (zs : List Nat) : Prop where
  eq : vh zs = vh (xs.take i) * vh ys
  far : ∀ j, i + m ≤ j → zs.getD j 0 = 0
theorem TOut.start (xs ys : List Nat) (m L : Nat) : TOut xs ys m 0 (List.replicate L 0) := by
  have hz : ∀ j, (List.replicate L 0).getD j 0 = 0 := fun j => by
    rw [List.getD_eq_getElem?_getD, List.getElem?_replicate]
    split <;> rfl
  exact ⟨by rw [vh_noughts hz]; simp [vh], fun j _ => hz j⟩
theorem TOut.step {xs ys : List Nat} {m i : Nat} {zs0 zs : List Nat} (h : TOut xs ys m i zs0) {x k : Nat} (hx : xs.getD i 0 = x) (hm : ys.length = m) (hin : TIn zs0 x i m k 0 ys zs) (hk : m ≤ k) : TOut xs ys m (i + 1) zs := by
  have h1 := hin.eq
  have h2 := hin.k_le
  refine ⟨?_, fun j hj => ?_⟩
  · rw [vh_take_succ, hx, Nat.add_mul, ← h.eq]
    rw [List.take_of_length_le (by omega)] at h1
    rw [Nat.mul_assoc]
    omega
  · rw [hin.far j (by omega)]
    exact h.far j (by omega)
theorem TOut.fin {xs ys : List Nat} {m n : Nat} {zs : List Nat} (h : TOut xs ys m n zs) (hn : xs.length = n) : vh zs = vh xs * vh ys := by
  rw [h.eq, List.take_of_length_le (by omega)]
end M
end Go.Proofs.YtjmnobgllnaljaaGreatDoor
namespace Go.Proofs.YtjmnobgllnaljaaGreatDoor
open Go.RowKit Go.Shelf

theorem wrap_n (z : Int) (t : Nat) (h : z = (t : Int)) (ht : t < 18446744073709551616) : IntKind.u64.wrap z = (t : Int) := by
  subst h
  rw [IntKind.wrap_u64]; omega

set_option maxHeartbeats 2000000 in
set_option maxRecDepth 100000 in
theorem times_any (w : World) (lo lo' : Nat) (A A' : Option Addr) (n c m c' : Nat) (xs ys : List Nat) (hx : Wd w lo A n c xs) (hy : Wd w lo' A' m c' ys) (hhx : M.Hs xs) (hhy : M.Hs ys) (hn : n ≤ 100000000) (hm : m ≤ 100000000) :
    Calls Tryz.prog 50 #[.slice A n c, .slice A' m c'] w (Rh (n + m + 1) (M.vh xs * M.vh ys) w) := by
  obtain ⟨L, hL⟩ : ∃ L, n + m + 1 = L := ⟨_, rfl⟩
  have qL : (n : Int) + (m : Int) + 1 = (L : Int) := by omega
  rw [hL]
  have HL := Lib.hid hL
  have hLb : L ≤ 200000001 := by omega
  clear hL
  have b1 := hx.len
  have b2 := hy.len
  go_enter Tryz.func50, Tryz.ntmps50
  go_wp2_with (at_make; refine wpList_make_wd _ rfl (.tmp 15) (.tmp 15) 22 rfl info_u64 Tryz.underlying22 (L : Int) (L : Int) L rfl rfl (by omega) (by omega) (by omega) ?_; intro w1 hown1 hg1)
  have hu1 : Up w w1 := (Up.refl w).grown hg1 (by simp)
  have hst := Lib.hid (M.TOut.start xs ys m L)
  have hst2 : Hid (M.Hs (List.replicate L 0)) := M.Hs.replicate L
  go_loopw [6] (fun iv wr => ∃ (i : Nat) (zs : List Nat), i ≤ n ∧ iv = .int .i64 i ∧ Up w wr ∧ Ow wr w.heap.size (.slice (some ⟨w.heap.size, 0, none⟩) L L) L zs ∧ Hid (M.Hs zs) ∧ Hid (M.TOut xs ys m i zs)) (fun iv _ => n - (intOf iv).toNat)
  case atStart => exact ⟨0, _, by omega, rfl, hu1, hown1, hst2, hst⟩
  case round =>
    obtain ⟨i, zs0, hi, rfl, hu, hown, HH, HO⟩ := hrel
    clear hown1 hg1 hu1 hst hst2
    by_cases hlt : i < n
    · obtain ⟨x, hxk⟩ : ∃ x, xs.getD i 0 = x := ⟨_, rfl⟩
      have hxb : x < 4294967296 := by rw [← hxk]; exact hhx.getD i
      have HX := Lib.hid hxk
      have hcA := hx.at_
      obtain ⟨bb, oo, rfl, _, hc⟩ := hcA (by omega)
      have hc1 := (hc i hlt).1
      rw [hxk] at hc1
      have HC := Lib.hid hc1
      clear hxk hc hcA
      go_wp2_with fail
      have hs0 := Lib.hid (M.TIn.start zs0 x i m ys)
      go_loopw [7, 8] (fun cv kv wi => ∃ (k cy : Nat) (zs : List Nat), k ≤ m + 1 ∧ cy < 4294967296 ∧ cv = u64 cy ∧ kv = .int .i64 k ∧ Up w wi ∧ Ow wi w.heap.size (.slice (some ⟨w.heap.size, 0, none⟩) L L) L zs ∧ Hid (M.Hs zs) ∧ Hid (M.TIn zs0 x i m k cy ys zs)) (fun _ kv _ => m + 1 - (intOf kv).toNat)
      case atStart => exact ⟨0, 0, zs0, by omega, by omega, rfl, rfl, hu, hown, HH, hs0⟩
      case round =>
        obtain ⟨k, cy, zs, hk, hcy, rfl, rfl, hu2, hown2, HH2, HI⟩ := hrel
        have hzl2 := hown2.num
        clear hs0 hown HH hu
        by_cases hkm : k < m
        · obtain ⟨P, hP⟩ : ∃ P, i + k = P := ⟨_, rfl⟩
          have qP : (i : Int) + (k : Int) = (P : Int) := by omega
          obtain ⟨y, hyk⟩ : ∃ y, ys.getD k 0 = y := ⟨_, rfl⟩
          obtain ⟨z, hzk⟩ : ∃ z, zs.getD P 0 = z := ⟨_, rfl⟩
          obtain ⟨p, hp⟩ : ∃ p, x * y = p := ⟨_, rfl⟩
          obtain ⟨t, ht⟩ : ∃ t, p + z + cy = t := ⟨_, rfl⟩
          have hyb : y < 4294967296 := by rw [← hyk]; exact hhy.getD k
          have hzb : z < 4294967296 := by rw [← hzk]; exact HH2.out.getD P
          have hpb : p ≤ 18446744065119617025 := by rw [← hp]; exact M.mul_lt_hs hxb hyb
          obtain ⟨s1, s2, s3, s4⟩ := HI.out.step (y := y) (z := z) (t := t) hxb hy.num hhy HO.out.far HH2.out (.inl hkm) (by rw [hzl2, ← HL.out]; omega) hyk (by rw [hP]; exact hzk) (by rw [hp]; exact ht)
          rw [hP] at s3 s4
          obtain ⟨T0, hT0⟩ : ∃ T0, t % 4294967296 = T0 := ⟨_, rfl⟩
          obtain ⟨T1, hT1⟩ : ∃ T1, t / 4294967296 = T1 := ⟨_, rfl⟩
          rw [hT0, hT1] at s4
          rw [hT1] at s2
          have hT0b : T0 < 4294967296 := by omega
          have e1 : IntKind.u64.wrap ((x : Int) * (y : Int)) = (p : Int) := wrap_n _ p (by rw [← hp]; simp) (by omega)
          have e2 : IntKind.u64.wrap ((p : Int) + (z : Int)) = ((p : Int) + (z : Int)) := by rw [wrap_n _ (p + z) (by omega) (by omega)]; omega
          have e3 : IntKind.u64.wrap ((p : Int) + (z : Int) + (cy : Int)) = (t : Int) := wrap_n _ t (by omega) s1
          have e4 : (t : Int) % 4294967296 = (T0 : Int) := by omega
          have e5 : (t : Int).tmod 4294967296 = (T0 : Int) := by rw [Int.tmod_eq_emod_of_nonneg (by omega)]; exact e4
          have e6 : (t : Int) / 4294967296 = (T1 : Int) := by omega
          have hPL : P < L := by rw [← hzl2]; exact s3
          have hcz := hown2.cellAt P (by omega)
          rw [cu_get (by omega), hzk] at hcz
          have hfz := hown2.frozenAt P
          have hc1 : wr.cell? ⟨bb, oo + i, none⟩ = some (u64 x) := (Below.cell hu2 (World.block_lt_of_cell? _ _ HC.out)).trans HC.out
          have cg : ∀ q, Calls Tryz.prog 76 #[.slice A' m c', .int .i64 k] (wr.drewN q) (Same (u64 y) (wr.drewN q)) := fun q => by
            have := get_any (wr.drewN q) lo' A' m c' ys (hy.up (hu2.drewN q)) k _ rfl
            rwa [hyk] at this
          have CG := Lib.hid cg
          have HE := Lib.hid s4
          have HS4 : Hid (M.Hs (zs.set P T0)) := HH2.out.set P hT0b
          have hk1 : k + 1 ≤ m + 1 := s4.k_le
          clear hp ht hyk hzk hyb hpb s1 s3 s4 hT0 hT1 hP cg HI HO HX HC hx hy hhx hhy
          go_wp2_with fail
          go_quiet ((go_at_call 76; exact Same.quiet (CG.out _)))
          go_wp2_with fail
          go_roundw
          case rel =>
            obtain ⟨h1, _⟩ := (Ow.up hown2 ((Up.refl wr).drewN nq)).stored P (u64 T0)
            rw [cu_set] at h1
            exact ⟨k + 1, T1, _, hk1, s2, rfl, by go_num, (hu2.drewN nq).setCell (Nat.le_refl _) _, h1, HS4, HE⟩
          case measure => simp [intOf]; omega
        · rcases Nat.eq_zero_or_pos cy with hcy0 | hcy0
          · subst hcy0
            have HE := Lib.hid (HO.out.step HX.out hy.num HI.out (by omega))
            clear HI HO
            go_wp2_with fail
            go_roundw
            case rel => exact ⟨i + 1, zs, by omega, by go_num, hu2, hown2, HH2, HE⟩
            case measure => simp [intOf]; omega
          · obtain ⟨P, hP⟩ : ∃ P, i + k = P := ⟨_, rfl⟩
            have qP : (i : Int) + (k : Int) = (P : Int) := by omega
            obtain ⟨y, hyk⟩ : ∃ y, ys.getD k 0 = y := ⟨_, rfl⟩
            obtain ⟨z, hzk⟩ : ∃ z, zs.getD P 0 = z := ⟨_, rfl⟩
            obtain ⟨p, hp⟩ : ∃ p, x * y = p := ⟨_, rfl⟩
            obtain ⟨t, ht⟩ : ∃ t, p + z + cy = t := ⟨_, rfl⟩
            have hyb : y < 4294967296 := by rw [← hyk]; exact hhy.getD k
            have hzb : z < 4294967296 := by rw [← hzk]; exact HH2.out.getD P
            have hpb : p ≤ 18446744065119617025 := by rw [← hp]; exact M.mul_lt_hs hxb hyb
            obtain ⟨s1, s2, s3, s4⟩ := HI.out.step (y := y) (z := z) (t := t) hxb hy.num hhy HO.out.far HH2.out (.inr hcy0) (by rw [hzl2, ← HL.out]; omega) hyk (by rw [hP]; exact hzk) (by rw [hp]; exact ht)
            rw [hP] at s3 s4
            obtain ⟨T0, hT0⟩ : ∃ T0, t % 4294967296 = T0 := ⟨_, rfl⟩
            obtain ⟨T1, hT1⟩ : ∃ T1, t / 4294967296 = T1 := ⟨_, rfl⟩
            rw [hT0, hT1] at s4
            rw [hT1] at s2
            have hT0b : T0 < 4294967296 := by omega
            have e1 : IntKind.u64.wrap ((x : Int) * (y : Int)) = (p : Int) := wrap_n _ p (by rw [← hp]; simp) (by omega)
            have e2 : IntKind.u64.wrap ((p : Int) + (z : Int)) = ((p : Int) + (z : Int)) := by rw [wrap_n _ (p + z) (by omega) (by omega)]; omega
            have e3 : IntKind.u64.wrap ((p : Int) + (z : Int) + (cy : Int)) = (t : Int) := wrap_n _ t (by omega) s1
            have e4 : (t : Int) % 4294967296 = (T0 : Int) := by omega
            have e5 : (t : Int).tmod 4294967296 = (T0 : Int) := by rw [Int.tmod_eq_emod_of_nonneg (by omega)]; exact e4
            have e6 : (t : Int) / 4294967296 = (T1 : Int) := by omega
            have hPL : P < L := by rw [← hzl2]; exact s3
            have hcz := hown2.cellAt P (by omega)
            rw [cu_get (by omega), hzk] at hcz
            have hfz := hown2.frozenAt P
            have hc1 : wr.cell? ⟨bb, oo + i, none⟩ = some (u64 x) := (Below.cell hu2 (World.block_lt_of_cell? _ _ HC.out)).trans HC.out
            have cg : ∀ q, Calls Tryz.prog 76 #[.slice A' m c', .int .i64 k] (wr.drewN q) (Same (u64 y) (wr.drewN q)) := fun q => by
              have := get_any (wr.drewN q) lo' A' m c' ys (hy.up (hu2.drewN q)) k _ rfl
              rwa [hyk] at this
            have CG := Lib.hid cg
            have HE := Lib.hid s4
            have HS4 : Hid (M.Hs (zs.set P T0)) := HH2.out.set P hT0b
            have hk1 : k + 1 ≤ m + 1 := s4.k_le
            clear hp ht hyk hzk hyb hpb s1 s3 s4 hT0 hT1 hP cg HI HO HX HC hx hy hhx hhy
            go_wp2_with fail
            go_quiet ((go_at_call 76; exact Same.quiet (CG.out _)))
            go_wp2_with fail
            go_roundw
            case rel =>
              obtain ⟨h1, _⟩ := (Ow.up hown2 ((Up.refl wr).drewN nq)).stored P (u64 T0)
              rw [cu_set] at h1
              exact ⟨k + 1, T1, _, hk1, s2, rfl, by go_num, (hu2.drewN nq).setCell (Nat.le_refl _) _, h1, HS4, HE⟩
            case measure => simp [intOf]; omega
    · have hin : i = n := by omega
      subst hin
      have hvv := HO.out.fin hx.num
      obtain hwd := Ow.wd_ hown HH.out.wds (by omega)
      have HV := Lib.hid hvv
      clear hvv hown HO
      go_wp2_with fail
      refine (rtrim_any _ _ _ _ _ _ hwd).mono ?_
      rintro _ _ ⟨mm, rfl, rfl, hmm, hnm, hmn, hzz⟩
      have HZ := Lib.hid ((M.vh_take hzz).trans HV.out)
      clear hzz
      go_wp2_with fail
      go_ret
      exact ⟨_, rfl, ⟨_, mm, _, _, rfl, hmm, HH.out.take mm, HZ.out, hmn, hnm⟩, hu⟩
end Go.Proofs.YtjmnobgllnaljaaGreatDoor
/-
  The reference's Up, Down, Bits, Bit: their contracts.
-/
namespace Go.Proofs.YtjmnobgllnaljaaGreatDoor
open Go.RowKit Go.Shelf

namespace M
theorem pow_half (m : Nat) : (4294967296 : Nat) ^ m = 2 ^ (32 * m) := by rw [Nat.pow_mul]
theorem vh_lt {a : List Nat} (h : Hs a) : vh a < 4294967296 ^ a.length := by
  induction a with
  | nil => simp [vh]
  | cons x r ih =>
    have h1 := ih (fun y hy => h y (List.mem_cons_of_mem _ hy))
    have h2 := h x (by simp)
    simp only [vh, List.length_cons, Nat.pow_succ]
    calc x + 4294967296 * vh r < 4294967296 + 4294967296 * vh r := by omega
      _ = 4294967296 * (vh r + 1) := by rw [Nat.mul_add, Nat.mul_one, Nat.add_comm]
      _ ≤ 4294967296 * 4294967296 ^ r.length := Nat.mul_le_mul_left _ h1
      _ = _ := Nat.mul_comm _ _
theorem vh_snoc (a : List Nat) (x : Nat) : vh (a ++ [x]) = vh a + 4294967296 ^ a.length * x := by
  rw [vh_append]; simp [vh]
theorem Hs.nil : Hs [] := fun _ h => by cases h
theorem Hs.snoc {a : List Nat} {x : Nat} (h : Hs a) (hx : x < 4294967296) : Hs (a ++ [x]) := by
  intro y hy
  rcases List.mem_append.1 hy with e | e
  · exact h y e
  · rw [List.mem_singleton.1 e]; exact hx
theorem Hs.drop {a : List Nat} (h : Hs a) (k : Nat) : Hs (a.drop k) := fun x hx => h x (List.mem_of_mem_drop hx)
theorem vh_split (a : List Nat) (k : Nat) (hk : k ≤ a.length) : vh a = vh (a.take k) + 4294967296 ^ k * vh (a.drop k) := by
  have h := vh_append (a.take k) (a.drop k)
  rw [List.take_append_drop, List.length_take, Nat.min_eq_left hk] at h
  exact h
theorem vh_replicate (n : Nat) : vh (List.replicate n 0) = 0 := by
  induction n with
  | zero => rfl
  | succ n ih => simp [List.replicate_succ, vh, ih]

/-- What is so while half words are moved up. -/
structure UInv (S s : Nat) (xs : List Nat) (k c : Nat) (hs : List Nat) : Prop where
  half : Hs hs
  len : hs.length = S + k
  car : c < 4294967296
  eq : vh hs + 4294967296 ^ (S + k) * c = 4294967296 ^ S * (vh (xs.take k) * 2 ^ s)
theorem UInv.start (S s : Nat) (xs : List Nat) : UInv S s xs 0 0 (List.replicate S 0) := by
  refine ⟨fun y hy => by rw [(List.mem_replicate.1 hy).2]; omega, by simp, by omega, ?_⟩
  rw [vh_replicate]; simp [vh]
theorem UInv.step {S s : Nat} {xs : List Nat} {k c : Nat} {hs : List Nat} (h : UInv S s xs k c hs) {x t : Nat} (hx : xs.getD k 0 = x) (ht : x * 2 ^ s + c = t) (hb : t / 4294967296 < 4294967296) :
    UInv S s xs (k + 1) (t / 4294967296) (hs ++ [t % 4294967296]) := by
  obtain ⟨h1, h2, h3, h4⟩ := h
  refine ⟨h1.snoc (Nat.mod_lt _ (by omega)), by simp [h2]; omega, hb, ?_⟩
  rw [vh_snoc, h2, vh_take_succ xs k, hx, Nat.add_mul, Nat.mul_add, ← h4, show S + (k + 1) = S + k + 1 from rfl, Nat.pow_succ, Nat.mul_assoc (4294967296 ^ (S + k))]
  have e1 : 4294967296 ^ S * (4294967296 ^ k * x * 2 ^ s) = 4294967296 ^ (S + k) * (x * 2 ^ s) := by rw [Nat.pow_add]; simp only [Nat.mul_assoc]
  have e2 : 4294967296 ^ (S + k) * (t % 4294967296) + 4294967296 ^ (S + k) * (4294967296 * (t / 4294967296)) = 4294967296 ^ (S + k) * (x * 2 ^ s) + 4294967296 ^ (S + k) * c := by
    rw [← Nat.mul_add, ← Nat.mul_add, ht]
    congr 1
    omega
  rw [e1]
  omega
theorem UInv.fin {S s : Nat} {xs : List Nat} {c : Nat} {hs : List Nat} (h : UInv S s xs xs.length c hs) {N : Nat} (hN : N = 32 * S + s) : vh (hs ++ [c]) = vh xs * 2 ^ N ∧ Hs (hs ++ [c]) := by
  obtain ⟨h1, h2, h3, h4⟩ := h
  refine ⟨?_, h1.snoc h3⟩
  rw [vh_snoc, h2, h4, List.take_length, hN, Nat.pow_add, ← pow_half, Nat.mul_left_comm]

/-- The half words moved down by fewer than 32 bits. -/
def dn (s : Nat) : List Nat → List Nat
  | [] => []
  | x :: r => ((x + r.getD 0 0 * 4294967296) / 2 ^ s % 4294967296) :: dn s r
theorem dn_length (s : Nat) : ∀ xs, (dn s xs).length = xs.length
  | [] => rfl
  | x :: r => by rw [dn, List.length_cons, List.length_cons, dn_length s r]
theorem dn_getD (s : Nat) : ∀ (xs : List Nat) (j : Nat), j < xs.length → (dn s xs).getD j 0 = (xs.getD j 0 + xs.getD (j + 1) 0 * 4294967296) / 2 ^ s % 4294967296
  | [], j, h => by simp at h
  | x :: r, 0, _ => by rw [dn, List.getD_cons_zero, List.getD_cons_zero, List.getD_cons_succ]
  | x :: r, j + 1, h => by
    rw [dn, List.getD_cons_succ, dn_getD s r j (by simpa using h), List.getD_cons_succ, List.getD_cons_succ]
theorem dn_hs (s : Nat) : ∀ xs, Hs (dn s xs)
  | [] => Hs.nil
  | x :: r => by
    intro y hy
    rw [dn, List.mem_cons] at hy
    rcases hy with rfl | hy
    · exact Nat.mod_lt _ (by omega)
    · exact dn_hs s r y hy
theorem vh_dn (s : Nat) (hs : s < 32) : ∀ xs, Hs xs → vh (dn s xs) = vh xs / 2 ^ s
  | [], _ => by simp [dn, vh]
  | x :: r, h => by
    have hx : x < 4294967296 := h x (by simp)
    have hr : Hs r := fun y hy => h y (List.mem_cons_of_mem _ hy)
    have hB : (4294967296 : Nat) = 2 ^ s * 2 ^ (32 - s) := by rw [← Nat.pow_add, show s + (32 - s) = 32 from by omega]
    have hp : 0 < 2 ^ s := Nat.pow_pos (by omega)
    rw [dn, vh, vh, vh_dn s hs r hr]
    have e1 : (x + 4294967296 * vh r) / 2 ^ s / 4294967296 = vh r / 2 ^ s := by
      rw [Nat.div_div_eq_div_mul, Nat.mul_comm (2 ^ s) 4294967296, ← Nat.div_div_eq_div_mul, Nat.add_mul_div_left _ _ (by omega), Nat.div_eq_of_lt hx, Nat.zero_add]
    have e2 : (x + 4294967296 * vh r) / 2 ^ s % 4294967296 = (x + r.getD 0 0 * 4294967296) / 2 ^ s % 4294967296 := by
      rw [vh_eq r, Nat.mul_add, ← Nat.add_assoc, Nat.mul_comm 4294967296 (r.getD 0 0)]
      have : 4294967296 * (4294967296 * vh r.tail) = 2 ^ s * (4294967296 * (2 ^ (32 - s) * vh r.tail)) := by
        generalize vh r.tail = v
        rw [show (4294967296 : Nat) * (4294967296 * v) = 2 ^ s * 2 ^ (32 - s) * (4294967296 * v) from by rw [← hB], Nat.mul_assoc, Nat.mul_left_comm (2 ^ (32 - s))]
      rw [this, Nat.add_mul_div_left _ _ hp, Nat.add_mul_mod_self_left]
    have e3 := Nat.mod_add_div ((x + 4294967296 * vh r) / 2 ^ s) 4294967296
    rw [e1, e2] at e3
    exact e3
theorem vh_drop {xs : List Nat} (h : Hs xs) (S : Nat) : vh (xs.drop S) = vh xs / 4294967296 ^ S := by
  rcases Nat.lt_or_ge xs.length S with h0 | h0
  · rw [List.drop_of_length_le (by omega)]
    have h1 := vh_lt h
    have h2 : 4294967296 ^ xs.length ≤ 4294967296 ^ S := Nat.pow_le_pow_right (by omega) (by omega)
    rw [Nat.div_eq_of_lt (by omega)]; rfl
  · have h1 := vh_split xs S h0
    have h2 := vh_lt (h.take S)
    rw [List.length_take, Nat.min_eq_left h0] at h2
    rw [h1, Nat.add_mul_div_left _ _ (Nat.pow_pos (by omega)), Nat.div_eq_of_lt h2, Nat.zero_add]
theorem vh_dn_drop {xs : List Nat} (h : Hs xs) {S s N : Nat} (hs : s < 32) (hN : N = 32 * S + s) : vh (dn s (xs.drop S)) = vh xs / 2 ^ N := by
  rw [vh_dn s hs _ (h.drop S), vh_drop h, Nat.div_div_eq_div_mul, hN, Nat.pow_add, pow_half]
theorem vh_getD {a : List Nat} (h : Hs a) (q : Nat) : vh a / 4294967296 ^ q % 4294967296 = a.getD q 0 := by
  rw [← vh_drop h, vh_eq, Nat.add_mul_mod_self_left, List.getD_eq_getElem?_getD, List.getElem?_drop, Nat.add_zero, ← List.getD_eq_getElem?_getD]
  exact Nat.mod_eq_of_lt (h.getD q)
theorem vh_bit {a : List Nat} (h : Hs a) (i : Nat) : (a.getD (i / 32) 0 / 2 ^ (i % 32) % 2 = 1) = ((vh a).testBit i = true) := by
  rw [← vh_getD h, Nat.testBit_eq_decide_div_mod_eq, decide_eq_true_eq]
  have e : vh a / 2 ^ i = vh a / 4294967296 ^ (i / 32) / 2 ^ (i % 32) := by
    rw [Nat.div_div_eq_div_mul, pow_half, ← Nat.pow_add, Nat.div_add_mod]
  rw [e]
  generalize vh a / 4294967296 ^ (i / 32) = V
  have hB : (4294967296 : Nat) = 2 ^ (i % 32) * 2 ^ (32 - i % 32) := by rw [← Nat.pow_add, show i % 32 + (32 - i % 32) = 32 from by omega]
  have e2 : V / 2 ^ (i % 32) % 2 = V % 4294967296 / 2 ^ (i % 32) % 2 := by
    conv => rhs; rw [hB, Nat.mod_mul_right_div_self]
    obtain ⟨d, hd⟩ : ∃ d, 2 ^ (32 - i % 32) = 2 * d := ⟨2 ^ (31 - i % 32), by rw [← Nat.pow_succ', show (31 - i % 32).succ = 32 - i % 32 from by omega]⟩
    rw [hd, Nat.mod_mul_right_mod]
  rw [e2]
theorem bits_top32 {v x m : Nat} (hv : v < 4294967296 ^ m) (hx : x ≠ 0) : bits (v + 4294967296 ^ m * x) = 32 * m + bits x := by
  have h1 := bits_le hx
  have h2 := bits_lt x
  have h3 := bits_pos hx
  rw [pow_half] at hv ⊢
  have e : 32 * m + bits x = (32 * m + (bits x - 1)) + 1 := by omega
  rw [e]
  apply bits_of
  · rw [Nat.pow_add]
    exact Nat.le_trans (Nat.mul_le_mul_left _ h1) (Nat.le_add_left _ _)
  · rw [show 32 * m + (bits x - 1) + 1 = 32 * m + bits x from by omega, Nat.pow_add]
    calc v + 2 ^ (32 * m) * x < 2 ^ (32 * m) + 2 ^ (32 * m) * x := by omega
      _ = 2 ^ (32 * m) * (x + 1) := by rw [Nat.mul_add, Nat.mul_one, Nat.add_comm]
      _ ≤ _ := Nat.mul_le_mul_left _ h2
theorem vh_top {xs : List Nat} {m x : Nat} (h : Hs xs) (hn : Nrm xs) (hl : xs.length = m + 1) (hx : xs.getD m 0 = x) : bits (vh xs) = 32 * m + bits x := by
  have h1 := vh_split xs m (by omega)
  have h2 := vh_lt (h.take m)
  rw [List.length_take, Nat.min_eq_left (by omega)] at h2
  have h3 : xs.drop m = [x] := by
    rw [List.drop_eq_getElem_cons (by omega), List.drop_of_length_le (by omega)]
    rw [List.getD_eq_getElem?_getD, List.getElem?_eq_getElem (by omega)] at hx
    simpa using hx
  rw [h3] at h1
  simp only [vh, Nat.mul_zero, Nat.add_zero] at h1
  have hx0 : x ≠ 0 := by rw [← hx]; exact top_ne hn hl
  rw [h1]
  exact bits_top32 h2 hx0
end M
end Go.Proofs.YtjmnobgllnaljaaGreatDoor
namespace Go.Proofs.YtjmnobgllnaljaaGreatDoor
open Go.RowKit Go.Shelf

theorem M.getD_drop' (zs : List Nat) (i j : Nat) : (zs.drop i).getD j 0 = zs.getD (i + j) 0 := by
  simp [List.getD_eq_getElem?_getD, List.getElem?_drop]
/-- Trim of a row of half words: a normal number. -/
theorem trim_hs (w : World) (lo s : Nat) (A : Option Addr) (n c : Nat) (xs : List Nat) (h : Wd w lo A n c xs) (hh : M.Hs xs) (a : Nat) (ha : Hid (M.vh xs = a)) (hs : n ≤ s) :
    Calls Tryz.prog 48 #[.slice A n c] w (fun e w' => ∃ v, e = .returned v ∧ w = w' ∧ Nh w lo s v a) :=
  (rtrim_any w lo A n c xs h).mono fun _ _ ⟨m, he, hw, hm, hnm, hmn, hzz⟩ => ⟨_, he, hw, A, m, c, _, rfl, hm, hh.take m, (M.vh_take hzz).trans ha.out, by omega, hnm⟩

set_option maxHeartbeats 2000000 in
set_option maxRecDepth 100000 in
theorem up_any (w : World) (lo : Nat) (A : Option Addr) (n c : Nat) (xs : List Nat) (hx : Wd w lo A n c xs) (hh : M.Hs xs) (hn : n ≤ 100000000) (N : Nat) (hN : N ≤ 10000000) :
    Calls Tryz.prog 57 #[.slice A n c, .int .i64 N] w (Rh (n + N / 32 + 1) (M.vh xs * 2 ^ N) w) := by
  obtain ⟨S, hS⟩ : ∃ S, N / 32 = S := ⟨_, rfl⟩
  obtain ⟨s, hs⟩ : ∃ s, N % 32 = s := ⟨_, rfl⟩
  have hs32 : s < 32 := by omega
  have hSb : S ≤ 1000000 := by omega
  have HN : Hid (N = 32 * S + s) := by show _ = _; omega
  have q1 : (N : Int) / 32 = (S : Int) := by omega
  have q2 : (N : Int) % 32 = (s : Int) := by omega
  have q3 : (N : Int).tdiv 32 = (S : Int) := by rw [Int.tdiv_eq_ediv_of_nonneg (by omega)]; exact q1
  have q4 : (N : Int).tmod 32 = (s : Int) := by rw [Int.tmod_eq_emod_of_nonneg (by omega)]; exact q2
  rw [hS]
  clear hS hs
  have b1 := hx.len
  have hxl := Lib.hid hx.num
  go_enter Tryz.func57, Tryz.ntmps57
  go_wp2_with (at_make; refine wpList_make_wd _ rfl (.tmp 10) (.tmp 10) 22 rfl info_u64 Tryz.underlying22 (S : Int) (S : Int) S rfl rfl (by omega) (by omega) (by omega) ?_; intro w1 hown1 hg1)
  have hu1 : Up w w1 := (Up.refl w).grown hg1 (by simp)
  have hz1 : w.heap.size ≤ w1.heap.size := Up.size hu1
  have hst := Lib.hid (M.UInv.start S s xs)
  go_loopw [5, 6, 7] (fun sv cv iv wr => ∃ (k cy : Nat) (hs : List Nat), k ≤ n ∧ cy < 4294967296 ∧ cv = u64 cy ∧ iv = .int .i64 k ∧ Up w wr ∧ w.heap.size ≤ wr.heap.size ∧ Ow wr w.heap.size sv (S + k) hs ∧ Hid (M.UInv S s xs k cy hs)) (fun _ _ iv _ => n - (intOf iv).toNat)
  case atStart => exact ⟨0, 0, _, by omega, by omega, rfl, rfl, hu1, hz1, hown1, hst⟩
  case round =>
    obtain ⟨k, cy, hs, hk, hcy, rfl, rfl, hu, hsz, hown, HI⟩ := hrel
    have hcA := (hx.up hu).at_
    clear hst hown1 hu1 hg1 hz1
    by_cases hlt : k < n
    · obtain ⟨bb, oo, rfl, _, hc⟩ := hcA (by omega)
      have hc1 := (hc k hlt).1
      obtain ⟨x, hxk⟩ : ∃ x, xs.getD k 0 = x := ⟨_, rfl⟩
      have hxb : x < 4294967296 := by rw [← hxk]; exact hh.getD k
      rw [hxk] at hc1
      have hp : (2 : Nat) ^ s ≤ 2 ^ 31 := Nat.pow_le_pow_right (by omega) (by omega)
      have hxs : x * 2 ^ s ≤ 4294967295 * 2147483648 := Nat.mul_le_mul (by omega) hp
      obtain ⟨Y, hY⟩ : ∃ Y, x * 2 ^ s = Y := ⟨_, rfl⟩
      have qY : (x : Int) * 2 ^ s = (Y : Int) := by rw [← hY]; simp
      obtain ⟨t, ht⟩ : ∃ t, Y + cy = t := ⟨_, rfl⟩
      have qt : (Y : Int) + (cy : Int) = (t : Int) := by omega
      rw [hY] at hxs
      have htb : t < 18446744073709551616 := by omega
      have HS := HI.out.step (x := x) (t := t) hxk (by rw [hY]; exact ht) (by omega)
      obtain ⟨T0, hT0⟩ : ∃ T0, t % 4294967296 = T0 := ⟨_, rfl⟩
      obtain ⟨T1, hT1⟩ : ∃ T1, t / 4294967296 = T1 := ⟨_, rfl⟩
      rw [hT0, hT1] at HS
      have qT0 : (t : Int) % 4294967296 = (T0 : Int) := by omega
      have qT0' : (t : Int).tmod 4294967296 = (T0 : Int) := by rw [Int.tmod_eq_emod_of_nonneg (by omega)]; exact qT0
      have qT1 : (t : Int) / 4294967296 = (T1 : Int) := by omega
      have hT0b : T0 < 18446744073709551616 := by omega
      have hT1b : T1 < 4294967296 := HS.car
      have HE := Lib.hid HS
      have hYb : Y < 18446744073709551616 := by omega
      have hu2 : Up wr (wr.alloc (.cells #[.int .u64 (T0 : Int)] 37)) := (Up.refl wr).alloc _
      have hown2 := Ow.up hown hu2
      have hw2 := lit1_wd wr T0 _ rfl hT0b
      clear hc hcA hxk hp hxs hY ht hT0 hT1 HS HI
      go_wp2_with (at_builtin; refine wpList_append_wd _ rfl (.tmp 28) (.tmp 31) _ rfl info_u64 w.heap.size Tryz.underlying22 _ (S + k) hs rfl hown2 _ _ 1 1 [T0] rfl hw2 (by omega) (Nat.le_trans hsz (Up.size hu2)) ?_; intro v3 w3 hown3 hg3 hat3)
      have hu3 : Up w w3 := (hu.trans hu2).grown hg3 (fun b hb => (World.ownsRow.lt hown2 b hb).1)
      go_roundw
      case rel => exact ⟨k + 1, T1, _, by omega, hT1b, by go_num, by go_num, hu3, hu3.size, hown3, HE⟩
      case measure => simp [intOf]; omega
    · have hkn : k = n := by omega
      subst hkn
      have HF := HI.out
      rw [← hxl.out] at HF
      obtain ⟨f1, f2⟩ := HF.fin HN.out
      have HV := Lib.hid f1
      have hu2 : Up wr (wr.alloc (.cells #[.int .u64 (cy : Int)] 37)) := (Up.refl wr).alloc _
      have hown2 := Ow.up hown hu2
      have hw2 := lit1_wd wr cy _ rfl (by omega)
      clear HF f1 hcA HI hown
      go_wp2_with (at_builtin; refine wpList_append_wd _ rfl (.tmp 35) (.tmp 37) _ rfl info_u64 w.heap.size Tryz.underlying22 _ (S + k) hs rfl hown2 _ _ 1 1 [cy] rfl hw2 (by omega) (Nat.le_trans hsz (Up.size hu2)) ?_; intro v3 w3 hown3 hg3 hat3)
      have hu3 : Up w w3 := (hu.trans hu2).grown hg3 (fun b hb => (World.ownsRow.lt hown2 b hb).1)
      obtain ⟨A3, c3, rfl, hwd3⟩ := Ow.wd hown3 f2.wds (by omega)
      refine (trim_hs _ _ (k + S + 1) _ _ _ _ hwd3 f2 _ HV (by omega)).mono ?_
      rintro _ _ ⟨v4, rfl, rfl, h4⟩
      go_wp2_with fail
      go_ret
      exact ⟨_, rfl, h4, hu3⟩

set_option maxHeartbeats 1000000 in
set_option maxRecDepth 100000 in
theorem rbits_any (w : World) (lo : Nat) (A : Option Addr) (n c : Nat) (xs : List Nat) (hx : Wd w lo A n c xs) (hh : M.Hs xs) (hn : n ≤ 100000000) (z : Int) (hz : Hid (((M.bits (M.vh xs) : Nat) : Int) = z)) :
    Calls Tryz.prog 34 #[.slice A n c] w (Same (.int .i64 z) w) := by
  go_enter Tryz.func34, Tryz.ntmps34
  go_wp2_with fail
  refine (rtrim_any w lo A n c xs hx).mono ?_
  rintro _ _ ⟨m, rfl, rfl, hm, hnm, hmn, hzz⟩
  have hv := M.vh_take hzz
  have HZ : Hid (((M.bits (M.vh (xs.take m)) : Nat) : Int) = z) := by rw [Hid, hv]; exact hz.out
  have hht := hh.take m
  have hml := hm.num
  obtain ⟨ys, hys⟩ : ∃ ys, xs.take m = ys := ⟨_, rfl⟩
  rw [hys] at hm hnm HZ hht hml
  have HML := Lib.hid hml
  clear hzz hv hz hh hx hys hml
  by_cases hm0 : m = 0
  · subst hm0
    have e : ys = [] := List.eq_nil_of_length_eq_zero HML.out
    have E : Hid (z = 0) := by
      have := HZ.out
      rw [e] at this
      exact this.symm
    clear e
    go_wp2_with fail
    go_ret
    exact ⟨ret_int E.out.symm, rfl⟩
  · obtain ⟨j, hj⟩ : ∃ j, m = j + 1 := ⟨m - 1, by omega⟩
    obtain ⟨b, o, rfl, _, hc⟩ := hm.at_ (by omega)
    obtain ⟨x, hxk⟩ : ∃ x, ys.getD j 0 = x := ⟨_, rfl⟩
    have hc1 := (hc j (by omega)).1
    rw [hxk] at hc1
    have hxb : x < 4294967296 := by rw [← hxk]; exact hht.getD j
    have hb := M.vh_top hht hnm (by rw [HML.out, hj]) hxk
    have HB : Hid (z = 32 * (j : Int) + (M.bits x : Nat)) := by
      have := HZ.out
      rw [hb] at this
      show z = _
      omega
    have q1 : (m : Int) - 1 = (j : Int) := by omega
    have l1 : j < m := by omega
    have t0 : ((m : Int) == 0) = false := by rw [beq_eq_false_iff_ne]; omega
    have hxbits : M.bits x ≤ 32 := M.bits_le_of_lt (by omega)
    have hst : Hid (0 + M.bits x = M.bits x) := by show _ = _; omega
    clear hc hxk hb hj hm0 HZ hht hnm hm HML
    go_wp2_with fail
    go_loop [3, 4] (fun nv xv => ∃ (t x' : Nat) (N : Int), nv = .int .i64 N ∧ N = 32 * (j : Int) + (t : Int) ∧ xv = u64 x' ∧ x' < 4294967296 ∧ t ≤ 32 ∧ Hid (t + M.bits x' = M.bits x)) (fun _ xv => (intOf xv).toNat)
    case atStart => exact ⟨0, x, _, rfl, by omega, rfl, hxb, by omega, hst⟩
    case round =>
      obtain ⟨t, x', N, rfl, hN, rfl, hx', ht, HT⟩ := hrel
      clear hst
      by_cases hx0 : x' = 0
      · subst hx0
        have ht2 : t = M.bits x := by have := HT.out; rw [M.bits_zero] at this; omega
        have HN : Hid (z = N) := by
          have := HB.out
          show z = N
          omega
        clear ht2 hN
        go_wp2_with fail
        go_ret
        exact ⟨ret_int HN.out.symm, rfl⟩
      · obtain ⟨h2, hh2⟩ : ∃ h2, x' / 2 = h2 := ⟨_, rfl⟩
        have qh : (x' : Int) / 2 = (h2 : Int) := by omega
        have hlt2 : h2 < x' := by omega
        have HT2 : Hid (t + 1 + M.bits h2 = M.bits x) := by
          have h3 := M.bits_half hx0
          rw [hh2] at h3
          have := HT.out
          show _ = _
          omega
        have ht3 : t + 1 ≤ 32 := by have := HT2.out; omega
        have hxp : 0 < x' := by omega
        have HNN := Lib.hid hN
        have hNb : N ≤ 3300000000 := by omega
        have hNb0 : 0 ≤ N := by omega
        clear hh2 hx0 hN
        go_wp2_with fail
        go_round
        case rel => exact ⟨t + 1, h2, N + 1, rfl, by have := HNN.out; omega, rfl, by omega, ht3, HT2⟩
        case measure => simp [intOf]; omega

set_option maxHeartbeats 1000000 in
theorem rbit_any (w : World) (lo : Nat) (A : Option Addr) (n c : Nat) (xs : List Nat) (hx : Wd w lo A n c xs) (hh : M.Hs xs) (k : Nat) (hk : k ≤ 1000000000000) (t : Bool) (ht : Hid ((M.vh xs).testBit k = t)) :
    Calls Tryz.prog 59 #[.slice A n c, .int .i64 k] w (Same (.bool t) w) := by
  obtain ⟨S, hS⟩ : ∃ S, k / 32 = S := ⟨_, rfl⟩
  obtain ⟨s, hs⟩ : ∃ s, k % 32 = s := ⟨_, rfl⟩
  have hs32 : s < 32 := by omega
  have q1 : (k : Int) / 32 = (S : Int) := by omega
  have q2 : (k : Int) % 32 = (s : Int) := by omega
  have q3 : (k : Int).tdiv 32 = (S : Int) := by rw [Int.tdiv_eq_ediv_of_nonneg (by omega)]; exact q1
  have q4 : (k : Int).tmod 32 = (s : Int) := by rw [Int.tmod_eq_emod_of_nonneg (by omega)]; exact q2
  have hg := get_any w lo A n c xs hx S (S : Int) rfl
  have hb := M.vh_bit hh k
  rw [hS, hs] at hb
  obtain ⟨x, hxk⟩ : ∃ x, xs.getD S 0 = x := ⟨_, rfl⟩
  rw [hxk] at hg hb
  have hxb : x < 4294967296 := by rw [← hxk]; exact hh.getD S
  obtain ⟨Y, hY⟩ : ∃ Y, x / 2 ^ s = Y := ⟨_, rfl⟩
  have qY : (x : Int) / 2 ^ s = (Y : Int) := by rw [← hY]; simp
  rw [hY, ht.out] at hb
  obtain ⟨T, hT⟩ : ∃ T, Y % 2 = T := ⟨_, rfl⟩
  have qT : (Y : Int) % 2 = (T : Int) := by omega
  have qT' : (Y : Int).tmod 2 = (T : Int) := by rw [Int.tmod_eq_emod_of_nonneg (by omega)]; exact qT
  have hT2 : T < 2 := by omega
  rw [hT] at hb
  have HB : Hid (((T : Int) == 1) = t) := by
    show _ = _
    rcases t with _ | _
    · simp at hb; rw [beq_eq_false_iff_ne]; omega
    · simp at hb; rw [hb]; rfl
  have CG := Lib.hid hg
  clear hS hs hxk hY hT hb hg hx hh ht
  go_enter Tryz.func59, Tryz.ntmps59
  go_wp2_with fail
  refine CG.out.mono ?_
  rintro _ _ ⟨rfl, rfl⟩
  go_wp2_with fail
  go_ret
  exact ⟨ret_bool HB.out, rfl⟩
theorem rbit_neg (w : World) (v : Value) (k : Int) (hk : k < 0) : Calls Tryz.prog 59 #[v, .int .i64 k] w (Same (.bool false) w) := by
  have hk2 : decide (0 ≤ k) = false := by simp; omega
  go_enter Tryz.func59, Tryz.ntmps59
  go_wp2_with fail
  go_ret
  exact ⟨rfl, rfl⟩
end Go.Proofs.YtjmnobgllnaljaaGreatDoor
/-
  The reference's calls, as the laws' walks use them.
-/
namespace Go.Proofs.YtjmnobgllnaljaaGreatDoor
open Go.RowKit Go.Shelf

theorem Nh.up {w w' : World} {lo s : Nat} {v : Value} {a : Nat} (h : Nh w lo s v a) (hu : Up w w') : Nh w' lo s v a := by
  obtain ⟨A, n, c, xs, e, h1, h2, h3, h4, h5⟩ := h
  exact ⟨A, n, c, xs, e, h1.up hu, h2, h3, h4, h5⟩
theorem Nh.more {w : World} {lo s s' : Nat} {v : Value} {a : Nat} (h : Nh w lo s v a) (hs : s ≤ s') : Nh w lo s' v a := by
  obtain ⟨A, n, c, xs, e, h1, h2, h3, h4, h5⟩ := h
  exact ⟨A, n, c, xs, e, h1, h2, h3, by omega, h5⟩
theorem one_nh (w : World) : Nh (w.alloc (.cells #[.int .u64 1] 37)) w.heap.size 1 (.slice (some ⟨w.heap.size, 0, none⟩) 1 1) 1 :=
  ⟨_, 1, 1, [1], rfl, lit1_wd w 1 1 rfl (by omega), fun x hx => by simp at hx; omega, rfl, by omega, by simp [M.Nrm]⟩
theorem times_of (w : World) (lo lo' s s' : Nat) (v v' : Value) (a b : Nat) (h : Nh w lo s v a) (h' : Nh w lo' s' v' b) (hs : s ≤ 100000000) (hs' : s' ≤ 100000000) :
    Calls Tryz.prog 50 #[v, v'] w (Rh (s + s' + 1) (a * b) w) := by
  obtain ⟨A, n, c, xs, rfl, h1, h2, h3, h4, h5⟩ := h
  obtain ⟨A', n', c', ys, rfl, k1, k2, k3, k4, k5⟩ := h'
  refine (times_any w lo lo' A A' n c n' c' xs ys h1 k1 h2 k2 (by omega) (by omega)).mono ?_
  rintro _ w' ⟨v, rfl, hv, hu⟩
  rw [h3, k3] at hv
  exact ⟨v, rfl, hv.more (by omega), hu⟩

theorem up_of (w : World) (lo s : Nat) (v : Value) (a : Nat) (h : Nh w lo s v a) (hs : s ≤ 100000000) (N : Nat) (K : Int) (hK : K = (N : Int)) (hN : N ≤ 10000000) :
    Calls Tryz.prog 57 #[v, .int .i64 K] w (Rh (s + N / 32 + 1) (a * 2 ^ N) w) := by
  subst hK
  obtain ⟨A, n, c, xs, rfl, h1, h2, h3, h4, h5⟩ := h
  refine (up_any w lo A n c xs h1 h2 (by omega) N hN).mono ?_
  rintro _ w' ⟨v, rfl, hv, hu⟩
  rw [h3] at hv
  exact ⟨v, rfl, hv.more (by omega), hu⟩
theorem rbits_of (w : World) (lo s : Nat) (v : Value) (a : Nat) (h : Nh w lo s v a) (hs : s ≤ 100000000) (z : Int) (hz : Hid (((M.bits a : Nat) : Int) = z)) : Calls Tryz.prog 34 #[v] w (Same (.int .i64 z) w) := by
  obtain ⟨A, n, c, xs, rfl, h1, h2, h3, h4, h5⟩ := h
  exact rbits_any w lo A n c xs h1 h2 (by omega) z (by rw [h3]; exact hz)
theorem rbit_of (w : World) (lo s : Nat) (v : Value) (a : Nat) (h : Nh w lo s v a) (k : Nat) (K : Int) (hK : K = (k : Int)) (hk : k ≤ 1000000000000) (t : Bool) (ht : Hid (a.testBit k = t)) : Calls Tryz.prog 59 #[v, .int .i64 K] w (Same (.bool t) w) := by
  subst hK
  obtain ⟨A, n, c, xs, rfl, h1, h2, h3, h4, h5⟩ := h
  exact rbit_any w lo A n c xs h1 h2 k hk t (by rw [h3]; exact ht)
theorem halves_of (w : World) (lo s : Nat) (v : Value) (a : Nat) (h : Nw w lo s v a) (hs : s ≤ 1000000000) : Calls Tryz.prog 23 #[v] w (Rh (2 * s) a w) := by
  obtain ⟨A, n, c, xs, rfl, h1, h2, h3⟩ := h
  refine (halves_any w lo A n c xs h1 (by omega)).mono ?_
  rintro _ w' ⟨v, rfl, hv, hu⟩
  rw [h2] at hv
  exact ⟨v, rfl, hv.more (by omega), hu⟩
end Go.Proofs.YtjmnobgllnaljaaGreatDoor
/-
  The reference's Plus, Minus, Words, Over: their reckoning.
-/
namespace Go.Proofs.YtjmnobgllnaljaaGreatDoor
open Go.RowKit Go.Shelf

namespace M
theorem Hs.snoc1 {hs : List Nat} {x : Nat} (h : Hs hs) (hx : x < 4294967296) : Hs (hs ++ [x]) := by
  intro y hy
  rw [List.mem_append, List.mem_singleton] at hy
  rcases hy with hy | hy
  · exact h y hy
  · rw [hy]; exact hx
theorem vh_snoc1 (hs : List Nat) (x : Nat) : vh (hs ++ [x]) = vh hs + 4294967296 ^ hs.length * x := by
  rw [vh_append]
  simp [vh]
theorem vh_lt1 : ∀ {hs : List Nat}, Hs hs → vh hs < 4294967296 ^ hs.length
  | [], _ => by simp [vh]
  | x :: r, h => by
    have h1 : x < 4294967296 := h x (by simp)
    have h2 := vh_lt1 (hs := r) (fun y hy => h y (by simp [hy]))
    rw [vh, List.length_cons, Nat.pow_succ]
    omega
/-- A sum, so far. -/
structure PlInv (xs ys : List Nat) (i cy : Nat) (hs : List Nat) : Prop where
  len : hs.length = i
  hw : Hs hs
  cy_le : cy ≤ 1
  eq : vh hs + 4294967296 ^ i * cy = vh (xs.take i) + vh (ys.take i)
theorem PlInv.start (xs ys : List Nat) : PlInv xs ys 0 0 [] := ⟨rfl, (fun _ h => by cases h), by omega, by simp [vh]⟩
theorem PlInv.step {xs ys hs : List Nat} {i cy x y t : Nat} (h : PlInv xs ys i cy hs) (hx : xs.getD i 0 = x) (hy : ys.getD i 0 = y) (bx : x < 4294967296) (b_y : y < 4294967296) (ht : x + y + cy = t) :
    PlInv xs ys (i + 1) (t / 4294967296) (hs ++ [t % 4294967296]) := by
  have hc := h.cy_le
  refine ⟨by simp [h.len], h.hw.snoc1 (Nat.mod_lt _ (by omega)), by omega, ?_⟩
  have e := h.eq
  rw [vh_snoc1, vh_take_succ, vh_take_succ, hx, hy, h.len]
  have e1 : 4294967296 ^ (i + 1) * (t / 4294967296) + 4294967296 ^ i * (t % 4294967296) = 4294967296 ^ i * t := by
    rw [Nat.pow_succ, Nat.mul_assoc, ← Nat.mul_add]
    congr 1
    omega
  have e2 : 4294967296 ^ i * t = 4294967296 ^ i * x + 4294967296 ^ i * y + 4294967296 ^ i * cy := by rw [← ht, Nat.mul_add, Nat.mul_add]
  omega
theorem PlInv.fin {xs ys hs : List Nat} {i : Nat} (h : PlInv xs ys i 0 hs) (h1 : xs.length ≤ i) (h2 : ys.length ≤ i) : vh hs = vh xs + vh ys := by
  have e := h.eq
  rw [List.take_of_length_le h1, List.take_of_length_le h2] at e
  omega
/-- A difference, so far. -/
structure MiInv (xs ys : List Nat) (i bo : Nat) (hs : List Nat) : Prop where
  len : hs.length = i
  hw : Hs hs
  bo_le : bo ≤ 1
  eq : vh hs + vh (ys.take i) = vh (xs.take i) + 4294967296 ^ i * bo
theorem MiInv.start (xs ys : List Nat) : MiInv xs ys 0 0 [] := ⟨rfl, (fun _ h => by cases h), by omega, by simp [vh]⟩
theorem MiInv.step {xs ys hs : List Nat} {i bo x y t : Nat} (h : MiInv xs ys i bo hs) (hx : xs.getD i 0 = x) (hy : ys.getD i 0 = y) (bx : x < 4294967296) (b_y : y < 4294967296) (ht : x + 4294967296 - y - bo = t) :
    MiInv xs ys (i + 1) (1 - t / 4294967296) (hs ++ [t % 4294967296]) := by
  have hc := h.bo_le
  refine ⟨by simp [h.len], h.hw.snoc1 (Nat.mod_lt _ (by omega)), by omega, ?_⟩
  have e := h.eq
  rw [vh_snoc1, vh_take_succ, vh_take_succ, hx, hy, h.len]
  obtain ⟨b', hb'⟩ : ∃ b', 1 - t / 4294967296 = b' := ⟨_, rfl⟩
  obtain ⟨m, hm⟩ : ∃ m, t % 4294967296 = m := ⟨_, rfl⟩
  have k : m + y + bo = x + 4294967296 * b' := by omega
  rw [hb', hm]
  have e1 : 4294967296 ^ i * (m + y + bo) = 4294967296 ^ i * (x + 4294967296 * b') := by rw [k]
  rw [Nat.mul_add, Nat.mul_add, Nat.mul_add, ← Nat.mul_assoc (4294967296 ^ i) 4294967296, ← Nat.pow_succ] at e1
  rw [Nat.succ_eq_add_one] at e1
  omega
theorem MiInv.fin {xs ys hs : List Nat} {i bo : Nat} (h : MiInv xs ys i bo hs) (h1 : xs.length = i) (hx : Hs xs) (hle : vh ys ≤ vh xs) : vh hs = vh xs - vh ys := by
  have e := h.eq
  have ex : xs.take i = xs := List.take_of_length_le (by omega)
  rw [ex] at e
  have hl := vh_lt1 h.hw
  have hxl := vh_lt1 hx
  rw [h.len] at hl
  rw [h1] at hxl
  have hsp : vh ys = vh (ys.take i) + 4294967296 ^ (ys.take i).length * vh (ys.drop i) := by
    conv => lhs; rw [← List.take_append_drop i ys]
    rw [vh_append]
  have hb : bo = 0 := by
    have := h.bo_le
    rcases (show bo = 0 ∨ bo = 1 by omega) with h0 | h0
    · exact h0
    · rw [h0, Nat.mul_one] at e
      omega
  rw [hb, Nat.mul_zero] at e
  rcases Nat.lt_or_ge i ys.length with h2 | h2
  · rw [List.length_take, Nat.min_eq_left (by omega)] at hsp
    rcases Nat.eq_zero_or_pos (vh (ys.drop i)) with h0 | h0
    · rw [h0, Nat.mul_zero] at hsp
      omega
    · have : 4294967296 ^ i * 1 ≤ 4294967296 ^ i * vh (ys.drop i) := Nat.mul_le_mul_left _ h0
      omega
  · have ey : ys.take i = ys := List.take_of_length_le h2
    rw [ey] at e
    omega
/-- Half words, two at a time. -/
structure WoInv (xs : List Nat) (k : Nat) (ws : List Nat) : Prop where
  len : ws.length = k
  wd : Wds ws
  eq : val ws = vh (xs.take (2 * k))
theorem WoInv.start (xs : List Nat) : WoInv xs 0 [] := ⟨rfl, Wds.nil, by simp [vh, val]⟩
theorem WoInv.step {xs ws : List Nat} {k x y t : Nat} (h : WoInv xs k ws) (hx : xs.getD (2 * k) 0 = x) (hy : xs.getD (2 * k + 1) 0 = y) (bx : x < 4294967296) (b_y : y < 4294967296) (ht : x + y * 4294967296 = t) : WoInv xs (k + 1) (ws ++ [t]) := by
  refine ⟨by simp [h.len], Wds.append h.wd (Wds.cons (by omega) Wds.nil), ?_⟩
  have e := h.eq
  rw [val_append, e, show 2 * (k + 1) = 2 * k + 1 + 1 by omega, vh_take_succ, vh_take_succ, hx, hy, h.len]
  have p : 18446744073709551616 ^ k = 4294967296 ^ (2 * k) := by rw [Nat.pow_mul]
  rw [p, show val [t] = t by simp [val], ← ht, Nat.mul_add, Nat.pow_succ, Nat.mul_assoc, Nat.mul_comm y, Nat.add_assoc]
theorem WoInv.fin {xs ws : List Nat} {k : Nat} (h : WoInv xs k ws) (h1 : xs.length ≤ 2 * k) : val ws = vh xs := by
  rw [h.eq, List.take_of_length_le h1]
/-- A long division, bit by bit, so far: the bits from i on. -/
structure OvInv (a b i r : Nat) (qs : List Nat) : Prop where
  re : r = a / 2 ^ i % b
  qe : vh qs = a / 2 ^ i / b * 2 ^ i
  hw : Hs qs
theorem OvInv.start {a b n : Nat} : OvInv a b (bits a) 0 (List.replicate n 0) := by
  have h0 : a / 2 ^ bits a = 0 := Nat.div_eq_of_lt (bits_lt a)
  refine ⟨by rw [h0, Nat.zero_mod], ?_, Hs.replicate n⟩
  rw [h0, Nat.zero_div, Nat.zero_mul]
  exact vh_noughts (fun j => by
    rw [List.getD_eq_getElem?_getD, List.getElem?_replicate]
    split <;> rfl)
theorem bit_next (a j : Nat) (t : Bool) (ht : a.testBit j = t) : a / 2 ^ j = 2 * (a / 2 ^ (j + 1)) + t.toNat := by
  rw [Nat.testBit_eq_decide_div_mod_eq] at ht
  rw [Nat.pow_succ, ← Nat.div_div_eq_div_mul]
  rcases t with _ | _
  · rw [decide_eq_false_iff_not] at ht
    show _ = _ + 0
    omega
  · rw [decide_eq_true_iff] at ht
    show _ = _ + 1
    omega
theorem OvInv.less {a b j r : Nat} {qs : List Nat} (h : OvInv a b (j + 1) r qs) (t : Bool) (ht : a.testBit j = t) (r' : Nat) (hr : r' = 2 * r + t.toNat) (hlt : r' < b) : OvInv a b j r' qs := by
  have e := bit_next a j t ht
  obtain ⟨A, hA⟩ : ∃ A, a / 2 ^ (j + 1) = A := ⟨_, rfl⟩
  have h1 := h.re
  have h2 := h.qe
  rw [hA] at h1 h2 e
  have hdm := Nat.div_add_mod A b
  rw [← h1] at hdm
  have e2 : a / 2 ^ j = b * (2 * (A / b)) + r' := by rw [e, hr, Nat.mul_left_comm]; omega
  have hb : 0 < b := by omega
  refine ⟨?_, ?_, h.hw⟩
  · rw [e2, Nat.mul_add_mod, Nat.mod_eq_of_lt hlt]
  · rw [e2, Nat.mul_add_div hb, Nat.div_eq_of_lt hlt, h2, Nat.pow_succ, Nat.add_zero, Nat.mul_comm (2 ^ j) 2, ← Nat.mul_assoc, Nat.mul_comm (A / b) 2]
theorem word_room {Q s c p : Nat} (hs : s < 32) (hc : Q * 2 ^ (32 * p + s + 1) / 4294967296 ^ p % 4294967296 = c) : c + 2 ^ s < 4294967296 := by
  have e1 : Q * 2 ^ (32 * p + s + 1) / 4294967296 ^ p = Q * 2 ^ (s + 1) := by
    rw [show (4294967296 : Nat) ^ p = 2 ^ (32 * p) by rw [Nat.pow_mul], Nat.add_assoc, Nat.pow_add, Nat.mul_left_comm, Nat.mul_div_cancel_left _ (Nat.pow_pos (by omega))]
  rw [e1] at hc
  have e2 : (4294967296 : Nat) = 2 ^ (31 - s) * 2 ^ (s + 1) := by rw [← Nat.pow_add, show 31 - s + (s + 1) = 32 by omega]
  have e3 : Q % 2 ^ (31 - s) * 2 ^ (s + 1) = c := by
    rw [← hc, e2, Nat.mul_mod_mul_right]
  have h1 : Q % 2 ^ (31 - s) < 2 ^ (31 - s) := Nat.mod_lt _ (Nat.pow_pos (by omega))
  have h2 : (Q % 2 ^ (31 - s) + 1) * 2 ^ (s + 1) ≤ 2 ^ (31 - s) * 2 ^ (s + 1) := Nat.mul_le_mul_right _ h1
  rw [Nat.add_mul, e3, ← e2, Nat.one_mul, Nat.pow_succ] at h2
  have h3 : 0 < 2 ^ s := Nat.pow_pos (by omega)
  omega
theorem OvInv.more {a b j r p s c : Nat} {qs : List Nat} (h : OvInv a b (j + 1) r qs) (t : Bool) (ht : a.testBit j = t) (r' : Nat) (hr : r' = 2 * r + t.toNat) (hge : b ≤ r') (hb : 0 < b) (hp : j / 32 = p) (hs : j % 32 = s) (hpl : p < qs.length) (hc : qs.getD p 0 = c) :
    c + 2 ^ s < 4294967296 ∧ r' - b < b ∧ OvInv a b j (r' - b) (qs.set p (c + 2 ^ s)) := by
  have e := bit_next a j t ht
  obtain ⟨A, hA⟩ : ∃ A, a / 2 ^ (j + 1) = A := ⟨_, rfl⟩
  have h1 := h.re
  have h2 := h.qe
  rw [hA] at h1 h2 e
  have hdm := Nat.div_add_mod A b
  rw [← h1] at hdm
  have hrb : r < b := by rw [h1]; exact Nat.mod_lt _ hb
  have htn : t.toNat ≤ 1 := by cases t <;> decide
  have e2 : a / 2 ^ j = b * (2 * (A / b) + 1) + (r' - b) := by rw [e, Nat.mul_add, Nat.mul_one, Nat.mul_left_comm]; omega
  have hlt : r' - b < b := by omega
  have hw := vh_getD h.hw p
  have hj : j + 1 = 32 * p + s + 1 := by omega
  rw [h2, hj, hc] at hw
  have hroom := word_room (by omega) hw
  refine ⟨hroom, hlt, ?_, ?_, h.hw.set p hroom⟩
  · rw [e2, Nat.mul_add_mod, Nat.mod_eq_of_lt hlt]
  · have hset := vh_set qs p (c + 2 ^ s) hpl
    rw [hc, Nat.mul_add, h2] at hset
    have e3 : (4294967296 : Nat) ^ p * 2 ^ s = 2 ^ j := by rw [show (4294967296 : Nat) ^ p = 2 ^ (32 * p) by rw [Nat.pow_mul], ← Nat.pow_add, show 32 * p + s = j by omega]
    rw [e2, Nat.mul_add_div hb, Nat.div_eq_of_lt hlt, Nat.add_zero, Nat.add_mul, Nat.one_mul]
    rw [Nat.pow_succ, Nat.mul_comm (2 ^ j) 2, ← Nat.mul_assoc, Nat.mul_comm (A / b) 2] at hset
    omega
theorem OvInv.fin {a b r : Nat} {qs : List Nat} (h : OvInv a b 0 r qs) : r = a % b ∧ vh qs = a / b := by
  have h1 := h.re
  have h2 := h.qe
  simp only [Nat.pow_zero, Nat.div_one, Nat.mul_one] at h1 h2
  exact ⟨h1, h2⟩
theorem hlen_of_lt {a : List Nat} {k : Nat} (h : Hs a) (hn : Nrm a) (hlt : vh a < 4294967296 ^ k) : a.length ≤ k := by
  rcases Nat.lt_or_ge k a.length with h1 | h1
  · exfalso
    have hne : a ≠ [] := by intro e; rw [e] at h1; simp at h1
    obtain ⟨b, x, rfl⟩ : ∃ b x, a = b ++ [x] := ⟨a.dropLast, a.getLast hne, (List.dropLast_concat_getLast hne).symm⟩
    have hx : x ≠ 0 := by
      intro e
      apply hn
      rw [e, List.getLast?_concat]
    rw [vh_snoc1] at hlt
    rw [List.length_append, List.length_singleton] at h1
    have h2 : 4294967296 ^ k ≤ 4294967296 ^ b.length := Nat.pow_le_pow_right (by omega) (by omega)
    have h3 : 4294967296 ^ b.length * 1 ≤ 4294967296 ^ b.length * x := Nat.mul_le_mul_left _ (Nat.pos_of_ne_zero hx)
    omega
  · exact h1
end M
theorem Nh.fit {w : World} {lo s k : Nat} {v : Value} {a : Nat} (h : Nh w lo s v a) (hk : a < 4294967296 ^ k) : Nh w lo k v a := by
  obtain ⟨A, n, c, xs, e, h1, h2, h3, h4, h5⟩ := h
  refine ⟨A, n, c, xs, e, h1, h2, h3, ?_, h5⟩
  rw [← h1.num]
  exact M.hlen_of_lt h2 h5 (by rw [h3]; exact hk)
theorem Nh.lt {w : World} {lo s : Nat} {v : Value} {a : Nat} (h : Nh w lo s v a) : a < 4294967296 ^ s := by
  obtain ⟨A, n, c, xs, e, h1, h2, h3, h4, h5⟩ := h
  have h6 := M.vh_lt1 h2
  rw [h3, h1.num] at h6
  exact Nat.lt_of_lt_of_le h6 (Nat.pow_le_pow_right (by omega) h4)
theorem Nh.lower {w : World} {lo lo' s : Nat} {v : Value} {a : Nat} (h : Nh w lo s v a) (hl : lo' ≤ lo) : Nh w lo' s v a := by
  obtain ⟨A, n, c, xs, e, h1, h2⟩ := h
  exact ⟨A, n, c, xs, e, h1.lower hl, h2⟩
end Go.Proofs.YtjmnobgllnaljaaGreatDoor
/-
  The reference of layer 2: Fives, Parts, Cmp.
-/
namespace Go.Proofs.YtjmnobgllnaljaaGreatDoor
open Go.RowKit Go.Shelf

theorem lit_nh (w : World) (x : Nat) (X : Int) (hX : X = (x : Int)) (hx : x < 4294967296) (h0 : x ≠ 0) : Nh (w.alloc (.cells #[.int .u64 X] 37)) w.heap.size 1 (.slice (some ⟨w.heap.size, 0, none⟩) 1 1) x :=
  ⟨_, 1, 1, [x], rfl, lit1_wd w x X hX (by omega), fun y hy => by simp at hy; omega, by simp [M.vh], by omega, by simp [M.Nrm, h0]⟩
theorem M.five_fit (n : Nat) : 5 ^ n < 4294967296 ^ (n + 1) := by
  have h1 : 5 ^ n ≤ 4294967296 ^ n := Nat.pow_le_pow_left (by omega) _
  have h2 : 4294967296 ^ n < 4294967296 ^ (n + 1) := Nat.pow_lt_pow_right (by omega) (by omega)
  omega

set_option maxHeartbeats 2000000 in
theorem fives_nat : ∀ (n : Nat) (w : World), n ≤ 20000 → Calls Tryz.prog 58 #[.int .i64 n] w (Rh (n + 1) (5 ^ n) w) := by
  intro n
  induction n using Nat.strongRecOn with
  | _ n ih =>
    intro w hn
    rcases Nat.eq_zero_or_pos n with h0 | h0
    · subst h0
      have key : Rh 1 (5 ^ 0) w (.returned (.slice (some ⟨w.heap.size, 0, none⟩) 1 1)) (w.alloc (.cells #[.int .u64 1] 37)) := ⟨_, rfl, lit_nh w 1 1 rfl (by omega) (by omega), (Up.refl w).alloc _⟩
      clear ih
      go_enter Tryz.func58, Tryz.ntmps58
      go_wp2_with fail
      go_ret
      exact key
    · obtain ⟨m, hm⟩ : ∃ m, n / 2 = m := ⟨_, rfl⟩
      have q1 : (n : Int) / 2 = (m : Int) := by omega
      have q2 : (n : Int).tdiv 2 = (m : Int) := by rw [Int.tdiv_eq_ediv_of_nonneg (by omega)]; exact q1
      have C := Lib.hid (ih m (by omega) w (by omega))
      have d0 : decide ((n : Int) ≤ 0) = false := decide_eq_false (by omega)
      clear ih
      rcases (show n % 2 = 0 ∨ n % 2 = 1 by omega) with hr | hr
      · have q3 : (n : Int) % 2 = 0 := by omega
        have q4 : (n : Int).tmod 2 = 0 := by rw [Int.tmod_eq_emod_of_nonneg (by omega)]; exact q3
        have E : Hid (5 ^ m * 5 ^ m = 5 ^ n) := by show _ = _; rw [← Nat.pow_add, show m + m = n by omega]
        clear hm hr
        go_enter Tryz.func58, Tryz.ntmps58
        go_wp2_with fail
        refine C.out.mono ?_
        rintro _ w1 ⟨v1, rfl, h1, u1⟩
        go_wp2_with fail
        refine (times_of w1 _ _ _ _ _ _ _ _ h1 h1 (by omega) (by omega)).mono ?_
        rintro _ w2 ⟨v2, rfl, h2, u2⟩
        rw [E.out] at h2
        go_wp2_with fail
        go_ret
        exact ⟨_, rfl, (h2.fit (M.five_fit n)).lower u1.size, u1.trans u2⟩
      · have q3 : (n : Int) % 2 = 1 := by omega
        have q4 : (n : Int).tmod 2 = 1 := by rw [Int.tmod_eq_emod_of_nonneg (by omega)]; exact q3
        have E : Hid (5 ^ m * 5 ^ m * 5 = 5 ^ n) := by show _ = _; rw [← Nat.pow_add, ← Nat.pow_succ, show (m + m).succ = n by omega]
        clear hm hr
        go_enter Tryz.func58, Tryz.ntmps58
        go_wp2_with fail
        refine C.out.mono ?_
        rintro _ w1 ⟨v1, rfl, h1, u1⟩
        go_wp2_with fail
        refine (times_of w1 _ _ _ _ _ _ _ _ h1 h1 (by omega) (by omega)).mono ?_
        rintro _ w2 ⟨v2, rfl, h2, u2⟩
        have U := u1.trans u2
        have sz := Up.size U
        clear u1 u2 h1
        go_wp2_with fail
        have u3 : Up w2 (w2.alloc (.cells #[.int .u64 5] 37)) := (Up.refl w2).alloc _
        refine (times_of _ _ _ _ _ _ _ _ _ (h2.up u3) (lit_nh w2 5 5 rfl (by omega) (by omega)) (by omega) (by omega)).mono ?_
        rintro _ w4 ⟨v4, rfl, h4, u4⟩
        rw [E.out] at h4
        replace U := (U.trans u3).trans u4
        have szz : w.heap.size ≤ (w2.alloc (.cells #[.int .u64 5] 37)).heap.size := Nat.le_trans sz (Up.size u3)
        clear u3 u4 h2
        go_wp2_with fail
        go_ret
        exact ⟨_, rfl, (h4.fit (M.five_fit n)).lower szz, U⟩
/-- 5 to a power, below 0 too. -/
theorem fives_any (w : World) (f : Int) (F : Nat) (hF : Hid (max f 0 = (F : Int))) (hb : F ≤ 20000) : Calls Tryz.prog 58 #[.int .i64 f] w (Rh (F + 1) (5 ^ F) w) := by
  have h := hF.out
  rcases (show f ≤ 0 ∨ 0 < f by omega) with h0 | h0
  · have e : F = 0 := by omega
    subst e
    have key : Rh 1 (5 ^ 0) w (.returned (.slice (some ⟨w.heap.size, 0, none⟩) 1 1)) (w.alloc (.cells #[.int .u64 1] 37)) := ⟨_, rfl, lit_nh w 1 1 rfl (by omega) (by omega), (Up.refl w).alloc _⟩
    have d0 : decide (f ≤ 0) = true := decide_eq_true h0
    clear h hF
    go_enter Tryz.func58, Tryz.ntmps58
    go_wp2_with fail
    go_ret
    exact key
  · have e : f = (F : Int) := by omega
    rw [e]
    exact fives_nat F w hb
/-- Two numbers of half words. -/
def Rh2 (s a s' b : Nat) (w : World) (e : Ending) (w' : World) : Prop := ∃ v1 v2, e = .returned (.tuple #[v1, v2]) ∧ Nh w' w.heap.size s v1 a ∧ Nh w' w.heap.size s' v2 b ∧ Up w w'
theorem halves_up (w w' : World) (lo s : Nat) (v : Value) (a : Nat) (h : Nw w lo s v a) (hu : Up w w') (hs : s ≤ 1000000000) : Calls Tryz.prog 23 #[v] w' (Rh (2 * s) a w') := halves_of w' lo s v a (h.up hu) hs
theorem up_up (w w' : World) (lo s : Nat) (v : Value) (a : Nat) (h : Nh w lo s v a) (hu : Up w w') (hs : s ≤ 100000000) (N : Nat) (K : Int) (hK : Hid (K = (N : Int))) (hN : N ≤ 10000000) :
    Calls Tryz.prog 57 #[v, .int .i64 K] w' (Rh (s + N / 32 + 1) (a * 2 ^ N) w') := up_of w' lo s v a (h.up hu) hs N K hK.out hN
theorem times_up (w w1 w2 : World) (lo lo' s s' : Nat) (v v' : Value) (a b : Nat) (h : Nh w lo s v a) (hu : Up w w2) (h' : Nh w1 lo' s' v' b) (hu1 : Up w1 w2) (hs : s ≤ 100000000) (hs' : s' ≤ 100000000) :
    Calls Tryz.prog 50 #[v, v'] w2 (Rh (s + s' + 1) (a * b) w2) := times_of w2 lo lo' s s' v v' a b (h.up hu) (h'.up hu1) hs hs'

set_option maxHeartbeats 4000000 in
set_option maxRecDepth 100000 in
theorem parts_any (w : World) (lo s : Nat) (neg : Bool) (v : Value) (t f : Int) (a : Nat) (h : Nw w lo s v a) (hs : s ≤ 100000) (T F T' F' : Nat)
    (hT : Hid (max t 0 = (T : Int))) (hF : Hid (max f 0 = (F : Int))) (hT' : Hid (max (-t) 0 = (T' : Int))) (hF' : Hid (max (-f) 0 = (F' : Int))) (b1 : T ≤ 20000) (b2 : F ≤ 20000) (b3 : T' ≤ 20000) (b4 : F' ≤ 20000) :
    Calls Tryz.prog 32 #[xv neg v t f] w (Rh2 (2 * s + F + T + 10) (a * 5 ^ F * 2 ^ T) (F' + T' + 10) (5 ^ F' * 2 ^ T') w) := by
  have rt : -20000 ≤ t ∧ t ≤ 20000 ∧ -20000 ≤ f ∧ f ≤ 20000 := by
    have := hT.out
    have := hF.out
    have := hT'.out
    have := hF'.out
    omega
  have w3' : IntKind.i64.wrap (-t) = -t := by simp [IntKind.wrap, IntKind.bits, IntKind.signed]; omega
  have w4' : IntKind.i64.wrap (-f) = -f := by simp [IntKind.wrap, IntKind.bits, IntKind.signed]; omega
  go_enter Tryz.func32, Tryz.ntmps32
  go_wp2_with fail
  obtain ⟨W, hW⟩ : ∃ W, w.alloc (.cells #[.bool neg, v, .int .i64 t, .int .i64 f] 46) = W := ⟨_, rfl⟩
  have hu : Up w W := by rw [← hW]; exact (Up.refl w).alloc _
  have c1 : W.cell? ⟨w.heap.size, 1, none⟩ = some v := by rw [← hW]; simp
  have c2 : W.cell? ⟨w.heap.size, 2, none⟩ = some (.int .i64 t) := by rw [← hW]; simp
  have c3 : W.cell? ⟨w.heap.size, 3, none⟩ = some (.int .i64 f) := by rw [← hW]; simp
  have bz := World.block_lt_of_cell? _ _ c1
  simp only at bz
  rw [hW]
  clear hW
  have hh := h.up hu
  clear h
  have HHa := Lib.hid (fun w' (hu : Up W w') => halves_up W w' lo s v a hh hu (by omega))
  have HFa := Lib.hid (fun w' (_ : Up W w') => fives_any w' f F hF b2)
  have HFb := Lib.hid (fun w' (_ : Up W w') => fives_any w' (-f) F' hF' b4)
  go_region_held3 (fun w' => w'.cell? ⟨w.heap.size, 1, none⟩ = some v ∧ w'.cell? ⟨w.heap.size, 2, none⟩ = some (.int .i64 t) ∧ w'.cell? ⟨w.heap.size, 3, none⟩ = some (.int .i64 f)) (go_keep) (first
    | (go_at_call 23; (with_reducible refine (HHa.out _ ?_).mono ?_); (first | with_reducible assumption | exact (Up.refl _).drewN 1); rintro _ wA ⟨vA, rfl, hA, hua⟩; have uA : Up W wA := Up.trans (by first | with_reducible assumption | exact (Up.refl W).drewN 1) hua; have a1 := cell_up uA c1; have a2 := cell_up uA c2; have a3 := cell_up uA c3)
    | (go_at_call 58; (with_reducible refine (HFa.out _ ?_).mono ?_); (first | with_reducible assumption | exact (Up.refl _).drewN 1); rintro _ wB ⟨vB, rfl, hB, hub⟩; have uB : Up W wB := Up.trans (by first | with_reducible assumption | exact (Up.refl W).drewN 1) hub; have b1 := cell_up uB c1; have b2 := cell_up uB c2; have b3 := cell_up uB c3)
    | (go_at_call 50; (with_reducible refine (times_up _ _ _ _ _ _ _ _ _ _ _ hA hub hB (Up.refl _) (by omega) (by omega)).mono ?_); rintro _ wC ⟨vC, rfl, hC, huc⟩; have uC : Up W wC := Up.trans (by first | with_reducible assumption | exact (Up.refl W).drewN 1) huc; have cc1 := cell_up uC c1; have cc2 := cell_up uC c2; have cc3 := cell_up uC c3)
    | (go_at_call 57; (with_reducible refine (up_up _ _ _ _ _ _ hC (Up.refl _) (by omega) T _ hT (by omega)).mono ?_); rintro _ wD ⟨vD, rfl, hD, hud⟩; have uD : Up W wD := Up.trans (by first | with_reducible assumption | exact (Up.refl W).drewN 1) hud; have e1 := cell_up uD c1; have e2 := cell_up uD c2; have e3 := cell_up uD c3))
  all_goals
    clear a1 a2 a3 b1 b2 b3 cc1 cc2 cc3
    have HD : Nh wD W.heap.size (2 * s + F + T + 10) vD (a * 5 ^ F * 2 ^ T) := (hD.lower (Up.size uC)).more (by omega)
    clear hA hB hC hD hua hub huc hud uA uB uC
    go_wp2_with fail
    go_region_held3 (fun w' => w'.cell? ⟨w.heap.size, 2, none⟩ = some (.int .i64 t) ∧ w'.cell? ⟨w.heap.size, 3, none⟩ = some (.int .i64 f)) (go_keep) (first
      | (go_at_call 58; (with_reducible refine (HFb.out _ ?_).mono ?_); (first | with_reducible assumption | exact uD.drewN 1); rintro _ wE ⟨vE, rfl, hE, hue⟩; have uE : Up W wE := Up.trans (by first | with_reducible assumption | exact uD.drewN 1) hue; have k2 := cell_up uE c2; have k3 := cell_up uE c3)
      | (go_at_call 57; (with_reducible refine (up_up _ _ _ _ _ _ hE (Up.refl _) (by omega) T' _ hT' (by omega)).mono ?_); rintro _ wF ⟨vF, rfl, hF', huf⟩; have uF : Up W wF := Up.trans (by first | with_reducible assumption | exact uD.drewN 1) huf; have l2 := cell_up uF c2; have l3 := cell_up uF c3))
    all_goals
      have uDF : Up wD wF := by first | exact ((Up.refl _).drewN 1).trans (hue.trans huf) | exact hue.trans huf
      go_wp2_with fail
      go_ret2
      exact ⟨_, _, rfl, (HD.up uDF).lower (by have := Up.size hu; omega), (hF'.lower (by have := Up.size hu; have := Up.size uE; omega)).more (by omega), hu.trans uF⟩

namespace M
theorem scale_ov {a : Nat} {t f m k2 k5 : Int} {E2 E5 x2 x5 y2 y5 : Nat} (h2 : (E2 : Int) = t + k2) (h5 : (E5 : Int) = f + k5) (hm : m ≤ t) (hm' : m ≤ f) (e2 : (x2 : Int) + k2 = y2 - m) (e5 : (x5 : Int) + k5 = y5 - m) :
    a * 5 ^ E5 * 2 ^ E2 * (5 ^ x5 * 2 ^ x2) = ov a t f m * (5 ^ y5 * 2 ^ y2) := by
  unfold ov
  have q2 : E2 + x2 = (t - m).toNat + y2 := by omega
  have q5 : E5 + x5 = (f - m).toNat + y5 := by omega
  have p2 : (2 : Nat) ^ E2 * 2 ^ x2 = 2 ^ (t - m).toNat * 2 ^ y2 := by rw [← Nat.pow_add, ← Nat.pow_add, q2]
  have p5 : (5 : Nat) ^ E5 * 5 ^ x5 = 5 ^ (f - m).toNat * 5 ^ y5 := by rw [← Nat.pow_add, ← Nat.pow_add, q5]
  calc a * 5 ^ E5 * 2 ^ E2 * (5 ^ x5 * 2 ^ x2) = a * (5 ^ E5 * 5 ^ x5) * (2 ^ E2 * 2 ^ x2) := by ac_rfl
    _ = a * (5 ^ (f - m).toNat * 5 ^ y5) * (2 ^ (t - m).toNat * 2 ^ y2) := by rw [p2, p5]
    _ = _ := by ac_rfl
theorem cmp_ref {a b T F T' F' T2 F2 T2' F2' : Nat} {t f t' f' m : Int} (m1 : m ≤ t) (m2 : m ≤ f) (m3 : m ≤ t') (m4 : m ≤ f')
    (hT : max t 0 = (T : Int)) (hF : max f 0 = (F : Int)) (hT' : max (-t) 0 = (T' : Int)) (hF' : max (-f) 0 = (F' : Int)) (hT2 : max t' 0 = (T2 : Int)) (hF2 : max f' 0 = (F2 : Int)) (hT2' : max (-t') 0 = (T2' : Int)) (hF2' : max (-f') 0 = (F2' : Int)) :
    cmp (a * 5 ^ F * 2 ^ T * (5 ^ F2' * 2 ^ T2')) (b * 5 ^ F2 * 2 ^ T2 * (5 ^ F' * 2 ^ T')) = cmp (ov a t f m) (ov b t' f' m) := by
  obtain ⟨k2, hk2⟩ : ∃ k : Int, (T' : Int) + T2' = k := ⟨_, rfl⟩
  obtain ⟨k5, hk5⟩ : ∃ k : Int, (F' : Int) + F2' = k := ⟨_, rfl⟩
  obtain ⟨x2, y2, e2⟩ : ∃ x y : Nat, (x : Int) + k2 = y - m := ⟨(-m - k2).toNat, (m + k2).toNat, by omega⟩
  obtain ⟨x5, y5, e5⟩ : ∃ x y : Nat, (x : Int) + k5 = y - m := ⟨(-m - k5).toNat, (m + k5).toNat, by omega⟩
  have hx : 0 < 5 ^ x5 * 2 ^ x2 := Nat.mul_pos (Nat.pow_pos (by omega)) (Nat.pow_pos (by omega))
  have hy : 0 < 5 ^ y5 * 2 ^ y2 := Nat.mul_pos (Nat.pow_pos (by omega)) (Nat.pow_pos (by omega))
  have l1 : a * 5 ^ F * 2 ^ T * (5 ^ F2' * 2 ^ T2') = a * 5 ^ (F + F2') * 2 ^ (T + T2') := by rw [Nat.pow_add, Nat.pow_add]; ac_rfl
  have l2 : b * 5 ^ F2 * 2 ^ T2 * (5 ^ F' * 2 ^ T') = b * 5 ^ (F2 + F') * 2 ^ (T2 + T') := by rw [Nat.pow_add, Nat.pow_add]; ac_rfl
  rw [l1, l2, ← cmp_times _ _ _ hx, scale_ov (t := t) (f := f) (m := m) (k2 := k2) (k5 := k5) (y2 := y2) (y5 := y5) (by omega) (by omega) m1 m2 e2 e5,
    scale_ov (t := t') (f := f') (m := m) (k2 := k2) (k5 := k5) (y2 := y2) (y5 := y5) (by omega) (by omega) m3 m4 e2 e5, cmp_times _ _ _ hy]
end M
theorem rcmp_of (w : World) (lo lo' s s' : Nat) (v v' : Value) (a b : Nat) (h : Nh w lo s v a) (h' : Nh w lo' s' v' b) (z : Int) (hz : Hid (M.cmp a b = z)) : Calls Tryz.prog 51 #[v, v'] w (Same (.int .i64 z) w) := by
  obtain ⟨A, n, c, xs, rfl, h1, h2, h3, h4, h5⟩ := h
  obtain ⟨A', n', c', ys, rfl, k1, k2, k3, k4, k5⟩ := h'
  have := rcmp_any w lo lo' A A' n c n' c' xs ys h1 k1 h2 k2
  rwa [h3, k3, hz.out] at this

set_option maxHeartbeats 4000000 in
set_option maxRecDepth 100000 in
theorem rxcmp_any (m : Int) (w : World) (lo lo' s s' : Nat) (neg neg' : Bool) (v v' : Value) (t f t' f' : Int) (a b : Nat) (h : Nw w lo s v a) (h' : Nw w lo' s' v' b) (hs : s ≤ 100000) (hs' : s' ≤ 100000)
    (bt : m ≤ t ∧ -20000 ≤ t ∧ t ≤ 20000) (bf : m ≤ f ∧ -20000 ≤ f ∧ f ≤ 20000) (bt' : m ≤ t' ∧ -20000 ≤ t' ∧ t' ≤ 20000) (bf' : m ≤ f' ∧ -20000 ≤ f' ∧ f' ≤ 20000) (z : Int) (hz : Hid (M.cmp (M.ov a t f m) (M.ov b t' f' m) = z)) :
    Calls Tryz.prog 26 #[xv neg v t f, xv neg' v' t' f'] w (Num z w) := by
  obtain ⟨T, hT⟩ : ∃ T : Nat, max t 0 = (T : Int) := ⟨(max t 0).toNat, by omega⟩
  obtain ⟨F, hF⟩ : ∃ T : Nat, max f 0 = (T : Int) := ⟨(max f 0).toNat, by omega⟩
  obtain ⟨T', hT'⟩ : ∃ T : Nat, max (-t) 0 = (T : Int) := ⟨(max (-t) 0).toNat, by omega⟩
  obtain ⟨F', hF'⟩ : ∃ T : Nat, max (-f) 0 = (T : Int) := ⟨(max (-f) 0).toNat, by omega⟩
  obtain ⟨T2, hT2⟩ : ∃ T : Nat, max t' 0 = (T : Int) := ⟨(max t' 0).toNat, by omega⟩
  obtain ⟨F2, hF2⟩ : ∃ T : Nat, max f' 0 = (T : Int) := ⟨(max f' 0).toNat, by omega⟩
  obtain ⟨T2', hT2'⟩ : ∃ T : Nat, max (-t') 0 = (T : Int) := ⟨(max (-t') 0).toNat, by omega⟩
  obtain ⟨F2', hF2'⟩ : ∃ T : Nat, max (-f') 0 = (T : Int) := ⟨(max (-f') 0).toNat, by omega⟩
  have HZ : Hid (M.cmp (a * 5 ^ F * 2 ^ T * (5 ^ F2' * 2 ^ T2')) (b * 5 ^ F2 * 2 ^ T2 * (5 ^ F' * 2 ^ T')) = z) := by
    rw [Hid, M.cmp_ref (m := m) bt.1 bf.1 bt'.1 bf'.1 hT hF hT' hF' hT2 hF2 hT2' hF2']
    exact hz.out
  have B1 : T ≤ 20000 ∧ F ≤ 20000 ∧ T' ≤ 20000 ∧ F' ≤ 20000 := by omega
  have B2 : T2 ≤ 20000 ∧ F2 ≤ 20000 ∧ T2' ≤ 20000 ∧ F2' ≤ 20000 := by omega
  have PA := Lib.hid (fun w' (hu : Up w w') => parts_any w' lo s neg v t f a (h.up hu) hs T F T' F' hT hF hT' hF' B1.1 B1.2.1 B1.2.2.1 B1.2.2.2)
  have PB := Lib.hid (fun w' (hu : Up w w') => parts_any w' lo' s' neg' v' t' f' b (h'.up hu) hs' T2 F2 T2' F2' hT2 hF2 hT2' hF2' B2.1 B2.2.1 B2.2.2.1 B2.2.2.2)
  clear hT hF hT' hF' hT2 hF2 hT2' hF2' bt bf bt' bf' hz h h'
  go_enter Tryz.func26, Tryz.ntmps26
  go_wp2_with fail
  obtain ⟨W, hW⟩ : ∃ W, (w.alloc (.cells #[.bool neg, v, .int .i64 t, .int .i64 f] 46)).alloc (.cells #[.bool neg', v', .int .i64 t', .int .i64 f'] 46) = W := ⟨_, rfl⟩
  have U : Up w W := by rw [← hW]; exact ((Up.refl w).alloc _).alloc _
  have d0 : W.cell? ⟨w.heap.size + 1, 0, none⟩ = some (.bool neg') := by rw [← hW]; simp
  have d1 : W.cell? ⟨w.heap.size + 1, 1, none⟩ = some v' := by rw [← hW]; simp
  have d2 : W.cell? ⟨w.heap.size + 1, 2, none⟩ = some (.int .i64 t') := by rw [← hW]; simp
  have d3 : W.cell? ⟨w.heap.size + 1, 3, none⟩ = some (.int .i64 f') := by rw [← hW]; simp
  rw [hW]
  clear hW
  refine (PA.out _ U).mono ?_
  rintro _ w1 ⟨p, q, rfl, np, nq, u1⟩
  replace d0 := cell_up u1 d0
  replace d1 := cell_up u1 d1
  replace d2 := cell_up u1 d2
  replace d3 := cell_up u1 d3
  replace U := U.trans u1
  clear u1
  go_wp2_with fail
  refine (PB.out _ U).mono ?_
  rintro _ w2 ⟨r, s2, rfl, nr, ns, u2⟩
  replace np := np.up u2
  replace nq := nq.up u2
  replace U := U.trans u2
  clear u2 d0 d1 d2 d3
  go_wp2_with fail
  refine (times_of w2 _ _ _ _ _ _ _ _ np ns (by omega) (by omega)).mono ?_
  rintro _ w3 ⟨x, rfl, nx, u3⟩
  replace nr := nr.up u3
  replace nq := nq.up u3
  replace U := U.trans u3
  clear u3
  go_wp2_with fail
  refine (times_of w3 _ _ _ _ _ _ _ _ nr nq (by omega) (by omega)).mono ?_
  rintro _ w4 ⟨y, rfl, ny, u4⟩
  replace nx := nx.up u4
  replace U := U.trans u4
  clear u4
  go_wp2_with fail
  refine (rcmp_of w4 _ _ _ _ _ _ _ _ nx ny z HZ).mono ?_
  rintro _ _ ⟨rfl, rfl⟩
  go_wp2_with fail
  go_ret
  exact ⟨rfl, U⟩
end Go.Proofs.YtjmnobgllnaljaaGreatDoor
