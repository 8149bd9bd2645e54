import Derived.Test.YtijpffgocookaaaGreatDoorQWWc
import Derived.OwnWalk
import Derived.BigQuiet
import Derived.Deep.RegionHeld3
import Derived.Deep.DrawnRows
import Derived.Deep.DeepCutAuto
import Derived.Deep.RegionLaw
import Derived.Deep.QuietTactic
import Derived.LoopTactic
import Derived.Test.YtijpffgocookaaaGreatDoorQWObm
set_option maxHeartbeats 32000000
set_option linter.unusedVariables false
set_option linter.unusedSimpArgs false
namespace Go.Proofs.YtijpffgocookaaaGreatDoor
open Go.RowKit Go.Shelf
theorem lit_rb (W : World) (y : Bool) : Rb (W.alloc (.cells #[.bool y] 4)) W.heap.size (some ⟨W.heap.size, 0, none⟩) 1 1 [y] :=
 Obw.rb_ (show Obw _ _ _ 1 [y] from World.ownsRow_lit W #[.bool y] 1 (Nat.le_refl _) (by simp only [maxLen]; omega) rfl)
theorem Rb.cell {w : World} {lo bb oo n c : Nat} {l : List Bool} (h : Rb w lo (some ⟨bb, oo, none⟩) n c l) {j : Nat} (hj : j < n) : w.cell? ⟨bb, oo + j, none⟩ = some (.bool (l.getD j false)) := by
 obtain ⟨b, o, e, _, hc⟩ := h.at_ (by omega)
 injection e with e
 injection e with e1 e2
 subst e1 e2
 exact (hc j hj).1
theorem Rb.form {w : World} {lo n c : Nat} {A : Option Addr} {l : List Bool} (h : Rb w lo A n c l) (hn : 0 < n) : ∃ bb oo, A = some ⟨bb, oo, none⟩ ∧ lo ≤ bb := by
 obtain ⟨b, o, e, hb, _⟩ := h.at_ hn
 exact ⟨b, o, e, hb⟩
def Rrb (l : List Bool) (w : World) (e : Ending) (w' : World) : Prop := ∃ A c, e = .returned (.slice A l.length c) ∧ Rb w' w.heap.size A l.length c l ∧ Up w w'
theorem M.drop_tr {l : List Bool} {k : Nat} (h : k < l.length) : l.drop k = l.getD k false :: l.drop (k + 1) := by
 rw [List.getD_eq_getElem?_getD, List.getElem?_eq_getElem h, List.drop_eq_getElem_cons h]; rfl
set_option maxRecDepth 100000 in
theorem turned15_any (w : World) (lo : Nat) (A : Option Addr) (n c : Nat) (l : List Bool) (h : Rb w lo A n c l) (hn : n ≤ 1000000) :
  Calls Tryz.prog 51 #[.slice A n c] w (Rrb (M.tqn false l) w) := by
 have b1 := h.len
 have hst : Obw (w.alloc (.cells #[] 4)) w.heap.size (.slice (some ⟨w.heap.size, 0, none⟩) 0 0) 0 [] := World.ownsRow_lit w #[] 0 (Nat.le_refl _) (by simp only [maxLen]; omega) rfl
 go_enter Tryz.func51, Tryz.ntmps51
 go_wp2_with fail
 go_loopw [3, 4, 5] (fun sv se i wr => ∃ (k : Nat) (hs : List Bool) (sn : Bool), k ≤ n ∧ i = .int .i64 k ∧ se = .bool sn ∧ Up w wr ∧ Obw wr w.heap.size sv k hs ∧ Hid (hs ++ M.tqn sn (l.drop k) = M.tqn false l)) (fun _ _ i _ => n - (intOf i).toNat)
 case atStart => exact ⟨0, [], false, by omega, rfl, rfl, (Up.refl w).alloc _, hst, rfl⟩
 case round =>
  obtain ⟨k, hs, sn, hk, rfl, rfl, hu, hown, HH⟩ := hrel
  clear hst
  by_cases hlt : k < n
  ·obtain ⟨bb, oo, rfl, _⟩ := h.form (by omega)
   have hc1 := (h.up hu).cell hlt
   have hc3 := fun W (u : Up w W) => (h.up u).cell hlt
   have hl := h.num
   have HE := HH.out
   rw [M.drop_tr (l := l) (k := k) (by omega)] at HE
   obtain ⟨x, hx⟩ : ∃ x, l.getD k false = x := ⟨_, rfl⟩
   rw [hx] at hc1 HE hc3
   have HC := Lib.hid hc3
   clear hx HH hc3
   rcases (show x = true ∨ x = false by cases x <;> simp) with rfl | rfl <;> rcases (show sn = true ∨ sn = false by cases sn <;> simp) with rfl | rfl
   all_goals
    have HF := Lib.hid HE
    clear HE
    go_upto_region 7 with (at_builtin; refine wpList_append_rb _ rfl (.tmp 13) (.tmp 20) 40 rfl info_bool w.heap.size Tryz.underlying40 _ k hs rfl (hown.up ((Up.refl _).alloc _)) _ _ 1 1 [_] rfl (lit_rb _ _) (by omega) (by have := hu.size; simp; omega) ?_; intro v3 w3 hown3 hg3 hat3)
    have hu3 : Up w w3 := (hu.alloc _).grown hg3 (fun b hb => (World.ownsRow.lt hown b hb).1)
    have hc4 := HC.out _ hu3
    clear hc1 hg3 hat3 hown
    go_wp2_with fail
    go_roundw
    case rel => exact ⟨k + 1, _, _, by omega, by go_num, rfl, hu3, hown3, by have e := HF.out; show _ = _; rw [← e, M.tqn, List.append_assoc]; rfl⟩
    case measure => simp [intOf]; omega
  ·obtain rfl : k = n := by omega
   obtain ⟨A2, c2, rfl, hr⟩ := Obw.rb hown
   have e := HH.out
   rw [List.drop_of_length_le (by rw [h.num]; exact Nat.le_refl _), M.tqn, List.append_nil] at e
   subst e
   have hl := hr.num
   clear HH hown
   go_wp2_with fail
   go_ret
   refine ⟨A2, c2, ?_, by rw [hl]; exact hr, hu⟩
   show Ending.returned (Value.slice A2 k c2) = _
   rw [hl]
section
variable {P : Program} (w : World)
theorem step_append_rb {ops : Array Oper} {o : Oper} {a : Act} {K : Act → World → Prop} {Q : Exit → Act → World → Prop} {E : Prop} (hgd : o.guard = none) (s x : Operand) (t : TypeId)
  (ho : o.op = .call { callee := .builtin .append, args := #[s, x], argTypes := #[t, t] })
  (hP : (P.info? 4).map (fun i => (i.zero, i.size, i.bytes)) = some (some (.bool false), 1, 1)) (base : Nat) (ht : P.underlying t = some (.slice 4))
  (v : Value) (n : Nat) (xs : List Bool) (hs : a.eval s = v) (hown : Obw w base v n xs) (lo : Nat) (A : Option Addr) (m c : Nat) (ys : List Bool) (hx : a.eval x = .slice A m c) (hy : Rb w lo A m c ys)
  (hn : n + m ≤ 1099511627776) (hbase : base ≤ w.heap.size)
  (h : ∀ v' w', Obw w' base v' (n + m) (xs ++ ys) → w.grownBy w' v.ownBlock → (v'.ownBlock = v.ownBlock ∨ v'.ownBlock = some w.heap.size) → K (a.put o.dst v') w') :
  if Region.wanted o (yielded ops a.tmps) = true then Oper.wp P o a w K Q else E := by
 have hw : Region.wanted o (yielded ops a.tmps) = true := by simp [Region.wanted, hgd]
 rw [if_pos hw]
 obtain ⟨v', w', hr, h2, h3, h4⟩ := append_rb (P := P) w hP base t o.type ht v n xs hown lo A m c ys hy hn hbase
 unfold Oper.wp execOp
 simp only [ho, resolve, invoke, builtin, Sem.run_bind, Sem.run_pure, Result.andThen_ok, List.map_toArray, List.map_cons, List.map_nil, hs, hx, hr]
 exact h v' w' h2 h3 h4
end
set_option maxRecDepth 100000 in
theorem sum15_any (w : World) (lo lo' : Nat) (A B : Option Addr) (n c d : Nat) (l m : List Bool) (h : Rb w lo A n c l) (g : Rb w lo' B n d m) (hn : n ≤ 1000000) :
  Calls Tryz.prog 52 #[.slice A n c, .slice B n d] w (Rrb (M.sqm false l m) w) := by
 have b1 := h.len
 have b2 := g.len
 have hst : Obw (w.alloc (.cells #[] 4)) w.heap.size (.slice (some ⟨w.heap.size, 0, none⟩) 0 0) 0 [] := World.ownsRow_lit w #[] 0 (Nat.le_refl _) (by simp only [maxLen]; omega) rfl
 go_enter Tryz.func52, Tryz.ntmps52
 go_wp2_with fail
 go_loopw [5, 6, 7] (fun sv se i wr => ∃ (k : Nat) (hs : List Bool) (sn : Bool), k ≤ n ∧ i = .int .i64 k ∧ se = .bool sn ∧ Up w wr ∧ w.heap.size ≤ wr.heap.size ∧ Obw wr w.heap.size sv k hs ∧ Hid (hs ++ M.sqm sn (l.drop k) (m.drop k) = M.sqm false l m)) (fun _ _ i _ => n - (intOf i).toNat)
 case atStart => exact ⟨0, [], false, by omega, rfl, rfl, (Up.refl w).alloc _, by simp, hst, rfl⟩
 case round =>
  obtain ⟨k, hs, sn, hk, rfl, rfl, hu, hsz, hown, HH⟩ := hrel
  clear hst
  by_cases hlt : k < n
  ·obtain ⟨bb, oo, rfl, _⟩ := h.form (by omega)
   obtain ⟨bc, oc, rfl, _⟩ := g.form (by omega)
   have hc1 := (h.up hu).cell hlt
   have hc2 := (g.up hu).cell hlt
   have hc3 := fun W (u : Up w W) => (h.up u).cell hlt
   have hc4 := fun W (u : Up w W) => (g.up u).cell hlt
   have hl := h.num
   have hm := g.num
   have HE := HH.out
   rw [M.drop_tr (l := l) (k := k) (by omega), M.drop_tr (l := m) (k := k) (by omega)] at HE
   obtain ⟨x, hx⟩ : ∃ x, l.getD k false = x := ⟨_, rfl⟩
   obtain ⟨y, hy⟩ : ∃ y, m.getD k false = y := ⟨_, rfl⟩
   rw [hx] at hc1 HE hc3
   rw [hy] at hc2 HE hc4
   have HC := Lib.hid hc3
   have HD := Lib.hid hc4
   clear hx hy HH hc3 hc4
   rw [M.sqm] at HE
   rcases (show x = true ∨ x = false by cases x <;> simp) with rfl | rfl <;> rcases (show y = true ∨ y = false by cases y <;> simp) with rfl | rfl <;> rcases (show sn = true ∨ sn = false by cases sn <;> simp) with rfl | rfl
   ·have HF := Lib.hid HE
    clear HE
    go_wp2_with fail
    have hu2 : Up wr (wr.alloc (.cells #[.bool true] 4)).drew := ((Up.refl wr).alloc _).drewN 1
    have hown2 := Obw.up hown hu2
    have hw2 := (lit_rb wr true).up ((Up.refl (wr.alloc (.cells #[.bool true] 4))).drewN 1)
    go_region_law (refine step_append_rb _ rfl (.tmp 15) (.tmp 27) 40 rfl info_bool w.heap.size Tryz.underlying40 _ k hs (by simp [Act.eval]) hown2 _ _ 1 1 [true] (by simp [Act.eval]) hw2 (by omega) (Nat.le_trans hsz (Up.size hu2)) ?_; intro v3 w3 hown3 hg3 hat3)
    all_goals
     have hu3 : Up w w3 := (hu.trans hu2).grown hg3 (fun b hb => (World.ownsRow.lt hown2 b hb).1)
     have hc5 := HC.out _ hu3
     have hc6 := HD.out _ hu3
     clear hc1 hc2 hg3 hat3 hown hown2 hw2 hu2
     go_wp2_with fail
     go_roundw
     case rel => exact ⟨k + 1, _, _, by omega, by go_num, rfl, hu3, hu3.size, hown3, by have e := HF.out; show _ = _; rw [← e, List.append_assoc]; rfl⟩
     case measure => simp [intOf]; omega
   ·have HF := Lib.hid HE
    clear HE
    go_wp2_with fail
    have hu2 : Up wr (wr.alloc (.cells #[.bool false] 4)).drew := ((Up.refl wr).alloc _).drewN 1
    have hown2 := Obw.up hown hu2
    have hw2 := (lit_rb wr false).up ((Up.refl (wr.alloc (.cells #[.bool false] 4))).drewN 1)
    go_region_law (refine step_append_rb _ rfl (.tmp 15) (.tmp 27) 40 rfl info_bool w.heap.size Tryz.underlying40 _ k hs (by simp [Act.eval]) hown2 _ _ 1 1 [false] (by simp [Act.eval]) hw2 (by omega) (Nat.le_trans hsz (Up.size hu2)) ?_; intro v3 w3 hown3 hg3 hat3)
    all_goals
     have hu3 : Up w w3 := (hu.trans hu2).grown hg3 (fun b hb => (World.ownsRow.lt hown2 b hb).1)
     have hc5 := HC.out _ hu3
     have hc6 := HD.out _ hu3
     clear hc1 hc2 hg3 hat3 hown hown2 hw2 hu2
     go_wp2_with fail
     go_roundw
     case rel => exact ⟨k + 1, _, _, by omega, by go_num, rfl, hu3, hu3.size, hown3, by have e := HF.out; show _ = _; rw [← e, List.append_assoc]; rfl⟩
     case measure => simp [intOf]; omega
   ·have HF := Lib.hid HE
    clear HE
    go_wp2_with fail
    have hu2 : Up wr (wr.alloc (.cells #[.bool false] 4)).drew := ((Up.refl wr).alloc _).drewN 1
    have hown2 := Obw.up hown hu2
    have hw2 := (lit_rb wr false).up ((Up.refl (wr.alloc (.cells #[.bool false] 4))).drewN 1)
    go_region_law (refine step_append_rb _ rfl (.tmp 15) (.tmp 27) 40 rfl info_bool w.heap.size Tryz.underlying40 _ k hs (by simp [Act.eval]) hown2 _ _ 1 1 [false] (by simp [Act.eval]) hw2 (by omega) (Nat.le_trans hsz (Up.size hu2)) ?_; intro v3 w3 hown3 hg3 hat3)
    all_goals
     have hu3 : Up w w3 := (hu.trans hu2).grown hg3 (fun b hb => (World.ownsRow.lt hown2 b hb).1)
     have hc5 := HC.out _ hu3
     have hc6 := HD.out _ hu3
     clear hc1 hc2 hg3 hat3 hown hown2 hw2 hu2
     go_wp2_with fail
     go_roundw
     case rel => exact ⟨k + 1, _, _, by omega, by go_num, rfl, hu3, hu3.size, hown3, by have e := HF.out; show _ = _; rw [← e, List.append_assoc]; rfl⟩
     case measure => simp [intOf]; omega
   ·have HF := Lib.hid HE
    clear HE
    go_wp2_with fail
    have hu2 : Up wr (wr.alloc (.cells #[.bool true] 4)).drew := ((Up.refl wr).alloc _).drewN 1
    have hown2 := Obw.up hown hu2
    have hw2 := (lit_rb wr true).up ((Up.refl (wr.alloc (.cells #[.bool true] 4))).drewN 1)
    go_region_law (refine step_append_rb _ rfl (.tmp 15) (.tmp 27) 40 rfl info_bool w.heap.size Tryz.underlying40 _ k hs (by simp [Act.eval]) hown2 _ _ 1 1 [true] (by simp [Act.eval]) hw2 (by omega) (Nat.le_trans hsz (Up.size hu2)) ?_; intro v3 w3 hown3 hg3 hat3)
    all_goals
     have hu3 : Up w w3 := (hu.trans hu2).grown hg3 (fun b hb => (World.ownsRow.lt hown2 b hb).1)
     have hc5 := HC.out _ hu3
     have hc6 := HD.out _ hu3
     clear hc1 hc2 hg3 hat3 hown hown2 hw2 hu2
     go_wp2_with fail
     go_roundw
     case rel => exact ⟨k + 1, _, _, by omega, by go_num, rfl, hu3, hu3.size, hown3, by have e := HF.out; show _ = _; rw [← e, List.append_assoc]; rfl⟩
     case measure => simp [intOf]; omega
   ·have HF := Lib.hid HE
    clear HE
    go_wp2_with fail
    have hu2 : Up wr (wr.alloc (.cells #[.bool false] 4)).drew := ((Up.refl wr).alloc _).drewN 1
    have hown2 := Obw.up hown hu2
    have hw2 := (lit_rb wr false).up ((Up.refl (wr.alloc (.cells #[.bool false] 4))).drewN 1)
    go_region_law (refine step_append_rb _ rfl (.tmp 15) (.tmp 27) 40 rfl info_bool w.heap.size Tryz.underlying40 _ k hs (by simp [Act.eval]) hown2 _ _ 1 1 [false] (by simp [Act.eval]) hw2 (by omega) (Nat.le_trans hsz (Up.size hu2)) ?_; intro v3 w3 hown3 hg3 hat3)
    all_goals
     have hu3 : Up w w3 := (hu.trans hu2).grown hg3 (fun b hb => (World.ownsRow.lt hown2 b hb).1)
     have hc5 := HC.out _ hu3
     have hc6 := HD.out _ hu3
     clear hc1 hc2 hg3 hat3 hown hown2 hw2 hu2
     go_wp2_with fail
     go_roundw
     case rel => exact ⟨k + 1, _, _, by omega, by go_num, rfl, hu3, hu3.size, hown3, by have e := HF.out; show _ = _; rw [← e, List.append_assoc]; rfl⟩
     case measure => simp [intOf]; omega
   ·have HF := Lib.hid HE
    clear HE
    go_wp2_with fail
    have hu2 : Up wr (wr.alloc (.cells #[.bool true] 4)).drew := ((Up.refl wr).alloc _).drewN 1
    have hown2 := Obw.up hown hu2
    have hw2 := (lit_rb wr true).up ((Up.refl (wr.alloc (.cells #[.bool true] 4))).drewN 1)
    go_region_law (refine step_append_rb _ rfl (.tmp 15) (.tmp 27) 40 rfl info_bool w.heap.size Tryz.underlying40 _ k hs (by simp [Act.eval]) hown2 _ _ 1 1 [true] (by simp [Act.eval]) hw2 (by omega) (Nat.le_trans hsz (Up.size hu2)) ?_; intro v3 w3 hown3 hg3 hat3)
    all_goals
     have hu3 : Up w w3 := (hu.trans hu2).grown hg3 (fun b hb => (World.ownsRow.lt hown2 b hb).1)
     have hc5 := HC.out _ hu3
     have hc6 := HD.out _ hu3
     clear hc1 hc2 hg3 hat3 hown hown2 hw2 hu2
     go_wp2_with fail
     go_roundw
     case rel => exact ⟨k + 1, _, _, by omega, by go_num, rfl, hu3, hu3.size, hown3, by have e := HF.out; show _ = _; rw [← e, List.append_assoc]; rfl⟩
     case measure => simp [intOf]; omega
   ·have HF := Lib.hid HE
    clear HE
    go_wp2_with fail
    have hu2 : Up wr (wr.alloc (.cells #[.bool true] 4)).drew := ((Up.refl wr).alloc _).drewN 1
    have hown2 := Obw.up hown hu2
    have hw2 := (lit_rb wr true).up ((Up.refl (wr.alloc (.cells #[.bool true] 4))).drewN 1)
    go_region_law (refine step_append_rb _ rfl (.tmp 15) (.tmp 27) 40 rfl info_bool w.heap.size Tryz.underlying40 _ k hs (by simp [Act.eval]) hown2 _ _ 1 1 [true] (by simp [Act.eval]) hw2 (by omega) (Nat.le_trans hsz (Up.size hu2)) ?_; intro v3 w3 hown3 hg3 hat3)
    all_goals
     have hu3 : Up w w3 := (hu.trans hu2).grown hg3 (fun b hb => (World.ownsRow.lt hown2 b hb).1)
     have hc5 := HC.out _ hu3
     have hc6 := HD.out _ hu3
     clear hc1 hc2 hg3 hat3 hown hown2 hw2 hu2
     go_wp2_with fail
     go_roundw
     case rel => exact ⟨k + 1, _, _, by omega, by go_num, rfl, hu3, hu3.size, hown3, by have e := HF.out; show _ = _; rw [← e, List.append_assoc]; rfl⟩
     case measure => simp [intOf]; omega
   ·have HF := Lib.hid HE
    clear HE
    go_wp2_with fail
    have hu2 : Up wr (wr.alloc (.cells #[.bool false] 4)).drew := ((Up.refl wr).alloc _).drewN 1
    have hown2 := Obw.up hown hu2
    have hw2 := (lit_rb wr false).up ((Up.refl (wr.alloc (.cells #[.bool false] 4))).drewN 1)
    go_region_law (refine step_append_rb _ rfl (.tmp 15) (.tmp 27) 40 rfl info_bool w.heap.size Tryz.underlying40 _ k hs (by simp [Act.eval]) hown2 _ _ 1 1 [false] (by simp [Act.eval]) hw2 (by omega) (Nat.le_trans hsz (Up.size hu2)) ?_; intro v3 w3 hown3 hg3 hat3)
    all_goals
     have hu3 : Up w w3 := (hu.trans hu2).grown hg3 (fun b hb => (World.ownsRow.lt hown2 b hb).1)
     have hc5 := HC.out _ hu3
     have hc6 := HD.out _ hu3
     clear hc1 hc2 hg3 hat3 hown hown2 hw2 hu2
     go_wp2_with fail
     go_roundw
     case rel => exact ⟨k + 1, _, _, by omega, by go_num, rfl, hu3, hu3.size, hown3, by have e := HF.out; show _ = _; rw [← e, List.append_assoc]; rfl⟩
     case measure => simp [intOf]; omega
  ·obtain rfl : k = n := by omega
   obtain ⟨A2, c2, rfl, hr⟩ := Obw.rb hown
   have e := HH.out
   rw [List.drop_of_length_le (by rw [h.num]; exact Nat.le_refl _), M.sqm, List.append_nil] at e
   subst e
   have hl := hr.num
   clear HH hown
   go_wp2_with fail
   go_ret
   refine ⟨A2, c2, ?_, by rw [hl]; exact hr, hu⟩
   show Ending.returned (Value.slice A2 k c2) = _
   rw [hl]
end Go.Proofs.YtijpffgocookaaaGreatDoor
namespace Go.Proofs.YtijpffgocookaaaGreatDoor
open Go.RowKit Go.Shelf
def M.nr15 (S : Nat) : List Bool := List.replicate (S - 1) false ++ [true]
theorem M.nr15_len {S : Nat} (h : 0 < S) : (M.nr15 S).length = S := by simp [M.nr15]; omega
theorem M.nr15_bq (S : Nat) : M.bq (M.nr15 S) = 2 ^ (S - 1) := M.bq_top _
theorem M.nr15_get {S j : Nat} (h : j < S) : (M.nr15 S).getD j false = decide (j + 1 = S) := by
 unfold M.nr15
 rw [List.getD_eq_getElem?_getD]
 by_cases e : j + 1 = S
 ·rw [List.getElem?_append_right (by simp; omega), decide_eq_true e]
  simp
  rw [show j - (S - 1) = 0 by omega]; rfl
 ·rw [List.getElem?_append_left (by simp; omega), decide_eq_false e, List.getElem?_replicate_of_lt (by omega)]; rfl
set_option maxRecDepth 100000 in
theorem nar15_any (w : World) (S : Nat) (h0 : 0 < S) (hS : S ≤ 1000000) : Calls Tryz.prog 49 #[.int .i64 (S : Int)] w (Rrb (M.nr15 S) w) := by
 have q1 : (S : Int) - 1 = ((S - 1 : Nat) : Int) := by omega
 obtain ⟨T, hT⟩ : ∃ T, S - 1 = T := ⟨_, rfl⟩
 rw [hT] at q1
 have hTS : T < S := by omega
 go_enter Tryz.func49, Tryz.ntmps49
 go_upto_region 2 with (at_make; refine wpList_make_rb _ rfl (.tmp 4) (.tmp 4) 40 rfl info_bool Tryz.underlying40 (S : Int) (S : Int) S rfl rfl (by omega) (by omega) (by omega) ?_; intro w1 hown1 hg1)
 have hu1 : Up w w1 := (Up.refl w).grown hg1 (by simp)
 have hc := hown1.cellAt T (by omega)
 have hf := hown1.frozenAt T
 rw [cb_get (by simpa using hTS)] at hc
 go_wp2_with fail
 obtain ⟨h1, _⟩ := hown1.stored T (.bool true)
 rw [cb_set] at h1
 have hu2 : Up w (w1.setCell ⟨w.heap.size, T, none⟩ (.bool true)) := hu1.setCell (Nat.le_refl _) _
 have hl : (List.replicate S false).set T true = M.nr15 S := by
  unfold M.nr15
  rw [hT]
  apply List.ext_getElem?
  intro i
  by_cases e : i = T
  ·subst e
   rw [List.getElem?_set_self (by simpa using hTS), List.getElem?_append_right (by simp)]
   simp
  ·rw [List.getElem?_set_ne (by omega)]
   by_cases e2 : i < T
   ·rw [List.getElem?_append_left (by simpa using e2), List.getElem?_replicate_of_lt (by omega), List.getElem?_replicate_of_lt e2]
   ·rw [List.getElem?_eq_none (by simp; omega), List.getElem?_eq_none (by simp; omega)]
 rw [hl] at h1
 have hr := Obw.rb_ h1
 go_ret
 refine ⟨_, S, ?_, by rw [M.nr15_len h0]; exact hr, hu2⟩
 show Ending.returned (Value.slice (some ⟨w.heap.size, 0, none⟩) S S) = _
 rw [M.nr15_len h0]
def Rq (w : World) (q : Nat) (f W : Int) (A : Option Addr) (S c : Nat) : Prop := Ob w q 42 #[.int .i64 f, .int .i64 W, .slice A S c]
def Bt (r : Bool) (w : World) (e : Ending) (w' : World) : Prop := e = .returned (.bool r) ∧ Up w w'
set_option maxRecDepth 100000 in
theorem nar15_is (w : World) (q lo : Nat) (f W : Int) (A : Option Addr) (S c : Nat) (l : List Bool) (hq : Rq w q f W A S c) (h : Rb w lo A S c l) (h0 : 0 < S) (hS : S ≤ 1000000) (r : Bool) (hr : Hid (decide (l = M.nr15 S) = r)) :
    Calls Tryz.prog 27 #[.pointer (some ⟨q, 0, none⟩)] w (Bt r w) := by
  obtain ⟨bb, oo, rfl, _⟩ := h.form h0
  have hl := h.num
  have b1 := h.len
  go_enter Tryz.func27, Tryz.ntmps27
  go_wp2_with fail
  go_loopw [3] (fun i wr => ∃ (k : Nat), k ≤ S ∧ i = .int .i64 k ∧ Up w wr ∧ Hid (∀ j, j < k → l.getD j false = (M.nr15 S).getD j false)) (fun i _ => S - (intOf i).toNat)
  case atStart => exact ⟨0, by omega, rfl, Up.refl w, fun j hj => by omega⟩
  case round =>
    obtain ⟨k, hk, rfl, hu, HH⟩ := hrel
    have hq2 := hq.up hu
    have c2 := hq2.get 2
    simp only [M.z7, M.z8, M.z9] at c2
    by_cases hlt : k < S
    · have hc1 := (h.up hu).cell hlt
      obtain ⟨x, hx⟩ : ∃ x, l.getD k false = x := ⟨_, rfl⟩
      obtain ⟨y, hy⟩ : ∃ y, (M.nr15 S).getD k false = y := ⟨_, rfl⟩
      have hy2 := M.nr15_get hlt
      rw [hy] at hy2
      rw [hx] at hc1
      have e1 : ((k : Int) == (S : Int) - 1) = y := by
        rw [hy2, Bool.eq_iff_iff, beq_iff_eq, decide_eq_true_iff]; omega
      have e2 : decide ((k : Int) = (S : Int) - 1) = y := by
        rw [hy2, Bool.eq_iff_iff, decide_eq_true_iff, decide_eq_true_iff]; omega
      have HX := Lib.hid hx
      have HY := Lib.hid hy
      clear hx hy hy2
      by_cases hxy : x = y
      · subst hxy
        have HN : Hid (∀ j, j < k + 1 → l.getD j false = (M.nr15 S).getD j false) := fun j hj => by
          rcases Nat.lt_or_eq_of_le (Nat.le_of_lt_succ hj) with h | rfl
          · exact HH.out j h
          · rw [HX.out, HY.out]
        clear HH HX HY hr
        rcases (show x = true ∨ x = false by cases x <;> simp) with rfl | rfl
        all_goals
          go_wp2_with fail
          go_region
          all_goals
            go_wp2_with fail
            go_roundw
            case rel => exact ⟨k + 1, by omega, by go_num, by first | exact hu | exact hu.drew | exact hu.drewN _, HN⟩
            case measure => simp [intOf]; omega
      · obtain rfl : r = false := by
          rw [← hr.out]
          refine decide_eq_false (fun e => hxy ?_)
          rw [← HX.out, ← HY.out, e]
        clear HH HX HY hr
        rcases (show x = true ∨ x = false by cases x <;> simp) with rfl | rfl <;> rcases (show y = true ∨ y = false by cases y <;> simp) with rfl | rfl
        all_goals first
          | exact absurd rfl hxy
          | (clear hxy
             go_wp2_with fail
             go_region
             all_goals
               go_wp2_with fail
               go_ret
               exact ⟨rfl, by first | exact hu | exact hu.drew | exact hu.drewN _⟩)
    · obtain rfl : k = S := by omega
      obtain rfl : r = true := by
        rw [← hr.out]
        refine decide_eq_true (List.ext_getElem? fun j => ?_)
        by_cases hj : j < k
        · have := HH.out j hj
          rw [List.getD_eq_getElem?_getD, List.getD_eq_getElem?_getD, List.getElem?_eq_getElem (by omega), List.getElem?_eq_getElem (by rw [M.nr15_len h0]; exact hj)] at this
          rw [List.getElem?_eq_getElem (by omega), List.getElem?_eq_getElem (by rw [M.nr15_len h0]; exact hj)]
          exact congrArg some this
        · rw [List.getElem?_eq_none (by omega), List.getElem?_eq_none (by rw [M.nr15_len h0]; omega)]
      clear HH hr
      go_wp2_with fail
      go_ret
      exact ⟨rfl, by first | exact hu | exact hu.drew | exact hu.drewN _⟩
namespace M
theorem word_low {zs : List Nat} (h : Wds zs) {d s : Nat} (hs : s < 64) (hv : val zs < 2 ^ (64 * d + s)) : zs.getD d 0 < 2 ^ s := by
 refine Nat.lt_pow_two_of_testBit _ (fun j hj => ?_)
 by_cases hj64 : j < 64
 ·have := testBit_word h (64 * d + j)
  rw [show (64 * d + j) / 64 = d by omega, show (64 * d + j) % 64 = j by omega] at this
  rw [← this]
  exact Nat.testBit_lt_two_pow (Nat.lt_of_lt_of_le hv (Nat.pow_le_pow_right (by decide) (by omega)))
 ·have h1 := h.getD d
  have c : (18446744073709551616 : Nat) = 2 ^ 64 := by decide
  rw [c] at h1
  exact Nat.testBit_lt_two_pow (Nat.lt_of_lt_of_le h1 (Nat.pow_le_pow_right (by decide) (by omega)))
theorem bq_take_succ {l : List Bool} {k : Nat} (h : k < l.length) : bq (l.take (k + 1)) = bq (l.take k) + (l.getD k false).toNat * 2 ^ k := by
 have e : l.take (k + 1) = l.take k ++ [l.getD k false] := by
  rw [List.take_add_one, List.getElem?_eq_getElem h, List.getD_eq_getElem?_getD, List.getElem?_eq_getElem h]; rfl
 rw [e, bq_append, List.length_take, Nat.min_eq_left (by omega), bq, bq, Nat.mul_zero, Nat.add_zero, Nat.mul_comm]
theorem bq_take_lt (l : List Bool) (k : Nat) : bq (l.take k) < 2 ^ k := by
 refine Nat.lt_of_lt_of_le (bq_lt _) (Nat.pow_le_pow_right (by decide) ?_)
 rw [List.length_take]; omega
end M
set_option maxRecDepth 100000 in
theorem number15_any (w : World) (lo : Nat) (A : Option Addr) (n c : Nat) (l : List Bool) (h : Rb w lo A n c l) (hn : n ≤ 1000000) :
  Calls Tryz.prog 31 #[.slice A n c] w (Res ((n + 63) / 64) (M.bq l) w) := by
 have b1 := h.len
 obtain ⟨L, hL⟩ : ∃ L, (n + 63) / 64 = L := ⟨_, rfl⟩
 have q1 : ((n : Int) + 63).tdiv 64 = (L : Int) := by rw [Int.tdiv_eq_ediv_of_nonneg (by omega)]; omega
 have q2 : ((n : Int) + 63) / 64 = (L : Int) := by omega
 have bL : L ≤ 100000 := by omega
 rw [hL]
 have HL := Lib.hid hL
 clear hL
 go_enter Tryz.func31, Tryz.ntmps31
 go_wp2_with (at_make; refine wpList_make_wd _ rfl (.tmp 8) (.tmp 8) 32 rfl info_u64 Tryz.underlying32 (L : Int) (L : Int) L rfl rfl (by omega) (by omega) (by omega) ?_; intro w1 hown1 hg1)
 have hu1 : Up w w1 := (Up.refl w).grown hg1 (by simp)
 go_loopw [4] (fun i wr => ∃ (k : Nat) (zs : List Nat), k ≤ n ∧ i = .int .i64 k ∧ Up w wr ∧ Ow wr w.heap.size (.slice (some ⟨w.heap.size, 0, none⟩) L L) L zs ∧ M.Wds zs ∧ Hid (M.val zs = M.bq (l.take k))) (fun i _ => n - (intOf i).toNat)
 case atStart => exact ⟨0, _, by omega, rfl, hu1, hown1, M.Wds.replicate _, by show _ = _; rw [List.take_zero, M.bq]; exact M.val_replicate L⟩
 case round =>
  obtain ⟨k, zs, hk, rfl, hu, hown, hwd, HV⟩ := hrel
  clear hown1 hg1 hu1
  have hzl := hown.num
  by_cases hlt : k < n
  ·have hL0 := HL.out
   obtain ⟨bb, oo, rfl, _⟩ := h.form (by omega)
   have hc1 := (h.up hu).cell hlt
   have hl := h.num
   obtain ⟨x, hx⟩ : ∃ x, l.getD k false = x := ⟨_, rfl⟩
   have HE : Hid (M.bq (l.take (k + 1)) = M.val zs + x.toNat * 2 ^ k) := by
    show _ = _
    rw [M.bq_take_succ (by omega), hx, HV.out]
   rw [hx] at hc1
   obtain ⟨d, hd⟩ : ∃ d, k / 64 = d := ⟨_, rfl⟩
   obtain ⟨s, hs⟩ : ∃ s, k % 64 = s := ⟨_, rfl⟩
   have hdn : d < L := by omega
   have hs64 : s < 64 := by omega
   have hks : 64 * d + s = k := by omega
   have hlow := M.word_low (zs := zs) hwd (d := d) (s := s) hs64 (by rw [HV.out, hks]; exact M.bq_take_lt l k)
   have r1 : (k : Int).tdiv 64 = (d : Int) := by rw [Int.tdiv_eq_ediv_of_nonneg (by omega)]; omega
   have r2 : (k : Int) / 64 = (d : Int) := by omega
   have r3 : (k : Int).tmod 64 = (s : Int) := by rw [Int.tmod_eq_emod_of_nonneg (by omega)]; omega
   have r4 : (k : Int) % 64 = (s : Int) := by omega
   obtain ⟨z, hz⟩ : ∃ z, zs.getD d 0 = z := ⟨_, rfl⟩
   obtain ⟨P, hP⟩ : ∃ P, (2 : Nat) ^ s = P := ⟨_, rfl⟩
   have hp63 : (2 : Nat) ^ s ≤ 2 ^ 63 := Nat.pow_le_pow_right (by decide) (by omega)
   have c63 : (2 : Nat) ^ 63 = 9223372036854775808 := by decide
   rw [hz, hP] at hlow
   rw [hP, c63] at hp63
   have r5 : (2 : Int) ^ s = (P : Int) := by rw [← hP]; push_cast; rfl
   obtain ⟨Z, hZ⟩ : ∃ Z, z + P = Z := ⟨_, rfl⟩
   have r6 : (z : Int) + (P : Int) = (Z : Int) := by omega
   have hset := M.val_set zs d Z (by omega)
   rw [hz] at hset
   have HS : Hid (M.val (zs.set d Z) = M.val zs + 1 * 2 ^ k) := by
    show _ = _
    have e : (18446744073709551616 : Nat) ^ d * Z = 18446744073709551616 ^ d * z + 2 ^ k := by
     rw [← hZ, Nat.mul_add, ← hP, ← hks, Nat.pow_add, Nat.pow_mul]
    omega
   have hcz := hown.cellAt d (by omega)
   rw [cu_get (by omega), hz] at hcz
   have hfz := hown.frozenAt d
   have hZb : Z < 18446744073709551616 := by omega
   clear hset hks hz hP hZ hx hd hs hL0 hl
   rcases (show x = true ∨ x = false by cases x <;> simp) with rfl | rfl
   ·go_wp2_with fail
    go_roundw
    case rel =>
     obtain ⟨h1, _⟩ := hown.stored d (u64 Z)
     rw [cu_set] at h1
     exact ⟨k + 1, _, by omega, by go_num, hu.setCell (Nat.le_refl _) _, h1, hwd.set _ hZb, by show _ = _; rw [HS.out, HE.out]; rfl⟩
    case measure => simp [intOf]; omega
   ·go_wp2_with fail
    go_roundw
    case rel => exact ⟨k + 1, zs, by omega, by go_num, hu, hown, hwd, by show _ = _; rw [HE.out]; simp⟩
    case measure => simp [intOf]; omega
  ·obtain rfl : k = n := by omega
   have e := HV.out
   rw [List.take_of_length_le (by rw [h.num]; exact Nat.le_refl _)] at e
   have HW := Lib.hid e
   have hW := Ow.wd_ hown hwd (by omega)
   clear e HV
   have hsz := hu.size
   go_wp2_with fail
   go_loop [3] (fun s => ∃ m : Nat, m ≤ L ∧ s = .slice (some ⟨w.heap.size, 0, none⟩) m L ∧ ∀ j, m ≤ j → j < L → zs.getD j 0 = 0) (fun s => lenOf s)
   case atStart => exact ⟨L, Nat.le_refl _, rfl, fun j _ _ => by omega⟩
   case round =>
    obtain ⟨m, hm, rfl, hz⟩ := hrel
    have HZ := Lib.hid hz
    clear hz
    by_cases hm0 : m = 0
    ·subst hm0
     go_wp2_with fail
     go_ret
     refine ⟨_, rfl, ⟨_, 0, L, [], rfl, ?_, ?_, Nat.zero_le _, M.Nrm.nil⟩, hu⟩
     ·exact Wd.nil _ _ _ _
     ·rw [← HW.out, ← M.val_take_noughts (m := 0) (by omega) (fun j h1 h2 => HZ.out j h1 (by omega)), List.take_zero]
    ·obtain ⟨x, hx⟩ : ∃ x, zs.getD (m - 1) 0 = x := ⟨_, rfl⟩
     have hcm := hown.cellAt (m - 1) (by omega)
     rw [cu_get (by omega), hx] at hcm
     have HX := Lib.hid hx
     obtain ⟨M1, hM1⟩ : ∃ M1, m - 1 = M1 := ⟨_, rfl⟩
     have q3 : (m : Int) - 1 = (M1 : Int) := by omega
     rw [hM1] at hcm
     have q4 : M1 < m := by omega
     have q5 : 0 < m := by omega
     have HM := Lib.hid hM1
     clear hx hM1 hm0
     by_cases hx0 : x = 0
     ·have d1 : ((x : Int) == 0) = true := by simpa using hx0
      go_wp2_with fail
      go_round
      case rel =>
       refine ⟨M1, by omega, rfl, fun j h1 h2 => ?_⟩
       by_cases hj : j = m - 1
       ·rw [hj, HX.out, hx0]
       ·exact HZ.out j (by have := HM.out; omega) h2
      case measure => simp [lenOf]; omega
     ·have d1 : ((x : Int) == 0) = false := by simpa using hx0
      go_wp2_with fail
      go_ret
      refine ⟨_, rfl, ⟨_, m, L, zs.take m, rfl, hW.take hm, ?_, hm, M.Nrm.take (by omega) (fun _ => by rw [HX.out]; exact hx0)⟩, hu⟩
      rw [M.val_take_noughts (by omega) (fun j h1 h2 => HZ.out j h1 (by omega)), HW.out]
def Rqs (w : World) (q : Nat) (f W : Int) (S : Nat) (l : List Bool) : Prop :=
 ∃ A c, Rq w q f W A S c ∧ Rb w 0 A S c l ∧ ∀ b o, A = some ⟨b, o, none⟩ → b ≠ q
theorem Rqs.up {w w' : World} {q : Nat} {f W : Int} {S : Nat} {l : List Bool} (h : Rqs w q f W S l) (u : Up w w') : Rqs w' q f W S l := by
 obtain ⟨A, c, h1, h2, h3⟩ := h
 exact ⟨A, c, h1.up u, h2.up u, h3⟩
theorem Rq.put {w V : World} {q : Nat} {f W : Int} {A B : Option Addr} {S c d : Nat} (h : Rq w q f W A S c) (hV : w.setCell ⟨q, 2, none⟩ (.slice B S d) = V) : Rq V q f W B S d ∧ w.grownBy V (some q) := by
 subst hV
 refine ⟨by have := Ob.put h 2 (.slice B S d); unfold Rq; simpa using this, ?_⟩
 exact ⟨rfl, rfl, rfl, by simp, fun k hk hne => Below.heap_setCell w _ _ k (by intro e; exact hne (by rw [e]))⟩
theorem Rb.grown {w w' : World} {lo g n c : Nat} {A : Option Addr} {l : List Bool} (h : Rb w lo A n c l) (hg : w.grownBy w' (some g)) (hne : ∀ b o, A = some ⟨b, o, none⟩ → b ≠ g) : Rb w' lo A n c l :=
 ⟨h.num, h.len, fun hn => by
  obtain ⟨b, o, e, hb, hc⟩ := h.at_ hn
  refine ⟨b, o, e, hb, fun j hj => ?_⟩
  obtain ⟨h1, h2⟩ := hc j hj
  have hlt := World.block_lt_of_cell? w _ h1
  have e2 := hg.block b hlt (by intro e3; exact hne b o e (Option.some.inj e3))
  exact ⟨(World.cell?_of_block (w := w) (a := ⟨b, o + j, none⟩) e2).trans h1, (World.frozen?_of_block (w := w) (a := ⟨b, o + j, none⟩) e2).trans h2⟩⟩
def Tru (S v : Nat) (w : World) (e : Ending) (w' : World) : Prop :=
 (v < 2 ^ S ∧ ∃ A c, e = .returned (.tuple #[.slice A S c, .bool true]) ∧ Rb w' w.heap.size A S c (M.bqt S v) ∧ Up w w') ∨
 (¬ v < 2 ^ S ∧ e = .returned (.tuple #[.slice none 0 0, .bool false]) ∧ Up w w')
structure M.Tri (S v k : Nat) (zs : List Bool) : Prop where
 len : zs.length = S
 low : ∀ j, j < S → zs.getD j false = (decide (j < k) && v.testBit j)
 high : ∀ j, S ≤ j → j < k → v.testBit j = false
theorem M.Tri.start (S v : Nat) : M.Tri S v 0 (List.replicate S false) := by
 refine ⟨by simp, fun j hj => ?_, fun j _ h => by omega⟩
 rw [List.getD_eq_getElem?_getD, List.getElem?_replicate_of_lt hj]
 simp
theorem M.Tri.step {S v k : Nat} {zs : List Bool} (h : M.Tri S v k zs) (hk : k < S) : M.Tri S v (k + 1) (zs.set k (v.testBit k)) := by
 refine ⟨by rw [List.length_set, h.len], fun j hj => ?_, fun j h1 h2 => h.high j h1 (by omega)⟩
 rw [List.getD_eq_getElem?_getD]
 by_cases e : j = k
 ·subst e
  rw [List.getElem?_set_self (by rw [h.len]; exact hj), decide_eq_true (by omega), Bool.true_and]; rfl
 ·rw [List.getElem?_set_ne (by omega), ← List.getD_eq_getElem?_getD, h.low j hj]
  by_cases f : j < k
  ·rw [decide_eq_true f, decide_eq_true (show j < k + 1 by omega)]
  ·rw [decide_eq_false f, decide_eq_false (show ¬ j < k + 1 by omega)]
theorem M.Tri.pass {S v k : Nat} {zs : List Bool} (h : M.Tri S v k zs) (hk : S ≤ k) (hb : v.testBit k = false) : M.Tri S v (k + 1) zs := by
 refine ⟨h.len, fun j hj => ?_, fun j h1 h2 => ?_⟩
 ·rw [h.low j hj, decide_eq_true (show j < k by omega), decide_eq_true (show j < k + 1 by omega)]
 ·rcases Nat.lt_or_eq_of_le (Nat.le_of_lt_succ h2) with e | rfl
  ·exact h.high j h1 e
  ·exact hb
theorem M.Tri.fin {S v k : Nat} {zs : List Bool} (h : M.Tri S v k zs) (hv : v < 2 ^ k) : v < 2 ^ S ∧ zs = M.bqt S v := by
 have hb : ∀ j, k ≤ j → v.testBit j = false := fun j hj => Nat.testBit_lt_two_pow (Nat.lt_of_lt_of_le hv (Nat.pow_le_pow_right (by decide) hj))
 constructor
 ·refine Nat.lt_pow_two_of_testBit v (fun j hj => ?_)
  by_cases e : j < k
  ·exact h.high j hj e
  ·exact hb j (by omega)
 ·apply List.ext_getElem?
  intro j
  by_cases hj : j < S
  ·have h1 := h.low j hj
   have h2 : (M.bqt S v).getD j false = v.testBit j := M.bqt_get hj
   rw [List.getD_eq_getElem?_getD, List.getElem?_eq_getElem (by rw [h.len]; exact hj)] at h1
   rw [List.getD_eq_getElem?_getD, List.getElem?_eq_getElem (by rw [M.bqt_len]; exact hj)] at h2
   rw [List.getElem?_eq_getElem (by rw [h.len]; exact hj), List.getElem?_eq_getElem (by rw [M.bqt_len]; exact hj)]
   simp only [Option.getD_some] at h1 h2
   rw [h1, h2]
   by_cases e : j < k
   ·rw [decide_eq_true e, Bool.true_and]
   ·rw [decide_eq_false e, Bool.false_and, hb j (by omega)]
  ·rw [List.getElem?_eq_none (by rw [h.len]; omega), List.getElem?_eq_none (by rw [M.bqt_len]; omega)]
theorem M.val_64 {xs : List Nat} (h : M.Wds xs) : M.val xs < 2 ^ (64 * xs.length) := by
 have := M.val_lt h
 rw [Nat.pow_mul]
 exact this
set_option maxRecDepth 100000 in
theorem truths15_any (w : World) (lo : Nat) (A : Option Addr) (n c : Nat) (xs : List Nat) (h : Wd w lo A n c xs) (hn : n ≤ 100000) (S : Nat) (hS : S ≤ 1000000) :
  Calls Tryz.prog 26 #[.slice A n c, .int .i64 (S : Int)] w (Tru S (M.val xs) w) := by
 have b1 := h.len
 obtain ⟨T, hT⟩ : ∃ T, 64 * n = T := ⟨_, rfl⟩
 have qT : (64 : Int) * (n : Int) = (T : Int) := by omega
 have bT : T ≤ 6400000 := by omega
 have hV : Hid (M.val xs < 2 ^ T) := by
  show _ < _
  rw [← hT, ← h.num]
  exact M.val_64 h.wds
 have HT := Lib.hid hT
 clear hT
 go_enter Tryz.func26, Tryz.ntmps26
 go_wp2_with (at_make; refine wpList_make_rb _ rfl (.tmp 9) (.tmp 9) 40 rfl info_bool Tryz.underlying40 (S : Int) (S : Int) S rfl rfl (by omega) (by omega) (by omega) ?_; intro w1 hown1 hg1)
 have hu1 : Up w w1 := (Up.refl w).grown hg1 (by simp)
 go_loopw [7, 8] (fun i is wr => ∃ (k : Nat) (zs : List Bool), k ≤ T ∧ i = .int .i64 k ∧ Up w wr ∧ Obw wr w.heap.size (.slice (some ⟨w.heap.size, 0, none⟩) S S) S zs ∧ Hid (M.Tri S (M.val xs) k zs)) (fun i _ _ => T - (intOf i).toNat)
 case atStart => exact ⟨0, _, by omega, rfl, hu1, hown1, M.Tri.start _ _⟩
 case round =>
  obtain ⟨k, zs, hk, rfl, hu, hown, HI⟩ := hrel
  clear hown1 hg1 hu1
  by_cases hlt : k < T
  ·have hT0 := HT.out
   obtain ⟨d, hd⟩ : ∃ d, k / 64 = d := ⟨_, rfl⟩
   obtain ⟨s, hs⟩ : ∃ s, k % 64 = s := ⟨_, rfl⟩
   have hdn : d < n := by omega
   have hs64 : s < 64 := by omega
   obtain ⟨bb, oo, rfl, _, hc⟩ := (h.up hu).at_ (by omega)
   have hc1 := (hc d hdn).1
   have hbit := M.testBit_word h.wds k
   rw [hd, hs] at hbit
   obtain ⟨x, hx⟩ : ∃ x, xs.getD d 0 = x := ⟨_, rfl⟩
   have hxb : x < 18446744073709551616 := by rw [← hx]; exact h.wds.getD d
   rw [hx] at hc1 hbit
   have hti := M.testBit_int x s
   obtain ⟨y, hy⟩ : ∃ y, x / 2 ^ s = y := ⟨_, rfl⟩
   have q1 : (k : Int).tdiv 64 = (d : Int) := by rw [Int.tdiv_eq_ediv_of_nonneg (by omega)]; omega
   have q2 : (k : Int) / 64 = (d : Int) := by omega
   have q3 : (k : Int).tmod 64 = (s : Int) := by rw [Int.tmod_eq_emod_of_nonneg (by omega)]; omega
   have q4 : (k : Int) % 64 = (s : Int) := by omega
   have q5 : (x : Int) / 2 ^ s = (y : Int) := by rw [← hy]; push_cast; rfl
   rw [q5, ← hbit] at hti
   have q6 : (y : Int).tmod 2 = (y : Int) % 2 := Int.tmod_eq_emod_of_nonneg (by omega)
   obtain ⟨b, hb⟩ : ∃ b, (M.val xs).testBit k = b := ⟨_, rfl⟩
   rw [hb] at hti
   have HB := Lib.hid hb
   clear hb hbit hd hs hx hy hT0 hc
   by_cases hkS : k < S
   ·have d1 : decide ((k : Int) < (S : Int)) = true := decide_eq_true (by omega)
    have hf := hown.frozenAt k
    have hcz := hown.cellAt k (by omega)
    rw [cb_get (by rw [hown.num]; exact hkS)] at hcz
    rcases (show b = true ∨ b = false by cases b <;> simp) with rfl | rfl
    all_goals
     go_wp2_with fail
     go_roundw
     case rel =>
      obtain ⟨h1, _⟩ := hown.stored k (.bool _)
      rw [cb_set] at h1
      have hI := HI.out.step hkS
      rw [HB.out] at hI
      exact ⟨k + 1, _, by omega, by go_num, hu.setCell (Nat.le_refl _) _, h1, hI⟩
     case measure => simp [intOf]; omega
   ·have d1 : decide ((k : Int) < (S : Int)) = false := decide_eq_false (by omega)
    rcases (show b = true ∨ b = false by cases b <;> simp) with rfl | rfl
    ·go_wp2_with fail
     go_ret2
     refine .inr ⟨fun e => ?_, rfl, hu⟩
     have := Nat.testBit_lt_two_pow (Nat.lt_of_lt_of_le e (Nat.pow_le_pow_right (by decide) (show S ≤ k by omega)))
     rw [HB.out] at this
     cases this
    ·go_wp2_with fail
     go_roundw
     case rel => exact ⟨k + 1, zs, by omega, by go_num, hu, hown, HI.out.pass (by omega) HB.out⟩
     case measure => simp [intOf]; omega
  ·obtain rfl : k = T := by omega
   obtain ⟨f1, f2⟩ := HI.out.fin hV.out
   subst f2
   clear HI
   go_wp2_with fail
   go_ret2
   exact .inl ⟨f1, _, S, rfl, Obw.rb_ hown, hu⟩
end Go.Proofs.YtijpffgocookaaaGreatDoor
