/-
  FormAll.
-/
import Derived.Test.YtekmlhgnfjgebaaDoorFlaw
import Derived.OwnWalk
import Derived.Maps.AppendAt
namespace Go.Proofs.YtekmlhgnfjgebaaDoor
open Go.RowKit
theorem id_in4 {x : Int} (h : ¬ (x < 1 ∨ 15 ≤ x)) : ∃ i : Nat, x = (i : Int) ∧ 1 ≤ i ∧ i ≤ 14 := ⟨x.toNat, by omega, by omega, by omega⟩
/-- The cells of these numbers. -/
def ci (zs : List Int) : List Value := zs.map (Value.int .i64)
theorem ci_get {a : List Int} {j : Nat} (h : j < a.length) : (ci a)[j]? = some (.int .i64 (a.getD j 0)) := by
  simp [ci, List.getD_eq_getElem?_getD, List.getElem?_eq_getElem h]
theorem info_int : (Tryd.prog.info? 3).map (fun i => (i.zero, i.size, i.bytes)) = some (some (.int .i64 0), 1, 8) := by kernel_rfl
theorem wpList_append_int {P : Program} (w : World) {ops : Array Oper} {rest : List Oper} {o : Oper} {a : Act} {Q : Exit → Act → World → Prop} (hgd : o.guard = none) (sl x : Operand) (t : TypeId)
    (ho : o.op = .call { callee := .builtin .append, args := #[sl, x], argTypes := #[t, t] })
    (hP : (P.info? 3).map (fun i => (i.zero, i.size, i.bytes)) = some (some (.int .i64 0), 1, 8)) (base : Nat) (ht : P.underlying t = some (.slice 3))
    (v : Value) (n : Nat) (zs : List Int) (hs : a.eval sl = v) (hown : w.ownsRow base 3 1 v n (ci zs)) (ad : Addr) (z : Int) (hx : a.eval x = .slice (some ad) 1 1)
    (hy : w.cell? ad = some (.int .i64 z)) (hn : n ≤ 1000000) (hbase : base ≤ w.heap.size)
    (h : ∀ v' w', w'.ownsRow base 3 1 v' (n + 1) (ci (zs ++ [z])) → w.grownBy w' v.ownBlock → wpList P ops Q rest (a.put o.dst v') w') : wpList P ops Q (o :: rest) a w := by
  obtain ⟨i, hi, hz0, hz1, hz2⟩ := info_parts hP
  refine wpList_plain hgd fun K hK => ?_
  have hc : ∀ (j : Nat) u, ([Value.int .i64 z] : List Value)[j]? = some u → w.cell? (ad.add j) = some u := by
    intro j u hu
    match j, hu with
    | 0, hu =>
      have : (ad.add 0) = ad := Addr.add_zero' ad
      rw [this, hy]
      simpa using hu
    | j + 1, hu => simp at hu
  obtain ⟨v', w', hr, h2, h3, _, _⟩ := run_append_own_at (P := P) w base t o.type 3 i _ 1 8 ht hi hz0 hz1 hz2 rfl (by omega) v n _ hown ad 1 1 [.int .i64 z] (by simp) hc (by simp [Value.oneCell'])
    (by simp only [maxLen]; omega) (by omega) hbase
  unfold Oper.wp execOp
  simp only [ho, resolve, invoke, builtin, Sem.run_bind, Sem.run_pure, Result.andThen_ok, List.map_toArray, List.map_cons, List.map_nil, hs, hx, hr]
  refine hK _ _ (h v' w' ?_ h3)
  have : ci (zs ++ [z]) = ci zs ++ [.int .i64 z] := by simp [ci]
  rw [this]
  exact h2
def upto (k : Nat) : List Int := (List.range k).map fun (j : Nat) => (j : Int) + 1
theorem upto_succ (k : Nat) : upto (k + 1) = upto k ++ [(k : Int) + 1] := by simp [upto, List.range_succ, List.map_append]
theorem upto_get {k j : Nat} (h : j < k) : (upto k).getD j 0 = (j : Int) + 1 := by
  simp [upto, List.getD_eq_getElem?_getD, h]
theorem upto_len (k : Nat) : (upto k).length = k := by simp [upto]
/-- What All comes to. -/
def Al (w : World) (e : Ending) (w' : World) : Prop := ∃ v, e = .returned v ∧ Up w w' ∧ w'.ownsRow w.heap.size 3 1 v 14 (ci (upto 14))
set_option maxHeartbeats 1000000 in
set_option maxRecDepth 100000 in
theorem all_any (w : World) : Calls Tryd.prog 19 #[] w (Al w) := by
  go_enter Tryd.func19, Tryd.ntmps19
  obtain ⟨i, hi, hz0, hz1, hz2⟩ := info_parts info_int
  go_wp2_with (at_make; refine wpList_make_own w rfl (.const (.int .i64 0)) (.const (.int .i64 14)) 39 rfl w.heap.size 3 i _ 1 Tryd.underlying39 hi hz0 hz1 .i64 .i64 14 14 rfl rfl rfl (by omega) (by simp only [maxLen]; omega) (Nat.le_refl _) ?_; intro w1 hown hg)
  have uA : Up w w1 := (Up.refl w).grown hg (fun b hb => by cases hb)
  clear hi hz0 hz1 hz2 hg
  go_loopw [1, 2] (fun lv iv wr => ∃ k : Nat, k ≤ 14 ∧ iv = .int .i64 ((k : Int) + 1) ∧ Up w wr ∧ w.heap.size ≤ wr.heap.size ∧ wr.ownsRow w.heap.size 3 1 lv k (ci (upto k))) (fun _ iv _ => 15 - (intOf iv).toNat)
  case atStart => exact ⟨0, by omega, rfl, uA, uA.size, hown⟩
  case round =>
    clear hown uA
    obtain ⟨k, hk, rfl, U, hsz, hown⟩ := hrel
    by_cases h : k < 14
    · have d : decide ((k : Int) + 1 < 15) = true := decide_eq_true (by omega)
      have ha := World.ownsRow.alloc hown (.cells #[.int .i64 ((k : Int) + 1)] 3)
      go_wp2_with (at_builtin; refine wpList_append_int _ rfl (.tmp 8) (.tmp 10) _ rfl info_int w.heap.size Tryd.underlying39 _ k (upto k) rfl ha ⟨wr.heap.size, 0, none⟩ ((k : Int) + 1) rfl (by simp) (by omega) (by simp; omega) ?_; intro v2 w2 hown2 hg2)
      have u2 : Up w w2 := (U.alloc _).grown hg2 (fun b hb => (World.ownsRow.lt ha b hb).1)
      rw [← upto_succ] at hown2
      go_wp2_with fail
      go_round
      case rel => exact ⟨k + 1, by omega, by go_num, u2, u2.size, hown2⟩
      case measure => simp [intOf]; omega
    · have d : decide ((k : Int) + 1 < 15) = false := decide_eq_false (by omega)
      obtain rfl : k = 14 := by omega
      go_wp2_with fail
      go_ret
      exact ⟨_, rfl, U, hown⟩
set_option maxHeartbeats 2000000 in
set_option maxRecDepth 100000 in
theorem fall_walk (w : World) (hF : TabF w) (x0 : Int) (_wx0 : (Lit.int .i64 x0).wf = true) : Calls Tryd.prog 5 #[.int .i64 x0] w (True4 w) := by
  obtain ⟨f, e, A, he⟩ : ∃ (f : M.Fm) (e : Int), Hid (∀ W, TabF W → Calls Tryd.prog 9 #[.int .i64 x0] W (Fn f e W)) ∧ (e == 0) = decide (1 ≤ x0 ∧ x0 ≤ 14) := by
    by_cases h : x0 < 1 ∨ 15 ≤ x0
    · exact ⟨_, _, fun W _ => of_out W x0 h, by rw [decide_eq_false (by omega)]; rfl⟩
    · obtain ⟨i, rfl, h1, h2⟩ := id_in4 h
      exact ⟨_, _, fun W hF => of_in W hF i _ (Lib.hid rfl) h1 h2, by rw [decide_eq_true (by omega)]; rfl⟩
  have HE := Lib.hid he
  clear he
  have U := Up.refl w
  go_enter Tryd.func5, Tryd.ntmps5
  go_wp2_with fail
  refine (fshown_any _ (hF.up U)).mono ?_
  rintro _ w1 ⟨rfl, h1⟩
  replace U := U.trans h1
  clear h1
  go_wp2_with fail
  refine (all_any _).mono ?_
  rintro _ w2 ⟨lv, rfl, h2, hown⟩
  replace U := U.trans h2
  clear h2
  have hl : ∃ b c, lv = .slice (some ⟨b, 0, none⟩) 14 c ∧ 14 ≤ c := by
    rcases hown.2 with ⟨e, h1⟩ | ⟨b, cap, cur, e, hb, hg, hnc, hcm, hcs, htake⟩
    · cases h1
    · exact ⟨b, cap, e, hnc⟩
  obtain ⟨b, c, rfl, hc14⟩ := hl
  have cell : Hid (∀ j : Nat, j < 14 → w2.cell? ⟨b, j, none⟩ = some (.int .i64 ((j : Int) + 1))) := by
    intro j hj
    have h1 := hown.cellAt j (by omega)
    rw [ci_get (by rw [upto_len]; omega), upto_get (by omega)] at h1
    exact h1
  clear hown
  go_wp2_with fail
  go_loopw [5, 6] (fun bv iv wr => ∃ (k : Nat) (B : Bool), k ≤ 14 ∧ iv = .int .i64 (k : Int) ∧ bv = .bool B ∧ Up w2 wr ∧ Hid (B = decide (1 ≤ x0 ∧ x0 ≤ (k : Int)))) (fun _ iv _ => 14 - (intOf iv).toNat)
  case atStart => exact ⟨0, false, by omega, rfl, rfl, Up.refl _, by show _ = _; rw [decide_eq_false (by omega)]⟩
  case round =>
    obtain ⟨k, B, hk, rfl, rfl, hu, HB⟩ := hrel
    have U := U.trans hu
    by_cases h : k < 14
    ·
      have d : decide ((k : Int) < 14) = true := decide_eq_true (by omega)
      have ck : wr.cell? ⟨b, k, none⟩ = some (.int .i64 ((k : Int) + 1)) := by rw [Below.cell hu (World.block_lt_of_cell? _ _ (cell.out k h))]; exact cell.out k h
      obtain ⟨C, hC⟩ : ∃ C, ((k : Int) + 1 == x0) = C := ⟨_, rfl⟩
      have HB2 : Hid ((B || C) = decide (1 ≤ x0 ∧ x0 ≤ ((k + 1 : Nat) : Int))) := by
        show _ = _
        rw [HB.out, ← hC, Bool.eq_iff_iff, Bool.or_eq_true, decide_eq_true_iff, decide_eq_true_iff, beq_iff_eq]
        omega
      rcases (show k = 0 ∨ 0 < k by omega) with h0 | h0
      ·
        subst h0
        go_wp2_with fail
        go_quiet (fail)
        cases B
        ·
          go_wp2_with fail
          go_round
          case rel => exact ⟨_, _, h, by go_num, by first | rfl | (simp; exact hC), by first | exact hu | exact hu.drewN _, HB2⟩
          case measure => first | (simp [intOf]; done) | (simp [intOf]; omega)
        ·
          go_wp2_with fail
          go_round
          case rel => exact ⟨_, _, h, by go_num, by first | rfl | (simp; exact hC), by first | exact hu | exact hu.drewN _, HB2⟩
          case measure => first | (simp [intOf]; done) | (simp [intOf]; omega)
      ·
        obtain ⟨j, rfl⟩ : ∃ j, k = j + 1 := ⟨k - 1, by omega⟩
        have cj : wr.cell? ⟨b, j, none⟩ = some (.int .i64 ((j : Int) + 1)) := by rw [Below.cell hu (World.block_lt_of_cell? _ _ (cell.out j (by omega)))]; exact cell.out j (by omega)
        have d0 : decide ((0 : Int) < ((j + 1 : Nat) : Int)) = true := decide_eq_true (by omega)
        have d1 : decide ((((j + 1 : Nat) : Int) + 1) ≤ (j : Int) + 1) = false := decide_eq_false (by omega)
        go_wp2_with fail
        go_quiet (fail)
        cases B
        ·
          go_wp2_with fail
          go_round
          case rel => exact ⟨_, _, h, by go_num, by first | rfl | (simp; exact hC), by first | exact hu | exact hu.drewN _, HB2⟩
          case measure => first | (simp [intOf]; done) | (simp [intOf]; omega)
        ·
          go_wp2_with fail
          go_round
          case rel => exact ⟨_, _, h, by go_num, by first | rfl | (simp; exact hC), by first | exact hu | exact hu.drewN _, HB2⟩
          case measure => first | (simp [intOf]; done) | (simp [intOf]; omega)
    ·
      have d : decide ((k : Int) < 14) = false := decide_eq_false (by omega)
      obtain rfl : k = 14 := by omega
      obtain ⟨D, hD⟩ : ∃ D, decide (1 ≤ x0 ∧ x0 ≤ 14) = D := ⟨_, rfl⟩
      have HB3 : B = D := by rw [HB.out, ← hD]; rfl
      subst HB3
      have he : (e == 0) = B := by rw [HE.out, hD]
      have bb : (B == B) = true := by simp
      have q1 : decide (1 ≤ x0) = true ∨ decide (1 ≤ x0) = false := by cases decide (1 ≤ x0) <;> simp
      have q2 : (decide (1 ≤ x0) && decide (x0 ≤ 14)) = B := by rw [← hD, Bool.decide_and]
      clear HB hD
      go_wp2_with fail
      refine (A.out _ (hF.up U)).mono ?_
      rintro _ w3 ⟨rfl, u3⟩
      replace U := U.trans u3
      clear u3 hu
      rcases q1 with q1 | q1
      · rw [q1, Bool.true_and] at q2
        go_wp2_with fail
        go_ret
        exact ⟨rfl, U.alloc _⟩
      · rw [q1, Bool.false_and] at q2
        subst q2
        go_wp2_with fail
        go_ret
        exact ⟨rfl, U.alloc _⟩
end Go.Proofs.YtekmlhgnfjgebaaDoor
