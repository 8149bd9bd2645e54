/-
  Package round: the boundary behind a key; what is beyond it; the search.
-/
import Derived.Test.YtlogglhonlannaaGreatDoorRo
import Derived.Deep.RegionHeld3
import Derived.Deep.DrawnRows
namespace Go.Proofs.YtlogglhonlannaaGreatDoor
open Go.RowKit
set_option linter.unusedSimpArgs false
set_option linter.unusedVariables false

section
variable {w V : World} {g : Nat}
theorem store_ob2 {P : Program} {ops : Array Oper} {rest : List Oper} {o : Oper} {a : Act} {w : World} {Q : Exit → Act → World → Prop} (hgd : o.guard = none) (ty : TypeId) (x y : Operand) (ho : o.op = .store ty x y)
    (g : Nat) (cs cs' : Array Value) (hx : a.eval x = .pointer (some ⟨g, 0, none⟩)) (hy : a.eval y = .agg cs') (N : Nat) (hi : (P.info? ty).map (·.size) = some N) (hN : cs'.size = N) (hs : cs.size = N) (h1 : cs'.all (·.oneCell') = true)
    (w0 : World) (U : Up w0 w) (hb : w0.heap.size ≤ g) (t : TypeId) (hB : Ob w g t cs)
    (h : ∀ V, Ob V g t cs' → Up w0 V → (∀ b', b' ≠ g → V.heap[b']? = w.heap[b']?) → wpList P ops Q rest (a.put o.dst undef) V) : wpList P ops Q (o :: rest) a w :=
  wpList_store_row hgd ty x y ho g _ hx hy t _ hB (hi.trans (by rw [hN])) (hs.trans hN.symm) h1 (h _ (setRow_heap w g _ _ t _ hB) (U.setRow_ hb _) (fun b' hne => setRow_other w g b' _ hne))
theorem Nt.other {lo s : Nat} {v : Value} {a : Nat} (h : Nt w lo s v a) (ho : ∀ b', b' ≠ g → V.heap[b']? = w.heap[b']?) (hg : g < lo) : Nt V lo s v a := by
  obtain ⟨A, n, c, xs, e, h1, h2⟩ := h
  exact ⟨A, n, c, xs, e, h1.keep (fun p _ hp => ⟨World.cell?_of_block (w := w) (ho p.block (by omega)), World.frozen?_of_block (w := w) (ho p.block (by omega))⟩), h2⟩
theorem Ob.oth {b : Nat} {ty : TypeId} {cs : Array Value} (h : Ob w b ty cs) (ho : ∀ b', b' ≠ g → V.heap[b']? = w.heap[b']?) (hg : b ≠ g) : Ob V b ty cs := (ho b hg).trans h
end
theorem M.pw_of {z : Int} (h : -3000 ≤ z ∧ z ≤ 3000) : M.pw z := by unfold M.pw; omega
set_option maxHeartbeats 4000000 in
set_option maxRecDepth 100000 in
theorem rnd_behind (w : World) (TT : Hid (Tz w)) (TF : Hid (TabF w)) (i : Nat) (f : M.Fm) (hf : Hid (M.tb i = f)) (i1 : 1 ≤ i) (i2 : i ≤ 14) (k : Nat) (kb : k < 18446744073709551616) (hk : (k : Int) ≤ M.tp f) (m : Nat) (z : Int) (hbd : M.Bd f k m z) (mb : m < 18446744073709551616) (zb : -3000 ≤ z ∧ z ≤ 3000) : Calls Tryz.prog 36 #[.int .i64 (i : Int), u64 k] w (Xr false 1 m z 0 w) := by
  have CB := Lib.hid (fun W (T : Tz W) (F : TabF W) => vbetween_any W (Lib.hid T) (Lib.hid F) (i : Int) k kb m z 0 (.inr ⟨i, rfl, i1, i2, .inr ⟨by rw [hf.out]; exact hk, by rw [hf.out]; exact hbd, rfl⟩⟩))
  have CX := Lib.hid (fun W => xof_fin W false m z mb (M.pw_of zb))
  clear hf i1 i2 hk hbd
  have U := Up.refl w
  go_enter Tryz.func36, Tryz.ntmps36
  go_wp2_with fail
  obtain ⟨V1, hV1⟩ : ∃ V1, w.alloc (.cells #[.bool false, .slice none 0 0, .int .i64 0, .int .i64 0] 25) = V1 := ⟨_, rfl⟩
  have R : Ob V1 w.heap.size 25 #[.bool false, .slice none 0 0, .int .i64 0, .int .i64 0] := by rw [← hV1]; exact Ob.mk_ _ _ _
  have uV1 : Up w V1 := by rw [← hV1]; exact (Up.refl _).alloc _
  have ltR : w.heap.size ≤ w.heap.size := U.size
  rw [hV1]
  clear hV1
  replace U := U.trans uV1
  clear uV1
  refine (CB.out _ (TT.out.up U) (TF.out.up U)).mono ?_
  rintro _ w2 ⟨rfl, h2⟩
  replace U := U.trans h2
  replace R := R.up h2
  clear h2
  go_wp2_with fail
  have gl := R.lt
  refine (CX.out _).mono ?_
  rintro _ w3 ⟨_, rfl, ⟨A1, n1, c1, ys1, rfl, N⟩, h3⟩
  replace U := U.trans h3
  replace R := R.up h3
  clear h3
  replace N : Nt w3 _ 1 (.slice A1 n1 c1) m := ⟨_, _, _, _, rfl, N⟩
  go_wp2_with (first | (refine store_ob rfl 25 (.tmp 8) (.tmp 22) rfl _ #[.bool false, .slice none 0 0, .int .i64 0, .int .i64 0] #[.bool false, .slice A1 n1 c1, .int .i64 z, .int .i64 0] rfl rfl 4 (by kernel_rfl) rfl rfl (by simp [Value.oneCell']) w3 ((Up.refl _).alloc _) (Nat.le_refl _) 25 (Ob.mk_ _ _ _) ?_; intro V4 C uV4; have ltC : w.heap.size ≤ w3.heap.size := U.size; replace U := U.trans uV4; replace R := R.up uV4; replace N := N.up uV4; clear uV4; have C0 := C.get 0; have C1 := C.get 1; have C2 := C.get 2; have C3 := C.get 3; simp only [List.getElem?_toArray, List.getElem?_cons_zero, List.getElem?_cons_succ] at C0 C1 C2 C3) | (refine store_ob2 rfl 25 (.tmp 4) (.tmp 24) rfl _ #[.bool false, .slice none 0 0, .int .i64 0, .int .i64 0] #[.bool false, .slice A1 n1 c1, .int .i64 z, .int .i64 0] rfl rfl 4 (by kernel_rfl) rfl rfl (by simp [Value.oneCell']) w (by first | exact U | exact U.alloc _) ltR 25 (by first | exact R | exact R.up ((Up.refl _).alloc _)) ?_; clear U; intro V9 Z9 U ho; replace N := Nt.other (by first | exact N | exact N.up ((Up.refl _).alloc _)) ho (by omega)))
  have Z90 := Z9.get 0
  have Z91 := Z9.get 1
  have Z92 := Z9.get 2
  have Z93 := Z9.get 3
  simp only [List.getElem?_toArray, List.getElem?_cons_zero, List.getElem?_cons_succ] at Z90 Z91 Z92 Z93
  refine bodyPost_ret (v := xv false (.slice A1 n1 c1) z 0) (by simp [results, Tryz.results36, go_sem, Z90, Z91, Z92, Z93]) rfl ?_
  exact ⟨_, rfl, N.lower (by omega), U⟩
theorem M.sz_ov {a : Nat} {t g : Int} : M.ov a t g (-5000) = M.sz a t g := rfl
set_option maxHeartbeats 4000000 in
set_option maxRecDepth 100000 in
theorem rnd_beyond (w : World) (TT : Hid (Tz w)) (TF : Hid (TabF w)) (i : Nat) (f : M.Fm) (hf : Hid (M.tb i = f)) (i1 : 1 ≤ i) (i2 : i ≤ 14) (k : Nat) (kb : k < 18446744073709551616) (hk : (k : Int) ≤ M.tp f) (lo s : Nat) (neg : Bool) (v : Value) (t g : Int) (a : Nat) (h : Nt w lo s v a) (hs : s ≤ 1000000) (bt : -5000 ≤ t ∧ t ≤ 5000) (bg : -5000 ≤ g ∧ g ≤ 5000) (r : Bool) (hr : Hid (r = true ↔ M.Byd f (M.sz a t g) k)) : Calls Tryz.prog 26 #[.int .i64 (i : Int), u64 k, xv neg v t g] w (Bz r w) := by
  have ok := M.ok i i1 i2
  have ok2 := M.ok2 i i1 i2
  have ok3 := M.ok3 i i1 i2
  rw [hf.out] at ok ok2 ok3
  obtain ⟨m, z, hbd⟩ := M.bd_ex ok ok2 hk
  obtain ⟨m0, mb, zb⟩ := M.bd_z ok ok2 ok3 hk hbd
  obtain ⟨c, hc⟩ : ∃ c, M.cmp (M.sz a t g) (M.sz m z 0) = c := ⟨_, rfl⟩
  have CB := Lib.hid (fun W (T : Tz W) (F : TabF W) => rnd_behind W (Lib.hid T) (Lib.hid F) i f hf i1 i2 k kb hk m z hbd mb zb)
  have CC := Lib.hid (fun W (U : Up w W) (lo' : Nat) (v' : Value) (n' : Nt W lo' 1 v' m) => xcmp_ov (-5000) (by omega) W lo lo' s 1 neg false v v' t g z 0 a m (h.nw.up U) n'.nw hs (by omega) ⟨by omega, by omega⟩ ⟨by omega, by omega⟩ ⟨by omega, by omega⟩ ⟨by omega, by omega⟩ c (by rw [M.sz_ov, M.sz_ov]; exact hc))
  have CE := Lib.hid (fun W (e : Bool) (he : Hid (decide (k % 2 = 0) = e)) => iseven_any W k kb e he)
  obtain ⟨ev, hev⟩ : ∃ ev, decide (k % 2 = 0) = ev := ⟨_, rfl⟩
  have hb : M.Byd f (M.sz a t g) k ↔ (c = 1 ∨ (c = 0 ∧ ev = false)) := by
    rw [M.byd_iff ⟨m, z, hbd, rfl⟩, ← hev, ← hc]
    rcases Nat.lt_trichotomy (M.sz a t g) (M.sz m z 0) with e | e | e
    · rw [M.cmp_lt e]; simp; omega
    · rw [M.cmp_eq e]; simp [e]
    · rw [M.cmp_gt e]; simp; omega
  have hr2 := hr.out
  rw [hb] at hr2
  have rc : c = -1 ∨ c = 0 ∨ c = 1 := by
    have := M.cmp_rng (M.sz a t g) (M.sz m z 0)
    omega
  have HEV := Lib.hid hev
  clear hr hb hc hbd hev ok ok2 ok3 hf i1 i2 hk h bt bg zb mb m0 hs
  have U := Up.refl w
  go_enter Tryz.func26, Tryz.ntmps26
  go_wp2_with fail
  obtain ⟨V1, hV1⟩ : ∃ V1, w.alloc (.cells #[.bool neg, v, .int .i64 t, .int .i64 g] 25) = V1 := ⟨_, rfl⟩
  have B : Ob V1 w.heap.size 25 #[.bool neg, v, .int .i64 t, .int .i64 g] := by rw [← hV1]; exact Ob.mk_ _ _ _
  have uV1 : Up w V1 := by rw [← hV1]; exact (Up.refl _).alloc _
  have ltB : w.heap.size ≤ w.heap.size := U.size
  rw [hV1]
  clear hV1
  replace U := U.trans uV1
  clear uV1
  obtain ⟨W, hW⟩ : ∃ W, V1 = W := ⟨_, rfl⟩
  rw [hW] at B U ⊢
  clear hW
  have B0 := B.get 0
  have B1 := B.get 1
  have B2 := B.get 2
  have B3 := B.get 3
  have Bf0 := B.fr 0
  have Bf1 := B.fr 1
  have Bf2 := B.fr 2
  have Bf3 := B.fr 3
  have Bl := B.lt
  simp only [List.getElem?_toArray, List.getElem?_cons_zero, List.getElem?_cons_succ] at B0 B1 B2 B3
  go_region_held3 (fun w' => w'.cell? ⟨w.heap.size, 0, none⟩ = some (.bool neg) ∧ w'.cell? ⟨w.heap.size, 1, none⟩ = some (v) ∧ w'.cell? ⟨w.heap.size, 2, none⟩ = some (.int .i64 t) ∧ w'.cell? ⟨w.heap.size, 3, none⟩ = some (.int .i64 g)) (go_keep) (first
    | (go_at_call 36; (with_reducible refine (CB.out _ ?_ ?_).mono ?_); (first | with_reducible exact TT.out.up U | exact TT.out.up (U.drewN 1)); (first | with_reducible exact TF.out.up U | exact TF.out.up (U.drewN 1)); rintro _ wA ⟨vA, rfl, nA, hua⟩; have uA : Up W wA := Up.trans (by first | with_reducible assumption | exact Up.refl _ | exact (Up.refl W).drewN 1) hua; have A0 := cell_up_ uA B0; have A1 := cell_up_ uA B1; have A2 := cell_up_ uA B2; have A3 := cell_up_ uA B3)
    | (go_at_call 50; (with_reducible refine (CC.out _ (U.trans uA) _ _ nA).mono ?_); rintro _ wC ⟨rfl, huc⟩; have uC : Up W wC := uA.trans huc; have C0 := cell_up_ uC B0; have C1 := cell_up_ uC B1; have C2 := cell_up_ uC B2; have C3 := cell_up_ uC B3))
  replace U := U.trans uC
  clear CB CC A0 C0 B0 A1 C1 B1 A2 C2 B2 A3 C3 B3 nA uA uC hua huc
  rcases rc with rfl | rfl | rfl
  ·
    obtain rfl : r = false := by
      cases r
      · rfl
      · have := hr2.1 rfl; omega
    clear hr2
    go_wp2_with fail
    go_ret
    exact ⟨by first | rfl | simp, by first | exact U | exact U.drewN _ | exact U.drew⟩
  ·
    obtain rfl : r = !ev := by
      cases ev
      · exact hr2.2 (.inr ⟨rfl, rfl⟩)
      · cases r
        · rfl
        · have := hr2.1 rfl; simp at this
    clear hr2
    go_wp2_with fail
    refine (CE.out _ _ HEV).mono ?_
    rintro _ _ ⟨rfl, rfl⟩
    go_wp2_with fail
    go_ret
    exact ⟨by first | rfl | simp, by first | exact U | exact U.drewN _ | exact U.drew⟩
  ·
    obtain rfl : r = true := hr2.2 (.inl rfl)
    clear hr2
    go_wp2_with fail
    go_ret
    exact ⟨by first | rfl | simp, by first | exact U | exact U.drewN _ | exact U.drew⟩
end Go.Proofs.YtlogglhonlannaaGreatDoor
