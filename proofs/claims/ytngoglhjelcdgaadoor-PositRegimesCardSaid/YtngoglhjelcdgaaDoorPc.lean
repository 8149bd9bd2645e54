/-
  Package posit: its contracts.
-/
import Derived.Test.YtngoglhjelcdgaaDoorPq9
namespace Go.Proofs.YtngoglhjelcdgaaDoor
open Go.RowKit Go.Shelf
set_option linter.unusedSimpArgs false

theorem size_alloc (w : World) (o : Obj) : (w.alloc o).heap.size = w.heap.size + 1 := Array.size_push _
theorem Ob.at1 (w : World) (o : Obj) (ty : TypeId) (cs : Array Value) : Ob ((w.alloc o).alloc (.cells cs ty)) (w.heap.size + 1) ty cs := by
  have := Ob.mk_ (w.alloc o) ty cs
  rwa [size_alloc] at this
theorem Ob.at2 (w : World) (o o' : Obj) (ty : TypeId) (cs : Array Value) : Ob (((w.alloc o).alloc o').alloc (.cells cs ty)) (w.heap.size + 1 + 1) ty cs := by
  have := Ob.mk_ ((w.alloc o).alloc o') ty cs
  rwa [size_alloc, size_alloc] at this
theorem Ob.at3 (w : World) (o o' o'' : Obj) (ty : TypeId) (cs : Array Value) : Ob ((((w.alloc o).alloc o').alloc o'').alloc (.cells cs ty)) (w.heap.size + 1 + 1 + 1) ty cs := by
  have := Ob.mk_ (((w.alloc o).alloc o').alloc o'') ty cs
  rwa [size_alloc, size_alloc, size_alloc] at this

set_option maxHeartbeats 4000000 in
set_option maxRecDepth 100000 in
theorem psplit_in (w : World) (n k r q : Nat) (R : Int) (hn : n ≤ 64) (h : M.Ps n k R r q) (E F : Nat) (B : Int) (hE : Hid (M.ex r q = E)) (hF : Hid (M.fr r q = F)) (hB : Hid (((r - 2 : Nat) : Int) = B)) :
    Calls Tryd.prog 12 #[.int .i64 ((n : Int) + 1), u64 k] w (Fdn R E F B 0 w) := by
  have hmf : ∀ (fn : Fn) (first cap : Array Value) (w : World), (Instr.makeFunc fn first cap).run Tryd.prog w = .ok (.func fn first cap) w := fun _ _ _ _ => rfl
  obtain ⟨V, hV⟩ : ∃ V, ((w.alloc (.cells #[.int .i64 ((n : Int) + 1)] 3)).alloc (.cells #[u64 k] 22)).alloc (.cells #[.int .i64 0, .int .i64 0, .int .u64 0, .int .i64 0] 25) = V := ⟨_, rfl⟩
  have UV : Up w V := by rw [← hV]; exact ((((Up.refl w).alloc _).alloc _).alloc _)
  have sz : V.heap.size = w.heap.size + 1 + 1 + 1 := by rw [← hV]; simp only [size_alloc]
  have B0 : Ob V (w.heap.size) 3 #[.int .i64 ((n : Int) + 1)] := by rw [← hV]; exact (Ob.mk_ _ _ _).up (((Up.refl _).alloc _).alloc _)
  have B1 : Ob V (w.heap.size + 1) 22 #[u64 k] := by rw [← hV]; exact (Ob.at1 _ _ _ _).up ((Up.refl _).alloc _)
  have B2 : Ob V (w.heap.size + 1 + 1) 25 #[.int .i64 0, .int .i64 0, .int .u64 0, .int .i64 0] := by rw [← hV]; exact (Ob.at2 _ _ _ _ _)
  have CC := Lib.hid (caught_ret V 1 23 #[.pointer (some ⟨w.heap.size, 0, none⟩), .pointer (some ⟨w.heap.size + 1, 0, none⟩), .pointer (some ⟨w.heap.size + 1 + 1, 0, none⟩)] (w.heap.size + 1 + 1) (w.heap.size + 1 + 1) (by omega) (by omega) (fun W => Ob W (w.heap.size + 1 + 1) 25 #[.int .i64 R, .int .i64 (E : Int), .int .u64 (F : Int), .int .i64 B]) (enters_of Tryd.func23 (by kernel_rfl) rfl) (fun W c v hc hO => hO.other (by omega) v) (fun W U => csplit_in W _ _ _ n h.rng.2.2.1 hn k r q R h E F B hE hF hB (((B0.up U).get 0).trans rfl) (((B1.up U).get 0).trans rfl) (B2.up U)))
  clear h hE hF hB
  go_enter Tryd.func12, Tryd.ntmps12
  go_wp2_with fail
  try rw [hV]
  clear hV
  refine CC.out.mono ?_
  rintro _ w1 ⟨rfl, K, O⟩
  have U9 : Up w w1 := K.up UV (by omega) (by omega)
  have c0 := O.get 0
  have c1 := O.get 1
  have c2 := O.get 2
  have c3 := O.get 3
  have f0 := O.fr 0
  have f1 := O.fr 1
  have f2 := O.fr 2
  have f3 := O.fr 3
  simp only [List.getElem?_toArray, List.getElem?_cons_zero, List.getElem?_cons_succ] at c0 c1 c2 c3
  go_wp2_with fail
  obtain ⟨K2, O2⟩ := put4 (Up.refl w1) O (.int .i64 R) (.int .i64 (E : Int)) (.int .u64 (F : Int)) (.int .i64 B)
  have z0 := O2.get 0
  have z1 := O2.get 1
  have z2 := O2.get 2
  have z3 := O2.get 3
  simp only [List.getElem?_toArray, List.getElem?_cons_zero, List.getElem?_cons_succ] at z0 z1 z2 z3
  refine bodyPost_ret (v := .tuple #[fdv R (E : Int) F B, .int .i64 0]) (by simp [results, Tryd.results12, go_sem, z0, z1, z2, z3]) rfl ?_
  exact ⟨rfl, K2.up U9 (by omega) (by omega)⟩
set_option maxHeartbeats 4000000 in
set_option maxRecDepth 100000 in
theorem psplit_wide (w : World) (wd : Int) (k : Nat) (hw : wd < 3 ∨ 65 < wd) :
    Calls Tryd.prog 12 #[.int .i64 wd, u64 k] w (Fdn 0 0 0 0 1 w) := by
  have hmf : ∀ (fn : Fn) (first cap : Array Value) (w : World), (Instr.makeFunc fn first cap).run Tryd.prog w = .ok (.func fn first cap) w := fun _ _ _ _ => rfl
  obtain ⟨V, hV⟩ : ∃ V, ((w.alloc (.cells #[.int .i64 wd] 3)).alloc (.cells #[u64 k] 22)).alloc (.cells #[.int .i64 0, .int .i64 0, .int .u64 0, .int .i64 0] 25) = V := ⟨_, rfl⟩
  have UV : Up w V := by rw [← hV]; exact ((((Up.refl w).alloc _).alloc _).alloc _)
  have sz : V.heap.size = w.heap.size + 1 + 1 + 1 := by rw [← hV]; simp only [size_alloc]
  have B0 : Ob V (w.heap.size) 3 #[.int .i64 wd] := by rw [← hV]; exact (Ob.mk_ _ _ _).up (((Up.refl _).alloc _).alloc _)
  have B1 : Ob V (w.heap.size + 1) 22 #[u64 k] := by rw [← hV]; exact (Ob.at1 _ _ _ _).up ((Up.refl _).alloc _)
  have B2 : Ob V (w.heap.size + 1 + 1) 25 #[.int .i64 0, .int .i64 0, .int .u64 0, .int .i64 0] := by rw [← hV]; exact (Ob.at2 _ _ _ _ _)
  have CC := Lib.hid (caught_str V 1 23 #[.pointer (some ⟨w.heap.size, 0, none⟩), .pointer (some ⟨w.heap.size + 1, 0, none⟩), .pointer (some ⟨w.heap.size + 1 + 1, 0, none⟩)] (enters_of Tryd.func23 (by kernel_rfl) rfl) (fun W U => csplit_wide W _ _ _ wd hw (((B0.up U).get 0).trans rfl) k (((B1.up U).get 0).trans rfl)))
  clear hw
  go_enter Tryd.func12, Tryd.ntmps12
  go_wp2_with fail
  try rw [hV]
  clear hV
  refine CC.out.mono ?_
  rintro _ w1 ⟨rfl, U1⟩
  have U9 : Up w w1 := UV.trans U1
  have O := B2.up U1
  have c0 := O.get 0
  have c1 := O.get 1
  have c2 := O.get 2
  have c3 := O.get 3
  have f0 := O.fr 0
  have f1 := O.fr 1
  have f2 := O.fr 2
  have f3 := O.fr 3
  simp only [List.getElem?_toArray, List.getElem?_cons_zero, List.getElem?_cons_succ] at c0 c1 c2 c3
  go_wp2_with fail
  obtain ⟨K2, O2⟩ := put4 (Up.refl w1) O (.int .i64 0) (.int .i64 0) (.int .u64 0) (.int .i64 0)
  have z0 := O2.get 0
  have z1 := O2.get 1
  have z2 := O2.get 2
  have z3 := O2.get 3
  simp only [List.getElem?_toArray, List.getElem?_cons_zero, List.getElem?_cons_succ] at z0 z1 z2 z3
  refine bodyPost_ret (v := .tuple #[fdv 0 0 0 0, .int .i64 1]) (by simp [results, Tryd.results12, go_sem, z0, z1, z2, z3]) rfl ?_
  exact ⟨rfl, K2.up U9 (by omega) (by omega)⟩
set_option maxHeartbeats 4000000 in
set_option maxRecDepth 100000 in
theorem psplit_key (w : World) (n k : Nat) (hn2 : 2 ≤ n) (hn : n ≤ 64) (hk : k < 18446744073709551616) (hx : k = 0 ∨ 2 ^ n ≤ k) :
    Calls Tryd.prog 12 #[.int .i64 ((n : Int) + 1), u64 k] w (Fdn 0 0 0 0 1 w) := by
  have hmf : ∀ (fn : Fn) (first cap : Array Value) (w : World), (Instr.makeFunc fn first cap).run Tryd.prog w = .ok (.func fn first cap) w := fun _ _ _ _ => rfl
  obtain ⟨V, hV⟩ : ∃ V, ((w.alloc (.cells #[.int .i64 ((n : Int) + 1)] 3)).alloc (.cells #[u64 k] 22)).alloc (.cells #[.int .i64 0, .int .i64 0, .int .u64 0, .int .i64 0] 25) = V := ⟨_, rfl⟩
  have UV : Up w V := by rw [← hV]; exact ((((Up.refl w).alloc _).alloc _).alloc _)
  have sz : V.heap.size = w.heap.size + 1 + 1 + 1 := by rw [← hV]; simp only [size_alloc]
  have B0 : Ob V (w.heap.size) 3 #[.int .i64 ((n : Int) + 1)] := by rw [← hV]; exact (Ob.mk_ _ _ _).up (((Up.refl _).alloc _).alloc _)
  have B1 : Ob V (w.heap.size + 1) 22 #[u64 k] := by rw [← hV]; exact (Ob.at1 _ _ _ _).up ((Up.refl _).alloc _)
  have B2 : Ob V (w.heap.size + 1 + 1) 25 #[.int .i64 0, .int .i64 0, .int .u64 0, .int .i64 0] := by rw [← hV]; exact (Ob.at2 _ _ _ _ _)
  have CC := Lib.hid (caught_str V 1 23 #[.pointer (some ⟨w.heap.size, 0, none⟩), .pointer (some ⟨w.heap.size + 1, 0, none⟩), .pointer (some ⟨w.heap.size + 1 + 1, 0, none⟩)] (enters_of Tryd.func23 (by kernel_rfl) rfl) (fun W U => csplit_out W _ _ _ n hn2 hn (((B0.up U).get 0).trans rfl) k hk hx (((B1.up U).get 0).trans rfl)))
  clear hx
  go_enter Tryd.func12, Tryd.ntmps12
  go_wp2_with fail
  try rw [hV]
  clear hV
  refine CC.out.mono ?_
  rintro _ w1 ⟨rfl, U1⟩
  have U9 : Up w w1 := UV.trans U1
  have O := B2.up U1
  have c0 := O.get 0
  have c1 := O.get 1
  have c2 := O.get 2
  have c3 := O.get 3
  have f0 := O.fr 0
  have f1 := O.fr 1
  have f2 := O.fr 2
  have f3 := O.fr 3
  simp only [List.getElem?_toArray, List.getElem?_cons_zero, List.getElem?_cons_succ] at c0 c1 c2 c3
  go_wp2_with fail
  obtain ⟨K2, O2⟩ := put4 (Up.refl w1) O (.int .i64 0) (.int .i64 0) (.int .u64 0) (.int .i64 0)
  have z0 := O2.get 0
  have z1 := O2.get 1
  have z2 := O2.get 2
  have z3 := O2.get 3
  simp only [List.getElem?_toArray, List.getElem?_cons_zero, List.getElem?_cons_succ] at z0 z1 z2 z3
  refine bodyPost_ret (v := .tuple #[fdv 0 0 0 0, .int .i64 1]) (by simp [results, Tryd.results12, go_sem, z0, z1, z2, z3]) rfl ?_
  exact ⟨rfl, K2.up U9 (by omega) (by omega)⟩
theorem of_bad5 {wd : Int} {k : Nat} (h : bad wd k) : (wd < 3 ∨ 65 < wd) ∨ ∃ n : Nat, wd = (n : Int) + 1 ∧ 2 ≤ n ∧ n ≤ 64 ∧ (k = 0 ∨ 2 ^ n ≤ k) := by
  by_cases hw : wd < 3 ∨ 65 < wd
  · exact .inl hw
  · refine .inr ⟨(wd - 1).toNat, by omega, by omega, by omega, ?_⟩
    rcases h with h | h | h | h
    · exact absurd (.inl h) hw
    · exact absurd (.inr h) hw
    · exact .inl h
    · exact .inr h
theorem psplit_out (w : World) (wd : Int) (k : Nat) (hk : k < 18446744073709551616) (h : bad wd k) : Calls Tryd.prog 12 #[.int .i64 wd, u64 k] w (Fdn 0 0 0 0 1 w) := by
  rcases of_bad5 h with hw | ⟨n, rfl, h2, hn, hx⟩
  · exact psplit_wide w wd k hw
  · exact psplit_key w n k h2 hn hk hx
theorem frozen_set (w : World) (p a : Addr) (v : Value) : (w.setCell p v).frozen? a = w.frozen? a := by simp [go_sem]
set_option maxHeartbeats 4000000 in
set_option maxRecDepth 100000 in
theorem pjoin_is (w : World) (n k : Nat) (hn2 : 2 ≤ n) (hn : n ≤ 64) (R E : Int) (F : Nat) (B : Int) (_hF : F < 18446744073709551616) (h : M.IsF n k R E F B) :
    Calls Tryd.prog 14 #[.int .i64 ((n : Int) + 1), fdv R E F B] w (Kn k 0 w) := by
  have hmf : ∀ (fn : Fn) (first cap : Array Value) (w : World), (Instr.makeFunc fn first cap).run Tryd.prog w = .ok (.func fn first cap) w := fun _ _ _ _ => rfl
  obtain ⟨V, hV⟩ : ∃ V, ((w.alloc (.cells #[.int .i64 ((n : Int) + 1)] 3)).alloc (.cells #[.int .i64 R, .int .i64 E, u64 F, .int .i64 B] 25)).alloc (.cells #[.int .u64 0] 22) = V := ⟨_, rfl⟩
  have UV : Up w V := by rw [← hV]; exact ((((Up.refl w).alloc _).alloc _).alloc _)
  have sz : V.heap.size = w.heap.size + 1 + 1 + 1 := by rw [← hV]; simp only [size_alloc]
  have B0 : Ob V (w.heap.size) 3 #[.int .i64 ((n : Int) + 1)] := by rw [← hV]; exact (Ob.mk_ _ _ _).up (((Up.refl _).alloc _).alloc _)
  have B1 : Ob V (w.heap.size + 1) 25 #[.int .i64 R, .int .i64 E, u64 F, .int .i64 B] := by rw [← hV]; exact (Ob.at1 _ _ _ _).up ((Up.refl _).alloc _)
  have B2 : Ob V (w.heap.size + 1 + 1) 22 #[.int .u64 0] := by rw [← hV]; exact (Ob.at2 _ _ _ _ _)
  have CC := Lib.hid (caught_ret V 1 28 #[.pointer (some ⟨w.heap.size, 0, none⟩), .pointer (some ⟨w.heap.size + 1, 0, none⟩), .pointer (some ⟨w.heap.size + 1 + 1, 0, none⟩)] (w.heap.size + 1 + 1) (w.heap.size + 1 + 1) (by omega) (by omega) (fun W => W.cell? ⟨w.heap.size + 1 + 1, 0, none⟩ = some (u64 k) ∧ W.frozen? ⟨w.heap.size + 1 + 1, 0, none⟩ = false) (enters_of Tryd.func28 (by kernel_rfl) rfl) (fun W c v hc hO => ⟨(World.cell?_setCell_other _ _ _ _ (by (try simp) <;> omega)).trans hO.1, (frozen_set _ _ _ _).trans hO.2⟩) (fun W U => cjoin_in W _ _ _ n hn2 hn k R E F B h (((B0.up U).get 0).trans rfl) (B1.up U) (((B2.up U).get 0).trans rfl) ((B2.up U).fr 0)))
  clear h
  go_enter Tryd.func14, Tryd.ntmps14
  go_wp2_with fail
  try rw [hV]
  clear hV
  refine CC.out.mono ?_
  rintro _ w1 ⟨rfl, K, c0, f0⟩
  have U9 : Up w w1 := K.up UV (by omega) (by omega)
  go_wp2_with fail
  have y0 : (w1.setCell ⟨w.heap.size + 1 + 1, 0, none⟩ (u64 k)).cell? ⟨w.heap.size + 1 + 1, 0, none⟩ = some (u64 k) := by simp [go_sem, c0]
  refine bodyPost_ret (v := .tuple #[u64 k, .int .i64 0]) (by simp [results, Tryd.results14, go_sem, c0, y0]) rfl ?_
  exact ⟨rfl, U9.setCell (p := ⟨w.heap.size + 1 + 1, 0, none⟩) (by simp only; omega) _⟩
set_option maxHeartbeats 4000000 in
set_option maxRecDepth 100000 in
theorem pjoin_out (w : World) (wd : Int) (hw : wd < 3 ∨ 65 < wd) (R E : Int) (F : Nat) (B : Int) :
    Calls Tryd.prog 14 #[.int .i64 wd, fdv R E F B] w (Kn 0 1 w) := by
  have hmf : ∀ (fn : Fn) (first cap : Array Value) (w : World), (Instr.makeFunc fn first cap).run Tryd.prog w = .ok (.func fn first cap) w := fun _ _ _ _ => rfl
  obtain ⟨V, hV⟩ : ∃ V, ((w.alloc (.cells #[.int .i64 wd] 3)).alloc (.cells #[.int .i64 R, .int .i64 E, u64 F, .int .i64 B] 25)).alloc (.cells #[.int .u64 0] 22) = V := ⟨_, rfl⟩
  have UV : Up w V := by rw [← hV]; exact ((((Up.refl w).alloc _).alloc _).alloc _)
  have sz : V.heap.size = w.heap.size + 1 + 1 + 1 := by rw [← hV]; simp only [size_alloc]
  have B0 : Ob V (w.heap.size) 3 #[.int .i64 wd] := by rw [← hV]; exact (Ob.mk_ _ _ _).up (((Up.refl _).alloc _).alloc _)
  have B1 : Ob V (w.heap.size + 1) 25 #[.int .i64 R, .int .i64 E, u64 F, .int .i64 B] := by rw [← hV]; exact (Ob.at1 _ _ _ _).up ((Up.refl _).alloc _)
  have B2 : Ob V (w.heap.size + 1 + 1) 22 #[.int .u64 0] := by rw [← hV]; exact (Ob.at2 _ _ _ _ _)
  have CC := Lib.hid (caught_str V 1 28 #[.pointer (some ⟨w.heap.size, 0, none⟩), .pointer (some ⟨w.heap.size + 1, 0, none⟩), .pointer (some ⟨w.heap.size + 1 + 1, 0, none⟩)] (enters_of Tryd.func28 (by kernel_rfl) rfl) (fun W U => cjoin_wide W _ _ _ wd hw (((B0.up U).get 0).trans rfl) R E F B (B1.up U)))
  clear hw
  go_enter Tryd.func14, Tryd.ntmps14
  go_wp2_with fail
  try rw [hV]
  clear hV
  refine CC.out.mono ?_
  rintro _ w1 ⟨rfl, U1⟩
  have U9 : Up w w1 := UV.trans U1
  have c0 : w1.cell? ⟨w.heap.size + 1 + 1, 0, none⟩ = some (u64 0) := ((B2.up U1).get 0).trans rfl
  have f0 := (B2.up U1).fr 0
  go_wp2_with fail
  have y0 : (w1.setCell ⟨w.heap.size + 1 + 1, 0, none⟩ (u64 0)).cell? ⟨w.heap.size + 1 + 1, 0, none⟩ = some (u64 0) := by simp [go_sem, c0]
  refine bodyPost_ret (v := .tuple #[u64 0, .int .i64 1]) (by simp [results, Tryd.results14, go_sem, c0, y0]) rfl ?_
  exact ⟨rfl, U9.setCell (p := ⟨w.heap.size + 1 + 1, 0, none⟩) (by simp only; omega) _⟩
set_option maxHeartbeats 4000000 in
set_option maxRecDepth 100000 in
theorem pjoin_none_ (w : World) (n : Nat) (hn2 : 2 ≤ n) (hn : n ≤ 64) (R E : Int) (F : Nat) (B : Int) (hF : F < 18446744073709551616) (hE1 : -9223372036854775808 ≤ E) (hE2 : E ≤ 9223372036854775807) (hx : ∀ k, ¬ M.IsF n k R E F B) :
    Calls Tryd.prog 14 #[.int .i64 ((n : Int) + 1), fdv R E F B] w (Kn 0 1 w) := by
  have hmf : ∀ (fn : Fn) (first cap : Array Value) (w : World), (Instr.makeFunc fn first cap).run Tryd.prog w = .ok (.func fn first cap) w := fun _ _ _ _ => rfl
  obtain ⟨V, hV⟩ : ∃ V, ((w.alloc (.cells #[.int .i64 ((n : Int) + 1)] 3)).alloc (.cells #[.int .i64 R, .int .i64 E, u64 F, .int .i64 B] 25)).alloc (.cells #[.int .u64 0] 22) = V := ⟨_, rfl⟩
  have UV : Up w V := by rw [← hV]; exact ((((Up.refl w).alloc _).alloc _).alloc _)
  have sz : V.heap.size = w.heap.size + 1 + 1 + 1 := by rw [← hV]; simp only [size_alloc]
  have B0 : Ob V (w.heap.size) 3 #[.int .i64 ((n : Int) + 1)] := by rw [← hV]; exact (Ob.mk_ _ _ _).up (((Up.refl _).alloc _).alloc _)
  have B1 : Ob V (w.heap.size + 1) 25 #[.int .i64 R, .int .i64 E, u64 F, .int .i64 B] := by rw [← hV]; exact (Ob.at1 _ _ _ _).up ((Up.refl _).alloc _)
  have B2 : Ob V (w.heap.size + 1 + 1) 22 #[.int .u64 0] := by rw [← hV]; exact (Ob.at2 _ _ _ _ _)
  have CC := Lib.hid (caught_none V 1 28 #[.pointer (some ⟨w.heap.size, 0, none⟩), .pointer (some ⟨w.heap.size + 1, 0, none⟩), .pointer (some ⟨w.heap.size + 1 + 1, 0, none⟩)] (enters_of Tryd.func28 (by kernel_rfl) rfl) (fun W U => cjoin_none W _ _ _ n hn2 hn (((B0.up U).get 0).trans rfl) R E F B hF hE1 hE2 hx (B1.up U)))
  clear hx
  go_enter Tryd.func14, Tryd.ntmps14
  go_wp2_with fail
  try rw [hV]
  clear hV
  refine CC.out.mono ?_
  rintro _ w1 ⟨rfl, U1⟩
  have U9 : Up w w1 := UV.trans U1
  have c0 : w1.cell? ⟨w.heap.size + 1 + 1, 0, none⟩ = some (u64 0) := ((B2.up U1).get 0).trans rfl
  have f0 := (B2.up U1).fr 0
  go_wp2_with fail
  have y0 : (w1.setCell ⟨w.heap.size + 1 + 1, 0, none⟩ (u64 0)).cell? ⟨w.heap.size + 1 + 1, 0, none⟩ = some (u64 0) := by simp [go_sem, c0]
  refine bodyPost_ret (v := .tuple #[u64 0, .int .i64 1]) (by simp [results, Tryd.results14, go_sem, c0, y0]) rfl ?_
  exact ⟨rfl, U9.setCell (p := ⟨w.heap.size + 1 + 1, 0, none⟩) (by simp only; omega) _⟩
set_option maxHeartbeats 4000000 in
set_option maxRecDepth 100000 in
theorem pvalue_is (w : World) (T : Tz w) (n k m : Nat) (z : Int) (hn : n ≤ 64) (h : M.IsK n k m z) :
    Calls Tryd.prog 16 #[.int .i64 ((n : Int) + 1), u64 k] w (Vn m z 0 w) := by
  have hn2 : 2 ≤ n := by obtain ⟨_, _, _, _, _, h, _⟩ := h; exact h.rng.2.2.1
  have hmf : ∀ (fn : Fn) (first cap : Array Value) (w : World), (Instr.makeFunc fn first cap).run Tryd.prog w = .ok (.func fn first cap) w := fun _ _ _ _ => rfl
  obtain ⟨V, hV⟩ : ∃ V, (((w.alloc (.cells #[.int .i64 ((n : Int) + 1)] 3)).alloc (.cells #[u64 k] 22)).alloc (.cells #[.int .u64 0] 22)).alloc (.cells #[.int .i64 0] 3) = V := ⟨_, rfl⟩
  have UV : Up w V := by rw [← hV]; exact (((((Up.refl w).alloc _).alloc _).alloc _).alloc _)
  have sz : V.heap.size = w.heap.size + 1 + 1 + 1 + 1 := by rw [← hV]; simp only [size_alloc]
  have B0 : Ob V (w.heap.size) 3 #[.int .i64 ((n : Int) + 1)] := by rw [← hV]; exact (Ob.mk_ _ _ _).up ((((Up.refl _).alloc _).alloc _).alloc _)
  have B1 : Ob V (w.heap.size + 1) 22 #[u64 k] := by rw [← hV]; exact (Ob.at1 _ _ _ _).up (((Up.refl _).alloc _).alloc _)
  have B2 : Ob V (w.heap.size + 1 + 1) 22 #[.int .u64 0] := by rw [← hV]; exact (Ob.at2 _ _ _ _ _).up ((Up.refl _).alloc _)
  have B3 : Ob V (w.heap.size + 1 + 1 + 1) 3 #[.int .i64 0] := by rw [← hV]; exact (Ob.at3 _ _ _ _ _ _)
  have CC := Lib.hid (caught_ret V 1 30 #[.pointer (some ⟨w.heap.size, 0, none⟩), .pointer (some ⟨w.heap.size + 1, 0, none⟩), .pointer (some ⟨w.heap.size + 1 + 1, 0, none⟩), .pointer (some ⟨w.heap.size + 1 + 1 + 1, 0, none⟩)] (w.heap.size + 1 + 1) (w.heap.size + 1 + 1 + 1) (by omega) (by omega) (fun W => W.cell? ⟨w.heap.size + 1 + 1, 0, none⟩ = some (u64 m) ∧ W.frozen? ⟨w.heap.size + 1 + 1, 0, none⟩ = false ∧ W.cell? ⟨w.heap.size + 1 + 1 + 1, 0, none⟩ = some (.int .i64 z) ∧ W.frozen? ⟨w.heap.size + 1 + 1 + 1, 0, none⟩ = false) (enters_of Tryd.func30 (by kernel_rfl) rfl) (fun W c v hc hO => ⟨(World.cell?_setCell_other _ _ _ _ (by (try simp) <;> omega)).trans hO.1, (frozen_set _ _ _ _).trans hO.2.1, (World.cell?_setCell_other _ _ _ _ (by (try simp) <;> omega)).trans hO.2.2.1, (frozen_set _ _ _ _).trans hO.2.2.2⟩) (fun W U => cvalue_in W (T.up (UV.trans U)) _ _ _ _ n hn2 hn k m z h (((B0.up U).get 0).trans rfl) (((B1.up U).get 0).trans rfl) (((B2.up U).get 0).trans rfl) ((B2.up U).fr 0) (((B3.up U).get 0).trans rfl) ((B3.up U).fr 0) (by omega) (by omega) (by omega) (by omega) (by omega)))
  clear h T
  go_enter Tryd.func16, Tryd.ntmps16
  go_wp2_with fail
  try rw [hV]
  clear hV
  refine CC.out.mono ?_
  rintro _ w1 ⟨rfl, K, c0, f0, d0, e0⟩
  have U9 : Up w w1 := K.up UV (by omega) (by omega)
  go_wp2_with fail
  go_region
  go_wp2_with fail
  have y0 : (((w1.setCell ⟨w.heap.size + 1 + 1, 0, none⟩ (.int .u64 (m : Int))).setCell ⟨w.heap.size + 1 + 1 + 1, 0, none⟩ (.int .i64 z)).drew).cell? ⟨w.heap.size + 1 + 1, 0, none⟩ = some (u64 m) := by simp [go_sem, c0, d0]
  have y1 : (((w1.setCell ⟨w.heap.size + 1 + 1, 0, none⟩ (.int .u64 (m : Int))).setCell ⟨w.heap.size + 1 + 1 + 1, 0, none⟩ (.int .i64 z)).drew).cell? ⟨w.heap.size + 1 + 1 + 1, 0, none⟩ = some (.int .i64 z) := by simp [go_sem, c0, d0]
  refine bodyPost_ret (v := .tuple #[u64 m, .int .i64 z, .int .i64 0]) (by simp [results, Tryd.results16, go_sem, y0, y1]) rfl ?_
  exact ⟨rfl, ((U9.setCell (p := ⟨w.heap.size + 1 + 1, 0, none⟩) (by simp only; omega) _).setCell (p := ⟨w.heap.size + 1 + 1 + 1, 0, none⟩) (by simp only; omega) _).drew⟩
set_option maxHeartbeats 4000000 in
set_option maxRecDepth 100000 in
theorem pvalue_wide (w : World) (wd : Int) (k : Nat) (hw : wd < 3 ∨ 65 < wd) :
    Calls Tryd.prog 16 #[.int .i64 wd, u64 k] w (Vn 0 0 1 w) := by
  have hmf : ∀ (fn : Fn) (first cap : Array Value) (w : World), (Instr.makeFunc fn first cap).run Tryd.prog w = .ok (.func fn first cap) w := fun _ _ _ _ => rfl
  obtain ⟨V, hV⟩ : ∃ V, (((w.alloc (.cells #[.int .i64 wd] 3)).alloc (.cells #[u64 k] 22)).alloc (.cells #[.int .u64 0] 22)).alloc (.cells #[.int .i64 0] 3) = V := ⟨_, rfl⟩
  have UV : Up w V := by rw [← hV]; exact (((((Up.refl w).alloc _).alloc _).alloc _).alloc _)
  have sz : V.heap.size = w.heap.size + 1 + 1 + 1 + 1 := by rw [← hV]; simp only [size_alloc]
  have B0 : Ob V (w.heap.size) 3 #[.int .i64 wd] := by rw [← hV]; exact (Ob.mk_ _ _ _).up ((((Up.refl _).alloc _).alloc _).alloc _)
  have B1 : Ob V (w.heap.size + 1) 22 #[u64 k] := by rw [← hV]; exact (Ob.at1 _ _ _ _).up (((Up.refl _).alloc _).alloc _)
  have B2 : Ob V (w.heap.size + 1 + 1) 22 #[.int .u64 0] := by rw [← hV]; exact (Ob.at2 _ _ _ _ _).up ((Up.refl _).alloc _)
  have B3 : Ob V (w.heap.size + 1 + 1 + 1) 3 #[.int .i64 0] := by rw [← hV]; exact (Ob.at3 _ _ _ _ _ _)
  have CC := Lib.hid (caught_str V 1 30 #[.pointer (some ⟨w.heap.size, 0, none⟩), .pointer (some ⟨w.heap.size + 1, 0, none⟩), .pointer (some ⟨w.heap.size + 1 + 1, 0, none⟩), .pointer (some ⟨w.heap.size + 1 + 1 + 1, 0, none⟩)] (enters_of Tryd.func30 (by kernel_rfl) rfl) (fun W U => cvalue_wide W _ _ _ _ wd hw (((B0.up U).get 0).trans rfl) k (((B1.up U).get 0).trans rfl)))
  clear hw
  go_enter Tryd.func16, Tryd.ntmps16
  go_wp2_with fail
  try rw [hV]
  clear hV
  refine CC.out.mono ?_
  rintro _ w1 ⟨rfl, U1⟩
  have U9 : Up w w1 := UV.trans U1
  have c0 : w1.cell? ⟨w.heap.size + 1 + 1, 0, none⟩ = some (u64 0) := ((B2.up U1).get 0).trans rfl
  have f0 := (B2.up U1).fr 0
  have d0 : w1.cell? ⟨w.heap.size + 1 + 1 + 1, 0, none⟩ = some (.int .i64 0) := ((B3.up U1).get 0).trans rfl
  have e0 := (B3.up U1).fr 0
  go_wp2_with fail
  go_region
  go_wp2_with fail
  have y0 : (((w1.setCell ⟨w.heap.size + 1 + 1, 0, none⟩ (.int .u64 0)).setCell ⟨w.heap.size + 1 + 1 + 1, 0, none⟩ (.int .i64 0)).drew).cell? ⟨w.heap.size + 1 + 1, 0, none⟩ = some (u64 0) := by simp [go_sem, c0, d0]
  have y1 : (((w1.setCell ⟨w.heap.size + 1 + 1, 0, none⟩ (.int .u64 0)).setCell ⟨w.heap.size + 1 + 1 + 1, 0, none⟩ (.int .i64 0)).drew).cell? ⟨w.heap.size + 1 + 1 + 1, 0, none⟩ = some (.int .i64 0) := by simp [go_sem, c0, d0]
  refine bodyPost_ret (v := .tuple #[u64 0, .int .i64 0, .int .i64 1]) (by simp [results, Tryd.results16, go_sem, y0, y1]) rfl ?_
  exact ⟨rfl, ((U9.setCell (p := ⟨w.heap.size + 1 + 1, 0, none⟩) (by simp only; omega) _).setCell (p := ⟨w.heap.size + 1 + 1 + 1, 0, none⟩) (by simp only; omega) _).drew⟩
set_option maxHeartbeats 4000000 in
set_option maxRecDepth 100000 in
theorem pvalue_key (w : World) (n k : Nat) (hn2 : 2 ≤ n) (hn : n ≤ 64) (hk : k < 18446744073709551616) (hx : k = 0 ∨ 2 ^ n ≤ k) :
    Calls Tryd.prog 16 #[.int .i64 ((n : Int) + 1), u64 k] w (Vn 0 0 1 w) := by
  have hmf : ∀ (fn : Fn) (first cap : Array Value) (w : World), (Instr.makeFunc fn first cap).run Tryd.prog w = .ok (.func fn first cap) w := fun _ _ _ _ => rfl
  obtain ⟨V, hV⟩ : ∃ V, (((w.alloc (.cells #[.int .i64 ((n : Int) + 1)] 3)).alloc (.cells #[u64 k] 22)).alloc (.cells #[.int .u64 0] 22)).alloc (.cells #[.int .i64 0] 3) = V := ⟨_, rfl⟩
  have UV : Up w V := by rw [← hV]; exact (((((Up.refl w).alloc _).alloc _).alloc _).alloc _)
  have sz : V.heap.size = w.heap.size + 1 + 1 + 1 + 1 := by rw [← hV]; simp only [size_alloc]
  have B0 : Ob V (w.heap.size) 3 #[.int .i64 ((n : Int) + 1)] := by rw [← hV]; exact (Ob.mk_ _ _ _).up ((((Up.refl _).alloc _).alloc _).alloc _)
  have B1 : Ob V (w.heap.size + 1) 22 #[u64 k] := by rw [← hV]; exact (Ob.at1 _ _ _ _).up (((Up.refl _).alloc _).alloc _)
  have B2 : Ob V (w.heap.size + 1 + 1) 22 #[.int .u64 0] := by rw [← hV]; exact (Ob.at2 _ _ _ _ _).up ((Up.refl _).alloc _)
  have B3 : Ob V (w.heap.size + 1 + 1 + 1) 3 #[.int .i64 0] := by rw [← hV]; exact (Ob.at3 _ _ _ _ _ _)
  have CC := Lib.hid (caught_str V 1 30 #[.pointer (some ⟨w.heap.size, 0, none⟩), .pointer (some ⟨w.heap.size + 1, 0, none⟩), .pointer (some ⟨w.heap.size + 1 + 1, 0, none⟩), .pointer (some ⟨w.heap.size + 1 + 1 + 1, 0, none⟩)] (enters_of Tryd.func30 (by kernel_rfl) rfl) (fun W U => cvalue_out W _ _ _ _ n hn2 hn (((B0.up U).get 0).trans rfl) k hk hx (((B1.up U).get 0).trans rfl)))
  clear hx
  go_enter Tryd.func16, Tryd.ntmps16
  go_wp2_with fail
  try rw [hV]
  clear hV
  refine CC.out.mono ?_
  rintro _ w1 ⟨rfl, U1⟩
  have U9 : Up w w1 := UV.trans U1
  have c0 : w1.cell? ⟨w.heap.size + 1 + 1, 0, none⟩ = some (u64 0) := ((B2.up U1).get 0).trans rfl
  have f0 := (B2.up U1).fr 0
  have d0 : w1.cell? ⟨w.heap.size + 1 + 1 + 1, 0, none⟩ = some (.int .i64 0) := ((B3.up U1).get 0).trans rfl
  have e0 := (B3.up U1).fr 0
  go_wp2_with fail
  go_region
  go_wp2_with fail
  have y0 : (((w1.setCell ⟨w.heap.size + 1 + 1, 0, none⟩ (.int .u64 0)).setCell ⟨w.heap.size + 1 + 1 + 1, 0, none⟩ (.int .i64 0)).drew).cell? ⟨w.heap.size + 1 + 1, 0, none⟩ = some (u64 0) := by simp [go_sem, c0, d0]
  have y1 : (((w1.setCell ⟨w.heap.size + 1 + 1, 0, none⟩ (.int .u64 0)).setCell ⟨w.heap.size + 1 + 1 + 1, 0, none⟩ (.int .i64 0)).drew).cell? ⟨w.heap.size + 1 + 1 + 1, 0, none⟩ = some (.int .i64 0) := by simp [go_sem, c0, d0]
  refine bodyPost_ret (v := .tuple #[u64 0, .int .i64 0, .int .i64 1]) (by simp [results, Tryd.results16, go_sem, y0, y1]) rfl ?_
  exact ⟨rfl, ((U9.setCell (p := ⟨w.heap.size + 1 + 1, 0, none⟩) (by simp only; omega) _).setCell (p := ⟨w.heap.size + 1 + 1 + 1, 0, none⟩) (by simp only; omega) _).drew⟩
theorem pvalue_out (w : World) (wd : Int) (k : Nat) (hk : k < 18446744073709551616) (h : bad wd k) : Calls Tryd.prog 16 #[.int .i64 wd, u64 k] w (Vn 0 0 1 w) := by
  rcases of_bad5 h with hw | ⟨n, rfl, h2, hn, hx⟩
  · exact pvalue_wide w wd k hw
  · exact pvalue_key w n k h2 hn hk hx
set_option maxHeartbeats 4000000 in
set_option maxRecDepth 100000 in
theorem pkey_is (w : World) (T : Tz w) (n k : Nat) (hn2 : 2 ≤ n) (hn : n ≤ 64) (m0 m t : Nat) (e0 z : Int) (hm0 : m0 < 18446744073709551616) (hm : m0 = m * 2 ^ t) (_he0 : -9223372036854775808 ≤ e0 ∧ e0 ≤ 9223372036854775807) (hz : e0 + t = z) (h : M.IsK n k m z) :
    Calls Tryd.prog 18 #[.int .i64 ((n : Int) + 1), u64 m0, .int .i64 e0] w (Kn k 0 w) := by
  have hmf : ∀ (fn : Fn) (first cap : Array Value) (w : World), (Instr.makeFunc fn first cap).run Tryd.prog w = .ok (.func fn first cap) w := fun _ _ _ _ => rfl
  obtain ⟨V, hV⟩ : ∃ V, (((w.alloc (.cells #[.int .i64 ((n : Int) + 1)] 3)).alloc (.cells #[u64 m0] 22)).alloc (.cells #[.int .i64 e0] 3)).alloc (.cells #[.int .u64 0] 22) = V := ⟨_, rfl⟩
  have UV : Up w V := by rw [← hV]; exact (((((Up.refl w).alloc _).alloc _).alloc _).alloc _)
  have sz : V.heap.size = w.heap.size + 1 + 1 + 1 + 1 := by rw [← hV]; simp only [size_alloc]
  have B0 : Ob V (w.heap.size) 3 #[.int .i64 ((n : Int) + 1)] := by rw [← hV]; exact (Ob.mk_ _ _ _).up ((((Up.refl _).alloc _).alloc _).alloc _)
  have B1 : Ob V (w.heap.size + 1) 22 #[u64 m0] := by rw [← hV]; exact (Ob.at1 _ _ _ _).up (((Up.refl _).alloc _).alloc _)
  have B2 : Ob V (w.heap.size + 1 + 1) 3 #[.int .i64 e0] := by rw [← hV]; exact (Ob.at2 _ _ _ _ _).up ((Up.refl _).alloc _)
  have B3 : Ob V (w.heap.size + 1 + 1 + 1) 22 #[.int .u64 0] := by rw [← hV]; exact (Ob.at3 _ _ _ _ _ _)
  have CC := Lib.hid (caught_ret V 8 32 #[.pointer (some ⟨w.heap.size, 0, none⟩), .pointer (some ⟨w.heap.size + 1, 0, none⟩), .pointer (some ⟨w.heap.size + 1 + 1, 0, none⟩), .pointer (some ⟨w.heap.size + 1 + 1 + 1, 0, none⟩)] (w.heap.size + 1 + 1 + 1) (w.heap.size + 1 + 1 + 1) (by omega) (by omega) (fun W => W.cell? ⟨w.heap.size + 1 + 1 + 1, 0, none⟩ = some (u64 k) ∧ W.frozen? ⟨w.heap.size + 1 + 1 + 1, 0, none⟩ = false) (enters_of Tryd.func32 (by kernel_rfl) rfl) (fun W c v hc hO => ⟨(World.cell?_setCell_other _ _ _ _ (by (try simp) <;> omega)).trans hO.1, (frozen_set _ _ _ _).trans hO.2⟩) (fun W U => ckey_in W (T.up (UV.trans U)) _ _ _ _ n hn2 hn k m0 m t e0 z hm0 hm hz h (((B0.up U).get 0).trans rfl) (((B1.up U).get 0).trans rfl) (((B2.up U).get 0).trans rfl) (((B3.up U).get 0).trans rfl) ((B3.up U).fr 0)))
  clear h T hm hz
  go_enter Tryd.func18, Tryd.ntmps18
  go_wp2_with fail
  try rw [hV]
  clear hV
  refine CC.out.mono ?_
  rintro _ w1 ⟨rfl, K, c0, f0⟩
  have U9 : Up w w1 := K.up UV (by omega) (by omega)
  go_wp2_with fail
  have y0 : (w1.setCell ⟨w.heap.size + 1 + 1 + 1, 0, none⟩ (u64 k)).cell? ⟨w.heap.size + 1 + 1 + 1, 0, none⟩ = some (u64 k) := by simp [go_sem, c0]
  refine bodyPost_ret (v := .tuple #[u64 k, .int .i64 0]) (by simp [results, Tryd.results18, go_sem, c0, y0]) rfl ?_
  exact ⟨rfl, U9.setCell (p := ⟨w.heap.size + 1 + 1 + 1, 0, none⟩) (by simp only; omega) _⟩
set_option maxHeartbeats 4000000 in
set_option maxRecDepth 100000 in
theorem pkey_none (w : World) (T : Tz w) (n : Nat) (hn2 : 2 ≤ n) (hn : n ≤ 64) (m0 m t : Nat) (e0 z : Int) (hm0 : m0 < 18446744073709551616) (hm : m0 = m * 2 ^ t) (ho : m % 2 = 1) (he0 : -9223372036854775808 ≤ e0 ∧ e0 ≤ 9223372036854775807) (hz : e0 + t = z) (hx : ∀ k, ¬ M.IsK n k m z) :
    Calls Tryd.prog 18 #[.int .i64 ((n : Int) + 1), u64 m0, .int .i64 e0] w (Kn 0 8 w) := by
  have hmf : ∀ (fn : Fn) (first cap : Array Value) (w : World), (Instr.makeFunc fn first cap).run Tryd.prog w = .ok (.func fn first cap) w := fun _ _ _ _ => rfl
  obtain ⟨V, hV⟩ : ∃ V, (((w.alloc (.cells #[.int .i64 ((n : Int) + 1)] 3)).alloc (.cells #[u64 m0] 22)).alloc (.cells #[.int .i64 e0] 3)).alloc (.cells #[.int .u64 0] 22) = V := ⟨_, rfl⟩
  have UV : Up w V := by rw [← hV]; exact (((((Up.refl w).alloc _).alloc _).alloc _).alloc _)
  have sz : V.heap.size = w.heap.size + 1 + 1 + 1 + 1 := by rw [← hV]; simp only [size_alloc]
  have B0 : Ob V (w.heap.size) 3 #[.int .i64 ((n : Int) + 1)] := by rw [← hV]; exact (Ob.mk_ _ _ _).up ((((Up.refl _).alloc _).alloc _).alloc _)
  have B1 : Ob V (w.heap.size + 1) 22 #[u64 m0] := by rw [← hV]; exact (Ob.at1 _ _ _ _).up (((Up.refl _).alloc _).alloc _)
  have B2 : Ob V (w.heap.size + 1 + 1) 3 #[.int .i64 e0] := by rw [← hV]; exact (Ob.at2 _ _ _ _ _).up ((Up.refl _).alloc _)
  have B3 : Ob V (w.heap.size + 1 + 1 + 1) 22 #[.int .u64 0] := by rw [← hV]; exact (Ob.at3 _ _ _ _ _ _)
  have CC := Lib.hid (caught_none V 8 32 #[.pointer (some ⟨w.heap.size, 0, none⟩), .pointer (some ⟨w.heap.size + 1, 0, none⟩), .pointer (some ⟨w.heap.size + 1 + 1, 0, none⟩), .pointer (some ⟨w.heap.size + 1 + 1 + 1, 0, none⟩)] (enters_of Tryd.func32 (by kernel_rfl) rfl) (fun W U => ckey_none W (T.up (UV.trans U)) _ _ _ _ n hn2 hn m0 m t e0 z hm0 hm ho he0 hz hx (((B0.up U).get 0).trans rfl) (((B1.up U).get 0).trans rfl) (((B2.up U).get 0).trans rfl)))
  clear hx T hm hz ho
  go_enter Tryd.func18, Tryd.ntmps18
  go_wp2_with fail
  try rw [hV]
  clear hV
  refine CC.out.mono ?_
  rintro _ w1 ⟨rfl, U1⟩
  have U9 : Up w w1 := UV.trans U1
  have c0 : w1.cell? ⟨w.heap.size + 1 + 1 + 1, 0, none⟩ = some (u64 0) := ((B3.up U1).get 0).trans rfl
  have f0 := (B3.up U1).fr 0
  go_wp2_with fail
  have y0 : (w1.setCell ⟨w.heap.size + 1 + 1 + 1, 0, none⟩ (u64 0)).cell? ⟨w.heap.size + 1 + 1 + 1, 0, none⟩ = some (u64 0) := by simp [go_sem, c0]
  refine bodyPost_ret (v := .tuple #[u64 0, .int .i64 8]) (by simp [results, Tryd.results18, go_sem, c0, y0]) rfl ?_
  exact ⟨rfl, U9.setCell (p := ⟨w.heap.size + 1 + 1 + 1, 0, none⟩) (by simp only; omega) _⟩
set_option maxHeartbeats 4000000 in
set_option maxRecDepth 100000 in
theorem pkey_wide (w : World) (wd : Int) (m0 : Nat) (e0 : Int) (hw : wd < 3 ∨ 65 < wd) :
    Calls Tryd.prog 18 #[.int .i64 wd, u64 m0, .int .i64 e0] w (Kn 0 1 w) := by
  have hmf : ∀ (fn : Fn) (first cap : Array Value) (w : World), (Instr.makeFunc fn first cap).run Tryd.prog w = .ok (.func fn first cap) w := fun _ _ _ _ => rfl
  obtain ⟨V, hV⟩ : ∃ V, (((w.alloc (.cells #[.int .i64 wd] 3)).alloc (.cells #[u64 m0] 22)).alloc (.cells #[.int .i64 e0] 3)).alloc (.cells #[.int .u64 0] 22) = V := ⟨_, rfl⟩
  have UV : Up w V := by rw [← hV]; exact (((((Up.refl w).alloc _).alloc _).alloc _).alloc _)
  have sz : V.heap.size = w.heap.size + 1 + 1 + 1 + 1 := by rw [← hV]; simp only [size_alloc]
  have B0 : Ob V (w.heap.size) 3 #[.int .i64 wd] := by rw [← hV]; exact (Ob.mk_ _ _ _).up ((((Up.refl _).alloc _).alloc _).alloc _)
  have B1 : Ob V (w.heap.size + 1) 22 #[u64 m0] := by rw [← hV]; exact (Ob.at1 _ _ _ _).up (((Up.refl _).alloc _).alloc _)
  have B2 : Ob V (w.heap.size + 1 + 1) 3 #[.int .i64 e0] := by rw [← hV]; exact (Ob.at2 _ _ _ _ _).up ((Up.refl _).alloc _)
  have B3 : Ob V (w.heap.size + 1 + 1 + 1) 22 #[.int .u64 0] := by rw [← hV]; exact (Ob.at3 _ _ _ _ _ _)
  have CC := Lib.hid (caught_str V 8 32 #[.pointer (some ⟨w.heap.size, 0, none⟩), .pointer (some ⟨w.heap.size + 1, 0, none⟩), .pointer (some ⟨w.heap.size + 1 + 1, 0, none⟩), .pointer (some ⟨w.heap.size + 1 + 1 + 1, 0, none⟩)] (enters_of Tryd.func32 (by kernel_rfl) rfl) (fun W U => ckey_wide W _ _ _ _ wd hw (((B0.up U).get 0).trans rfl)))
  clear hw
  go_enter Tryd.func18, Tryd.ntmps18
  go_wp2_with fail
  try rw [hV]
  clear hV
  refine CC.out.mono ?_
  rintro _ w1 ⟨rfl, U1⟩
  have U9 : Up w w1 := UV.trans U1
  have c0 : w1.cell? ⟨w.heap.size + 1 + 1 + 1, 0, none⟩ = some (u64 0) := ((B3.up U1).get 0).trans rfl
  have f0 := (B3.up U1).fr 0
  go_wp2_with fail
  have y0 : (w1.setCell ⟨w.heap.size + 1 + 1 + 1, 0, none⟩ (u64 0)).cell? ⟨w.heap.size + 1 + 1 + 1, 0, none⟩ = some (u64 0) := by simp [go_sem, c0]
  refine bodyPost_ret (v := .tuple #[u64 0, .int .i64 1]) (by simp [results, Tryd.results18, go_sem, c0, y0]) rfl ?_
  exact ⟨rfl, U9.setCell (p := ⟨w.heap.size + 1 + 1 + 1, 0, none⟩) (by simp only; omega) _⟩
set_option maxHeartbeats 4000000 in
set_option maxRecDepth 100000 in
theorem pkey_nought (w : World) (n : Nat) (hn2 : 2 ≤ n) (hn : n ≤ 64) (e0 : Int) :
    Calls Tryd.prog 18 #[.int .i64 ((n : Int) + 1), u64 0, .int .i64 e0] w (Kn 0 1 w) := by
  have hmf : ∀ (fn : Fn) (first cap : Array Value) (w : World), (Instr.makeFunc fn first cap).run Tryd.prog w = .ok (.func fn first cap) w := fun _ _ _ _ => rfl
  obtain ⟨V, hV⟩ : ∃ V, (((w.alloc (.cells #[.int .i64 ((n : Int) + 1)] 3)).alloc (.cells #[u64 0] 22)).alloc (.cells #[.int .i64 e0] 3)).alloc (.cells #[.int .u64 0] 22) = V := ⟨_, rfl⟩
  have UV : Up w V := by rw [← hV]; exact (((((Up.refl w).alloc _).alloc _).alloc _).alloc _)
  have sz : V.heap.size = w.heap.size + 1 + 1 + 1 + 1 := by rw [← hV]; simp only [size_alloc]
  have B0 : Ob V (w.heap.size) 3 #[.int .i64 ((n : Int) + 1)] := by rw [← hV]; exact (Ob.mk_ _ _ _).up ((((Up.refl _).alloc _).alloc _).alloc _)
  have B1 : Ob V (w.heap.size + 1) 22 #[u64 0] := by rw [← hV]; exact (Ob.at1 _ _ _ _).up (((Up.refl _).alloc _).alloc _)
  have B2 : Ob V (w.heap.size + 1 + 1) 3 #[.int .i64 e0] := by rw [← hV]; exact (Ob.at2 _ _ _ _ _).up ((Up.refl _).alloc _)
  have B3 : Ob V (w.heap.size + 1 + 1 + 1) 22 #[.int .u64 0] := by rw [← hV]; exact (Ob.at3 _ _ _ _ _ _)
  have CC := Lib.hid (caught_str V 8 32 #[.pointer (some ⟨w.heap.size, 0, none⟩), .pointer (some ⟨w.heap.size + 1, 0, none⟩), .pointer (some ⟨w.heap.size + 1 + 1, 0, none⟩), .pointer (some ⟨w.heap.size + 1 + 1 + 1, 0, none⟩)] (enters_of Tryd.func32 (by kernel_rfl) rfl) (fun W U => ckey_nought W _ _ _ _ n hn2 hn e0 (((B0.up U).get 0).trans rfl) (((B1.up U).get 0).trans rfl) (((B2.up U).get 0).trans rfl)))
  go_enter Tryd.func18, Tryd.ntmps18
  go_wp2_with fail
  try rw [hV]
  clear hV
  refine CC.out.mono ?_
  rintro _ w1 ⟨rfl, U1⟩
  have U9 : Up w w1 := UV.trans U1
  have c0 : w1.cell? ⟨w.heap.size + 1 + 1 + 1, 0, none⟩ = some (u64 0) := ((B3.up U1).get 0).trans rfl
  have f0 := (B3.up U1).fr 0
  go_wp2_with fail
  have y0 : (w1.setCell ⟨w.heap.size + 1 + 1 + 1, 0, none⟩ (u64 0)).cell? ⟨w.heap.size + 1 + 1 + 1, 0, none⟩ = some (u64 0) := by simp [go_sem, c0]
  refine bodyPost_ret (v := .tuple #[u64 0, .int .i64 1]) (by simp [results, Tryd.results18, go_sem, c0, y0]) rfl ?_
  exact ⟨rfl, U9.setCell (p := ⟨w.heap.size + 1 + 1 + 1, 0, none⟩) (by simp only; omega) _⟩
theorem pkey_out (w : World) (wd : Int) (m0 : Nat) (e0 : Int) (h : wd < 3 ∨ 65 < wd ∨ m0 = 0) : Calls Tryd.prog 18 #[.int .i64 wd, u64 m0, .int .i64 e0] w (Kn 0 1 w) := by
  by_cases hw : wd < 3 ∨ 65 < wd
  · exact pkey_wide w wd m0 e0 hw
  · obtain rfl : m0 = 0 := by omega
    have := pkey_nought w (wd - 1).toNat (by omega) (by omega) e0
    rwa [show (((wd - 1).toNat : Nat) : Int) + 1 = wd by omega] at this
theorem pjoin_none (w : World) (n : Nat) (hn2 : 2 ≤ n) (hn : n ≤ 64) (R E : Int) (F : Nat) (B : Int) (hF : F < 18446744073709551616) (hE : -9223372036854775808 ≤ E ∧ E ≤ 9223372036854775807) (h : ∀ k, ¬ M.IsF n k R E F B) :
    Calls Tryd.prog 14 #[.int .i64 ((n : Int) + 1), fdv R E F B] w (Kn 0 1 w) := pjoin_none_ w n hn2 hn R E F B hF hE.1 hE.2 h
end Go.Proofs.YtngoglhjelcdgaaDoor
