/-
  Package posit: its contracts.
-/
import Derived.Test.YtjcbncfpcechnaaDoorPq9
namespace Go.Proofs.YtjcbncfpcechnaaDoor
open Go.RowKit Go.Shelf
set_option linter.unusedSimpArgs false

theorem size_alloc (w : World) (o : Obj) : (w.alloc o).heap.size = w.heap.size + 1 := Array.size_push _
theorem Ob.at1 (w : World) (o : Obj) (ty : TypeId) (cs : Array Value) : Ob ((w.alloc o).alloc (.cells cs ty)) (w.heap.size + 1) ty cs := by
  have := Ob.mk_ (w.alloc o) ty cs
  rwa [size_alloc] at this
theorem Ob.at2 (w : World) (o o' : Obj) (ty : TypeId) (cs : Array Value) : Ob (((w.alloc o).alloc o').alloc (.cells cs ty)) (w.heap.size + 1 + 1) ty cs := by
  have := Ob.mk_ ((w.alloc o).alloc o') ty cs
  rwa [size_alloc, size_alloc] at this
theorem Ob.at3 (w : World) (o o' o'' : Obj) (ty : TypeId) (cs : Array Value) : Ob ((((w.alloc o).alloc o').alloc o'').alloc (.cells cs ty)) (w.heap.size + 1 + 1 + 1) ty cs := by
  have := Ob.mk_ (((w.alloc o).alloc o').alloc o'') ty cs
  rwa [size_alloc, size_alloc, size_alloc] at this

theorem of_bad5 {wd : Int} {k : Nat} (h : bad wd k) : (wd < 3 ∨ 65 < wd) ∨ ∃ n : Nat, wd = (n : Int) + 1 ∧ 2 ≤ n ∧ n ≤ 64 ∧ (k = 0 ∨ 2 ^ n ≤ k) := by
  by_cases hw : wd < 3 ∨ 65 < wd
  · exact .inl hw
  · refine .inr ⟨(wd - 1).toNat, by omega, by omega, by omega, ?_⟩
    rcases h with h | h | h | h
    · exact absurd (.inl h) hw
    · exact absurd (.inr h) hw
    · exact .inl h
    · exact .inr h
theorem frozen_set (w : World) (p a : Addr) (v : Value) : (w.setCell p v).frozen? a = w.frozen? a := by simp [go_sem]
set_option maxHeartbeats 4000000 in
set_option maxRecDepth 100000 in
theorem pvalue_is (w : World) (T : Tz w) (n k m : Nat) (z : Int) (hn : n ≤ 64) (h : M.IsK n k m z) :
    Calls Tryd.prog 70 #[.int .i64 ((n : Int) + 1), u64 k] w (Vn m z 0 w) := by
  have hn2 : 2 ≤ n := by obtain ⟨_, _, _, _, _, h, _⟩ := h; exact h.rng.2.2.1
  have hmf : ∀ (fn : Fn) (first cap : Array Value) (w : World), (Instr.makeFunc fn first cap).run Tryd.prog w = .ok (.func fn first cap) w := fun _ _ _ _ => rfl
  obtain ⟨V, hV⟩ : ∃ V, (((w.alloc (.cells #[.int .i64 ((n : Int) + 1)] 3)).alloc (.cells #[u64 k] 22)).alloc (.cells #[.int .u64 0] 22)).alloc (.cells #[.int .i64 0] 3) = V := ⟨_, rfl⟩
  have UV : Up w V := by rw [← hV]; exact (((((Up.refl w).alloc _).alloc _).alloc _).alloc _)
  have sz : V.heap.size = w.heap.size + 1 + 1 + 1 + 1 := by rw [← hV]; simp only [size_alloc]
  have B0 : Ob V (w.heap.size) 3 #[.int .i64 ((n : Int) + 1)] := by rw [← hV]; exact (Ob.mk_ _ _ _).up ((((Up.refl _).alloc _).alloc _).alloc _)
  have B1 : Ob V (w.heap.size + 1) 22 #[u64 k] := by rw [← hV]; exact (Ob.at1 _ _ _ _).up (((Up.refl _).alloc _).alloc _)
  have B2 : Ob V (w.heap.size + 1 + 1) 22 #[.int .u64 0] := by rw [← hV]; exact (Ob.at2 _ _ _ _ _).up ((Up.refl _).alloc _)
  have B3 : Ob V (w.heap.size + 1 + 1 + 1) 3 #[.int .i64 0] := by rw [← hV]; exact (Ob.at3 _ _ _ _ _ _)
  have CC := Lib.hid (caught_ret V 1 74 #[.pointer (some ⟨w.heap.size, 0, none⟩), .pointer (some ⟨w.heap.size + 1, 0, none⟩), .pointer (some ⟨w.heap.size + 1 + 1, 0, none⟩), .pointer (some ⟨w.heap.size + 1 + 1 + 1, 0, none⟩)] (w.heap.size + 1 + 1) (w.heap.size + 1 + 1 + 1) (by omega) (by omega) (fun W => W.cell? ⟨w.heap.size + 1 + 1, 0, none⟩ = some (u64 m) ∧ W.frozen? ⟨w.heap.size + 1 + 1, 0, none⟩ = false ∧ W.cell? ⟨w.heap.size + 1 + 1 + 1, 0, none⟩ = some (.int .i64 z) ∧ W.frozen? ⟨w.heap.size + 1 + 1 + 1, 0, none⟩ = false) (enters_of Tryd.func74 (by kernel_rfl) rfl) (fun W c v hc hO => ⟨(World.cell?_setCell_other _ _ _ _ (by (try simp) <;> omega)).trans hO.1, (frozen_set _ _ _ _).trans hO.2.1, (World.cell?_setCell_other _ _ _ _ (by (try simp) <;> omega)).trans hO.2.2.1, (frozen_set _ _ _ _).trans hO.2.2.2⟩) (fun W U => cvalue_in W (T.up (UV.trans U)) _ _ _ _ n hn2 hn k m z h (((B0.up U).get 0).trans rfl) (((B1.up U).get 0).trans rfl) (((B2.up U).get 0).trans rfl) ((B2.up U).fr 0) (((B3.up U).get 0).trans rfl) ((B3.up U).fr 0) (by omega) (by omega) (by omega) (by omega) (by omega)))
  clear h T
  go_enter Tryd.func70, Tryd.ntmps70
  go_wp2_with fail
  try rw [hV]
  clear hV
  refine CC.out.mono ?_
  rintro _ w1 ⟨rfl, K, c0, f0, d0, e0⟩
  have U9 : Up w w1 := K.up UV (by omega) (by omega)
  go_wp2_with fail
  go_region
  go_wp2_with fail
  have y0 : (((w1.setCell ⟨w.heap.size + 1 + 1, 0, none⟩ (.int .u64 (m : Int))).setCell ⟨w.heap.size + 1 + 1 + 1, 0, none⟩ (.int .i64 z)).drew).cell? ⟨w.heap.size + 1 + 1, 0, none⟩ = some (u64 m) := by simp [go_sem, c0, d0]
  have y1 : (((w1.setCell ⟨w.heap.size + 1 + 1, 0, none⟩ (.int .u64 (m : Int))).setCell ⟨w.heap.size + 1 + 1 + 1, 0, none⟩ (.int .i64 z)).drew).cell? ⟨w.heap.size + 1 + 1 + 1, 0, none⟩ = some (.int .i64 z) := by simp [go_sem, c0, d0]
  refine bodyPost_ret (v := .tuple #[u64 m, .int .i64 z, .int .i64 0]) (by simp [results, Tryd.results70, go_sem, y0, y1]) rfl ?_
  exact ⟨rfl, ((U9.setCell (p := ⟨w.heap.size + 1 + 1, 0, none⟩) (by simp only; omega) _).setCell (p := ⟨w.heap.size + 1 + 1 + 1, 0, none⟩) (by simp only; omega) _).drew⟩
set_option maxHeartbeats 4000000 in
set_option maxRecDepth 100000 in
theorem pvalue_wide (w : World) (wd : Int) (k : Nat) (hw : wd < 3 ∨ 65 < wd) :
    Calls Tryd.prog 70 #[.int .i64 wd, u64 k] w (Vn 0 0 1 w) := by
  have hmf : ∀ (fn : Fn) (first cap : Array Value) (w : World), (Instr.makeFunc fn first cap).run Tryd.prog w = .ok (.func fn first cap) w := fun _ _ _ _ => rfl
  obtain ⟨V, hV⟩ : ∃ V, (((w.alloc (.cells #[.int .i64 wd] 3)).alloc (.cells #[u64 k] 22)).alloc (.cells #[.int .u64 0] 22)).alloc (.cells #[.int .i64 0] 3) = V := ⟨_, rfl⟩
  have UV : Up w V := by rw [← hV]; exact (((((Up.refl w).alloc _).alloc _).alloc _).alloc _)
  have sz : V.heap.size = w.heap.size + 1 + 1 + 1 + 1 := by rw [← hV]; simp only [size_alloc]
  have B0 : Ob V (w.heap.size) 3 #[.int .i64 wd] := by rw [← hV]; exact (Ob.mk_ _ _ _).up ((((Up.refl _).alloc _).alloc _).alloc _)
  have B1 : Ob V (w.heap.size + 1) 22 #[u64 k] := by rw [← hV]; exact (Ob.at1 _ _ _ _).up (((Up.refl _).alloc _).alloc _)
  have B2 : Ob V (w.heap.size + 1 + 1) 22 #[.int .u64 0] := by rw [← hV]; exact (Ob.at2 _ _ _ _ _).up ((Up.refl _).alloc _)
  have B3 : Ob V (w.heap.size + 1 + 1 + 1) 3 #[.int .i64 0] := by rw [← hV]; exact (Ob.at3 _ _ _ _ _ _)
  have CC := Lib.hid (caught_str V 1 74 #[.pointer (some ⟨w.heap.size, 0, none⟩), .pointer (some ⟨w.heap.size + 1, 0, none⟩), .pointer (some ⟨w.heap.size + 1 + 1, 0, none⟩), .pointer (some ⟨w.heap.size + 1 + 1 + 1, 0, none⟩)] (enters_of Tryd.func74 (by kernel_rfl) rfl) (fun W U => cvalue_wide W _ _ _ _ wd hw (((B0.up U).get 0).trans rfl) k (((B1.up U).get 0).trans rfl)))
  clear hw
  go_enter Tryd.func70, Tryd.ntmps70
  go_wp2_with fail
  try rw [hV]
  clear hV
  refine CC.out.mono ?_
  rintro _ w1 ⟨rfl, U1⟩
  have U9 : Up w w1 := UV.trans U1
  have c0 : w1.cell? ⟨w.heap.size + 1 + 1, 0, none⟩ = some (u64 0) := ((B2.up U1).get 0).trans rfl
  have f0 := (B2.up U1).fr 0
  have d0 : w1.cell? ⟨w.heap.size + 1 + 1 + 1, 0, none⟩ = some (.int .i64 0) := ((B3.up U1).get 0).trans rfl
  have e0 := (B3.up U1).fr 0
  go_wp2_with fail
  go_region
  go_wp2_with fail
  have y0 : (((w1.setCell ⟨w.heap.size + 1 + 1, 0, none⟩ (.int .u64 0)).setCell ⟨w.heap.size + 1 + 1 + 1, 0, none⟩ (.int .i64 0)).drew).cell? ⟨w.heap.size + 1 + 1, 0, none⟩ = some (u64 0) := by simp [go_sem, c0, d0]
  have y1 : (((w1.setCell ⟨w.heap.size + 1 + 1, 0, none⟩ (.int .u64 0)).setCell ⟨w.heap.size + 1 + 1 + 1, 0, none⟩ (.int .i64 0)).drew).cell? ⟨w.heap.size + 1 + 1 + 1, 0, none⟩ = some (.int .i64 0) := by simp [go_sem, c0, d0]
  refine bodyPost_ret (v := .tuple #[u64 0, .int .i64 0, .int .i64 1]) (by simp [results, Tryd.results70, go_sem, y0, y1]) rfl ?_
  exact ⟨rfl, ((U9.setCell (p := ⟨w.heap.size + 1 + 1, 0, none⟩) (by simp only; omega) _).setCell (p := ⟨w.heap.size + 1 + 1 + 1, 0, none⟩) (by simp only; omega) _).drew⟩
set_option maxHeartbeats 4000000 in
set_option maxRecDepth 100000 in
theorem pvalue_key (w : World) (n k : Nat) (hn2 : 2 ≤ n) (hn : n ≤ 64) (hk : k < 18446744073709551616) (hx : k = 0 ∨ 2 ^ n ≤ k) :
    Calls Tryd.prog 70 #[.int .i64 ((n : Int) + 1), u64 k] w (Vn 0 0 1 w) := by
  have hmf : ∀ (fn : Fn) (first cap : Array Value) (w : World), (Instr.makeFunc fn first cap).run Tryd.prog w = .ok (.func fn first cap) w := fun _ _ _ _ => rfl
  obtain ⟨V, hV⟩ : ∃ V, (((w.alloc (.cells #[.int .i64 ((n : Int) + 1)] 3)).alloc (.cells #[u64 k] 22)).alloc (.cells #[.int .u64 0] 22)).alloc (.cells #[.int .i64 0] 3) = V := ⟨_, rfl⟩
  have UV : Up w V := by rw [← hV]; exact (((((Up.refl w).alloc _).alloc _).alloc _).alloc _)
  have sz : V.heap.size = w.heap.size + 1 + 1 + 1 + 1 := by rw [← hV]; simp only [size_alloc]
  have B0 : Ob V (w.heap.size) 3 #[.int .i64 ((n : Int) + 1)] := by rw [← hV]; exact (Ob.mk_ _ _ _).up ((((Up.refl _).alloc _).alloc _).alloc _)
  have B1 : Ob V (w.heap.size + 1) 22 #[u64 k] := by rw [← hV]; exact (Ob.at1 _ _ _ _).up (((Up.refl _).alloc _).alloc _)
  have B2 : Ob V (w.heap.size + 1 + 1) 22 #[.int .u64 0] := by rw [← hV]; exact (Ob.at2 _ _ _ _ _).up ((Up.refl _).alloc _)
  have B3 : Ob V (w.heap.size + 1 + 1 + 1) 3 #[.int .i64 0] := by rw [← hV]; exact (Ob.at3 _ _ _ _ _ _)
  have CC := Lib.hid (caught_str V 1 74 #[.pointer (some ⟨w.heap.size, 0, none⟩), .pointer (some ⟨w.heap.size + 1, 0, none⟩), .pointer (some ⟨w.heap.size + 1 + 1, 0, none⟩), .pointer (some ⟨w.heap.size + 1 + 1 + 1, 0, none⟩)] (enters_of Tryd.func74 (by kernel_rfl) rfl) (fun W U => cvalue_out W _ _ _ _ n hn2 hn (((B0.up U).get 0).trans rfl) k hk hx (((B1.up U).get 0).trans rfl)))
  clear hx
  go_enter Tryd.func70, Tryd.ntmps70
  go_wp2_with fail
  try rw [hV]
  clear hV
  refine CC.out.mono ?_
  rintro _ w1 ⟨rfl, U1⟩
  have U9 : Up w w1 := UV.trans U1
  have c0 : w1.cell? ⟨w.heap.size + 1 + 1, 0, none⟩ = some (u64 0) := ((B2.up U1).get 0).trans rfl
  have f0 := (B2.up U1).fr 0
  have d0 : w1.cell? ⟨w.heap.size + 1 + 1 + 1, 0, none⟩ = some (.int .i64 0) := ((B3.up U1).get 0).trans rfl
  have e0 := (B3.up U1).fr 0
  go_wp2_with fail
  go_region
  go_wp2_with fail
  have y0 : (((w1.setCell ⟨w.heap.size + 1 + 1, 0, none⟩ (.int .u64 0)).setCell ⟨w.heap.size + 1 + 1 + 1, 0, none⟩ (.int .i64 0)).drew).cell? ⟨w.heap.size + 1 + 1, 0, none⟩ = some (u64 0) := by simp [go_sem, c0, d0]
  have y1 : (((w1.setCell ⟨w.heap.size + 1 + 1, 0, none⟩ (.int .u64 0)).setCell ⟨w.heap.size + 1 + 1 + 1, 0, none⟩ (.int .i64 0)).drew).cell? ⟨w.heap.size + 1 + 1 + 1, 0, none⟩ = some (.int .i64 0) := by simp [go_sem, c0, d0]
  refine bodyPost_ret (v := .tuple #[u64 0, .int .i64 0, .int .i64 1]) (by simp [results, Tryd.results70, go_sem, y0, y1]) rfl ?_
  exact ⟨rfl, ((U9.setCell (p := ⟨w.heap.size + 1 + 1, 0, none⟩) (by simp only; omega) _).setCell (p := ⟨w.heap.size + 1 + 1 + 1, 0, none⟩) (by simp only; omega) _).drew⟩
theorem pvalue_out (w : World) (wd : Int) (k : Nat) (hk : k < 18446744073709551616) (h : bad wd k) : Calls Tryd.prog 70 #[.int .i64 wd, u64 k] w (Vn 0 0 1 w) := by
  rcases of_bad5 h with hw | ⟨n, rfl, h2, hn, hx⟩
  · exact pvalue_wide w wd k hw
  · exact pvalue_key w n k h2 hn hk hx
end Go.Proofs.YtjcbncfpcechnaaDoor
