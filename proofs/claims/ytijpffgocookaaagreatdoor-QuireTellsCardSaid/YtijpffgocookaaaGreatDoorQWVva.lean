import Derived.Test.YtijpffgocookaaaGreatDoorQWFoa
import Derived.Test.YtijpffgocookaaaGreatDoorQWPfa
import Derived.Maps.Own
import Derived.Deep.RegionHeld3
import Derived.Test.YtijpffgocookaaaGreatDoorQWVga
import Derived.Test.YtijpffgocookaaaGreatDoorQWPca
import Derived.Test.YtijpffgocookaaaGreatDoorQWMqa
import Derived.BigQuiet
import Derived.Deep.RegionWith
set_option maxHeartbeats 32000000
set_option linter.unusedVariables false
set_option linter.unusedSimpArgs false
namespace Go.Proofs.YtijpffgocookaaaGreatDoor
open Go.RowKit
open Go.ChangeMaps Go.MapKept
abbrev fn_ (g : Nat) : Value := .func (.func g) #[] #[]
def Wk (k : Int) (a b c d : Nat) : Prop :=
 (k = 1 ∧ a = 134 ∧ b = 135 ∧ c = 136 ∧ d = 137) ∨
 (k = 2 ∧ a = 138 ∧ b = 139 ∧ c = 140 ∧ d = 141) ∨
 (k = 3 ∧ a = 134 ∧ b = 135 ∧ c = 142 ∧ d = 143) ∨
 (k = 4 ∧ a = 144 ∧ b = 145 ∧ c = 146 ∧ d = 147)
theorem wk_ex {k : Int} (h : k = 1 ∨ k = 2 ∨ k = 3 ∨ k = 4) : ∃ a b c d, Wk k a b c d := by
 rcases h with rfl | rfl | rfl | rfl
 ·exact ⟨_, _, _, _, .inl ⟨rfl, rfl, rfl, rfl, rfl⟩⟩
 ·exact ⟨_, _, _, _, .inr (.inl ⟨rfl, rfl, rfl, rfl, rfl⟩)⟩
 ·exact ⟨_, _, _, _, .inr (.inr (.inl ⟨rfl, rfl, rfl, rfl, rfl⟩))⟩
 ·exact ⟨_, _, _, _, .inr (.inr (.inr ⟨rfl, rfl, rfl, rfl, rfl⟩))⟩
def ents : List MapEntry := [
 ⟨.int .i64 1, .agg #[fn_ 134, fn_ 135, fn_ 136, fn_ 137], 0⟩,
 ⟨.int .i64 2, .agg #[fn_ 138, fn_ 139, fn_ 140, fn_ 141], 1⟩,
 ⟨.int .i64 3, .agg #[fn_ 134, fn_ 135, fn_ 142, fn_ 143], 2⟩,
 ⟨.int .i64 4, .agg #[fn_ 144, fn_ 145, fn_ 146, fn_ 147], 3⟩]
def Wm (w : World) (b n : Nat) : Prop := w.heap[b]? = some (.map (ents.take n).toArray n)
theorem Wm.lt {w : World} {b n : Nat} (h : Wm w b n) : b < w.heap.size := (Array.getElem?_eq_some_iff.1 h).1
theorem Wm.up {w w' : World} {b n : Nat} (h : Wm w b n) (hu : Up w w') : Wm w' b n := (Below.block hu b h.lt).trans h
theorem mt_ : Tryz.prog.underlying 145 = some (.map 3 104) := Tryz.underlying145
theorem ckey_ (w : World) (e : Bool) (k : Int) : (Instr.checkKey e 10000 3 (.int .i64 k)).run Tryz.prog w = .ok () w := MapKept.run_checkKey Tryz.underlying3 (by simp [IsKey]) e 9999
theorem Wm.put {w : World} {b n : Nat} (h : Wm w b n) {k : Int} {v : Value} (he : ents[n]? = some ⟨.int .i64 k, v, n⟩) :
  ∃ V, (Instr.mapUpdate 145 (.map (some b)) (.int .i64 k) v).run Tryz.prog w = .ok () V ∧ Wm V b (n + 1) ∧ w.grownBy V (some b) := by
 have hf : Instr.findNow (.int .i64) (.int .i64 k) (ents.take n) 0 = some none := by
  match n, he with
  | 0, he => rfl
  | 1, he => simp [ents] at he; obtain ⟨rfl, _⟩ := he; rfl
  | 2, he => simp [ents] at he; obtain ⟨rfl, _⟩ := he; rfl
  | 3, he => simp [ents] at he; obtain ⟨rfl, _⟩ := he; rfl
  | n + 4, he => simp [ents] at he
 have ht : (ents.take (n + 1)).toArray = (ents.take n).toArray.push ⟨.int .i64 k, v, n⟩ := by
  rw [List.take_add_one, he]
  simp
 have hb : w.heap[b]? = some (.map (ents.take n).toArray n) := h
 refine ⟨setBlock w b (.map ((ents.take n).toArray.push ⟨.int .i64 k, v, n⟩) (n + 1)), ?_, ?_, ⟨rfl, rfl, rfl, by simp [setBlock], fun i _ hi => heap_setBlock_other hb _ (fun e => hi (by rw [e]))⟩⟩
 ·have hk := MapKept.run_findKey (w := w) (l := (ents.take n).toArray.toList) Tryz.underlying3 (by simpa using hf)
  simp [Instr.mapUpdate, run_underlying mt_, MapKept.run_getObj_map hb, ckey_ w false k, hk, MapKept.run_setObj_map _ hb, Result.andThen, setBlock]
 ·unfold Wm
  rw [ht]
  exact heap_setBlock_same hb _
theorem Wm.look {w : World} {m : Nat} (h : Wm w m 4) {k : Int} {a b c d : Nat} (hk : Wk k a b c d) :
  (Instr.lookup 145 (.map (some m)) (.int .i64 k) false).run Tryz.prog w = .ok (.agg #[fn_ a, fn_ b, fn_ c, fn_ d]) w := by
 have hb : w.heap[m]? = some (.map (ents.take 4).toArray 4) := h
 have hf : ∃ i, Instr.findNow (.int .i64) (.int .i64 k) (ents.take 4) 0 = some (some (i, .agg #[fn_ a, fn_ b, fn_ c, fn_ d])) := by
  rcases hk with ⟨rfl, rfl, rfl, rfl, rfl⟩ | ⟨rfl, rfl, rfl, rfl, rfl⟩ | ⟨rfl, rfl, rfl, rfl, rfl⟩ | ⟨rfl, rfl, rfl, rfl, rfl⟩
  ·exact ⟨0, rfl⟩
  ·exact ⟨1, rfl⟩
  ·exact ⟨2, rfl⟩
  ·exact ⟨3, rfl⟩
 obtain ⟨i, hf⟩ := hf
 have hk := MapKept.run_findKey (w := w) (l := (ents.take 4).toArray.toList) Tryz.underlying3 (by simpa using hf)
 simp [Instr.lookup, run_underlying mt_, MapKept.run_getObj_map hb, ckey_ w _ k, hk, Result.andThen]
theorem wpList_insert_ {P : Program} {w w' : World} {ops : Array Oper} {rest : List Oper} {o : Oper} {a : Act} {Q : Exit → Act → World → Prop}
  (hg : o.guard = none) (m x v : Operand) (t : TypeId) (hop : o.op = Op.insert t m x v) (b : Nat) (key val : Value) (hm : a.eval m = .map (some b)) (hx : a.eval x = key) (hv : a.eval v = val)
  (hrun : (Instr.mapUpdate t (.map (some b)) key val).run P w = .ok () w') (hK : wpList P ops Q rest (a.put o.dst undef) w') :
  wpList P ops Q (o :: rest) a w := by
 refine wpList_plain hg fun K' hK' => ?_
 unfold Oper.wp
 simp [execOp, hop, hm, hx, hv, hrun, Result.andThen]
 exact hK' _ _ hK
theorem put_way {P : Program} {w0 w : World} {ops : Array Oper} {rest : List Oper} {o : Oper} {a : Act} {Q : Exit → Act → World → Prop} (hP : P = Tryz.prog)
  (hg : o.guard = none) (m x v : Operand) (hop : o.op = Op.insert 145 m x v) (b n : Nat) (k : Int) (val : Value) (hW : Wm w b n) (U : Up w0 w) (hb : w0.heap.size ≤ b) (he : ents[n]? = some ⟨.int .i64 k, val, n⟩)
  (hm : a.eval m = .map (some b)) (hx : a.eval x = .int .i64 k) (hv : a.eval v = val)
  (h : ∀ V, Wm V b (n + 1) → Up w0 V → wpList P ops Q rest (a.put o.dst undef) V) : wpList P ops Q (o :: rest) a w := by
 subst hP
 obtain ⟨V, h1, h2, h3⟩ := hW.put he
 exact wpList_insert_ hg m x v _ hop b _ _ hm hx hv h1 (h V h2 (U.grown h3 (fun j hj => by cases hj; exact hb)))
def Ways (w : World) (e : Ending) (w' : World) : Prop := ∃ b, e = .returned (.map (some b)) ∧ Wm w' b 4 ∧ Up w w'
theorem ways_any (w : World) : Calls Tryz.prog 106 #[] w (Ways w) := by
 have hmm := @run_makeMap Tryz.prog
 have B0 : Wm (w.alloc (.map #[] 0)) w.heap.size 0 := (MapKept.heap_alloc w _).1
 have U0 : Up w (w.alloc (.map #[] 0)) := (Up.refl w).alloc _
 go_enter Tryz.func106, Tryz.ntmps106
 go_wp2_with (first
  | (refine put_way rfl rfl _ _ _ rfl _ 0 1 _ B0 U0 (Nat.le_refl _) rfl rfl rfl rfl ?_; clear B0 U0; intro V1 B1 U1)
  | (refine put_way rfl rfl _ _ _ rfl _ 1 2 _ B1 U1 (Nat.le_refl _) rfl rfl rfl rfl ?_; clear B1 U1; intro V2 B2 U2)
  | (refine put_way rfl rfl _ _ _ rfl _ 2 3 _ B2 U2 (Nat.le_refl _) rfl rfl rfl rfl ?_; clear B2 U2; intro V3 B3 U3)
  | (refine put_way rfl rfl _ _ _ rfl _ 3 4 _ B3 U3 (Nat.le_refl _) rfl rfl rfl rfl ?_; clear B3 U3; intro V4 B4 U4))
 go_ret
 exact ⟨_, rfl, B4, U4⟩
end Go.Proofs.YtijpffgocookaaaGreatDoor
namespace Go.Proofs.YtijpffgocookaaaGreatDoor
open Go.RowKit
abbrev shc (f : M.Fm) (a b c d : Nat) : Array Value := #[.int .i64 f.k, .int .i64 f.W, .int .i64 f.m, .int .i64 f.b, .int .u64 f.t, .int .u64 f.n, .int .u64 f.x, fn_ a, fn_ b, fn_ c, fn_ d]
abbrev zsh : Array Value := #[.int .i64 0, .int .i64 0, .int .i64 0, .int .i64 0, .int .u64 0, .int .u64 0, .int .u64 0, .nilFunc, .nilFunc, .nilFunc, .nilFunc]
def Sh (f : M.Fm) (a b c d : Nat) (x : Int) (w : World) (e : Ending) (w' : World) : Prop := e = .returned (.tuple #[.agg (shc f a b c d), .int .i64 x]) ∧ Up w w'
set_option maxRecDepth 100000 in
theorem shape_in (w : World) (hF : TabF w) (i : Nat) (f : M.Fm) (hf : Hid (M.tb i = f)) (i1 : 1 ≤ i) (i2 : i ≤ 14) (a b c d : Nat) (hk : Wk f.k a b c d) :
  Calls Tryz.prog 66 #[.int .i64 (i : Int)] w (Sh f a b c d 0 w) := by
 have CW := Lib.hid (fun W => ways_any W)
 have HK := Lib.hid hk
 clear hk
 have U := Up.refl w
 go_enter Tryz.func66, Tryz.ntmps66
 go_wp2_with fail
 obtain ⟨V1, hV1⟩ : ∃ V1, w.alloc (.cells zsh 106) = V1 := ⟨_, rfl⟩
 have uV1 : Up w V1 := Up.al hV1
 have B : Ob V1 w.heap.size 106 zsh := by rw [← hV1]; exact Ob.mk_ _ _ _
 rw [hV1]
 clear hV1
 replace U := U.trans uV1
 clear uV1
 refine (of_in _ (hF.up U) i f hf i1 i2).mono ?_
 rintro _ w2 ⟨rfl, h2⟩
 replace B := B.up h2
 replace U := U.trans h2
 clear h2 hF hf i1 i2
 have lt2 := B.lt
 go_wp2_with fail
 obtain ⟨V3, hV3, C, uV3⟩ := Bf.nw w2 f 74
 rw [hV3]
 clear hV3
 replace B := B.up uV3
 replace U := U.trans uV3
 clear uV3
 refine wp_region_held_drew (S := fun w' => Bf w' w2.heap.size 74 f) (by kernel_rfl) C.drew (fun hHeld => ?_)
 refine wpAnyH_take (i := 0) (v := ?_) rfl (by kernel_rfl) (by kernel_rfl) (by kernel_rfl) (fun _ _ _ h => h) (Or.inl ⟨by rfl, ?_⟩) (by assumption) ?_
 rotate_left
 ·intro w hSw
  obtain ⟨c0, c1, c2, c3, c4, c5, c6⟩ := Bf.cs hSw
  simp only [Nat.zero_add] at c0 c1 c2 c3 c4 c5 c6
  go_simp
  all_goals with_reducible rfl
 try simp only [Act.put, M.z1, M.z2, M.z3, M.z4, M.z5, M.z6]
 refine wpAnyH_take (i := 2) (v := ?_) rfl (by kernel_rfl) (by kernel_rfl) (by kernel_rfl) (fun _ _ _ h => h) (Or.inl ⟨by rfl, ?_⟩) (by assumption) ?_
 rotate_left
 ·intro w hSw
  obtain ⟨c0, c1, c2, c3, c4, c5, c6⟩ := Bf.cs hSw
  simp only [Nat.zero_add] at c0 c1 c2 c3 c4 c5 c6
  go_simp
  all_goals with_reducible rfl
 try simp only [Act.put, M.z1, M.z2, M.z3, M.z4, M.z5, M.z6]
 refine wpAnyH_take (i := 3) (v := ?_) rfl (by kernel_rfl) (by kernel_rfl) (by kernel_rfl) (fun _ _ _ h => h) (Or.inl ⟨by rfl, ?_⟩) (by assumption) ?_
 rotate_left
 ·intro w hSw
  obtain ⟨c0, c1, c2, c3, c4, c5, c6⟩ := Bf.cs hSw
  simp only [Nat.zero_add] at c0 c1 c2 c3 c4 c5 c6
  go_simp
  all_goals with_reducible rfl
 try simp only [Act.put, M.z1, M.z2, M.z3, M.z4, M.z5, M.z6]
 refine wpAnyH_ready (rs := [1]) (by kernel_rfl) (by simp) ?_
 refine AllReadyH.cons rfl (fun K hK => ?_) AllReadyH.nil
 go_simp
 refine (CW.out _).mono ?_
 rintro _ w4 ⟨mb, rfl, hm, h4⟩
 have uw4 : Up V3 w4 := Up.trans ((Up.refl V3).drew) h4
 have hlk := hm.look HK.out
 have C4 := C.up uw4
 have B4 := B.up uw4
 have U4 := U.trans uw4
 clear hHeld h4 uw4 C B U hm
 refine hK.out _ _ C4 (fun _ => ?_)
 try simp only [Act.put, M.z1, M.z2, M.z3, M.z4, M.z5, M.z6]
 clear hK
 refine wpAnyH_ready (rs := [4]) (by kernel_rfl) (by simp) ?_
 refine AllReadyH.cons rfl (fun K hK => ?_) AllReadyH.nil
 go_simp
 refine hK.out _ _ C4 (fun _ => ?_)
 try simp only [Act.put, M.z1, M.z2, M.z3, M.z4, M.z5, M.z6]
 clear hK
 refine wpAnyH_ready (rs := [5]) (by kernel_rfl) (by simp) ?_
 refine AllReadyH.cons rfl (fun K hK => ?_) AllReadyH.nil
 go_simp
 refine hK.out _ _ C4 (fun _ => ?_)
 try simp only [Act.put, M.z1, M.z2, M.z3, M.z4, M.z5, M.z6]
 clear hK
 refine wpAnyH_ready (rs := [6]) (by kernel_rfl) (by simp) ?_
 refine AllReadyH.cons rfl (fun K hK => ?_) AllReadyH.nil
 rw [if_pos (by rfl)]
 refine wp_store_row 106 (.tmp 2) (.tmp 20) rfl w.heap.size (shc f a b c d) rfl rfl 106 zsh B4 (by kernel_rfl) rfl (by simp [Value.oneCell']) ?_
 have B5 : Ob (w4.setRow w.heap.size (shc f a b c d)) w.heap.size 106 (shc f a b c d) := setRow_heap _ _ _ _ _ _ B4
 have U5 : Up w (w4.setRow w.heap.size (shc f a b c d)) := U4.setRow_ (Nat.le_refl _) _
 refine hK.out _ _ ((setRow_other w4 w.heap.size _ _ (by omega)).trans C4) (fun C5 => ?_)
 try simp only [Act.put, M.z1, M.z2, M.z3, M.z4, M.z5, M.z6]
 clear hK hlk U4 B4 C4
 obtain ⟨V5, hV5⟩ : ∃ V5, w4.setRow w.heap.size (shc f a b c d) = V5 := ⟨_, rfl⟩
 rw [hV5] at B5 U5 C5 ⊢
 clear hV5
 refine wpAnyH_ready (rs := [7]) (by kernel_rfl) (by simp) ?_
 refine AllReadyH.cons rfl (fun K hK => ?_) AllReadyH.nil
 go_simp
 refine hK.out _ _ C5 (fun _ => ?_)
 try simp only [Act.put, M.z1, M.z2, M.z3, M.z4, M.z5, M.z6]
 clear hK
 refine wpAnyH_done (by kernel_rfl) ?_ _
 go_wp2_with fail
 have z0 := B5.get 0
 have z1 := B5.get 1
 have z2 := B5.get 2
 have z3 := B5.get 3
 have z4 := B5.get 4
 have z5 := B5.get 5
 have z6 := B5.get 6
 have z7 := B5.get 7
 have z8 := B5.get 8
 have z9 := B5.get 9
 have z10 := B5.get 10
 simp only [M.z7, M.z8, M.z9] at z0 z1 z2 z3 z4 z5 z6 z7 z8 z9 z10
 refine bodyPost_ret (v := .tuple #[.agg (shc f a b c d), .int .i64 0]) (by simp [results, Tryz.results66, go_sem, z0, z1, z2, z3, z4, z5, z6, z7, z8, z9, z10]) rfl ?_
 exact ⟨rfl, U5⟩
def Rp (c : Int) (g : Bool) (k : Int) (w : World) (e : Ending) (w' : World) : Prop := e = .returned (.tuple #[.int .i64 c, .bool g, .int .u64 k]) ∧ Up w w'
set_option maxRecDepth 100000 in
theorem turned_any (w : World) (f : M.Fm) (hf : M.Ok f) (p : Int) (p1 : 0 ≤ p) (p2 : p ≤ M.msk f) (z : Int) (hz : M.trn f p = z) : Calls Tryz.prog 165 #[fv f, .int .u64 p] w (Wz z w) := by
 have pm : p < 18446744073709551616 := by have := hf.hm; omega
 have hb := M.and_neg_mask hf p1 p2
 rw [hz] at hb
 obtain ⟨M', hM⟩ : ∃ z, M.msk f = z := ⟨_, rfl⟩
 rw [hM] at hb
 have CM := Lib.hid (fun W => mask_any W f hf M' (Lib.hid hM))
 clear hz p2 hf hM
 have U := Up.refl w
 go_enter Tryz.func165, Tryz.ntmps165
 go_wp2_with fail
 obtain ⟨V1, hV1, c, uV1⟩ := Bf.nw w f 74
 have ltc : w.heap.size ≤ w.heap.size := U.size
 rw [hV1]
 clear hV1
 replace U := U.trans uV1
 clear uV1
 obtain ⟨c0, c1, c2, c3, c4, c5, c6⟩ := Bf.cs c
 have c7 := Bf.lt c
 simp only [Nat.zero_add] at c0 c1 c2 c3 c4 c5 c6 c7
 go_wp2_with fail
 clear c0 c1 c2 c3 c4 c5 c6 c7
 refine (CM.out _).mono ?_
 rintro _ w2 ⟨rfl, h2⟩
 replace U := U.trans h2
 replace c := c.up h2
 clear h2
 obtain ⟨c0, c1, c2, c3, c4, c5, c6⟩ := Bf.cs c
 have c7 := Bf.lt c
 simp only [Nat.zero_add] at c0 c1 c2 c3 c4 c5 c6 c7
 go_wp2_with fail
 clear c0 c1 c2 c3 c4 c5 c6 c7
 go_ret
 exact ⟨by first | rfl | exact ret_int hb, U⟩
set_option maxRecDepth 100000 in
theorem wturned_any (w : World) (f : M.Fm) (hf : M.Ok f) (neg : Bool) (k : Int) (k1 : 0 ≤ k) (k2 : k ≤ M.msk f) (z : Int) (hz : (if neg = true then M.trn f k else k) = z) : Calls Tryz.prog 135 #[fv f, .bool neg, .int .u64 k] w (Wz z w) := by
 cases neg
 ·
  rw [if_neg (by decide)] at hz
  subst hz
  clear hf k2
  have U := Up.refl w
  go_enter Tryz.func135, Tryz.ntmps135
  go_wp2_with fail
  obtain ⟨V1, hV1, c, uV1⟩ := Bf.nw w f 74
  have ltc : w.heap.size ≤ w.heap.size := U.size
  rw [hV1]
  clear hV1
  replace U := U.trans uV1
  clear uV1
  obtain ⟨c0, c1, c2, c3, c4, c5, c6⟩ := Bf.cs c
  have c7 := Bf.lt c
  simp only [Nat.zero_add] at c0 c1 c2 c3 c4 c5 c6 c7
  go_wp2_with fail
  clear c0 c1 c2 c3 c4 c5 c6 c7
  go_ret
  exact ⟨rfl, U⟩
 ·
  rw [if_pos rfl] at hz
  have CT := Lib.hid (fun W => turned_any W f hf k k1 k2 z hz)
  clear hf k2 hz
  have U := Up.refl w
  go_enter Tryz.func135, Tryz.ntmps135
  go_wp2_with fail
  obtain ⟨V1, hV1, c, uV1⟩ := Bf.nw w f 74
  have ltc : w.heap.size ≤ w.heap.size := U.size
  rw [hV1]
  clear hV1
  replace U := U.trans uV1
  clear uV1
  obtain ⟨c0, c1, c2, c3, c4, c5, c6⟩ := Bf.cs c
  have c7 := Bf.lt c
  simp only [Nat.zero_add] at c0 c1 c2 c3 c4 c5 c6 c7
  go_wp2_with fail
  clear c0 c1 c2 c3 c4 c5 c6 c7
  refine (CT.out _).mono ?_
  rintro _ w2 ⟨rfl, h2⟩
  replace U := U.trans h2
  replace c := c.up h2
  clear h2
  obtain ⟨c0, c1, c2, c3, c4, c5, c6⟩ := Bf.cs c
  have c7 := Bf.lt c
  simp only [Nat.zero_add] at c0 c1 c2 c3 c4 c5 c6 c7
  go_wp2_with fail
  clear c0 c1 c2 c3 c4 c5 c6 c7
  go_ret
  exact ⟨rfl, U⟩
set_option maxRecDepth 100000 in
theorem wsigned_any (w : World) (f : M.Fm) (hf : M.Ok f) (hk4 : f.k ≠ 4) (neg : Bool) (k : Int) (k1 : 0 ≤ k) (k2 : k < M.half f) (z : Int) (hz : (if neg = true then k + M.half f else k) = z) : Calls Tryz.prog 139 #[fv f, .bool neg, .int .u64 k] w (Wz z w) := by
 cases neg
 ·
  rw [if_neg (by decide)] at hz
  subst hz
  clear hf k2
  have U := Up.refl w
  go_enter Tryz.func139, Tryz.ntmps139
  go_wp2_with fail
  obtain ⟨V1, hV1, c, uV1⟩ := Bf.nw w f 74
  have ltc : w.heap.size ≤ w.heap.size := U.size
  rw [hV1]
  clear hV1
  replace U := U.trans uV1
  clear uV1
  obtain ⟨c0, c1, c2, c3, c4, c5, c6⟩ := Bf.cs c
  have c7 := Bf.lt c
  simp only [Nat.zero_add] at c0 c1 c2 c3 c4 c5 c6 c7
  go_wp2_with fail
  clear c0 c1 c2 c3 c4 c5 c6 c7
  go_ret
  exact ⟨rfl, U⟩
 ·
  rw [if_pos rfl, Int.add_comm, ← M.or_half hf k1 k2] at hz
  have hs := ((M.sgn_ok hf).2 hk4).1
  obtain ⟨S, hS⟩ : ∃ z, M.sgn f = z := ⟨_, rfl⟩
  rw [← hs, hS] at hz
  have CS := Lib.hid (fun W => sign_any W f hf S (Lib.hid hS))
  have kb : k < 18446744073709551616 := by have := hf.hm; omega
  clear hf k2 hs hS hk4
  have U := Up.refl w
  go_enter Tryz.func139, Tryz.ntmps139
  go_wp2_with fail
  obtain ⟨V1, hV1, c, uV1⟩ := Bf.nw w f 74
  have ltc : w.heap.size ≤ w.heap.size := U.size
  rw [hV1]
  clear hV1
  replace U := U.trans uV1
  clear uV1
  obtain ⟨c0, c1, c2, c3, c4, c5, c6⟩ := Bf.cs c
  have c7 := Bf.lt c
  simp only [Nat.zero_add] at c0 c1 c2 c3 c4 c5 c6 c7
  go_wp2_with fail
  clear c0 c1 c2 c3 c4 c5 c6 c7
  refine (CS.out _).mono ?_
  rintro _ w2 ⟨rfl, h2⟩
  replace U := U.trans h2
  replace c := c.up h2
  clear h2
  obtain ⟨c0, c1, c2, c3, c4, c5, c6⟩ := Bf.cs c
  have c7 := Bf.lt c
  simp only [Nat.zero_add] at c0 c1 c2 c3 c4 c5 c6 c7
  go_wp2_with fail
  clear c0 c1 c2 c3 c4 c5 c6 c7
  go_ret
  exact ⟨by first | rfl | exact ret_int hz, U⟩
set_option maxRecDepth 100000 in
theorem wscale_any (w : World) (f : M.Fm) (neg : Bool) (k : Int) : Calls Tryz.prog 145 #[fv f, .bool neg, .int .u64 k] w (Wz k w) := by
 have U := Up.refl w
 go_enter Tryz.func145, Tryz.ntmps145
 go_wp2_with fail
 obtain ⟨V1, hV1, c, uV1⟩ := Bf.nw w f 74
 have ltc : w.heap.size ≤ w.heap.size := U.size
 rw [hV1]
 clear hV1
 replace U := U.trans uV1
 clear uV1
 obtain ⟨c0, c1, c2, c3, c4, c5, c6⟩ := Bf.cs c
 have c7 := Bf.lt c
 simp only [Nat.zero_add] at c0 c1 c2 c3 c4 c5 c6 c7
 go_wp2_with fail
 clear c0 c1 c2 c3 c4 c5 c6 c7
 go_ret
 exact ⟨rfl, U⟩
set_option maxRecDepth 100000 in
theorem rturned_any (w : World) (f : M.Fm) (hf : M.Ok f) (hf2 : M.Ok2 f) (hk : f.k = 1 ∨ f.k = 3) (p : Int) (p1 : 0 ≤ p) (p2 : p ≤ M.msk f) (c : Int) (g : Bool) (k : Int) (h : M.Rd f p c g k) : Calls Tryz.prog 134 #[fv f, .int .u64 p] w (Rp c g k w) := by
 have hb := M.and_half hf p1 p2
 have hs := ((M.sgn_ok hf).2 (by omega)).1
 obtain ⟨S, hS⟩ : ∃ z, M.sgn f = z := ⟨_, rfl⟩
 have CS := Lib.hid (fun W => sign_any W f hf S (Lib.hid hS))
 have CT := Lib.hid (fun W => turned_any W f hf p p1 p2 _ rfl)
 have pb : p < 18446744073709551616 := by have := hf.hm; omega
 rw [← hs, hS] at hb
 have HH : M.half f = S := by rw [← hs, hS]
 rcases M.rd_turned hf hf2 hk p1 p2 with ⟨h0, r⟩ | ⟨h0, hx, r⟩ | ⟨h0, hx, hh, r⟩ | ⟨h0, hx, hh, r⟩
 ·
  obtain ⟨rfl, rfl, rfl⟩ := M.rd_uniq r h
  have d1 : (p == 0) = true := by simpa using h0
  clear hb
  clear h r hf hf2 hk hs hS p2 HH
  have U := Up.refl w
  go_enter Tryz.func134, Tryz.ntmps134
  go_wp2_with fail
  obtain ⟨V1, hV1, c, uV1⟩ := Bf.nw w f 74
  have ltc : w.heap.size ≤ w.heap.size := U.size
  rw [hV1]
  clear hV1
  replace U := U.trans uV1
  clear uV1
  obtain ⟨c0, c1, c2, c3, c4, c5, c6⟩ := Bf.cs c
  have c7 := Bf.lt c
  simp only [Nat.zero_add] at c0 c1 c2 c3 c4 c5 c6 c7
  go_wp2_with fail
  clear c0 c1 c2 c3 c4 c5 c6 c7
  go_ret3
  exact ⟨rfl, U⟩
 ·
  obtain ⟨rfl, rfl, rfl⟩ := M.rd_uniq r h
  have d1 : (p == 0) = false := by simpa using h0
  have d2 : (p == f.x) = true := by simpa using hx
  clear hb
  clear h r hf hf2 hk hs hS p2 HH
  have U := Up.refl w
  go_enter Tryz.func134, Tryz.ntmps134
  go_wp2_with fail
  obtain ⟨V1, hV1, c, uV1⟩ := Bf.nw w f 74
  have ltc : w.heap.size ≤ w.heap.size := U.size
  rw [hV1]
  clear hV1
  replace U := U.trans uV1
  clear uV1
  obtain ⟨c0, c1, c2, c3, c4, c5, c6⟩ := Bf.cs c
  have c7 := Bf.lt c
  simp only [Nat.zero_add] at c0 c1 c2 c3 c4 c5 c6 c7
  go_wp2_with fail
  clear c0 c1 c2 c3 c4 c5 c6 c7
  go_ret3
  exact ⟨rfl, U⟩
 ·
  obtain ⟨rfl, rfl, rfl⟩ := M.rd_uniq r h
  have d1 : (p == 0) = false := by simpa using h0
  have d2 : (p == f.x) = false := by simpa using hx
  rw [decide_eq_true (by omega)] at hb
  obtain ⟨z, hz⟩ : ∃ z, M.trn f p = z := ⟨_, rfl⟩
  rw [hz] at CT ⊢
  clear hz
  clear h r hf hf2 hk hs hS p2 HH
  have U := Up.refl w
  go_enter Tryz.func134, Tryz.ntmps134
  go_wp2_with fail
  obtain ⟨V1, hV1, c, uV1⟩ := Bf.nw w f 74
  have ltc : w.heap.size ≤ w.heap.size := U.size
  rw [hV1]
  clear hV1
  replace U := U.trans uV1
  clear uV1
  obtain ⟨c0, c1, c2, c3, c4, c5, c6⟩ := Bf.cs c
  have c7 := Bf.lt c
  simp only [Nat.zero_add] at c0 c1 c2 c3 c4 c5 c6 c7
  go_wp2_with fail
  clear c0 c1 c2 c3 c4 c5 c6 c7
  refine (CS.out _).mono ?_
  rintro _ w2 ⟨rfl, h2⟩
  replace U := U.trans h2
  replace c := c.up h2
  clear h2
  obtain ⟨c0, c1, c2, c3, c4, c5, c6⟩ := Bf.cs c
  have c7 := Bf.lt c
  simp only [Nat.zero_add] at c0 c1 c2 c3 c4 c5 c6 c7
  go_wp2_with fail
  clear c0 c1 c2 c3 c4 c5 c6 c7
  refine (CT.out _).mono ?_
  rintro _ w3 ⟨rfl, h3⟩
  replace U := U.trans h3
  replace c := c.up h3
  clear h3
  obtain ⟨c0, c1, c2, c3, c4, c5, c6⟩ := Bf.cs c
  have c7 := Bf.lt c
  simp only [Nat.zero_add] at c0 c1 c2 c3 c4 c5 c6 c7
  go_wp2_with fail
  clear c0 c1 c2 c3 c4 c5 c6 c7
  go_ret3
  exact ⟨rfl, U⟩
 ·
  obtain ⟨rfl, rfl, rfl⟩ := M.rd_uniq r h
  have d1 : (p == 0) = false := by simpa using h0
  have d2 : (p == f.x) = false := by simpa using hx
  rw [decide_eq_false (by omega)] at hb
  clear h r hf hf2 hk hs hS p2 HH
  have U := Up.refl w
  go_enter Tryz.func134, Tryz.ntmps134
  go_wp2_with fail
  obtain ⟨V1, hV1, c, uV1⟩ := Bf.nw w f 74
  have ltc : w.heap.size ≤ w.heap.size := U.size
  rw [hV1]
  clear hV1
  replace U := U.trans uV1
  clear uV1
  obtain ⟨c0, c1, c2, c3, c4, c5, c6⟩ := Bf.cs c
  have c7 := Bf.lt c
  simp only [Nat.zero_add] at c0 c1 c2 c3 c4 c5 c6 c7
  go_wp2_with fail
  clear c0 c1 c2 c3 c4 c5 c6 c7
  refine (CS.out _).mono ?_
  rintro _ w2 ⟨rfl, h2⟩
  replace U := U.trans h2
  replace c := c.up h2
  clear h2
  obtain ⟨c0, c1, c2, c3, c4, c5, c6⟩ := Bf.cs c
  have c7 := Bf.lt c
  simp only [Nat.zero_add] at c0 c1 c2 c3 c4 c5 c6 c7
  go_wp2_with fail
  clear c0 c1 c2 c3 c4 c5 c6 c7
  go_ret3
  exact ⟨rfl, U⟩
set_option maxRecDepth 100000 in
theorem rsigned_any (w : World) (f : M.Fm) (hf : M.Ok f) (hk : f.k = 2) (p : Int) (p1 : 0 ≤ p) (p2 : p ≤ M.msk f) (c : Int) (g : Bool) (k : Int) (h : M.Rd f p c g k) : Calls Tryz.prog 138 #[fv f, .int .u64 p] w (Rp c g k w) := by
 have hb := M.and_half hf p1 p2
 have ha := M.andNot_half hf p1 p2
 have hs := ((M.sgn_ok hf).2 (by omega)).1
 obtain ⟨S, hS⟩ : ∃ z, M.sgn f = z := ⟨_, rfl⟩
 have CS := Lib.hid (fun W => sign_any W f hf S (Lib.hid hS))
 have pb : p < 18446744073709551616 := by have := hf.hm; omega
 obtain ⟨t, ht⟩ : ∃ t, decide (M.half f ≤ p) = t := ⟨_, rfl⟩
 obtain ⟨m, hm⟩ : ∃ m, (if M.half f ≤ p then p - M.half f else p) = m := ⟨_, rfl⟩
 obtain ⟨m0, R⟩ := M.rd_signed hf hk p1 ht hm
 rw [ht, ← hs, hS] at hb
 rw [hm, ← hs, hS] at ha
 have mb : m < 18446744073709551616 := by have := hf.hm; rw [← hm]; split <;> omega
 rcases R with ⟨h0, r⟩ | ⟨h0, h1, r⟩ | ⟨h0, h1, h2, r⟩ | ⟨h0, h1, h2, r⟩
 ·
  obtain ⟨rfl, rfl, rfl⟩ := M.rd_uniq r h
  have d1 : (m == 0) = true := by simpa using h0
  clear h r hf hk hs hS p2 ht hm
  have U := Up.refl w
  go_enter Tryz.func138, Tryz.ntmps138
  go_wp2_with fail
  obtain ⟨V1, hV1, c, uV1⟩ := Bf.nw w f 74
  have ltc : w.heap.size ≤ w.heap.size := U.size
  rw [hV1]
  clear hV1
  replace U := U.trans uV1
  clear uV1
  obtain ⟨c0, c1, c2, c3, c4, c5, c6⟩ := Bf.cs c
  have c7 := Bf.lt c
  simp only [Nat.zero_add] at c0 c1 c2 c3 c4 c5 c6 c7
  go_region_held3 (fun w' => w'.cell? ⟨w.heap.size, 0, none⟩ = some (.int .i64 f.k) ∧ w'.cell? ⟨w.heap.size, 1, none⟩ = some (.int .i64 f.W) ∧ w'.cell? ⟨w.heap.size, 2, none⟩ = some (.int .i64 f.m) ∧ w'.cell? ⟨w.heap.size, 3, none⟩ = some (.int .i64 f.b) ∧ w'.cell? ⟨w.heap.size, 4, none⟩ = some (.int .u64 f.t) ∧ w'.cell? ⟨w.heap.size, 5, none⟩ = some (.int .u64 f.n) ∧ w'.cell? ⟨w.heap.size, 6, none⟩ = some (.int .u64 f.x)) (go_keep) ((go_at_call 109; (with_reducible refine (CS.out _).mono ?_); rintro _ w3 ⟨rfl, h3⟩; have uw3 : Up V1 w3 := Up.trans (by first | with_reducible assumption | exact (Up.refl V1).drewN 1) h3; have cc0 := cell_up_ uw3 c0; have cc1 := cell_up_ uw3 c1; have cc2 := cell_up_ uw3 c2; have cc3 := cell_up_ uw3 c3; have cc4 := cell_up_ uw3 c4; have cc5 := cell_up_ uw3 c5; have cc6 := cell_up_ uw3 c6))
  go_wp2_with fail
  go_ret3
  exact ⟨rfl, U.trans (by assumption)⟩
 ·
  obtain ⟨rfl, rfl, rfl⟩ := M.rd_uniq r h
  have d1 : (m == 0) = false := by simpa using h0
  have d2 : decide (m ≤ f.t) = true := decide_eq_true h1
  clear h r hf hk hs hS p2 ht hm
  have U := Up.refl w
  go_enter Tryz.func138, Tryz.ntmps138
  go_wp2_with fail
  obtain ⟨V1, hV1, c, uV1⟩ := Bf.nw w f 74
  have ltc : w.heap.size ≤ w.heap.size := U.size
  rw [hV1]
  clear hV1
  replace U := U.trans uV1
  clear uV1
  obtain ⟨c0, c1, c2, c3, c4, c5, c6⟩ := Bf.cs c
  have c7 := Bf.lt c
  simp only [Nat.zero_add] at c0 c1 c2 c3 c4 c5 c6 c7
  go_region_held3 (fun w' => w'.cell? ⟨w.heap.size, 0, none⟩ = some (.int .i64 f.k) ∧ w'.cell? ⟨w.heap.size, 1, none⟩ = some (.int .i64 f.W) ∧ w'.cell? ⟨w.heap.size, 2, none⟩ = some (.int .i64 f.m) ∧ w'.cell? ⟨w.heap.size, 3, none⟩ = some (.int .i64 f.b) ∧ w'.cell? ⟨w.heap.size, 4, none⟩ = some (.int .u64 f.t) ∧ w'.cell? ⟨w.heap.size, 5, none⟩ = some (.int .u64 f.n) ∧ w'.cell? ⟨w.heap.size, 6, none⟩ = some (.int .u64 f.x)) (go_keep) ((go_at_call 109; (with_reducible refine (CS.out _).mono ?_); rintro _ w3 ⟨rfl, h3⟩; have uw3 : Up V1 w3 := Up.trans (by first | with_reducible assumption | exact (Up.refl V1).drewN 1) h3; have cc0 := cell_up_ uw3 c0; have cc1 := cell_up_ uw3 c1; have cc2 := cell_up_ uw3 c2; have cc3 := cell_up_ uw3 c3; have cc4 := cell_up_ uw3 c4; have cc5 := cell_up_ uw3 c5; have cc6 := cell_up_ uw3 c6))
  go_wp2_with fail
  go_ret3
  exact ⟨rfl, U.trans (by assumption)⟩
 ·
  obtain ⟨rfl, rfl, rfl⟩ := M.rd_uniq r h
  have d1 : (m == 0) = false := by simpa using h0
  have d2 : decide (m ≤ f.t) = false := decide_eq_false (by omega)
  have d3 : (m == f.n) = true := by simpa using h2
  clear h r hf hk hs hS p2 ht hm
  have U := Up.refl w
  go_enter Tryz.func138, Tryz.ntmps138
  go_wp2_with fail
  obtain ⟨V1, hV1, c, uV1⟩ := Bf.nw w f 74
  have ltc : w.heap.size ≤ w.heap.size := U.size
  rw [hV1]
  clear hV1
  replace U := U.trans uV1
  clear uV1
  obtain ⟨c0, c1, c2, c3, c4, c5, c6⟩ := Bf.cs c
  have c7 := Bf.lt c
  simp only [Nat.zero_add] at c0 c1 c2 c3 c4 c5 c6 c7
  go_region_held3 (fun w' => w'.cell? ⟨w.heap.size, 0, none⟩ = some (.int .i64 f.k) ∧ w'.cell? ⟨w.heap.size, 1, none⟩ = some (.int .i64 f.W) ∧ w'.cell? ⟨w.heap.size, 2, none⟩ = some (.int .i64 f.m) ∧ w'.cell? ⟨w.heap.size, 3, none⟩ = some (.int .i64 f.b) ∧ w'.cell? ⟨w.heap.size, 4, none⟩ = some (.int .u64 f.t) ∧ w'.cell? ⟨w.heap.size, 5, none⟩ = some (.int .u64 f.n) ∧ w'.cell? ⟨w.heap.size, 6, none⟩ = some (.int .u64 f.x)) (go_keep) ((go_at_call 109; (with_reducible refine (CS.out _).mono ?_); rintro _ w3 ⟨rfl, h3⟩; have uw3 : Up V1 w3 := Up.trans (by first | with_reducible assumption | exact (Up.refl V1).drewN 1) h3; have cc0 := cell_up_ uw3 c0; have cc1 := cell_up_ uw3 c1; have cc2 := cell_up_ uw3 c2; have cc3 := cell_up_ uw3 c3; have cc4 := cell_up_ uw3 c4; have cc5 := cell_up_ uw3 c5; have cc6 := cell_up_ uw3 c6))
  go_wp2_with fail
  go_ret3
  exact ⟨rfl, U.trans (by assumption)⟩
 ·
  obtain ⟨rfl, rfl, rfl⟩ := M.rd_uniq r h
  have d1 : (m == 0) = false := by simpa using h0
  have d2 : decide (m ≤ f.t) = false := decide_eq_false (by omega)
  have d3 : (m == f.n) = false := by simpa using h2
  clear h r hf hk hs hS p2 ht hm
  have U := Up.refl w
  go_enter Tryz.func138, Tryz.ntmps138
  go_wp2_with fail
  obtain ⟨V1, hV1, c, uV1⟩ := Bf.nw w f 74
  have ltc : w.heap.size ≤ w.heap.size := U.size
  rw [hV1]
  clear hV1
  replace U := U.trans uV1
  clear uV1
  obtain ⟨c0, c1, c2, c3, c4, c5, c6⟩ := Bf.cs c
  have c7 := Bf.lt c
  simp only [Nat.zero_add] at c0 c1 c2 c3 c4 c5 c6 c7
  go_region_held3 (fun w' => w'.cell? ⟨w.heap.size, 0, none⟩ = some (.int .i64 f.k) ∧ w'.cell? ⟨w.heap.size, 1, none⟩ = some (.int .i64 f.W) ∧ w'.cell? ⟨w.heap.size, 2, none⟩ = some (.int .i64 f.m) ∧ w'.cell? ⟨w.heap.size, 3, none⟩ = some (.int .i64 f.b) ∧ w'.cell? ⟨w.heap.size, 4, none⟩ = some (.int .u64 f.t) ∧ w'.cell? ⟨w.heap.size, 5, none⟩ = some (.int .u64 f.n) ∧ w'.cell? ⟨w.heap.size, 6, none⟩ = some (.int .u64 f.x)) (go_keep) ((go_at_call 109; (with_reducible refine (CS.out _).mono ?_); rintro _ w3 ⟨rfl, h3⟩; have uw3 : Up V1 w3 := Up.trans (by first | with_reducible assumption | exact (Up.refl V1).drewN 1) h3; have cc0 := cell_up_ uw3 c0; have cc1 := cell_up_ uw3 c1; have cc2 := cell_up_ uw3 c2; have cc3 := cell_up_ uw3 c3; have cc4 := cell_up_ uw3 c4; have cc5 := cell_up_ uw3 c5; have cc6 := cell_up_ uw3 c6))
  go_wp2_with fail
  go_ret3
  exact ⟨rfl, U.trans (by assumption)⟩
set_option maxRecDepth 100000 in
theorem rscale_any (w : World) (f : M.Fm) (hf : M.Ok f) (hf2 : M.Ok2 f) (hk : f.k = 4) (p : Int) (c : Int) (g : Bool) (k : Int) (h : M.Rd f p c g k) : Calls Tryz.prog 144 #[fv f, .int .u64 p] w (Rp c g k w) := by
 rcases M.rd_scale hf hf2 hk (p := p) with ⟨hx, r⟩ | ⟨hx, r⟩
 ·
  obtain ⟨rfl, rfl, rfl⟩ := M.rd_uniq r h
  have d1 : (p == f.x) = true := by simpa using hx
  clear h r hf hf2 hk
  have U := Up.refl w
  go_enter Tryz.func144, Tryz.ntmps144
  go_wp2_with fail
  obtain ⟨V1, hV1, c, uV1⟩ := Bf.nw w f 74
  have ltc : w.heap.size ≤ w.heap.size := U.size
  rw [hV1]
  clear hV1
  replace U := U.trans uV1
  clear uV1
  obtain ⟨c0, c1, c2, c3, c4, c5, c6⟩ := Bf.cs c
  have c7 := Bf.lt c
  simp only [Nat.zero_add] at c0 c1 c2 c3 c4 c5 c6 c7
  go_wp2_with fail
  clear c0 c1 c2 c3 c4 c5 c6 c7
  go_ret3
  exact ⟨rfl, U⟩
 ·
  obtain ⟨rfl, rfl, rfl⟩ := M.rd_uniq r h
  have d1 : (p == f.x) = false := by simpa using hx
  clear h r hf hf2 hk
  have U := Up.refl w
  go_enter Tryz.func144, Tryz.ntmps144
  go_wp2_with fail
  obtain ⟨V1, hV1, c, uV1⟩ := Bf.nw w f 74
  have ltc : w.heap.size ≤ w.heap.size := U.size
  rw [hV1]
  clear hV1
  replace U := U.trans uV1
  clear uV1
  obtain ⟨c0, c1, c2, c3, c4, c5, c6⟩ := Bf.cs c
  have c7 := Bf.lt c
  simp only [Nat.zero_add] at c0 c1 c2 c3 c4 c5 c6 c7
  go_wp2_with fail
  clear c0 c1 c2 c3 c4 c5 c6 c7
  go_ret3
  exact ⟨rfl, U⟩
open Go.Shelf
set_option maxRecDepth 100000 in
theorem atTapered_any (w : World) (f : M.Fm) (k m : Nat) (z x : Int) (CV : Hid (∀ W, Up w W → Calls Tryz.prog 166 #[.int .i64 f.W, u64 k] W (Vn m z x W))) : Calls Tryz.prog 136 #[fv f, u64 k] w (Mz m z w) := by
 have U := Up.refl w
 go_enter Tryz.func136, Tryz.ntmps136
 go_wp2_with fail
 obtain ⟨V1, hV1, c, uV1⟩ := Bf.nw w f 74
 have ltc : w.heap.size ≤ w.heap.size := U.size
 rw [hV1]
 clear hV1
 replace U := U.trans uV1
 clear uV1
 obtain ⟨c0, c1, c2, c3, c4, c5, c6⟩ := Bf.cs c
 have c7 := Bf.lt c
 simp only [Nat.zero_add] at c0 c1 c2 c3 c4 c5 c6 c7
 go_wp2_with fail
 clear c0 c1 c2 c3 c4 c5 c6 c7
 refine (CV.out _ U).mono ?_
 rintro _ w2 ⟨rfl, h2⟩
 replace U := U.trans h2
 replace c := c.up h2
 clear h2
 go_wp2_with fail
 go_ret2
 exact ⟨rfl, U⟩
set_option maxRecDepth 100000 in
theorem atSigned_any (w : World) (f : M.Fm) (k m : Nat) (z x : Int) (CV : Hid (∀ W, Up w W → Calls Tryz.prog 167 #[.int .i64 f.m, .int .i64 f.b, u64 k] W (Vn6 m z x W))) : Calls Tryz.prog 140 #[fv f, u64 k] w (Mz m z w) := by
 have U := Up.refl w
 go_enter Tryz.func140, Tryz.ntmps140
 go_wp2_with fail
 obtain ⟨V1, hV1, c, uV1⟩ := Bf.nw w f 74
 have ltc : w.heap.size ≤ w.heap.size := U.size
 rw [hV1]
 clear hV1
 replace U := U.trans uV1
 clear uV1
 obtain ⟨c0, c1, c2, c3, c4, c5, c6⟩ := Bf.cs c
 have c7 := Bf.lt c
 simp only [Nat.zero_add] at c0 c1 c2 c3 c4 c5 c6 c7
 go_wp2_with fail
 clear c0 c1 c2 c3 c4 c5 c6 c7
 refine (CV.out _ U).mono ?_
 rintro _ w2 ⟨rfl, h2⟩
 replace U := U.trans h2
 replace c := c.up h2
 clear h2
 go_wp2_with fail
 go_ret2
 exact ⟨rfl, U⟩
set_option maxRecDepth 100000 in
theorem behindTapered_any (w : World) (f : M.Fm) (fb : 0 ≤ f.W ∧ f.W ≤ 64) (k m : Nat) (z : Int) (kb : k ≤ 9223372036854775807) (CV : ∀ W, Up w W → Calls Tryz.prog 136 #[fv ⟨f.k, f.W + 1, f.m, f.b, f.t, f.n, f.x⟩, u64 (2 * k + 1)] W (Mz m z W)) : Calls Tryz.prog 137 #[fv f, u64 k] w (Mz m z w) := by
 have CW : Hid (∀ W, Up w W → Calls Tryz.prog 136 #[fv ⟨f.k, f.W + 1, f.m, f.b, f.t, f.n, f.x⟩, .int .u64 (2 * (k : Int) + 1)] W (Mz m z W)) := fun W U => by
  have h := CV W U
  rw [show u64 (2 * k + 1) = .int .u64 (2 * (k : Int) + 1) by unfold u64; congr 1] at h
  exact h
 clear CV
 have U := Up.refl w
 go_enter Tryz.func137, Tryz.ntmps137
 go_wp2_with fail
 refine (CW.out _ ?_).mono ?_
 ·first | exact U.alloc _ | exact (U.alloc _).setCell (Nat.le_refl _) _
 rintro _ w1 ⟨rfl, h1⟩
 replace U := (show Up w _ from by first | exact (U.alloc _).trans h1 | exact ((U.alloc _).setCell (Nat.le_refl _) _).trans h1)
 clear h1
 go_wp2_with fail
 go_ret2
 exact ⟨rfl, U⟩
set_option maxRecDepth 100000 in
theorem behindSigned_any (w : World) (f : M.Fm) (fb : 0 ≤ f.m ∧ f.m ≤ 64) (k m : Nat) (z : Int) (kb : k ≤ 9223372036854775807) (CV : ∀ W, Up w W → Calls Tryz.prog 140 #[fv ⟨f.k, f.W, f.m + 1, f.b, f.t, f.n, f.x⟩, u64 (2 * k + 1)] W (Mz m z W)) : Calls Tryz.prog 141 #[fv f, u64 k] w (Mz m z w) := by
 have CW : Hid (∀ W, Up w W → Calls Tryz.prog 140 #[fv ⟨f.k, f.W, f.m + 1, f.b, f.t, f.n, f.x⟩, .int .u64 (2 * (k : Int) + 1)] W (Mz m z W)) := fun W U => by
  have h := CV W U
  rw [show u64 (2 * k + 1) = .int .u64 (2 * (k : Int) + 1) by unfold u64; congr 1] at h
  exact h
 clear CV
 have U := Up.refl w
 go_enter Tryz.func141, Tryz.ntmps141
 go_wp2_with fail
 refine (CW.out _ ?_).mono ?_
 ·first | exact U.alloc _ | exact (U.alloc _).setCell (Nat.le_refl _) _
 rintro _ w1 ⟨rfl, h1⟩
 replace U := (show Up w _ from by first | exact (U.alloc _).trans h1 | exact ((U.alloc _).setCell (Nat.le_refl _) _).trans h1)
 clear h1
 go_wp2_with fail
 go_ret2
 exact ⟨rfl, U⟩
set_option maxRecDepth 100000 in
theorem behindTurned_any (w : World) (f : M.Fm) (fb : 0 ≤ f.m ∧ f.m ≤ 64) (k m : Nat) (z : Int) (kb : k ≤ 9223372036854775807) (CV : ∀ W, Up w W → Calls Tryz.prog 142 #[fv ⟨f.k, f.W, f.m + 1, f.b, f.t, f.n, f.x⟩, u64 (2 * k + 1)] W (Mz m z W)) : Calls Tryz.prog 143 #[fv f, u64 k] w (Mz m z w) := by
 have CW : Hid (∀ W, Up w W → Calls Tryz.prog 142 #[fv ⟨f.k, f.W, f.m + 1, f.b, f.t, f.n, f.x⟩, .int .u64 (2 * (k : Int) + 1)] W (Mz m z W)) := fun W U => by
  have h := CV W U
  rw [show u64 (2 * k + 1) = .int .u64 (2 * (k : Int) + 1) by unfold u64; congr 1] at h
  exact h
 clear CV
 have U := Up.refl w
 go_enter Tryz.func143, Tryz.ntmps143
 go_wp2_with fail
 refine (CW.out _ ?_).mono ?_
 ·first | exact U.alloc _ | exact (U.alloc _).setCell (Nat.le_refl _) _
 rintro _ w1 ⟨rfl, h1⟩
 replace U := (show Up w _ from by first | exact (U.alloc _).trans h1 | exact ((U.alloc _).setCell (Nat.le_refl _) _).trans h1)
 clear h1
 go_wp2_with fail
 go_ret2
 exact ⟨rfl, U⟩
set_option maxRecDepth 100000 in
theorem atTurned_zero (w : World) (f : M.Fm) (k : Nat) (h : k = 0) : Calls Tryz.prog 142 #[fv f, u64 k] w (Mz 0 0 w) := by
 subst h
 have U := Up.refl w
 go_enter Tryz.func142, Tryz.ntmps142
 go_wp2_with fail
 obtain ⟨V1, hV1, c, uV1⟩ := Bf.nw w f 74
 have ltc : w.heap.size ≤ w.heap.size := U.size
 rw [hV1]
 clear hV1
 replace U := U.trans uV1
 clear uV1
 obtain ⟨c0, c1, c2, c3, c4, c5, c6⟩ := Bf.cs c
 have c7 := Bf.lt c
 simp only [Nat.zero_add] at c0 c1 c2 c3 c4 c5 c6 c7
 go_wp2_with fail
 clear c0 c1 c2 c3 c4 c5 c6 c7
 go_ret2
 exact ⟨rfl, U⟩
set_option maxRecDepth 100000 in
theorem atTurned_any (w : World) (TW : Hid (Tz w)) (f : M.Fm) (fb : -1000 ≤ f.m ∧ f.m ≤ 1000) (k m t : Nat) (z : Int) (kb : k < 18446744073709551616) (k0 : 0 < k) (hm : k = m * 2 ^ t) (ho : m % 2 = 1) (hz : -f.m + t = z) : Calls Tryz.prog 142 #[fv f, u64 k] w (Mz m z w) := by
  have CT := Lib.hid (fun W (T : Tz W) => tz_any W T k m t kb hm ho)
  have dv : (k : Int) / 2 ^ t = (m : Int) := shr_cast (by rw [hm]; exact Nat.mul_div_cancel _ (M.p2 t))
  have t64 : t < 64 := by
    have p3 : 2 ^ t ≤ m * 2 ^ t := Nat.le_mul_of_pos_left _ (by omega)
    exact M.p2inj (by have : (2 : Nat) ^ 64 = 18446744073709551616 := by decide
                      omega)
  have d1 : ((k : Int) == 0) = false := by rw [beq_eq_false_iff_ne]; omega
  have z1 : (t : Int) - f.m = z := by omega
  clear hm ho hz
  have U := Up.refl w
  go_enter Tryz.func142, Tryz.ntmps142
  go_wp2_with fail
  obtain ⟨V1, hV1, c, uV1⟩ := Bf.nw w f 74
  have ltc : w.heap.size ≤ w.heap.size := U.size
  rw [hV1]
  clear hV1
  replace U := U.trans uV1
  clear uV1
  obtain ⟨c0, c1, c2, c3, c4, c5, c6⟩ := Bf.cs c
  have c7 := Bf.lt c
  simp only [Nat.zero_add] at c0 c1 c2 c3 c4 c5 c6 c7
  go_wp2_with fail
  clear c0 c1 c2 c3 c4 c5 c6 c7
  refine (CT.out _ (TW.out.up U)).mono ?_
  rintro _ _ ⟨rfl, rfl⟩
  obtain ⟨c0, c1, c2, c3, c4, c5, c6⟩ := Bf.cs c
  have c7 := Bf.lt c
  simp only [Nat.zero_add] at c0 c1 c2 c3 c4 c5 c6 c7
  go_wp2_with fail
  go_quiet (fail)
  go_wp2_with fail
  go_ret2
  exact ⟨by first | rfl | exact ret_2 rfl z1, by first | exact U | exact U.drewN _⟩
set_option maxRecDepth 100000 in
theorem atScale_any (w : World) (f : M.Fm) (fb : -100000 ≤ f.b ∧ f.b ≤ 100000) (k : Nat) (z : Int) (kb : k < 1000000) (hz : (k : Int) - f.b = z) : Calls Tryz.prog 146 #[fv f, u64 k] w (Mz 1 z w) := by
 have U := Up.refl w
 go_enter Tryz.func146, Tryz.ntmps146
 go_wp2_with fail
 obtain ⟨V1, hV1, c, uV1⟩ := Bf.nw w f 74
 have ltc : w.heap.size ≤ w.heap.size := U.size
 rw [hV1]
 clear hV1
 replace U := U.trans uV1
 clear uV1
 obtain ⟨c0, c1, c2, c3, c4, c5, c6⟩ := Bf.cs c
 have c7 := Bf.lt c
 simp only [Nat.zero_add] at c0 c1 c2 c3 c4 c5 c6 c7
 go_wp2_with fail
 go_quiet (fail)
 go_wp2_with fail
 go_ret2
 exact ⟨by first | rfl | exact ret_2 rfl hz, by first | exact U | exact U.drewN _⟩
set_option maxRecDepth 100000 in
theorem behindScale_any (w : World) (f : M.Fm) (fb : -100000 ≤ f.b ∧ f.b ≤ 100000) (k : Nat) (z : Int) (kb : k < 1000000) (hz : (k : Int) - f.b - 1 = z) : Calls Tryz.prog 147 #[fv f, u64 k] w (Mz 3 z w) := by
 have U := Up.refl w
 go_enter Tryz.func147, Tryz.ntmps147
 go_wp2_with fail
 obtain ⟨V1, hV1, c, uV1⟩ := Bf.nw w f 74
 have ltc : w.heap.size ≤ w.heap.size := U.size
 rw [hV1]
 clear hV1
 replace U := U.trans uV1
 clear uV1
 obtain ⟨c0, c1, c2, c3, c4, c5, c6⟩ := Bf.cs c
 have c7 := Bf.lt c
 simp only [Nat.zero_add] at c0 c1 c2 c3 c4 c5 c6 c7
 go_wp2_with fail
 go_quiet (fail)
 go_wp2_with fail
 go_ret2
 exact ⟨by first | rfl | exact ret_2 rfl hz, by first | exact U | exact U.drewN _⟩
structure Way (f : M.Fm) (a b c d : Nat) : Prop where
 ea : ∀ (args : Array Value) (w : World), (callFunc a args).run Tryz.prog w = .ok (.enter a args) w
 eb : ∀ (args : Array Value) (w : World), (callFunc b args).run Tryz.prog w = .ok (.enter b args) w
 ec : ∀ (args : Array Value) (w : World), (callFunc c args).run Tryz.prog w = .ok (.enter c args) w
 ed : ∀ (args : Array Value) (w : World), (callFunc d args).run Tryz.prog w = .ok (.enter d args) w
 read : ∀ (W : World) (p : Int), 0 ≤ p → p ≤ M.msk f → ∀ (cl : Int) (g : Bool) (k : Int), M.Rd f p cl g k → Calls Tryz.prog a #[fv f, .int .u64 p] W (Rp cl g k W)
 write : ∀ (W : World) (neg : Bool) (k : Nat), (k : Int) ≤ M.mst f neg → ¬ (f.k = 4 ∧ neg = true) → Calls Tryz.prog b #[fv f, .bool neg, u64 k] W (Wz (M.pat f neg k) W)
 at_ : ∀ (W : World), Tz W → ∀ (k m : Nat) (z : Int), (k : Int) ≤ M.tp f → M.Mg0 f k m z → Calls Tryz.prog c #[fv f, u64 k] W (Mz m z W)
 behind : ∀ (W : World), Tz W → ∀ (k m : Nat) (z : Int), (k : Int) ≤ M.tp f → M.Bd f k m z → Calls Tryz.prog d #[fv f, u64 k] W (Mz m z W)
theorem trn_pat (f : M.Fm) (hk : f.k ≠ 2) (neg : Bool) (k : Nat) : (if neg = true then M.trn f k else (k : Int)) = M.pat f neg k := by
 unfold M.pat M.trn
 cases neg
 ·rfl
 ·show (if (k : Int) = 0 then 0 else M.msk f + 1 - (k : Int)) = if f.k = 2 then (k : Int) + M.half f else if k = 0 then 0 else M.msk f - k + 1
  rw [if_neg hk]
  by_cases c : k = 0
  ·rw [if_pos (by omega), if_pos c]
  ·rw [if_neg (by omega), if_neg c]; omega
theorem sgn_pat (f : M.Fm) (hk : f.k = 2) (neg : Bool) (k : Nat) : (if neg = true then (k : Int) + M.half f else (k : Int)) = M.pat f neg k := by
 unfold M.pat
 cases neg
 ·rfl
 ·rw [if_pos rfl, if_neg (by decide), if_pos hk]
theorem tp_le {f : M.Fm} (hf : M.Ok f) (h2 : M.Ok2 f) {k : Nat} (h : (k : Int) ≤ M.tp f) : k ≤ 9223372036854775807 ∧ (f.k = 4 → k < 1000000) := by
 have hm := hf.hm
 have o1 := h2.one
 have o3 := h2.tri
 have o4 := h2.four
 have o2 := hf.two
 unfold M.tp at h
 rcases hf.k with e | e | e | e
 ·rw [if_neg (by omega)] at h; omega
 ·rw [if_neg (by omega)] at h; omega
 ·rw [if_pos e] at h; omega
 ·rw [if_neg (by omega)] at h; omega
theorem way_any (f : M.Fm) (hf : M.Ok f) (h2 : M.Ok2 f) (a b c d : Nat) (h : Wk f.k a b c d) : Way f a b c d := by
 have hm := hf.hm
 have ht := hf.t
 have o1 := h2.one
 have o2 := hf.two
 have o22 := h2.two
 have o3 := h2.tri
 have o4 := h2.four
 rcases h with ⟨e, rfl, rfl, rfl, rfl⟩ | ⟨e, rfl, rfl, rfl, rfl⟩ | ⟨e, rfl, rfl, rfl, rfl⟩ | ⟨e, rfl, rfl, rfl, rfl⟩
 ·exact {
  ea := enters_of Tryz.func134 (by kernel_rfl) rfl
  eb := enters_of Tryz.func135 (by kernel_rfl) rfl
  ec := enters_of Tryz.func136 (by kernel_rfl) rfl
  ed := enters_of Tryz.func137 (by kernel_rfl) rfl
  read := fun W p p1 p2 cl g k r => rturned_any W f hf h2 (.inl e) p p1 p2 cl g k r
  write := fun W neg k h1 _ => by
   have k2 : (k : Int) ≤ M.msk f := by
    unfold M.mst at h1
    split at h1 <;> omega
   exact wturned_any W f hf neg k (by omega) k2 _ (trn_pat f (by omega) neg k)
  at_ := fun W T k m z h1 h => by
   obtain ⟨kb, _⟩ := tp_le hf h2 h1
   rcases h with ⟨h0, _, rfl, rfl⟩ | ⟨h0, h⟩
   ·exact atTapered_any W f k 0 0 1 (Lib.hid fun W' _ => pvalue_out W' f.W k (by omega) (.inr (.inr (.inl h0))))
   ·rcases h with ⟨_, n, hn, hW, h⟩ | ⟨e', _⟩ | ⟨e', _⟩ | ⟨e', _⟩
    ·exact atTapered_any W f k m z 0 (Lib.hid fun W' U => by rw [hW]; exact pvalue_is W' (T.up U) n k m z hn h)
    ·omega
    ·omega
    ·omega
  behind := fun W T k m z h1 h => by
   obtain ⟨kb, _⟩ := tp_le hf h2 h1
   rcases h with ⟨_, n, hn2, hn, hW, h⟩ | ⟨e', _⟩ | ⟨e', _⟩ | ⟨e', _⟩
   ·exact behindTapered_any W f (by omega) k m z kb (fun W' U => atTapered_any W' _ (2 * k + 1) m z 0 (Lib.hid fun W2 U2 => by
     have h3 := pvalue_is W2 (T.up (U.trans U2)) (n + 1) (2 * k + 1) m z (by omega) h
     rw [show (((n + 1 : Nat) : Int) + 1) = f.W + 1 by omega] at h3
     exact h3))
   ·omega
   ·omega
   ·omega }
 ·exact {
  ea := enters_of Tryz.func138 (by kernel_rfl) rfl
  eb := enters_of Tryz.func139 (by kernel_rfl) rfl
  ec := enters_of Tryz.func140 (by kernel_rfl) rfl
  ed := enters_of Tryz.func141 (by kernel_rfl) rfl
  read := fun W p p1 p2 cl g k r => rsigned_any W f hf e p p1 p2 cl g k r
  write := fun W neg k h1 _ => by
   have k2 : (k : Int) < M.half f := by
    unfold M.mst at h1
    rw [if_neg (by omega)] at h1
    omega
   exact wsigned_any W f hf (by omega) neg k (by omega) k2 _ (sgn_pat f e neg k)
  at_ := fun W T k m z h1 h => by
   obtain ⟨kb, _⟩ := tp_le hf h2 h1
   unfold M.tp at h1
   rw [if_neg (by omega)] at h1
   rcases h with ⟨h0, _, rfl, rfl⟩ | ⟨h0, h⟩
   ·obtain ⟨p, hp, hpm, ho⟩ := M.mok_of h2 e h1
    exact atSigned_any W f k 0 0 0 (Lib.hid fun W' U => by rw [hpm]; exact mvalue_any W' (Lib.hid (T.up U)) p k 0 f.b 0 (by omega) ho (.inl ⟨M.mX_zero.2 h0, rfl, rfl⟩))
   ·rcases h with ⟨e', _⟩ | ⟨_, p, hpm, ho, h⟩ | ⟨e', _⟩ | ⟨e', _⟩
    ·omega
    ·exact atSigned_any W f k m z 0 (Lib.hid fun W' U => by rw [hpm]; exact mvalue_any W' (Lib.hid (T.up U)) p k m f.b z (by omega) ho h)
    ·omega
    ·omega
  behind := fun W T k m z h1 h => by
   obtain ⟨kb, _⟩ := tp_le hf h2 h1
   rcases h with ⟨e', _⟩ | ⟨_, p, hp, hpm, ho, h⟩ | ⟨e', _⟩ | ⟨e', _⟩
   ·omega
   ·exact behindSigned_any W f (by omega) k m z kb (fun W' U => atSigned_any W' _ (2 * k + 1) m z 0 (Lib.hid fun W2 U2 => by
     have h3 := mvalue_any W2 (Lib.hid (T.up (U.trans U2))) (p + 1) (2 * k + 1) m f.b z (by omega) ho h
     rw [show ((p + 1 : Nat) : Int) = f.m + 1 by omega] at h3
     exact h3))
   ·omega
   ·omega }
 ·exact {
  ea := enters_of Tryz.func134 (by kernel_rfl) rfl
  eb := enters_of Tryz.func135 (by kernel_rfl) rfl
  ec := enters_of Tryz.func142 (by kernel_rfl) rfl
  ed := enters_of Tryz.func143 (by kernel_rfl) rfl
  read := fun W p p1 p2 cl g k r => rturned_any W f hf h2 (.inr e) p p1 p2 cl g k r
  write := fun W neg k h1 _ => by
   have k2 : (k : Int) ≤ M.msk f := by
    unfold M.mst at h1
    split at h1 <;> omega
   exact wturned_any W f hf neg k (by omega) k2 _ (trn_pat f (by omega) neg k)
  at_ := fun W T k m z h1 h => by
   obtain ⟨kb, _⟩ := tp_le hf h2 h1
   rcases h with ⟨h0, _, rfl, rfl⟩ | ⟨h0, h⟩
   ·exact atTurned_zero W f k h0
   ·rcases h with ⟨e', _⟩ | ⟨e', _⟩ | ⟨_, hfm, k0, ho, t, hm, hz⟩ | ⟨e', _⟩
    ·omega
    ·omega
    ·exact atTurned_any W (Lib.hid T) f (by omega) k m t z (by omega) k0 hm ho hz
    ·omega
  behind := fun W T k m z h1 h => by
   obtain ⟨kb, _⟩ := tp_le hf h2 h1
   rcases h with ⟨e', _⟩ | ⟨e', _⟩ | ⟨_, hfm, k0, rfl, hz⟩ | ⟨e', _⟩
   ·omega
   ·omega
   ·exact behindTurned_any W f hfm k (2 * k + 1) z kb (fun W' U => atTurned_any W' (Lib.hid (T.up U)) _ (by show -1000 ≤ f.m + 1 ∧ f.m + 1 ≤ 1000; omega) (2 * k + 1) (2 * k + 1) 0 z (by omega) (by omega) (by simp) (by omega) (by show -(f.m + 1) + ((0 : Nat) : Int) = z; omega))
   ·omega }
 ·exact {
  ea := enters_of Tryz.func144 (by kernel_rfl) rfl
  eb := enters_of Tryz.func145 (by kernel_rfl) rfl
  ec := enters_of Tryz.func146 (by kernel_rfl) rfl
  ed := enters_of Tryz.func147 (by kernel_rfl) rfl
  read := fun W p p1 p2 cl g k r => rscale_any W f hf h2 e p cl g k r
  write := fun W neg k _ hn => by
   obtain rfl : neg = false := by cases neg; rfl; exact absurd ⟨e, rfl⟩ hn
   exact wscale_any W f false k
  at_ := fun W T k m z h1 h => by
   rcases h with ⟨_, h0, _⟩ | ⟨h0, h⟩
   ·exact absurd e h0
   ·rcases h with ⟨e', _⟩ | ⟨e', _⟩ | ⟨e', _⟩ | ⟨_, hb, hk, rfl, hz⟩
    ·omega
    ·omega
    ·omega
    ·exact atScale_any W f hb k z hk hz
  behind := fun W T k m z h1 h => by
   rcases h with ⟨e', _⟩ | ⟨e', _⟩ | ⟨e', _⟩ | ⟨_, hb, hk, rfl, hz⟩
   ·omega
   ·omega
   ·omega
   ·exact behindScale_any W f hb k z hk hz }
end Go.Proofs.YtijpffgocookaaaGreatDoor
namespace Go.Proofs.YtijpffgocookaaaGreatDoor
open Go.RowKit
def Sz (x : Int) (w : World) (e : Ending) (w' : World) : Prop := e = .returned (.tuple #[.agg zsh, .int .i64 x]) ∧ Up w w'
set_option maxRecDepth 100000 in
theorem shape_out (w : World) (ii : Int) (h : ii < 1 ∨ 15 ≤ ii) : Calls Tryz.prog 66 #[.int .i64 ii] w (Sz 3 w) := by
 have U := Up.refl w
 go_enter Tryz.func66, Tryz.ntmps66
 go_wp2_with fail
 obtain ⟨V1, hV1⟩ : ∃ V1, w.alloc (.cells zsh 106) = V1 := ⟨_, rfl⟩
 have B : Ob V1 w.heap.size 106 zsh := by rw [← hV1]; exact Ob.mk_ _ _ _
 have uV1 : Up w V1 := Up.al hV1
 have ltB : w.heap.size ≤ w.heap.size := U.size
 rw [hV1]
 clear hV1
 replace U := U.trans uV1
 clear uV1
 refine (of_out _ ii h).mono ?_
 rintro _ w2 ⟨rfl, h2⟩
 replace U := U.trans h2
 replace B := B.up h2
 clear h2
 clear h
 go_wp2_with (refine store_ob rfl 106 (.tmp 2) (.tmp 13) rfl _ zsh zsh rfl rfl 11 (by kernel_rfl) rfl rfl (by simp [Value.oneCell']) w (by first | exact U | exact U.alloc _) ltB 106 (by first | exact B | exact B.up ((Up.refl _).alloc _)) ?_; clear U; intro V9 z U)
 have z0 := z.get 0
 have z1 := z.get 1
 have z2 := z.get 2
 have z3 := z.get 3
 have z4 := z.get 4
 have z5 := z.get 5
 have z6 := z.get 6
 have z7 := z.get 7
 have z8 := z.get 8
 have z9 := z.get 9
 have z10 := z.get 10
 simp only [M.z7, M.z8, M.z9] at z0 z1 z2 z3 z4 z5 z6 z7 z8 z9 z10
 refine bodyPost_ret (v := .tuple #[.agg zsh, .int .i64 3]) (by simp [results, Tryz.results66, go_sem, z0, z1, z2, z3, z4, z5, z6, z7, z8, z9, z10]) rfl ?_
 exact ⟨rfl, U⟩
set_option maxRecDepth 100000 in
theorem smost_any (w : World) (f : M.Fm) (a b c d : Nat) (ht : 0 ≤ f.t ∧ f.t ≤ 18446744073709551000) (neg : Bool) (q : Int) (hq : M.mst f neg = q) : Calls Tryz.prog 105 #[.agg (shc f a b c d), .bool neg] w (Wz q w) := by
 unfold M.mst at hq
 cases neg
 ·
  rw [if_neg (by simp)] at hq
  subst hq
  have U := Up.refl w
  go_enter Tryz.func105, Tryz.ntmps105
  go_wp2_with fail
  obtain ⟨V1, hV1⟩ : ∃ V1, w.alloc (.cells (shc f a b c d) 106) = V1 := ⟨_, rfl⟩
  have B : Ob V1 w.heap.size 106 (shc f a b c d) := by rw [← hV1]; exact Ob.mk_ _ _ _
  have uV1 : Up w V1 := Up.al hV1
  have ltB : w.heap.size ≤ w.heap.size := U.size
  rw [hV1]
  clear hV1
  replace U := U.trans uV1
  clear uV1
  have B0 := B.get 0
  have B1 := B.get 1
  have B2 := B.get 2
  have B3 := B.get 3
  have B4 := B.get 4
  have B5 := B.get 5
  have B6 := B.get 6
  have B7 := B.get 7
  have B8 := B.get 8
  have B9 := B.get 9
  have B10 := B.get 10
  have Bf0 := B.fr 0
  have Bf1 := B.fr 1
  have Bf2 := B.fr 2
  have Bf3 := B.fr 3
  have Bf4 := B.fr 4
  have Bf5 := B.fr 5
  have Bf6 := B.fr 6
  have Bf7 := B.fr 7
  have Bf8 := B.fr 8
  have Bf9 := B.fr 9
  have Bf10 := B.fr 10
  have Bl := B.lt
  simp only [M.z7, M.z8, M.z9] at B0 B1 B2 B3 B4 B5 B6 B7 B8 B9 B10
  go_wp2_with fail
  clear B0 Bf0 B1 Bf1 B2 Bf2 B3 Bf3 B4 Bf4 B5 Bf5 B6 Bf6 B7 Bf7 B8 Bf8 B9 Bf9 B10 Bf10 Bl
  go_ret
  exact ⟨rfl, U⟩
 by_cases hk : f.k = 3
 ·
  rw [if_pos ⟨hk, rfl⟩] at hq
  subst hq
  have d1 : (f.k == 3) = true := by simpa using hk
  clear hk
  have U := Up.refl w
  go_enter Tryz.func105, Tryz.ntmps105
  go_wp2_with fail
  obtain ⟨V1, hV1⟩ : ∃ V1, w.alloc (.cells (shc f a b c d) 106) = V1 := ⟨_, rfl⟩
  have B : Ob V1 w.heap.size 106 (shc f a b c d) := by rw [← hV1]; exact Ob.mk_ _ _ _
  have uV1 : Up w V1 := Up.al hV1
  have ltB : w.heap.size ≤ w.heap.size := U.size
  rw [hV1]
  clear hV1
  replace U := U.trans uV1
  clear uV1
  have B0 := B.get 0
  have B1 := B.get 1
  have B2 := B.get 2
  have B3 := B.get 3
  have B4 := B.get 4
  have B5 := B.get 5
  have B6 := B.get 6
  have B7 := B.get 7
  have B8 := B.get 8
  have B9 := B.get 9
  have B10 := B.get 10
  have Bf0 := B.fr 0
  have Bf1 := B.fr 1
  have Bf2 := B.fr 2
  have Bf3 := B.fr 3
  have Bf4 := B.fr 4
  have Bf5 := B.fr 5
  have Bf6 := B.fr 6
  have Bf7 := B.fr 7
  have Bf8 := B.fr 8
  have Bf9 := B.fr 9
  have Bf10 := B.fr 10
  have Bl := B.lt
  simp only [M.z7, M.z8, M.z9] at B0 B1 B2 B3 B4 B5 B6 B7 B8 B9 B10
  go_wp2_with fail
  clear B0 Bf0 B1 Bf1 B2 Bf2 B3 Bf3 B4 Bf4 B5 Bf5 B6 Bf6 B7 Bf7 B8 Bf8 B9 Bf9 B10 Bf10 Bl
  go_ret
  exact ⟨rfl, U⟩
 ·
  rw [if_neg (by simp [hk])] at hq
  subst hq
  have d1 : (f.k == 3) = false := by simpa using hk
  clear hk
  have U := Up.refl w
  go_enter Tryz.func105, Tryz.ntmps105
  go_wp2_with fail
  obtain ⟨V1, hV1⟩ : ∃ V1, w.alloc (.cells (shc f a b c d) 106) = V1 := ⟨_, rfl⟩
  have B : Ob V1 w.heap.size 106 (shc f a b c d) := by rw [← hV1]; exact Ob.mk_ _ _ _
  have uV1 : Up w V1 := Up.al hV1
  have ltB : w.heap.size ≤ w.heap.size := U.size
  rw [hV1]
  clear hV1
  replace U := U.trans uV1
  clear uV1
  have B0 := B.get 0
  have B1 := B.get 1
  have B2 := B.get 2
  have B3 := B.get 3
  have B4 := B.get 4
  have B5 := B.get 5
  have B6 := B.get 6
  have B7 := B.get 7
  have B8 := B.get 8
  have B9 := B.get 9
  have B10 := B.get 10
  have Bf0 := B.fr 0
  have Bf1 := B.fr 1
  have Bf2 := B.fr 2
  have Bf3 := B.fr 3
  have Bf4 := B.fr 4
  have Bf5 := B.fr 5
  have Bf6 := B.fr 6
  have Bf7 := B.fr 7
  have Bf8 := B.fr 8
  have Bf9 := B.fr 9
  have Bf10 := B.fr 10
  have Bl := B.lt
  simp only [M.z7, M.z8, M.z9] at B0 B1 B2 B3 B4 B5 B6 B7 B8 B9 B10
  go_wp2_with fail
  clear B0 Bf0 B1 Bf1 B2 Bf2 B3 Bf3 B4 Bf4 B5 Bf5 B6 Bf6 B7 Bf7 B8 Bf8 B9 Bf9 B10 Bf10 Bl
  go_ret
  exact ⟨rfl, U⟩
set_option maxRecDepth 100000 in
theorem vfit_out (w : World) (ii p : Int) (h : ii < 1 ∨ 15 ≤ ii) : Calls Tryz.prog 64 #[.int .i64 ii, .int .u64 p] w (Sz 3 w) := by
 have U := Up.refl w
 go_enter Tryz.func64, Tryz.ntmps64
 go_wp2_with fail
 obtain ⟨V1, hV1⟩ : ∃ V1, w.alloc (.cells zsh 106) = V1 := ⟨_, rfl⟩
 have B : Ob V1 w.heap.size 106 zsh := by rw [← hV1]; exact Ob.mk_ _ _ _
 have uV1 : Up w V1 := Up.al hV1
 have ltB : w.heap.size ≤ w.heap.size := U.size
 rw [hV1]
 clear hV1
 replace U := U.trans uV1
 clear uV1
 refine (fits_out _ ii p h).mono ?_
 rintro _ w2 ⟨rfl, h2⟩
 replace U := U.trans h2
 replace B := B.up h2
 clear h2
 clear h
 go_wp2_with (refine store_ob rfl 106 (.tmp 4) (.tmp 12) rfl _ zsh zsh rfl rfl 11 (by kernel_rfl) rfl rfl (by simp [Value.oneCell']) w (by first | exact U | exact U.alloc _) ltB 106 (by first | exact B | exact B.up ((Up.refl _).alloc _)) ?_; clear U; intro V9 z U)
 have z0 := z.get 0
 have z1 := z.get 1
 have z2 := z.get 2
 have z3 := z.get 3
 have z4 := z.get 4
 have z5 := z.get 5
 have z6 := z.get 6
 have z7 := z.get 7
 have z8 := z.get 8
 have z9 := z.get 9
 have z10 := z.get 10
 simp only [M.z7, M.z8, M.z9] at z0 z1 z2 z3 z4 z5 z6 z7 z8 z9 z10
 refine bodyPost_ret (v := .tuple #[.agg zsh, .int .i64 3]) (by simp [results, Tryz.results64, go_sem, z0, z1, z2, z3, z4, z5, z6, z7, z8, z9, z10]) rfl ?_
 exact ⟨rfl, U⟩
set_option maxRecDepth 100000 in
theorem vfit_big (w : World) (hF : TabF w) (i : Nat) (i1 : 1 ≤ i) (i2 : i ≤ 14) (p : Int) (p1 : 0 ≤ p) (p2 : p < 18446744073709551616) (hp : M.msk (M.tb i) < p) : Calls Tryz.prog 64 #[.int .i64 (i : Int), .int .u64 p] w (Sz 1 w) := by
 have CF := Lib.hid (fun W (T : TabF W) => fits_in W T i i1 i2 p p1 p2)
 rw [show M.er i p = 1 by unfold M.er; rw [if_neg (by omega)]] at CF
 clear hp p1 p2
 have U := Up.refl w
 go_enter Tryz.func64, Tryz.ntmps64
 go_wp2_with fail
 obtain ⟨V1, hV1⟩ : ∃ V1, w.alloc (.cells zsh 106) = V1 := ⟨_, rfl⟩
 have B : Ob V1 w.heap.size 106 zsh := by rw [← hV1]; exact Ob.mk_ _ _ _
 have uV1 : Up w V1 := Up.al hV1
 have ltB : w.heap.size ≤ w.heap.size := U.size
 rw [hV1]
 clear hV1
 replace U := U.trans uV1
 clear uV1
 refine (CF.out _ (hF.up U)).mono ?_
 rintro _ w2 ⟨rfl, h2⟩
 replace U := U.trans h2
 replace B := B.up h2
 clear h2
 go_wp2_with (refine store_ob rfl 106 (.tmp 4) (.tmp 12) rfl _ zsh zsh rfl rfl 11 (by kernel_rfl) rfl rfl (by simp [Value.oneCell']) w (by first | exact U | exact U.alloc _) ltB 106 (by first | exact B | exact B.up ((Up.refl _).alloc _)) ?_; clear U; intro V9 z U)
 have z0 := z.get 0
 have z1 := z.get 1
 have z2 := z.get 2
 have z3 := z.get 3
 have z4 := z.get 4
 have z5 := z.get 5
 have z6 := z.get 6
 have z7 := z.get 7
 have z8 := z.get 8
 have z9 := z.get 9
 have z10 := z.get 10
 simp only [M.z7, M.z8, M.z9] at z0 z1 z2 z3 z4 z5 z6 z7 z8 z9 z10
 refine bodyPost_ret (v := .tuple #[.agg zsh, .int .i64 1]) (by simp [results, Tryz.results64, go_sem, z0, z1, z2, z3, z4, z5, z6, z7, z8, z9, z10]) rfl ?_
 exact ⟨rfl, U⟩
set_option maxRecDepth 100000 in
theorem vfit_in (w : World) (hF : TabF w) (i : Nat) (f : M.Fm) (hf : Hid (M.tb i = f)) (i1 : 1 ≤ i) (i2 : i ≤ 14) (p : Int) (p1 : 0 ≤ p) (p2 : p ≤ M.msk f) (a b c d : Nat) (hk : Wk f.k a b c d) : Calls Tryz.prog 64 #[.int .i64 (i : Int), .int .u64 p] w (Sh f a b c d 0 w) := by
 have pb : p < 18446744073709551616 := by
  have := (M.ok i i1 i2).hm
  rw [hf.out] at this
  omega
 have CF := Lib.hid (fun W (T : TabF W) => fits_in W T i i1 i2 p p1 pb)
 rw [show M.er i p = 0 by unfold M.er; rw [hf.out, if_pos p2]] at CF
 have CS := Lib.hid (fun W (T : TabF W) => shape_in W T i f hf i1 i2 a b c d hk)
 clear hf hk p1 p2 i1 i2
 have U := Up.refl w
 go_enter Tryz.func64, Tryz.ntmps64
 go_wp2_with fail
 obtain ⟨V1, hV1⟩ : ∃ V1, w.alloc (.cells zsh 106) = V1 := ⟨_, rfl⟩
 have B : Ob V1 w.heap.size 106 zsh := by rw [← hV1]; exact Ob.mk_ _ _ _
 have uV1 : Up w V1 := Up.al hV1
 have ltB : w.heap.size ≤ w.heap.size := U.size
 rw [hV1]
 clear hV1
 replace U := U.trans uV1
 clear uV1
 refine (CF.out _ (hF.up U)).mono ?_
 rintro _ w2 ⟨rfl, h2⟩
 replace U := U.trans h2
 replace B := B.up h2
 clear h2
 go_wp2_with fail
 refine (CS.out _ (hF.up U)).mono ?_
 rintro _ w3 ⟨rfl, h3⟩
 replace U := U.trans h3
 replace B := B.up h3
 clear h3
 go_wp2_with (refine store_ob rfl 106 (.tmp 4) (.tmp 16) rfl _ zsh (shc f a b c d) rfl rfl 11 (by kernel_rfl) rfl rfl (by simp [Value.oneCell']) w (by first | exact U | exact U.alloc _) ltB 106 (by first | exact B | exact B.up ((Up.refl _).alloc _)) ?_; clear U; intro V9 z U)
 have z0 := z.get 0
 have z1 := z.get 1
 have z2 := z.get 2
 have z3 := z.get 3
 have z4 := z.get 4
 have z5 := z.get 5
 have z6 := z.get 6
 have z7 := z.get 7
 have z8 := z.get 8
 have z9 := z.get 9
 have z10 := z.get 10
 simp only [M.z7, M.z8, M.z9] at z0 z1 z2 z3 z4 z5 z6 z7 z8 z9 z10
 refine bodyPost_ret (v := .tuple #[.agg (shc f a b c d), .int .i64 0]) (by simp [results, Tryz.results64, go_sem, z0, z1, z2, z3, z4, z5, z6, z7, z8, z9, z10]) rfl ?_
 exact ⟨rfl, U⟩
set_option maxRecDepth 100000 in
theorem vrng_out (w : World) (ii : Int) (k : Nat) (h : ii < 1 ∨ 15 ≤ ii) : Calls Tryz.prog 187 #[.int .i64 ii, u64 k] w (Sz 3 w) := by
 have U := Up.refl w
 go_enter Tryz.func187, Tryz.ntmps187
 go_wp2_with fail
 obtain ⟨V1, hV1⟩ : ∃ V1, w.alloc (.cells zsh 106) = V1 := ⟨_, rfl⟩
 have B : Ob V1 w.heap.size 106 zsh := by rw [← hV1]; exact Ob.mk_ _ _ _
 have uV1 : Up w V1 := Up.al hV1
 have ltB : w.heap.size ≤ w.heap.size := U.size
 rw [hV1]
 clear hV1
 replace U := U.trans uV1
 clear uV1
 refine (shape_out _ ii h).mono ?_
 rintro _ w2 ⟨rfl, h2⟩
 replace U := U.trans h2
 replace B := B.up h2
 clear h2
 clear h
 go_wp2_with (first | (refine store_ob rfl 106 (.tmp 6) (.tmp 11) rfl _ zsh zsh rfl rfl 11 (by kernel_rfl) rfl rfl (by simp [Value.oneCell']) w2 ((Up.refl _).alloc _) (Nat.le_refl _) 106 (Ob.mk_ _ _ _) ?_; intro V3 C uV3; have ltC : w.heap.size ≤ w2.heap.size := U.size; replace U := U.trans uV3; replace B := B.up uV3; clear uV3; have C0 := C.get 0; have C1 := C.get 1; have C2 := C.get 2; have C3 := C.get 3; have C4 := C.get 4; have C5 := C.get 5; have C6 := C.get 6; have C7 := C.get 7; have C8 := C.get 8; have C9 := C.get 9; have C10 := C.get 10; simp only [M.z7, M.z8, M.z9] at C0 C1 C2 C3 C4 C5 C6 C7 C8 C9 C10) | (refine store_ob rfl 106 (.tmp 4) (.tmp 22) rfl _ zsh zsh rfl rfl 11 (by kernel_rfl) rfl rfl (by simp [Value.oneCell']) w (by first | exact U | exact U.alloc _) ltB 106 (by first | exact B | exact B.up ((Up.refl _).alloc _)) ?_; clear U; intro V9 z U))
 have z0 := z.get 0
 have z1 := z.get 1
 have z2 := z.get 2
 have z3 := z.get 3
 have z4 := z.get 4
 have z5 := z.get 5
 have z6 := z.get 6
 have z7 := z.get 7
 have z8 := z.get 8
 have z9 := z.get 9
 have z10 := z.get 10
 simp only [M.z7, M.z8, M.z9] at z0 z1 z2 z3 z4 z5 z6 z7 z8 z9 z10
 refine bodyPost_ret (v := .tuple #[.agg zsh, .int .i64 3]) (by simp [results, Tryz.results187, go_sem, z0, z1, z2, z3, z4, z5, z6, z7, z8, z9, z10]) rfl ?_
 exact ⟨rfl, U⟩
set_option maxRecDepth 100000 in
theorem vrng_big (w : World) (hF : TabF w) (i : Nat) (f : M.Fm) (hf : Hid (M.tb i = f)) (i1 : 1 ≤ i) (i2 : i ≤ 14) (k : Nat) (hk : M.tp f < (k : Int)) (a b c d : Nat) (hw : Wk f.k a b c d) : Calls Tryz.prog 187 #[.int .i64 (i : Int), u64 k] w (Sz 4 w) := by
 have CS := Lib.hid (fun W (T : TabF W) => shape_in W T i f hf i1 i2 a b c d hw)
 have tt : 0 ≤ f.t ∧ f.t ≤ 18446744073709551000 := by
  have h1 := M.ok i i1 i2
  rw [hf.out] at h1
  have := M.ok2 i i1 i2
  rw [hf.out] at this
  have a1 := this.one
  have a3 := this.tri
  have a4 := this.four
  have a2 := h1.two
  have := h1.hm
  have := h1.t
  rcases h1.k with e | e | e | e <;> omega
 obtain ⟨q, hq⟩ : ∃ q, M.tp f = q := ⟨_, rfl⟩
 have CM := Lib.hid (fun W => smost_any W f a b c d tt true q (by rw [← hq]; unfold M.mst M.tp; by_cases e : f.k = 3 <;> simp [e]))
 rw [hq] at hk
 have d2 : decide (q < (k : Int)) = true := decide_eq_true (by omega)
 clear hf hk i1 i2 hw hq
 have U := Up.refl w
 go_enter Tryz.func187, Tryz.ntmps187
 go_wp2_with fail
 obtain ⟨V1, hV1⟩ : ∃ V1, w.alloc (.cells zsh 106) = V1 := ⟨_, rfl⟩
 have B : Ob V1 w.heap.size 106 zsh := by rw [← hV1]; exact Ob.mk_ _ _ _
 have uV1 : Up w V1 := Up.al hV1
 have ltB : w.heap.size ≤ w.heap.size := U.size
 rw [hV1]
 clear hV1
 replace U := U.trans uV1
 clear uV1
 refine (CS.out _ (hF.up U)).mono ?_
 rintro _ w2 ⟨rfl, h2⟩
 replace U := U.trans h2
 replace B := B.up h2
 clear h2
 go_wp2_with (refine store_ob rfl 106 (.tmp 6) (.tmp 11) rfl _ zsh (shc f a b c d) rfl rfl 11 (by kernel_rfl) rfl rfl (by simp [Value.oneCell']) w2 ((Up.refl _).alloc _) (Nat.le_refl _) 106 (Ob.mk_ _ _ _) ?_; intro V3 C uV3; have ltC : w.heap.size ≤ w2.heap.size := U.size; replace U := U.trans uV3; replace B := B.up uV3; clear uV3; have C0 := C.get 0; have C1 := C.get 1; have C2 := C.get 2; have C3 := C.get 3; have C4 := C.get 4; have C5 := C.get 5; have C6 := C.get 6; have C7 := C.get 7; have C8 := C.get 8; have C9 := C.get 9; have C10 := C.get 10; simp only [M.z7, M.z8, M.z9] at C0 C1 C2 C3 C4 C5 C6 C7 C8 C9 C10)
 clear C0 C1 C2 C3 C4 C5 C6 C7 C8 C9 C10
 refine (CM.out _).mono ?_
 rintro _ w4 ⟨rfl, h4⟩
 replace U := U.trans h4
 replace B := B.up h4
 replace C := C.up h4
 clear h4
 have C0 := C.get 0
 have C1 := C.get 1
 have C2 := C.get 2
 have C3 := C.get 3
 have C4 := C.get 4
 have C5 := C.get 5
 have C6 := C.get 6
 have C7 := C.get 7
 have C8 := C.get 8
 have C9 := C.get 9
 have C10 := C.get 10
 have Cf0 := C.fr 0
 have Cf1 := C.fr 1
 have Cf2 := C.fr 2
 have Cf3 := C.fr 3
 have Cf4 := C.fr 4
 have Cf5 := C.fr 5
 have Cf6 := C.fr 6
 have Cf7 := C.fr 7
 have Cf8 := C.fr 8
 have Cf9 := C.fr 9
 have Cf10 := C.fr 10
 have Cl := C.lt
 simp only [M.z7, M.z8, M.z9] at C0 C1 C2 C3 C4 C5 C6 C7 C8 C9 C10
 go_wp2_with (refine store_ob rfl 106 (.tmp 4) (.tmp 21) rfl _ zsh zsh rfl rfl 11 (by kernel_rfl) rfl rfl (by simp [Value.oneCell']) w (by first | exact U | exact U.alloc _) ltB 106 (by first | exact B | exact B.up ((Up.refl _).alloc _)) ?_; clear U; intro V9 z U)
 have z0 := z.get 0
 have z1 := z.get 1
 have z2 := z.get 2
 have z3 := z.get 3
 have z4 := z.get 4
 have z5 := z.get 5
 have z6 := z.get 6
 have z7 := z.get 7
 have z8 := z.get 8
 have z9 := z.get 9
 have z10 := z.get 10
 simp only [M.z7, M.z8, M.z9] at z0 z1 z2 z3 z4 z5 z6 z7 z8 z9 z10
 refine bodyPost_ret (v := .tuple #[.agg zsh, .int .i64 4]) (by simp [results, Tryz.results187, go_sem, z0, z1, z2, z3, z4, z5, z6, z7, z8, z9, z10]) rfl ?_
 exact ⟨rfl, U⟩
set_option maxRecDepth 100000 in
theorem vrng_in (w : World) (hF : TabF w) (i : Nat) (f : M.Fm) (hf : Hid (M.tb i = f)) (i1 : 1 ≤ i) (i2 : i ≤ 14) (k : Nat) (hk : (k : Int) ≤ M.tp f) (a b c d : Nat) (hw : Wk f.k a b c d) : Calls Tryz.prog 187 #[.int .i64 (i : Int), u64 k] w (Sh f a b c d 0 w) := by
 have CS := Lib.hid (fun W (T : TabF W) => shape_in W T i f hf i1 i2 a b c d hw)
 have tt : 0 ≤ f.t ∧ f.t ≤ 18446744073709551000 := by
  have h1 := M.ok i i1 i2
  rw [hf.out] at h1
  have := M.ok2 i i1 i2
  rw [hf.out] at this
  have a1 := this.one
  have a3 := this.tri
  have a4 := this.four
  have a2 := h1.two
  have := h1.hm
  have := h1.t
  rcases h1.k with e | e | e | e <;> omega
 obtain ⟨q, hq⟩ : ∃ q, M.tp f = q := ⟨_, rfl⟩
 have CM := Lib.hid (fun W => smost_any W f a b c d tt true q (by rw [← hq]; unfold M.mst M.tp; by_cases e : f.k = 3 <;> simp [e]))
 rw [hq] at hk
 have d2 : decide (q < (k : Int)) = false := decide_eq_false (by omega)
 clear hf hk i1 i2 hw hq
 have U := Up.refl w
 go_enter Tryz.func187, Tryz.ntmps187
 go_wp2_with fail
 obtain ⟨V1, hV1⟩ : ∃ V1, w.alloc (.cells zsh 106) = V1 := ⟨_, rfl⟩
 have B : Ob V1 w.heap.size 106 zsh := by rw [← hV1]; exact Ob.mk_ _ _ _
 have uV1 : Up w V1 := Up.al hV1
 have ltB : w.heap.size ≤ w.heap.size := U.size
 rw [hV1]
 clear hV1
 replace U := U.trans uV1
 clear uV1
 refine (CS.out _ (hF.up U)).mono ?_
 rintro _ w2 ⟨rfl, h2⟩
 replace U := U.trans h2
 replace B := B.up h2
 clear h2
 go_wp2_with (refine store_ob rfl 106 (.tmp 6) (.tmp 11) rfl _ zsh (shc f a b c d) rfl rfl 11 (by kernel_rfl) rfl rfl (by simp [Value.oneCell']) w2 ((Up.refl _).alloc _) (Nat.le_refl _) 106 (Ob.mk_ _ _ _) ?_; intro V3 C uV3; have ltC : w.heap.size ≤ w2.heap.size := U.size; replace U := U.trans uV3; replace B := B.up uV3; clear uV3; have C0 := C.get 0; have C1 := C.get 1; have C2 := C.get 2; have C3 := C.get 3; have C4 := C.get 4; have C5 := C.get 5; have C6 := C.get 6; have C7 := C.get 7; have C8 := C.get 8; have C9 := C.get 9; have C10 := C.get 10; simp only [M.z7, M.z8, M.z9] at C0 C1 C2 C3 C4 C5 C6 C7 C8 C9 C10)
 clear C0 C1 C2 C3 C4 C5 C6 C7 C8 C9 C10
 refine (CM.out _).mono ?_
 rintro _ w4 ⟨rfl, h4⟩
 replace U := U.trans h4
 replace B := B.up h4
 replace C := C.up h4
 clear h4
 have C0 := C.get 0
 have C1 := C.get 1
 have C2 := C.get 2
 have C3 := C.get 3
 have C4 := C.get 4
 have C5 := C.get 5
 have C6 := C.get 6
 have C7 := C.get 7
 have C8 := C.get 8
 have C9 := C.get 9
 have C10 := C.get 10
 have Cf0 := C.fr 0
 have Cf1 := C.fr 1
 have Cf2 := C.fr 2
 have Cf3 := C.fr 3
 have Cf4 := C.fr 4
 have Cf5 := C.fr 5
 have Cf6 := C.fr 6
 have Cf7 := C.fr 7
 have Cf8 := C.fr 8
 have Cf9 := C.fr 9
 have Cf10 := C.fr 10
 have Cl := C.lt
 simp only [M.z7, M.z8, M.z9] at C0 C1 C2 C3 C4 C5 C6 C7 C8 C9 C10
 go_wp2_with (refine store_ob rfl 106 (.tmp 4) (.tmp 22) rfl _ zsh (shc f a b c d) rfl rfl 11 (by kernel_rfl) rfl rfl (by simp [Value.oneCell']) w (by first | exact U | exact U.alloc _) ltB 106 (by first | exact B | exact B.up ((Up.refl _).alloc _)) ?_; clear U; intro V9 z U)
 have z0 := z.get 0
 have z1 := z.get 1
 have z2 := z.get 2
 have z3 := z.get 3
 have z4 := z.get 4
 have z5 := z.get 5
 have z6 := z.get 6
 have z7 := z.get 7
 have z8 := z.get 8
 have z9 := z.get 9
 have z10 := z.get 10
 simp only [M.z7, M.z8, M.z9] at z0 z1 z2 z3 z4 z5 z6 z7 z8 z9 z10
 refine bodyPost_ret (v := .tuple #[.agg (shc f a b c d), .int .i64 0]) (by simp [results, Tryz.results187, go_sem, z0, z1, z2, z3, z4, z5, z6, z7, z8, z9, z10]) rfl ?_
 exact ⟨rfl, U⟩
end Go.Proofs.YtijpffgocookaaaGreatDoor
