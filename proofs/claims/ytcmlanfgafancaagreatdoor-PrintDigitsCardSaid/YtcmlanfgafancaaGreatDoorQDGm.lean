import Derived.Test.YtcmlanfgafancaaGreatDoorQDGf
import Derived.Test.YtcmlanfgafancaaGreatDoorQDKe
import Derived.Test.YtcmlanfgafancaaGreatDoorQDHw
import Derived.Test.YtcmlanfgafancaaGreatDoorQDVwa
import Derived.Deep.RegionHeld3
import Derived.Deep.DeepCutAuto
set_option maxHeartbeats 32000000
set_option linter.unusedVariables false
set_option linter.unusedSimpArgs false
namespace Go.Proofs.YtcmlanfgafancaaGreatDoor
open Go.RowKit Go.Shelf
open Go.ChangeMaps Go.MapKept
abbrev sy_ (a b : ByteArray) : Value := .agg #[.string a, .string b]
def Sy (c : Int) (a b : ByteArray) : Prop :=
 (c = 1 ∧ a = ⟨#[48]⟩ ∧ b = ⟨#[48]⟩) ∨ (c = 3 ∧ a = ⟨#[105, 110, 102]⟩ ∧ b = ⟨#[105, 110, 102]⟩) ∨ (c = 4 ∧ a = ⟨#[110, 97, 110]⟩ ∧ b = ⟨#[78, 97, 82]⟩)
def sys_ : List MapEntry := [⟨.int .i64 1, sy_ ⟨#[48]⟩ ⟨#[48]⟩, 0⟩, ⟨.int .i64 3, sy_ ⟨#[105, 110, 102]⟩ ⟨#[105, 110, 102]⟩, 1⟩, ⟨.int .i64 4, sy_ ⟨#[110, 97, 110]⟩ ⟨#[78, 97, 82]⟩, 2⟩]
def Wy (w : World) (b n : Nat) : Prop := w.heap[b]? = some (.map (sys_.take n).toArray n)
theorem Wy.lt {w : World} {b n : Nat} (h : Wy w b n) : b < w.heap.size := (Array.getElem?_eq_some_iff.1 h).1
theorem Wy.up {w w' : World} {b n : Nat} (h : Wy w b n) (hu : Up w w') : Wy w' b n := (Below.block hu b h.lt).trans h
theorem mty_ : Tryz.prog.underlying 80 = some (.map 3 78) := Tryz.underlying80
theorem ckeyy_ (w : World) (e : Bool) (k : Int) : (Instr.checkKey e 10000 3 (.int .i64 k)).run Tryz.prog w = .ok () w := MapKept.run_checkKey Tryz.underlying3 (by simp [IsKey]) e 9999
theorem Wy.put {w : World} {b n : Nat} (h : Wy w b n) {k : Int} {v : Value} (he : sys_[n]? = some ⟨.int .i64 k, v, n⟩) :
  ∃ V, (Instr.mapUpdate 80 (.map (some b)) (.int .i64 k) v).run Tryz.prog w = .ok () V ∧ Wy V b (n + 1) ∧ w.grownBy V (some b) := by
 have hf : Instr.findNow (.int .i64) (.int .i64 k) (sys_.take n) 0 = some none := by
  match n, he with
  | 0, he => rfl
  | 1, he => simp [sys_] at he; obtain ⟨rfl, _⟩ := he; rfl
  | 2, he => simp [sys_] at he; obtain ⟨rfl, _⟩ := he; rfl
  | n + 3, he => simp [sys_] at he
 have ht : (sys_.take (n + 1)).toArray = (sys_.take n).toArray.push ⟨.int .i64 k, v, n⟩ := by
  rw [List.take_add_one, he]
  simp
 have hb : w.heap[b]? = some (.map (sys_.take n).toArray n) := h
 refine ⟨setBlock w b (.map ((sys_.take n).toArray.push ⟨.int .i64 k, v, n⟩) (n + 1)), ?_, ?_, ⟨rfl, rfl, rfl, by simp [setBlock], fun i _ hi => heap_setBlock_other hb _ (fun e => hi (by rw [e]))⟩⟩
 ·have hk := MapKept.run_findKey (w := w) (l := (sys_.take n).toArray.toList) Tryz.underlying3 (by simpa using hf)
  simp [Instr.mapUpdate, run_underlying mty_, MapKept.run_getObj_map hb, ckeyy_ w false k, hk, MapKept.run_setObj_map _ hb, Result.andThen, setBlock]
 ·unfold Wy
  rw [ht]
  exact heap_setBlock_same hb _
theorem Wy.look {w : World} {m : Nat} (h : Wy w m 3) {c : Int} {a b : ByteArray} (hc : Sy c a b) :
  (Instr.lookup 80 (.map (some m)) (.int .i64 c) true).run Tryz.prog w = .ok (.tuple #[sy_ a b, .bool true]) w := by
 have hb : w.heap[m]? = some (.map (sys_.take 3).toArray 3) := h
 have hf : ∃ i, Instr.findNow (.int .i64) (.int .i64 c) (sys_.take 3) 0 = some (some (i, sy_ a b)) := by
  rcases hc with ⟨rfl, rfl, rfl⟩ | ⟨rfl, rfl, rfl⟩ | ⟨rfl, rfl, rfl⟩
  ·exact ⟨0, rfl⟩
  ·exact ⟨1, rfl⟩
  ·exact ⟨2, rfl⟩
 obtain ⟨i, hf⟩ := hf
 have hk := MapKept.run_findKey (w := w) (l := (sys_.take 3).toArray.toList) Tryz.underlying3 (by simpa using hf)
 simp [Instr.lookup, run_underlying mty_, MapKept.run_getObj_map hb, ckeyy_ w _ c, hk, Result.andThen]
theorem Wy.miss {w : World} {m : Nat} (h : Wy w m 3) :
  (Instr.lookup 80 (.map (some m)) (.int .i64 2) true).run Tryz.prog w = .ok (.tuple #[sy_ ⟨#[]⟩ ⟨#[]⟩, .bool false]) w := by
 have hb : w.heap[m]? = some (.map (sys_.take 3).toArray 3) := h
 have hf : Instr.findNow (.int .i64) (.int .i64 2) (sys_.take 3) 0 = some none := rfl
 have hk := MapKept.run_findKey (w := w) (l := (sys_.take 3).toArray.toList) Tryz.underlying3 (by simpa using hf)
 simp [Instr.lookup, run_underlying mty_, MapKept.run_getObj_map hb, ckeyy_ w _ 2, hk, Result.andThen, Tryz.zeroValue78]
theorem put_say {P : Program} {w0 w : World} {ops : Array Oper} {rest : List Oper} {o : Oper} {a : Act} {Q : Exit → Act → World → Prop} (hP : P = Tryz.prog)
  (hg : o.guard = none) (m x v : Operand) (hop : o.op = Op.insert 80 m x v) (b n : Nat) (k : Int) (val : Value) (hW : Wy w b n) (U : Up w0 w) (hb : w0.heap.size ≤ b) (he : sys_[n]? = some ⟨.int .i64 k, val, n⟩)
  (hm : a.eval m = .map (some b)) (hx : a.eval x = .int .i64 k) (hv : a.eval v = val)
  (h : ∀ V, Wy V b (n + 1) → Up w0 V → wpList P ops Q rest (a.put o.dst undef) V) : wpList P ops Q (o :: rest) a w := by
 subst hP
 obtain ⟨V, h1, h2, h3⟩ := hW.put he
 exact wpList_insert_ hg m x v _ hop b _ _ hm hx hv h1 (h V h2 (U.grown h3 (fun j hj => by cases hj; exact hb)))
def Says (w : World) (e : Ending) (w' : World) : Prop := ∃ b, e = .returned (.map (some b)) ∧ Wy w' b 3 ∧ Up w w'
theorem sayings_any (w : World) : Calls Tryz.prog 37 #[] w (Says w) := by
 have hmm := @run_makeMap Tryz.prog
 have B0 : Wy (w.alloc (.map #[] 0)) w.heap.size 0 := (MapKept.heap_alloc w _).1
 have U0 : Up w (w.alloc (.map #[] 0)) := (Up.refl w).alloc _
 go_enter Tryz.func37, Tryz.ntmps37
 go_wp2_with (first
  | (refine put_say rfl rfl _ _ _ rfl _ 0 1 _ B0 U0 (Nat.le_refl _) rfl rfl rfl rfl ?_; clear B0 U0; intro V1 B1 U1)
  | (refine put_say rfl rfl _ _ _ rfl _ 1 3 _ B1 U1 (Nat.le_refl _) rfl rfl rfl rfl ?_; clear B1 U1; intro V2 B2 U2)
  | (refine put_say rfl rfl _ _ _ rfl _ 2 4 _ B2 U2 (Nat.le_refl _) rfl rfl rfl rfl ?_; clear B2 U2; intro V3 B3 U3))
 go_ret
 exact ⟨_, rfl, B3, U3⟩
set_option maxRecDepth 100000 in
theorem ptext_any (w : World) (TF : Hid (TabF w)) (i : Nat) (f : M.Fm) (hf : Hid (M.tb i = f)) (i1 : 1 ≤ i) (i2 : i ≤ 14) (sa sb : ByteArray) (la lb : List UInt8) (ta : Hid (Tx sa la)) (tb : Hid (Tx sb lb)) (za : sa.size ≤ 100) (zb : sb.size ≤ 100) (g : Bool) :
  Calls Tryz.prog 38 #[sy_ sa sb, .int .i64 (i : Int), .bool g] w (Tex (M.sgt g ++ (if f.k = 1 then lb else la)) w) := by
 have CO := Lib.hid (fun W (U : Up w W) => of_in W (TF.out.up U) i f hf i1 i2)
 have U := (Up.refl w).alloc (.cells #[.string sa, .string sb] 78)
 have Y := Ob.mk_ w 78 #[.string sa, .string sb]
 clear TF hf i1 i2
 have ex1 : (1 + sb.size) ≤ 281474976710656 := by omega
 have ex2 : (1 + sa.size) ≤ 281474976710656 := by omega
 have hl : (f.k == 1) = true ∧ Hid (M.sgt g ++ (if f.k = 1 then lb else la) = M.sgt g ++ lb) ∨ (f.k == 1) = false ∧ Hid (M.sgt g ++ (if f.k = 1 then lb else la) = M.sgt g ++ la) := by
  by_cases h : f.k = 1
  ·exact .inl ⟨by simpa using h, by show _ = _; rw [if_pos h]⟩
  ·exact .inr ⟨by simpa using h, by show _ = _; rw [if_neg h]⟩
 generalize (M.sgt g ++ if f.k = 1 then lb else la) = L at hl ⊢
 rcases hl with ⟨d1, hl⟩ | ⟨d1, hl⟩ <;> rcases (show g = true ∨ g = false by cases g <;> simp) with rfl | rfl
 all_goals
  go_enter Tryz.func38, Tryz.ntmps38
  go_upto_region 2 with fail
  go_wp2_with fail
  refine (CO.out _ U).mono ?_
  rintro _ w1 ⟨rfl, u1⟩
  have Y1 := Y.up u1
  have U1 := U.trans u1
  go_upto_region 3 with fail
  obtain ⟨V3, hV3⟩ : ∃ V3, w1.alloc (.cells #[.int .i64 f.k, .int .i64 f.W, .int .i64 f.m, .int .i64 f.b, .int .u64 f.t, .int .u64 f.n, .int .u64 f.x] 53) = V3 := ⟨_, rfl⟩
  have C : Bf V3 w1.heap.size 53 f := by rw [← hV3]; exact Bf.mk_ w1 f 53
  have uV3 : Up w1 V3 := Up.al hV3
  rw [hV3]
  clear hV3
  replace Y1 := Y1.up uV3
  replace U1 := U1.trans uV3
  clear uV3
  obtain ⟨c0, _⟩ := Bf.cs C
  have y0 := Y1.get 0
  have y1 := Y1.get 1
  simp only [M.z7, M.z8, M.z9] at y0 y1
  go_wp2_with fail
  go_ret
  refine ⟨_, rfl, Tx.to ?_ hl.out.symm, U1⟩
  first | exact (Tx.lit [45]).cat tb.out | exact (Tx.lit [45]).cat ta.out | exact tb.out | exact ta.out
def Syl (c : Int) (la lb : List UInt8) : Prop := (c = 1 ∧ la = [48] ∧ lb = [48]) ∨ (c = 3 ∧ la = [105, 110, 102] ∧ lb = [105, 110, 102]) ∨ (c = 4 ∧ la = [110, 97, 110] ∧ lb = [78, 97, 82])
def Beh (w : World) (i p : Nat) (G : Nat) (bb g : Bool) (sa sb : ByteArray) (l : List UInt8) : Prop :=
 if bb = true then ∀ W, Up w W → Calls Tryz.prog 38 #[sy_ sa sb, .int .i64 (i : Int), .bool g] W (Tex l W)
 else ∃ D K, (∀ W, Up w W → Calls Tryz.prog G #[.int .i64 (i : Int), u64 p] W (Dxx g D K 0 W)) ∧
  ∀ (W : World) (A : Option Addr) (n c lo : Nat), Up w W → Nt W lo 128 (.slice A n c) D → Calls Tryz.prog 39 #[dv g (.slice A n c) K] W (Tex l W)
set_option maxRecDepth 100000 in
theorem textof_in (w : World) (TT : Hid (Tz w)) (TF : Hid (TabF w)) (G : Nat) (ec : ∀ (args : Array Value) (w : World), (callFunc G args).run Tryz.prog w = .ok (.enter G args) w) (i p : Nat) (pb : p < 18446744073709551616) (c : Int) (g : Bool) (m : Nat) (z : Int) (hd : M.Dc (i : Int) p c g m z 0) (sa sb : ByteArray) (bb : Bool)
  (LK : Hid (∀ W b, Wy W b 3 → (Instr.lookup 80 (.map (some b)) (.int .i64 c) true).run Tryz.prog W = .ok (.tuple #[sy_ sa sb, .bool bb]) W)) (l : List UInt8) (HB : Hid (Beh w i p G bb g sa sb l)) :
  Calls Tryz.prog 20 #[.int .i64 (i : Int), u64 p, fn_ G] w (Ptx l 0 w) := by
 have CD := Lib.hid (vdecode_any w TT TF (i : Int) p pb c g m z 0 hd)
 have CS := Lib.hid sayings_any
 clear hd TT TF pb
 go_enter Tryz.func20, Tryz.ntmps20
 go_wp2_with fail
 refine CD.out.mono ?_
 rintro _ W1 ⟨rfl, u1⟩
 go_upto_region 4 with (refine store_ob rfl 38 (.tmp 8) (.tmp 17) rfl _ #[.int .i64 0, .bool false, .int .u64 0, .int .i64 0] #[.int .i64 c, .bool g, u64 m, .int .i64 z] rfl rfl 4 (by kernel_rfl) rfl rfl (by simp [Value.oneCell']) W1 ((Up.refl _).alloc _) (Nat.le_refl _) 38 (Ob.mk_ _ _ _) ?_; intro V2 X2 q2)
 have U := u1.trans q2
 clear CD u1 q2
 go_cut [10, 11] (fun f10 f11 wx => ∃ gF, f10 = .pointer (some ⟨gF, 0, none⟩) ∧ f11 = .bool bb ∧ Ob wx gF 78 #[.string sa, .string sb] ∧ V2.heap.size ≤ gF ∧ Up V2 wx)
 case first =>
  have uD : Up V2 V2.drew := (Up.refl _).drew
  refine wp_region_held_drew (S := fun w' => Ob w' (W1.heap.size) 38 #[.int .i64 c, .bool g, u64 m, .int .i64 z]) (by kernel_rfl) (X2.up uD) (fun hHeld => ?_)
  refine wpAnyH_name (fun _ _ _ _ _ h => h) (fun Q0 HP HN => ?_)
  refine wpAnyH_take (i := 1) (v := ?_) rfl ?_ ?_ ?_ ?_ ?_ ?_ ?_
  rotate_left
  ·kernel_rfl
  ·kernel_rfl
  ·kernel_rfl
  ·exact fun c a w h => HP c _ _ a w h
  ·refine Or.inl ⟨by rfl, ?_⟩
   intro wq hSq
   have hS0 : Ob wq (W1.heap.size) 38 #[.int .i64 c, .bool g, u64 m, .int .i64 z] := hSq
   obtain ⟨q0_0, q0_1, q0_2, q0_3⟩ := hS0.g4
   go_simp
   all_goals with_reducible rfl
  ·assumption
  try simp only [Act.put, M.z1, M.z2, M.z3, M.z4, M.z5, M.z6]
  refine wpAnyH_take (i := 2) (v := ?_) rfl ?_ ?_ ?_ ?_ ?_ ?_ ?_
  rotate_left
  ·kernel_rfl
  ·kernel_rfl
  ·kernel_rfl
  ·exact fun c a w h => HP c _ _ a w h
  ·refine Or.inl ⟨by rfl, ?_⟩
   intro wq hSq
   have hS0 : Ob wq (W1.heap.size) 38 #[.int .i64 c, .bool g, u64 m, .int .i64 z] := hSq
   obtain ⟨q0_0, q0_1, q0_2, q0_3⟩ := hS0.g4
   go_simp
   all_goals with_reducible rfl
  ·assumption
  try simp only [Act.put, M.z1, M.z2, M.z3, M.z4, M.z5, M.z6]
  refine wpAnyH_ready (rs := [0, 7]) ?_ ?_ ?_
  ·kernel_rfl
  ·simp
  refine AllReadyH.cons rfl (fun KQ hK => ?_) (AllReadyH.cons rfl (fun KQ hK => ?_) AllReadyH.nil)
  ·go_simp
   refine (CS.out _).mono ?_
   rintro _ Y0 ⟨mb, rfl, hm, vY0⟩
   have uY0 : Up V2 Y0 := uD.trans vY0
   refine hK.out _ _ (X2.up uY0) (fun _ => ?_)
   try simp only [Act.put, M.z1, M.z2, M.z3, M.z4, M.z5, M.z6]
   clear hK
   refine wpAnyH_ready (rs := [3, 7]) ?_ ?_ ?_
   ·kernel_rfl
   ·simp
   refine AllReadyH.cons rfl (fun KQ hK => ?_) (AllReadyH.cons rfl (fun KQ hK => ?_) AllReadyH.nil)
   ·have hlk := LK.out Y0 _ (by first | exact hm | (refine hm.up ?_; assumption))
    go_simp
    refine hK.out _ _ (X2.up uY0) (fun _ => ?_)
    try simp only [Act.put, M.z1, M.z2, M.z3, M.z4, M.z5, M.z6]
    clear hK hlk
    refine wpAnyH_take (i := 4) (v := ?_) rfl ?_ ?_ ?_ ?_ ?_ ?_ ?_
    rotate_left
    ·kernel_rfl
    ·kernel_rfl
    ·kernel_rfl
    ·exact fun c a w h => HP c _ _ a w h
    ·refine Or.inl ⟨by rfl, ?_⟩
     intro wq hSq
     have hS0 : Ob wq (W1.heap.size) 38 #[.int .i64 c, .bool g, u64 m, .int .i64 z] := hSq
     obtain ⟨q0_0, q0_1, q0_2, q0_3⟩ := hS0.g4
     go_simp
     all_goals with_reducible rfl
    ·assumption
    try simp only [Act.put, M.z1, M.z2, M.z3, M.z4, M.z5, M.z6]
    refine wpAnyH_take (i := 5) (v := ?_) rfl ?_ ?_ ?_ ?_ ?_ ?_ ?_
    rotate_left
    ·kernel_rfl
    ·kernel_rfl
    ·kernel_rfl
    ·exact fun c a w h => HP c _ _ a w h
    ·refine Or.inl ⟨by rfl, ?_⟩
     intro wq hSq
     have hS0 : Ob wq (W1.heap.size) 38 #[.int .i64 c, .bool g, u64 m, .int .i64 z] := hSq
     obtain ⟨q0_0, q0_1, q0_2, q0_3⟩ := hS0.g4
     go_simp
     all_goals with_reducible rfl
    ·assumption
    try simp only [Act.put, M.z1, M.z2, M.z3, M.z4, M.z5, M.z6]
    refine wpAnyH_take (i := 6) (v := ?_) rfl ?_ ?_ ?_ ?_ ?_ ?_ ?_
    rotate_left
    ·kernel_rfl
    ·kernel_rfl
    ·kernel_rfl
    ·exact fun c a w h => HP c _ _ a w h
    ·refine Or.inl ⟨by rfl, ?_⟩
     intro wq hSq
     have hS0 : Ob wq (W1.heap.size) 38 #[.int .i64 c, .bool g, u64 m, .int .i64 z] := hSq
     obtain ⟨q0_0, q0_1, q0_2, q0_3⟩ := hS0.g4
     go_simp
     all_goals with_reducible rfl
    ·assumption
    try simp only [Act.put, M.z1, M.z2, M.z3, M.z4, M.z5, M.z6]
    refine wpAnyH_ready (rs := [7]) ?_ ?_ ?_
    ·kernel_rfl
    ·simp
    refine AllReadyH.cons rfl (fun KQ hK => ?_) AllReadyH.nil
    go_simp
    refine hK.out _ (Y0.alloc (.cells #[.string ⟨#[]⟩, .string ⟨#[]⟩] 78)) (X2.up (uY0.alloc _)) (fun _ => ?_)
    try simp only [Act.put, M.z1, M.z2, M.z3, M.z4, M.z5, M.z6]
    clear hK
    obtain ⟨E2, hE2⟩ : ∃ E2, Y0.alloc (.cells #[.string ⟨#[]⟩, .string ⟨#[]⟩] 78) = E2 := ⟨_, rfl⟩
    have RF : Ob E2 Y0.heap.size 78 #[.string ⟨#[]⟩, .string ⟨#[]⟩] := by rw [← hE2]; exact Ob.mk_ _ _ _
    have lRF : V2.heap.size ≤ Y0.heap.size := Up.size uY0
    have aE2 : Up Y0 E2 := by rw [← hE2]; exact (Up.refl _).alloc _
    have uE2 : Up V2 E2 := uY0.trans aE2
    rw [hE2]
    clear hE2
    refine wpAnyH_ready (rs := [8]) ?_ ?_ ?_
    ·kernel_rfl
    ·simp
    refine AllReadyH.cons rfl (fun KQ hK => ?_) AllReadyH.nil
    rw [if_pos (by rfl)]
    refine wp_store_row 78 (.tmp 10) (.tmp 27) rfl Y0.heap.size #[.string sa, .string sb] rfl rfl 78 #[.string ⟨#[]⟩, .string ⟨#[]⟩] RF (by kernel_rfl) rfl (by simp [Value.oneCell']) ?_
    obtain ⟨WF, hWF⟩ : ∃ WF, E2.setRow Y0.heap.size #[.string sa, .string sb] = WF := ⟨_, rfl⟩
    have uF : Up V2 WF := by rw [← hWF]; exact uE2.setRow_ lRF _
    have aF : Up Y0 WF := by rw [← hWF]; exact aE2.setRow_ (Nat.le_refl _) _
    have RG : Ob WF (Y0.heap.size) 78 #[.string sa, .string sb] := by rw [← hWF]; exact setRow_heap E2 (Y0.heap.size) _ _ 78 _ RF
    have oF : ∀ b', b' ≠ Y0.heap.size → WF.heap[b']? = E2.heap[b']? := by rw [← hWF]; exact fun b' hne => setRow_other E2 (Y0.heap.size) b' _ hne
    rw [hWF]
    clear hWF
    refine hK.out _ _ (X2.up uF) (fun _ => ?_)
    simp only [Act.put]
    clear hK
    refine wpAnyH_ready (rs := [9]) ?_ ?_ ?_
    ·kernel_rfl
    ·simp
    refine AllReadyH.cons rfl (fun KQ hK => ?_) AllReadyH.nil
    go_simp
    refine hK.out _ _ (X2.up uF) (fun _ => ?_)
    try simp only [Act.put, M.z1, M.z2, M.z3, M.z4, M.z5, M.z6]
    clear hK
    refine wpAnyH_done ?_ (HN _ _ ?_) _
    ·kernel_rfl
    go_wp2_with fail
    go_meet
    exact ⟨_, rfl, rfl, RG, lRF, uF⟩
   ·go_simp
    refine hK.out _ (Y0.alloc (.cells #[.string ⟨#[]⟩, .string ⟨#[]⟩] 78)) (X2.up (uY0.alloc _)) (fun _ => ?_)
    try simp only [Act.put, M.z1, M.z2, M.z3, M.z4, M.z5, M.z6]
    clear hK
    obtain ⟨E1, hE1⟩ : ∃ E1, Y0.alloc (.cells #[.string ⟨#[]⟩, .string ⟨#[]⟩] 78) = E1 := ⟨_, rfl⟩
    have RF : Ob E1 Y0.heap.size 78 #[.string ⟨#[]⟩, .string ⟨#[]⟩] := by rw [← hE1]; exact Ob.mk_ _ _ _
    have lRF : V2.heap.size ≤ Y0.heap.size := Up.size uY0
    have aE1 : Up Y0 E1 := by rw [← hE1]; exact (Up.refl _).alloc _
    have uE1 : Up V2 E1 := uY0.trans aE1
    rw [hE1]
    clear hE1
    refine wpAnyH_ready (rs := [3]) ?_ ?_ ?_
    ·kernel_rfl
    ·simp
    refine AllReadyH.cons rfl (fun KQ hK => ?_) AllReadyH.nil
    have hlk := LK.out E1 _ (by first | exact hm | (refine hm.up ?_; assumption))
    go_simp
    refine hK.out _ _ (X2.up uE1) (fun _ => ?_)
    try simp only [Act.put, M.z1, M.z2, M.z3, M.z4, M.z5, M.z6]
    clear hK hlk
    refine wpAnyH_take (i := 4) (v := ?_) rfl ?_ ?_ ?_ ?_ ?_ ?_ ?_
    rotate_left
    ·kernel_rfl
    ·kernel_rfl
    ·kernel_rfl
    ·exact fun c a w h => HP c _ _ a w h
    ·refine Or.inl ⟨by rfl, ?_⟩
     intro wq hSq
     have hS0 : Ob wq (W1.heap.size) 38 #[.int .i64 c, .bool g, u64 m, .int .i64 z] := hSq
     obtain ⟨q0_0, q0_1, q0_2, q0_3⟩ := hS0.g4
     go_simp
     all_goals with_reducible rfl
    ·assumption
    try simp only [Act.put, M.z1, M.z2, M.z3, M.z4, M.z5, M.z6]
    refine wpAnyH_take (i := 5) (v := ?_) rfl ?_ ?_ ?_ ?_ ?_ ?_ ?_
    rotate_left
    ·kernel_rfl
    ·kernel_rfl
    ·kernel_rfl
    ·exact fun c a w h => HP c _ _ a w h
    ·refine Or.inl ⟨by rfl, ?_⟩
     intro wq hSq
     have hS0 : Ob wq (W1.heap.size) 38 #[.int .i64 c, .bool g, u64 m, .int .i64 z] := hSq
     obtain ⟨q0_0, q0_1, q0_2, q0_3⟩ := hS0.g4
     go_simp
     all_goals with_reducible rfl
    ·assumption
    try simp only [Act.put, M.z1, M.z2, M.z3, M.z4, M.z5, M.z6]
    refine wpAnyH_take (i := 6) (v := ?_) rfl ?_ ?_ ?_ ?_ ?_ ?_ ?_
    rotate_left
    ·kernel_rfl
    ·kernel_rfl
    ·kernel_rfl
    ·exact fun c a w h => HP c _ _ a w h
    ·refine Or.inl ⟨by rfl, ?_⟩
     intro wq hSq
     have hS0 : Ob wq (W1.heap.size) 38 #[.int .i64 c, .bool g, u64 m, .int .i64 z] := hSq
     obtain ⟨q0_0, q0_1, q0_2, q0_3⟩ := hS0.g4
     go_simp
     all_goals with_reducible rfl
    ·assumption
    try simp only [Act.put, M.z1, M.z2, M.z3, M.z4, M.z5, M.z6]
    refine wpAnyH_ready (rs := [8]) ?_ ?_ ?_
    ·kernel_rfl
    ·simp
    refine AllReadyH.cons rfl (fun KQ hK => ?_) AllReadyH.nil
    rw [if_pos (by rfl)]
    refine wp_store_row 78 (.tmp 10) (.tmp 27) rfl Y0.heap.size #[.string sa, .string sb] rfl rfl 78 #[.string ⟨#[]⟩, .string ⟨#[]⟩] RF (by kernel_rfl) rfl (by simp [Value.oneCell']) ?_
    obtain ⟨WF, hWF⟩ : ∃ WF, E1.setRow Y0.heap.size #[.string sa, .string sb] = WF := ⟨_, rfl⟩
    have uF : Up V2 WF := by rw [← hWF]; exact uE1.setRow_ lRF _
    have aF : Up Y0 WF := by rw [← hWF]; exact aE1.setRow_ (Nat.le_refl _) _
    have RG : Ob WF (Y0.heap.size) 78 #[.string sa, .string sb] := by rw [← hWF]; exact setRow_heap E1 (Y0.heap.size) _ _ 78 _ RF
    have oF : ∀ b', b' ≠ Y0.heap.size → WF.heap[b']? = E1.heap[b']? := by rw [← hWF]; exact fun b' hne => setRow_other E1 (Y0.heap.size) b' _ hne
    rw [hWF]
    clear hWF
    refine hK.out _ _ (X2.up uF) (fun _ => ?_)
    simp only [Act.put]
    clear hK
    refine wpAnyH_ready (rs := [9]) ?_ ?_ ?_
    ·kernel_rfl
    ·simp
    refine AllReadyH.cons rfl (fun KQ hK => ?_) AllReadyH.nil
    go_simp
    refine hK.out _ _ (X2.up uF) (fun _ => ?_)
    try simp only [Act.put, M.z1, M.z2, M.z3, M.z4, M.z5, M.z6]
    clear hK
    refine wpAnyH_done ?_ (HN _ _ ?_) _
    ·kernel_rfl
    go_wp2_with fail
    go_meet
    exact ⟨_, rfl, rfl, RG, lRF, uF⟩
  ·go_simp
   refine hK.out _ (V2.drew.alloc (.cells #[.string ⟨#[]⟩, .string ⟨#[]⟩] 78)) (X2.up (uD.alloc _)) (fun _ => ?_)
   try simp only [Act.put, M.z1, M.z2, M.z3, M.z4, M.z5, M.z6]
   clear hK
   obtain ⟨E0, hE0⟩ : ∃ E0, V2.drew.alloc (.cells #[.string ⟨#[]⟩, .string ⟨#[]⟩] 78) = E0 := ⟨_, rfl⟩
   have RF : Ob E0 V2.drew.heap.size 78 #[.string ⟨#[]⟩, .string ⟨#[]⟩] := by rw [← hE0]; exact Ob.mk_ _ _ _
   have lRF : V2.heap.size ≤ V2.drew.heap.size := Up.size uD
   have aE0 : Up V2.drew E0 := by rw [← hE0]; exact (Up.refl _).alloc _
   have uE0 : Up V2 E0 := uD.trans aE0
   rw [hE0]
   clear hE0
   refine wpAnyH_ready (rs := [0]) ?_ ?_ ?_
   ·kernel_rfl
   ·simp
   refine AllReadyH.cons rfl (fun KQ hK => ?_) AllReadyH.nil
   go_simp
   have lY1 := RF.lt
   refine (CS.out _).mono ?_
   rintro _ Y1 ⟨mb, rfl, hm, vY1⟩
   have uY1 : Up V2 Y1 := uE0.trans vY1
   have aY1 := aE0.trans vY1
   replace RF := RF.up vY1
   refine hK.out _ _ (X2.up uY1) (fun _ => ?_)
   try simp only [Act.put, M.z1, M.z2, M.z3, M.z4, M.z5, M.z6]
   clear hK
   refine wpAnyH_ready (rs := [3]) ?_ ?_ ?_
   ·kernel_rfl
   ·simp
   refine AllReadyH.cons rfl (fun KQ hK => ?_) AllReadyH.nil
   have hlk := LK.out Y1 _ (by first | exact hm | (refine hm.up ?_; assumption))
   go_simp
   refine hK.out _ _ (X2.up uY1) (fun _ => ?_)
   try simp only [Act.put, M.z1, M.z2, M.z3, M.z4, M.z5, M.z6]
   clear hK hlk
   refine wpAnyH_take (i := 4) (v := ?_) rfl ?_ ?_ ?_ ?_ ?_ ?_ ?_
   rotate_left
   ·kernel_rfl
   ·kernel_rfl
   ·kernel_rfl
   ·exact fun c a w h => HP c _ _ a w h
   ·refine Or.inl ⟨by rfl, ?_⟩
    intro wq hSq
    have hS0 : Ob wq (W1.heap.size) 38 #[.int .i64 c, .bool g, u64 m, .int .i64 z] := hSq
    obtain ⟨q0_0, q0_1, q0_2, q0_3⟩ := hS0.g4
    go_simp
    all_goals with_reducible rfl
   ·assumption
   try simp only [Act.put, M.z1, M.z2, M.z3, M.z4, M.z5, M.z6]
   refine wpAnyH_take (i := 5) (v := ?_) rfl ?_ ?_ ?_ ?_ ?_ ?_ ?_
   rotate_left
   ·kernel_rfl
   ·kernel_rfl
   ·kernel_rfl
   ·exact fun c a w h => HP c _ _ a w h
   ·refine Or.inl ⟨by rfl, ?_⟩
    intro wq hSq
    have hS0 : Ob wq (W1.heap.size) 38 #[.int .i64 c, .bool g, u64 m, .int .i64 z] := hSq
    obtain ⟨q0_0, q0_1, q0_2, q0_3⟩ := hS0.g4
    go_simp
    all_goals with_reducible rfl
   ·assumption
   try simp only [Act.put, M.z1, M.z2, M.z3, M.z4, M.z5, M.z6]
   refine wpAnyH_take (i := 6) (v := ?_) rfl ?_ ?_ ?_ ?_ ?_ ?_ ?_
   rotate_left
   ·kernel_rfl
   ·kernel_rfl
   ·kernel_rfl
   ·exact fun c a w h => HP c _ _ a w h
   ·refine Or.inl ⟨by rfl, ?_⟩
    intro wq hSq
    have hS0 : Ob wq (W1.heap.size) 38 #[.int .i64 c, .bool g, u64 m, .int .i64 z] := hSq
    obtain ⟨q0_0, q0_1, q0_2, q0_3⟩ := hS0.g4
    go_simp
    all_goals with_reducible rfl
   ·assumption
   try simp only [Act.put, M.z1, M.z2, M.z3, M.z4, M.z5, M.z6]
   refine wpAnyH_ready (rs := [8]) ?_ ?_ ?_
   ·kernel_rfl
   ·simp
   refine AllReadyH.cons rfl (fun KQ hK => ?_) AllReadyH.nil
   rw [if_pos (by rfl)]
   refine wp_store_row 78 (.tmp 10) (.tmp 27) rfl V2.drew.heap.size #[.string sa, .string sb] rfl rfl 78 #[.string ⟨#[]⟩, .string ⟨#[]⟩] RF (by kernel_rfl) rfl (by simp [Value.oneCell']) ?_
   obtain ⟨WF, hWF⟩ : ∃ WF, Y1.setRow V2.drew.heap.size #[.string sa, .string sb] = WF := ⟨_, rfl⟩
   have uF : Up V2 WF := by rw [← hWF]; exact uY1.setRow_ lRF _
   have aF : Up V2.drew WF := by rw [← hWF]; exact aY1.setRow_ (Nat.le_refl _) _
   have RG : Ob WF (V2.drew.heap.size) 78 #[.string sa, .string sb] := by rw [← hWF]; exact setRow_heap Y1 (V2.drew.heap.size) _ _ 78 _ RF
   have oF : ∀ b', b' ≠ V2.drew.heap.size → WF.heap[b']? = Y1.heap[b']? := by rw [← hWF]; exact fun b' hne => setRow_other Y1 (V2.drew.heap.size) b' _ hne
   rw [hWF]
   clear hWF
   refine hK.out _ _ (X2.up uF) (fun _ => ?_)
   simp only [Act.put]
   clear hK
   refine wpAnyH_ready (rs := [9]) ?_ ?_ ?_
   ·kernel_rfl
   ·simp
   refine AllReadyH.cons rfl (fun KQ hK => ?_) AllReadyH.nil
   go_simp
   refine hK.out _ _ (X2.up uF) (fun _ => ?_)
   try simp only [Act.put, M.z1, M.z2, M.z3, M.z4, M.z5, M.z6]
   clear hK
   refine wpAnyH_done ?_ (HN _ _ ?_) _
   ·kernel_rfl
   go_wp2_with fail
   go_meet
   exact ⟨_, rfl, rfl, RG, lRF, uF⟩
 case rest =>
  obtain ⟨gF, rfl, rfl, F, lF, uc⟩ := hcut
  replace X2 := X2.up uc
  replace U := U.trans uc
  have f0 := F.get 0
  have f1 := F.get 1
  have v1 := X2.get 1
  simp only [M.z7, M.z8, M.z9] at f0 f1 v1
  clear CS LK
  cases bb with
  | true =>
   have CT := Lib.hid (show ∀ W, Up w W → Calls Tryz.prog 38 #[sy_ sa sb, .int .i64 (i : Int), .bool g] W (Tex l W) from HB.out)
   go_wp2_with fail
   refine (CT.out _ (by first | exact U | exact U.drew)).mono ?_
   rintro _ w5 ⟨S, rfl, tS, u5⟩
   replace U := Up.trans (by first | exact U | exact U.drew) u5
   go_wp2_with fail
   go_ret2
   exact ⟨S, rfl, tS, by first | exact U | exact U.drew⟩
  | false =>
   obtain ⟨D, K, hc, key⟩ := HB.out
   have HC := Lib.hid hc
   have KEY := Lib.hid key
   clear hc key X2 F lF uc f0 f1 v1
   go_wp2_with fail
   refine (HC.out _ (by first | exact U | exact U.drew)).mono ?_
   rintro _ w5 ⟨v, rfl, N, u5⟩
   replace U := Up.trans (by first | exact U | exact U.drew) u5
   obtain ⟨A, n, c, rfl, N⟩ := N.sl
   go_upto_region 10 with fail
   have CL := Lib.hid (fun W (u : Up w5 W) => KEY.out W A n c _ (U.trans u) (N.up u))
   have uL : Up w5 (w5.alloc (.cells #[.bool g, .slice A n c, .int .i64 K] 44)) := (Up.refl _).alloc _
   have L := Ob.mk_ w5 44 #[.bool g, .slice A n c, .int .i64 K]
   obtain ⟨l0, l1, l2⟩ := L.g3
   go_wp2_with fail
   refine (CL.out _ (by first | exact uL | exact uL.drew)).mono ?_
   rintro _ w6 ⟨S, rfl, tS, u6⟩
   replace U := U.trans (Up.trans (by first | exact uL | exact uL.drew) u6)
   go_wp2_with fail
   go_ret2
   exact ⟨S, rfl, tS, by first | exact U | exact U.drew⟩
theorem textof_said (w : World) (TT : Hid (Tz w)) (TF : Hid (TabF w)) (G : Nat) (ec : ∀ (args : Array Value) (w : World), (callFunc G args).run Tryz.prog w = .ok (.enter G args) w) (i p : Nat) (pb : p < 18446744073709551616) (f : M.Fm) (hf : Hid (M.tb i = f)) (i1 : 1 ≤ i) (i2 : i ≤ 14) (c : Int) (g : Bool) (m : Nat) (z : Int) (hd : M.Dc (i : Int) p c g m z 0) (la lb : List UInt8) (hs : Syl c la lb) :
  Calls Tryz.prog 20 #[.int .i64 (i : Int), u64 p, fn_ G] w (Ptx (M.sgt g ++ (if f.k = 1 then lb else la)) 0 w) := by
 obtain ⟨sa, sb, hy, ta, tb, za, zb⟩ : ∃ sa sb, Sy c sa sb ∧ Tx sa la ∧ Tx sb lb ∧ sa.size ≤ 100 ∧ sb.size ≤ 100 := by
  rcases hs with ⟨rfl, rfl, rfl⟩ | ⟨rfl, rfl, rfl⟩ | ⟨rfl, rfl, rfl⟩
  ·exact ⟨_, _, .inl ⟨rfl, rfl, rfl⟩, rfl, rfl, by decide, by decide⟩
  ·exact ⟨_, _, .inr (.inl ⟨rfl, rfl, rfl⟩), rfl, rfl, by decide, by decide⟩
  ·exact ⟨_, _, .inr (.inr ⟨rfl, rfl, rfl⟩), rfl, rfl, by decide, by decide⟩
 refine textof_in w TT TF G ec i p pb c g m z hd sa sb true (Lib.hid fun W b h => h.look hy) _ (Lib.hid ?_)
 unfold Beh
 rw [if_pos rfl]
 exact fun W u => ptext_any W (Lib.hid (TF.out.up u)) i f hf i1 i2 sa sb la lb (Lib.hid ta) (Lib.hid tb) za zb g
theorem textof_tell (w : World) (TT : Hid (Tz w)) (TF : Hid (TabF w)) (TW : Hid (TabW w)) (G : Nat) (ec : ∀ (args : Array Value) (w : World), (callFunc G args).run Tryz.prog w = .ok (.enter G args) w) (i p : Nat) (pb : p < 18446744073709551616) (g : Bool) (m : Nat) (z : Int) (hd : M.Dc (i : Int) p 2 g m z 0) (D : Nat) (K : Int) (hw : M.Wok D K)
  (hc : ∀ W, Up w W → Calls Tryz.prog G #[.int .i64 (i : Int), u64 p] W (Dxx g D K 0 W)) :
  Calls Tryz.prog 20 #[.int .i64 (i : Int), u64 p, fn_ G] w (Ptx (M.ly g D K) 0 w) := by
 refine textof_in w TT TF G ec i p pb 2 g m z hd ⟨#[]⟩ ⟨#[]⟩ false (Lib.hid fun W b h => h.miss) _ (Lib.hid ?_)
 unfold Beh
 rw [if_neg (by decide)]
 refine ⟨D, K, hc, fun W A n c lo u N => ?_⟩
 obtain ⟨xs, hD, hv, hn⟩ := N.dr (by omega)
 have := llayout_any W g A n c xs K (TW.out.up u) hD
 rw [M.lyr_nrm hn, hv, show M.lyn g D K = M.ly g D K from if_pos hw.rtn] at this
 exact this
set_option maxRecDepth 100000 in
theorem textof_err (w : World) (TT : Hid (Tz w)) (TF : Hid (TabF w)) (G : Nat) (ii : Int) (p : Nat) (pb : p < 18446744073709551616) (c : Int) (g : Bool) (m : Nat) (z x : Int) (hd : M.Dc ii p c g m z x) (x0 : x ≠ 0) :
  Calls Tryz.prog 20 #[.int .i64 ii, u64 p, fn_ G] w (Ptx [] x w) := by
 have CD := Lib.hid (vdecode_any w TT TF ii p pb c g m z x hd)
 have d1 : (x != 0) = true := by simpa using x0
 clear hd x0 TT TF pb
 go_enter Tryz.func20, Tryz.ntmps20
 go_wp2_with fail
 refine CD.out.mono ?_
 rintro _ W1 ⟨rfl, u1⟩
 go_wp2_with (refine store_ob rfl 38 (.tmp 8) (.tmp 17) rfl _ #[.int .i64 0, .bool false, .int .u64 0, .int .i64 0] #[.int .i64 c, .bool g, u64 m, .int .i64 z] rfl rfl 4 (by kernel_rfl) rfl rfl (by simp [Value.oneCell']) W1 ((Up.refl _).alloc _) (Nat.le_refl _) 38 (Ob.mk_ _ _ _) ?_; intro V2 X2 q2)
 have U := u1.trans q2
 go_ret2
 exact ⟨_, rfl, Tx.lit [], by first | exact U | exact U.drew⟩
theorem M.wrd_syl {i : Nat} (i1 : 1 ≤ i) (i2 : i ≤ 14) {p : Nat} {c : Int} {g : Bool} {m : Nat} {z : Int} (hd : M.Dc (i : Int) p c g m z 0) (c2 : c ≠ 2) : ∃ la lb, Syl c la lb ∧ M.wrd i c g = M.sgt g ++ (if (M.tb i).k = 1 then lb else la) := by
 have hk : (M.tb i).k = 1 ↔ i ≤ 4 := by
  refine M.all14 (p := fun i => (M.tb i).k = 1 ↔ i ≤ 4) ?_ ?_ ?_ ?_ ?_ ?_ ?_ ?_ ?_ ?_ ?_ ?_ ?_ ?_ i i1 i2 <;> decide
 obtain ⟨j, e, _, _, _, hv⟩ := M.dc_in hd
 rcases hv with ⟨_, rfl, rfl, _⟩ | ⟨_, rfl, _⟩ | ⟨_, rfl, _⟩ | ⟨_, rfl, _⟩
 ·refine ⟨_, _, .inr (.inr ⟨rfl, rfl, rfl⟩), ?_⟩
  unfold M.wrd
  rw [if_neg (by decide), if_neg (by decide)]
  by_cases h : i ≤ 4
  ·rw [if_pos h, if_pos (hk.2 h)]; rfl
  ·rw [if_neg h, if_neg (fun e => h (hk.1 e))]; rfl
 ·refine ⟨_, _, .inr (.inl ⟨rfl, rfl, rfl⟩), ?_⟩
  unfold M.wrd
  rw [if_neg (by decide), if_pos rfl, ite_self]
 ·refine ⟨_, _, .inl ⟨rfl, rfl, rfl⟩, ?_⟩
  unfold M.wrd
  rw [if_pos rfl, ite_self]
 ·exact absurd rfl c2
theorem print_any (w : World) (L : Lq w) (ii : Int) (p : Nat) (fu : Bool) (l : List UInt8) (x : Int) (pb : p < 18446744073709551616) (h : M.Pr ii p fu l x) (G : Nat) (ec : ∀ (args : Array Value) (w : World), (callFunc G args).run Tryz.prog w = .ok (.enter G args) w)
  (hc : ∀ (i : Nat) g D K, (if fu = true then M.Uc (i : Int) p g D K 0 else M.Shc (i : Int) p g D K 0) → ∀ W, Up w W → Calls Tryz.prog G #[.int .i64 (i : Int), u64 p] W (Dxx g D K 0 W)) :
  Calls Tryz.prog 20 #[.int .i64 ii, u64 p, fn_ G] w (Ptx l x w) := by
 obtain ⟨c, g, m, z, hd, ⟨x0, rfl⟩ | ⟨rfl, c2, i, rfl, rfl⟩ | ⟨rfl, rfl, D, K, hD, rfl⟩⟩ := h
 ·exact textof_err w (Lib.hid L.low) (Lib.hid L.form) G ii p pb c g m z x hd x0
 ·obtain ⟨i', e, i1, i2, _, _⟩ := M.dc_in hd
  obtain rfl : i = i' := by omega
  obtain ⟨la, lb, hs, e⟩ := M.wrd_syl i1 i2 hd c2
  rw [e]
  exact textof_said w (Lib.hid L.low) (Lib.hid L.form) G ec i p pb _ (Lib.hid rfl) i1 i2 c g m z hd la lb hs
 ·obtain ⟨i, rfl, i1, i2, _, _⟩ := M.dc_in hd
  obtain ⟨_, _, _, _, hw, _⟩ := M.told hD
  exact textof_tell w (Lib.hid L.low) (Lib.hid L.form) (Lib.hid L.ten) G ec i p pb g m z hd D K hw (hc i g D K hD)
theorem pprint_any (w : World) (ii : Int) (p : Nat) (l : List UInt8) (x : Int) (L : Lq w) (pb : p < 18446744073709551616) (h : M.Pr ii p false l x) : Calls Tryz.prog 10 #[.int .i64 ii, u64 p] w (Ptx l x w) := by
 have C := Lib.hid (print_any w L ii p false l x pb h 21 (enters_of Tryz.func21 (by kernel_rfl) rfl) (fun i g D K hD W u => short_any W (Lib.hid (L.low.up u)) (Lib.hid (L.form.up u)) (Lib.hid (L.ten.up u)) i p pb g D K 0 (by simpa using hD)))
 clear L pb h
 go_enter Tryz.func10, Tryz.ntmps10
 go_wp2_with fail
 refine C.out.mono ?_
 rintro _ w1 ⟨s, rfl, tS, u1⟩
 go_wp2_with fail
 go_ret2
 exact ⟨s, rfl, tS, u1⟩
theorem pfull_any (w : World) (ii : Int) (p : Nat) (l : List UInt8) (x : Int) (L : Lq w) (pb : p < 18446744073709551616) (h : M.Pr ii p true l x) : Calls Tryz.prog 12 #[.int .i64 ii, u64 p] w (Ptx l x w) := by
 have C := Lib.hid (print_any w L ii p true l x pb h 26 (enters_of Tryz.func26 (by kernel_rfl) rfl) (fun i g D K hD W u => full_any W (Lib.hid (L.low.up u)) (Lib.hid (L.form.up u)) i p pb g D K 0 (by simpa using hD)))
 clear L pb h
 go_enter Tryz.func12, Tryz.ntmps12
 go_wp2_with fail
 refine C.out.mono ?_
 rintro _ w1 ⟨s, rfl, tS, u1⟩
 go_wp2_with fail
 go_ret2
 exact ⟨s, rfl, tS, u1⟩
theorem prn_face : Prn := ⟨pprint_any, pfull_any⟩
end Go.Proofs.YtcmlanfgafancaaGreatDoor
