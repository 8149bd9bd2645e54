/-
  Package value: the ways of the kinds, in a map; the shape of a form.
-/
import Derived.Test.YtjcbncfpcechnaaDoorForm5
import Derived.Test.YtjcbncfpcechnaaDoorPs
import Derived.Maps.Own
namespace Go.Proofs.YtjcbncfpcechnaaDoor
open Go.RowKit
open Go.ChangeMaps Go.MapKept

/-- A function as a value. -/
abbrev fn_ (g : Nat) : Value := .func (.func g) #[] #[]
/-- The way of a kind: four functions. -/
def Wk (k : Int) (a b c d : Nat) : Prop :=
  (k = 1 ∧ a = 53 ∧ b = 54 ∧ c = 55 ∧ d = 56) ∨
  (k = 2 ∧ a = 57 ∧ b = 58 ∧ c = 59 ∧ d = 60) ∨
  (k = 3 ∧ a = 53 ∧ b = 54 ∧ c = 61 ∧ d = 62) ∨
  (k = 4 ∧ a = 63 ∧ b = 64 ∧ c = 65 ∧ d = 66)
theorem wk_ex {k : Int} (h : k = 1 ∨ k = 2 ∨ k = 3 ∨ k = 4) : ∃ a b c d, Wk k a b c d := by
  rcases h with rfl | rfl | rfl | rfl
  · exact ⟨_, _, _, _, .inl ⟨rfl, rfl, rfl, rfl, rfl⟩⟩
  · exact ⟨_, _, _, _, .inr (.inl ⟨rfl, rfl, rfl, rfl, rfl⟩)⟩
  · exact ⟨_, _, _, _, .inr (.inr (.inl ⟨rfl, rfl, rfl, rfl, rfl⟩))⟩
  · exact ⟨_, _, _, _, .inr (.inr (.inr ⟨rfl, rfl, rfl, rfl, rfl⟩))⟩
/-- The entries of the map of ways. -/
def ents : List MapEntry := [
  ⟨.int .i64 1, .agg #[fn_ 53, fn_ 54, fn_ 55, fn_ 56], 0⟩,
  ⟨.int .i64 2, .agg #[fn_ 57, fn_ 58, fn_ 59, fn_ 60], 1⟩,
  ⟨.int .i64 3, .agg #[fn_ 53, fn_ 54, fn_ 61, fn_ 62], 2⟩,
  ⟨.int .i64 4, .agg #[fn_ 63, fn_ 64, fn_ 65, fn_ 66], 3⟩]
/-- The block is a map of the first n ways. -/
def Wm (w : World) (b n : Nat) : Prop := w.heap[b]? = some (.map (ents.take n).toArray n)
theorem Wm.lt {w : World} {b n : Nat} (h : Wm w b n) : b < w.heap.size := (Array.getElem?_eq_some_iff.1 h).1
theorem Wm.up {w w' : World} {b n : Nat} (h : Wm w b n) (hu : Up w w') : Wm w' b n := (Below.block hu b h.lt).trans h
theorem mt_ : Tryd.prog.underlying 80 = some (.map 3 50) := Tryd.underlying80
theorem ckey_ (w : World) (e : Bool) (k : Int) : (Instr.checkKey e 10000 3 (.int .i64 k)).run Tryd.prog w = .ok () w := MapKept.run_checkKey Tryd.underlying3 (by simp [IsKey]) e 9999
theorem Wm.put {w : World} {b n : Nat} (h : Wm w b n) {k : Int} {v : Value} (he : ents[n]? = some ⟨.int .i64 k, v, n⟩) :
    ∃ V, (Instr.mapUpdate 80 (.map (some b)) (.int .i64 k) v).run Tryd.prog w = .ok () V ∧ Wm V b (n + 1) ∧ w.grownBy V (some b) := by
  have hf : Instr.findNow (.int .i64) (.int .i64 k) (ents.take n) 0 = some none := by
    match n, he with
    | 0, he => rfl
    | 1, he => simp [ents] at he; obtain ⟨rfl, _⟩ := he; rfl
    | 2, he => simp [ents] at he; obtain ⟨rfl, _⟩ := he; rfl
    | 3, he => simp [ents] at he; obtain ⟨rfl, _⟩ := he; rfl
    | n + 4, he => simp [ents] at he
  have ht : (ents.take (n + 1)).toArray = (ents.take n).toArray.push ⟨.int .i64 k, v, n⟩ := by
    rw [List.take_add_one, he]
    simp
  have hb : w.heap[b]? = some (.map (ents.take n).toArray n) := h
  refine ⟨setBlock w b (.map ((ents.take n).toArray.push ⟨.int .i64 k, v, n⟩) (n + 1)), ?_, ?_, ⟨rfl, rfl, rfl, by simp [setBlock], fun i _ hi => heap_setBlock_other hb _ (fun e => hi (by rw [e]))⟩⟩
  · have hk := MapKept.run_findKey (w := w) (l := (ents.take n).toArray.toList) Tryd.underlying3 (by simpa using hf)
    simp [Instr.mapUpdate, run_underlying mt_, MapKept.run_getObj_map hb, ckey_ w false k, hk, MapKept.run_setObj_map _ hb, Result.andThen, setBlock]
  · unfold Wm
    rw [ht]
    exact heap_setBlock_same hb _
theorem Wm.look {w : World} {m : Nat} (h : Wm w m 4) {k : Int} {a b c d : Nat} (hk : Wk k a b c d) :
    (Instr.lookup 80 (.map (some m)) (.int .i64 k) false).run Tryd.prog w = .ok (.agg #[fn_ a, fn_ b, fn_ c, fn_ d]) w := by
  have hb : w.heap[m]? = some (.map (ents.take 4).toArray 4) := h
  have hf : ∃ i, Instr.findNow (.int .i64) (.int .i64 k) (ents.take 4) 0 = some (some (i, .agg #[fn_ a, fn_ b, fn_ c, fn_ d])) := by
    rcases hk with ⟨rfl, rfl, rfl, rfl, rfl⟩ | ⟨rfl, rfl, rfl, rfl, rfl⟩ | ⟨rfl, rfl, rfl, rfl, rfl⟩ | ⟨rfl, rfl, rfl, rfl, rfl⟩
    · exact ⟨0, rfl⟩
    · exact ⟨1, rfl⟩
    · exact ⟨2, rfl⟩
    · exact ⟨3, rfl⟩
  obtain ⟨i, hf⟩ := hf
  have hk := MapKept.run_findKey (w := w) (l := (ents.take 4).toArray.toList) Tryd.underlying3 (by simpa using hf)
  simp [Instr.lookup, run_underlying mt_, MapKept.run_getObj_map hb, ckey_ w _ k, hk, Result.andThen]
/-- An entry is laid in a map. -/
theorem wpList_insert_ {P : Program} {w w' : World} {ops : Array Oper} {rest : List Oper} {o : Oper} {a : Act} {Q : Exit → Act → World → Prop}
    (hg : o.guard = none) (m x v : Operand) (t : TypeId) (hop : o.op = Op.insert t m x v) (b : Nat) (key val : Value) (hm : a.eval m = .map (some b)) (hx : a.eval x = key) (hv : a.eval v = val)
    (hrun : (Instr.mapUpdate t (.map (some b)) key val).run P w = .ok () w') (hK : wpList P ops Q rest (a.put o.dst undef) w') :
    wpList P ops Q (o :: rest) a w := by
  refine wpList_plain hg fun K' hK' => ?_
  unfold Oper.wp
  simp [execOp, hop, hm, hx, hv, hrun, Result.andThen]
  exact hK' _ _ hK
theorem put_way {P : Program} {w0 w : World} {ops : Array Oper} {rest : List Oper} {o : Oper} {a : Act} {Q : Exit → Act → World → Prop} (hP : P = Tryd.prog)
    (hg : o.guard = none) (m x v : Operand) (hop : o.op = Op.insert 80 m x v) (b n : Nat) (k : Int) (val : Value) (hW : Wm w b n) (U : Up w0 w) (hb : w0.heap.size ≤ b) (he : ents[n]? = some ⟨.int .i64 k, val, n⟩)
    (hm : a.eval m = .map (some b)) (hx : a.eval x = .int .i64 k) (hv : a.eval v = val)
    (h : ∀ V, Wm V b (n + 1) → Up w0 V → wpList P ops Q rest (a.put o.dst undef) V) : wpList P ops Q (o :: rest) a w := by
  subst hP
  obtain ⟨V, h1, h2, h3⟩ := hW.put he
  exact wpList_insert_ hg m x v _ hop b _ _ hm hx hv h1 (h V h2 (U.grown h3 (fun j hj => by cases hj; exact hb)))
/-- What ways comes to. -/
def Ways (w : World) (e : Ending) (w' : World) : Prop := ∃ b, e = .returned (.map (some b)) ∧ Wm w' b 4 ∧ Up w w'
set_option maxHeartbeats 1000000 in
theorem ways_any (w : World) : Calls Tryd.prog 49 #[] w (Ways w) := by
  have hmm := @run_makeMap Tryd.prog
  have B0 : Wm (w.alloc (.map #[] 0)) w.heap.size 0 := (MapKept.heap_alloc w _).1
  have U0 : Up w (w.alloc (.map #[] 0)) := (Up.refl w).alloc _
  go_enter Tryd.func49, Tryd.ntmps49
  go_wp2_with (first
    | (refine put_way rfl rfl _ _ _ rfl _ 0 1 _ B0 U0 (Nat.le_refl _) rfl rfl rfl rfl ?_; clear B0 U0; intro V1 B1 U1)
    | (refine put_way rfl rfl _ _ _ rfl _ 1 2 _ B1 U1 (Nat.le_refl _) rfl rfl rfl rfl ?_; clear B1 U1; intro V2 B2 U2)
    | (refine put_way rfl rfl _ _ _ rfl _ 2 3 _ B2 U2 (Nat.le_refl _) rfl rfl rfl rfl ?_; clear B2 U2; intro V3 B3 U3)
    | (refine put_way rfl rfl _ _ _ rfl _ 3 4 _ B3 U3 (Nat.le_refl _) rfl rfl rfl rfl ?_; clear B3 U3; intro V4 B4 U4))
  go_ret
  exact ⟨_, rfl, B4, U4⟩
end Go.Proofs.YtjcbncfpcechnaaDoor
