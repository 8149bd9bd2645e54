import Derived.Test.YtcmlanfgafancaaGreatDoorQDHw
import Derived.StillTailTactics
set_option maxHeartbeats 32000000
set_option linter.unusedVariables false
set_option linter.unusedSimpArgs false
namespace Go.Proofs.YtcmlanfgafancaaGreatDoor
open Go.RowKit Go.Shelf
section
variable {P : Program} {ops : Array Oper} {Q : Exit → Act → List Frame → World → Prop} {i : Nat} {rest : List Nat} {a : Act} {cs cs' : List Frame} {w w' : World} {o : Oper} {v : Value}
structure Wsu (P : Program) (ops : Array Oper) (Q : Exit → Act → List Frame → World → Prop) (l : List Nat) (a : Act) (cs : List Frame) (w : World) : Prop where
 out : wpOpsS P ops Q l a cs w
theorem Wsu.nil (h : Q .normal a cs w) : Wsu P ops Q [] a cs w := ⟨h⟩
theorem recU_val (ho : ops[i]? = some o) (hg : o.guard = none) (hr : (execOp a.eval o).run P w = .ok (.value v) w') {a' : Act} (ha : a.put o.dst v = a') (h : Wsu P ops Q rest a' cs w') : Wsu P ops Q (i :: rest) a cs w := by
 subst ha
 refine ⟨?_⟩
 unfold wpOpsS
 simp only [ho]
 rw [if_pos (by simp [Region.wanted, hg]), hr]
 exact h.out
theorem recU_none (ho : ops[i]? = some o) (hg : o.guard = none) (hr : (execOp a.eval o).run P w = .ok .recover w') (hc : recoverD cs = none) {a' : Act} (ha : a.put o.dst .nilIface = a') (h : Wsu P ops Q rest a' cs w') : Wsu P ops Q (i :: rest) a cs w := by
 subst ha
 refine ⟨?_⟩
 unfold wpOpsS
 simp only [ho]
 rw [if_pos (by simp [Region.wanted, hg]), hr]
 simp only [hc]
 exact h.out
theorem recU_some (ho : ops[i]? = some o) (hg : o.guard = none) (hr : (execOp a.eval o).run P w = .ok .recover w') (hc : recoverD cs = some (v, cs')) {a' : Act} (ha : a.put o.dst v = a') (h : Wsu P ops Q rest a' cs' w') : Wsu P ops Q (i :: rest) a cs w := by
 subst ha
 refine ⟨?_⟩
 unfold wpOpsS
 simp only [ho]
 rw [if_pos (by simp [Region.wanted, hg]), hr]
 simp only [hc]
 exact h.out
end
theorem recoverU_one (c₀ : Frame) (cs : List Frame) (x : Value) (h : c₀.mode = .panicking [{ v := x, recovered := false }]) : recoverD (c₀ :: cs) = some (x, { c₀ with mode := .panicking [{ v := x, recovered := true }] } :: cs) := by
 cases c₀
 simp only at h
 subst h
 rfl
set_option maxRecDepth 100000 in
theorem urec_idle (p q : Nat) (w : World) :
  CallsD Tryz.prog 35 #[.pointer (some ⟨p, 0, none⟩), .pointer (some ⟨q, 0, none⟩)] .returning w fun e u' w' => e = .returned (.tuple #[]) ∧ u' = .returning ∧ w = w' := by
 refine callsD_of_wpS Tryz.func35 rfl fun c₀ cs hu => ?_
 apply wpS_seq
 apply wpS_region
 refine Wsu.out (l := [0, 1]) ?_
 refine recU_none (w' := w) (a' := ⟨#[.pointer (some ⟨p, 0, none⟩), .pointer (some ⟨q, 0, none⟩), .nilIface, undef, undef], []⟩) rfl rfl (by simp [go_sem]) (by simp [recoverD, hu]) (by kernel_rfl) ?_
 refine recU_val (v := (.bool false)) (w' := w) (a' := ⟨#[.pointer (some ⟨p, 0, none⟩), .pointer (some ⟨q, 0, none⟩), .nilIface, .bool false, undef], []⟩) rfl rfl (by kernel_rfl) (by kernel_rfl) ?_
 refine Wsu.nil ?_
 show Code.wpS _ _ _ _ _ _
 refine wpS_of_wp ?_
 go_wp2_with fail
 cases c₀
 simp_all [bodyPostS, results, Tryz.results35]
set_option maxRecDepth 100000 in
theorem urec_fault (p q : Nat) (x0 x1 x2 y : Value) (w0 w : World) (U : Up w0 w) (hp : w0.heap.size ≤ p) (hq : w0.heap.size ≤ q) (hne : p ≠ q) (BP : Ob w p 44 #[x0, x1, x2]) (BQ : Ob w q 24 #[y]) :
  CallsD Tryz.prog 35 #[.pointer (some ⟨p, 0, none⟩), .pointer (some ⟨q, 0, none⟩)] (.panicking [{ v := .iface 24 (.int .i64 2), recovered := false }]) w fun e u' w' => e = .returned (.tuple #[]) ∧ u' = .panicking [{ v := .iface 24 (.int .i64 2), recovered := true }] ∧ Up w0 w' ∧ Ob w' p 44 #[.bool false, .slice none 0 0, .int .i64 0] ∧ Ob w' q 24 #[.int .i64 2] := by
 refine callsD_of_wpS Tryz.func35 rfl fun c₀ cs hu => ?_
 apply wpS_seq
 apply wpS_region
 refine Wsu.out (l := [0, 1]) ?_
 refine recU_some (v := (.iface 24 (.int .i64 2))) (w' := w) (cs' := { c₀ with mode := .panicking [{ v := (.iface 24 (.int .i64 2)), recovered := true }] } :: cs) (a' := ⟨#[.pointer (some ⟨p, 0, none⟩), .pointer (some ⟨q, 0, none⟩), (.iface 24 (.int .i64 2)), undef, undef], []⟩) rfl rfl (by simp [go_sem]) (recoverU_one c₀ cs _ hu) (by kernel_rfl) ?_
 refine recU_val (v := (.bool true)) (w' := w) (a' := ⟨#[.pointer (some ⟨p, 0, none⟩), .pointer (some ⟨q, 0, none⟩), (.iface 24 (.int .i64 2)), .bool true, undef], []⟩) rfl rfl (by kernel_rfl) (by kernel_rfl) ?_
 refine Wsu.nil ?_
 show Code.wpS _ _ _ _ _ _
 refine wpS_of_wp ?_
 go_wp2_with (refine store_ob2 rfl 44 (.tmp 0) (.tmp 4) rfl p #[x0, x1, x2] #[.bool false, .slice none 0 0, .int .i64 0] rfl rfl 3 (by kernel_rfl) rfl rfl (by simp [Value.oneCell']) w0 U hp 44 BP ?_; intro V9 Z9 U9 ho; have B9 := BQ.oth ho hne.symm; have c9 := B9.get 0; have f9 := B9.fr 0; simp only [List.getElem?_toArray, List.getElem?_cons_zero] at c9)
 have oV : ∀ b', b' ≠ q → (V9.setCell ⟨q, 0, none⟩ (.int .i64 2)).heap[b']? = V9.heap[b']? := fun b' h => Below.heap_setCell _ _ _ b' h
 refine ⟨rfl, _, rfl, .tuple #[], by simp [results, Tryz.results35, go_sem], rfl, rfl, U9.setCell (p := ⟨q, 0, none⟩) hq _, Z9.oth oV hne, B9.put 0 (.int .i64 2)⟩
set_option maxRecDepth 100000 in
theorem lunlay_any (w : World) (TW : TabW w) (EB : ErrB w) (s : ByteArray) (l : List UInt8) (hs : Tx s l) (hl : l.length ≤ 3000) :
  Calls Tryz.prog 19 #[.string s] w (Uly l w) := by
 have CD := Lib.hid (fun W (u : Up w W) => digitsOf_any W (TW.up u) (EB.up u) s l hs hl)
 clear TW EB hs hl
 have hmf : ∀ (fn : Go.Fn) (first cap : Array Value) (w : World), (Instr.makeFunc fn first cap).run Tryz.prog w = .ok (.func fn first cap) w := fun _ _ _ _ => rfl
 go_enter_defers Tryz.func19, Tryz.ntmps19
 go_wp2_with fail
 obtain ⟨V1, hV1⟩ : ∃ V1, w.alloc (.cells #[.bool false, .slice none 0 0, .int .i64 0] 44) = V1 := ⟨_, rfl⟩
 have BP : Ob V1 w.heap.size 44 #[.bool false, .slice none 0 0, .int .i64 0] := by rw [← hV1]; exact Ob.mk_ _ _ _
 have U : Up w V1 := by rw [← hV1]; exact (Up.refl _).alloc _
 have s1 : V1.heap.size = w.heap.size + 1 := by rw [← hV1]; exact Array.size_push _
 rw [hV1]
 clear hV1
 obtain ⟨V2, hV2⟩ : ∃ V2, V1.alloc (.cells #[.int .i64 0] 24) = V2 := ⟨_, rfl⟩
 have BQ : Ob V2 (w.heap.size + 1) 24 #[.int .i64 0] := by rw [← hV2, ← s1]; exact Ob.mk_ _ _ _
 have u2 : Up V1 V2 := Up.al hV2
 replace U := U.trans u2
 replace BP := BP.up u2
 have g2 := BQ.lt
 rw [hV2]
 clear hV2 s1 u2
 have hne : w.heap.size ≠ w.heap.size + 1 := by omega
 refine (CD.out _ (by first | exact U | exact U.drew)).mono ?_
 clear CD
 rintro _ W1 (⟨ng, a, k, A, n, c, h1, h2, rfl, N1, u1⟩ | ⟨h1, rfl, u1⟩)
 ·have HR : Hid (M.Ulr l ng a k 0) := .inl ⟨rfl, h1, h2⟩
  replace U := Up.trans (by first | exact U | exact U.drew) u1
  replace BP := BP.up u1
  replace BQ := BQ.up u1
  clear h1 h2 u1
  go_wp2_with (refine store_ob2 rfl 44 (.tmp 2) (.tmp 6) rfl _ #[.bool false, .slice none 0 0, .int .i64 0] #[.bool ng, .slice A n c, .int .i64 k] rfl rfl 3 (by kernel_rfl) rfl rfl (by simp [Value.oneCell']) w U (Nat.le_refl _) 44 BP ?_; intro V9 Z9 U9 ho; have B9 := BQ.oth ho hne.symm; have c9 := B9.get 0; have f9 := B9.fr 0; simp only [List.getElem?_toArray, List.getElem?_cons_zero] at c9)
  replace N1 := (N1.lower (lo' := V2.heap.size) (by first | exact Nat.le_refl _ | (show V2.heap.size ≤ V2.drew.heap.size; exact Nat.le_refl _))).other ho (by omega)
  have oV : ∀ b', b' ≠ w.heap.size + 1 → (V9.setCell ⟨w.heap.size + 1, 0, none⟩ (.int .i64 0)).heap[b']? = V9.heap[b']? := fun b' h => Below.heap_setCell _ _ _ b' h
  replace Z9 := Z9.oth oV hne
  replace B9 : Ob (V9.setCell ⟨w.heap.size + 1, 0, none⟩ (.int .i64 0)) (w.heap.size + 1) 24 #[.int .i64 0] := B9.put 0 (.int .i64 0)
  replace N1 := (N1.other oV g2).lower (lo' := 0) (Nat.zero_le _)
  replace U9 : Up w (V9.setCell ⟨w.heap.size + 1, 0, none⟩ (.int .i64 0)) := U9.setCell (p := ⟨w.heap.size + 1, 0, none⟩) (Nat.le_succ _) _
  obtain ⟨VF, hVF⟩ : ∃ VF, V9.setCell ⟨w.heap.size + 1, 0, none⟩ (.int .i64 0) = VF := ⟨_, rfl⟩
  rw [hVF] at Z9 B9 N1 U9 ⊢
  clear hVF oV ho c9 f9 U BP BQ
  have z0 := Z9.get 0
  have z1 := Z9.get 1
  have z2 := Z9.get 2
  have y0 := B9.get 0
  simp only [M.z7, M.z8, M.z9] at z0 z1 z2 y0
  refine leaves_cons (f := 35) (args := #[.pointer (some ⟨w.heap.size, 0, none⟩), .pointer (some ⟨w.heap.size + 1, 0, none⟩)]) (by simp) (by simp [go_sem]) ?_
  refine (urec_idle _ _ _).mono ?_
  rintro en u' _ ⟨rfl, rfl, rfl⟩
  simp [Leaves, settle, results, Tryz.results19, go_sem, z0, z1, z2, y0]
  exact ⟨ng, A, n, c, a, k, 0, rfl, HR.out, N1, U9⟩
 ·have HR : Hid (M.Ulr l false 0 0 2) := .inr ⟨rfl, rfl, rfl, rfl, h1⟩
  replace U := Up.trans (by first | exact U | exact U.drew) u1
  replace BP := BP.up u1
  replace BQ := BQ.up u1
  clear h1 u1
  go_wp2_with fail
  refine leaves_cons (f := 35) (args := #[.pointer (some ⟨w.heap.size, 0, none⟩), .pointer (some ⟨w.heap.size + 1, 0, none⟩)]) (by simp) (by simp [go_sem]) ?_
  refine (urec_fault _ _ _ _ _ _ w _ U (Nat.le_refl _) (Nat.le_succ _) hne BP BQ).mono ?_
  rintro en u' w2 ⟨rfl, rfl, u2, Z9, B9⟩
  have z0 := Z9.get 0
  have z1 := Z9.get 1
  have z2 := Z9.get 2
  have y0 := B9.get 0
  simp only [M.z7, M.z8, M.z9] at z0 z1 z2 y0
  simp [Leaves, settle, results, Tryz.results19, go_sem, z0, z1, z2, y0]
  exact ⟨false, none, 0, 0, 0, 0, 2, rfl, HR.out, Nt.nil _ _ _, u2⟩
theorem lay_face : Lay where
 right := fun w ng A n c xs k r TW _ D _ hr => lright_any w ng A n c xs k r TW D hr
 layout := fun w ng A n c xs k TW _ D _ => llayout_any w ng A n c xs k TW D
 unlay := fun w s l TW EB hs hl => lunlay_any w TW EB s l hs.out hl
end Go.Proofs.YtcmlanfgafancaaGreatDoor
