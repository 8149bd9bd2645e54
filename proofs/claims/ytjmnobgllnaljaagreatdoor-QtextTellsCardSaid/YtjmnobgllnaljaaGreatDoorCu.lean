/-
  Package qtext: Parse; what is asked of the package holds.
-/
import Derived.Test.YtjmnobgllnaljaaGreatDoorCu2
namespace Go.Proofs.YtjmnobgllnaljaaGreatDoor
open Go.RowKit Go.Shelf
set_option linter.unusedSimpArgs false
set_option linter.unusedVariables false

section
variable {P : Program} {ops : Array Oper} {Q : Exit → Act → List Frame → World → Prop} {i : Nat} {rest : List Nat} {a : Act} {cs cs' : List Frame} {w w' : World} {o : Oper} {v : Value}
/-- The operations of a closure that recovers (a box: no tactic may unfold it). -/
structure Wsq (P : Program) (ops : Array Oper) (Q : Exit → Act → List Frame → World → Prop) (l : List Nat) (a : Act) (cs : List Frame) (w : World) : Prop where
  out : wpOpsS P ops Q l a cs w
theorem Wsq.nil (h : Q .normal a cs w) : Wsq P ops Q [] a cs w := ⟨h⟩
/-- One operation of it. -/
theorem recQ_val (ho : ops[i]? = some o) (hg : o.guard = none) (hr : (execOp a.eval o).run P w = .ok (.value v) w') {a' : Act} (ha : a.put o.dst v = a') (h : Wsq P ops Q rest a' cs w') : Wsq P ops Q (i :: rest) a cs w := by
  subst ha
  refine ⟨?_⟩
  unfold wpOpsS
  simp only [ho]
  rw [if_pos (by simp [Region.wanted, hg]), hr]
  exact h.out
theorem recQ_none (ho : ops[i]? = some o) (hg : o.guard = none) (hr : (execOp a.eval o).run P w = .ok .recover w') (hc : recoverD cs = none) {a' : Act} (ha : a.put o.dst .nilIface = a') (h : Wsq P ops Q rest a' cs w') : Wsq P ops Q (i :: rest) a cs w := by
  subst ha
  refine ⟨?_⟩
  unfold wpOpsS
  simp only [ho]
  rw [if_pos (by simp [Region.wanted, hg]), hr]
  simp only [hc]
  exact h.out
theorem recQ_some (ho : ops[i]? = some o) (hg : o.guard = none) (hr : (execOp a.eval o).run P w = .ok .recover w') (hc : recoverD cs = some (v, cs')) {a' : Act} (ha : a.put o.dst v = a') (h : Wsq P ops Q rest a' cs' w') : Wsq P ops Q (i :: rest) a cs w := by
  subst ha
  refine ⟨?_⟩
  unfold wpOpsS
  simp only [ho]
  rw [if_pos (by simp [Region.wanted, hg]), hr]
  simp only [hc]
  exact h.out
end
theorem recoverQ_one (c₀ : Frame) (cs : List Frame) (x : Value) (h : c₀.mode = .panicking [{ v := x, recovered := false }]) : recoverD (c₀ :: cs) = some (x, { c₀ with mode := .panicking [{ v := x, recovered := true }] } :: cs) := by
  cases c₀
  simp only at h
  subst h
  rfl
set_option maxHeartbeats 4000000 in
set_option maxRecDepth 100000 in
theorem qrec_idle (p : Nat) (w : World) :
    CallsD Tryz.prog 27 #[.pointer (some ⟨p, 0, none⟩)] .returning w fun e u' w' => e = .returned (.tuple #[]) ∧ u' = .returning ∧ w = w' := by
  refine callsD_of_wpS Tryz.func27 rfl fun c₀ cs hu => ?_
  apply wpS_seq
  apply wpS_region
  refine Wsq.out (l := [0, 1, 2, 3, 4, 5, 6]) ?_
  refine recQ_none (w' := w) (a' := ⟨#[.pointer (some ⟨p, 0, none⟩), undef, undef, undef, .nilIface, undef, undef, undef, undef, undef], []⟩) rfl rfl (by simp [go_sem]) (by simp [recoverD, hu]) (by kernel_rfl) ?_
  refine recQ_val (v := (.tuple #[.int .i64 0, .bool false])) (w' := w) (a' := ⟨#[.pointer (some ⟨p, 0, none⟩), undef, undef, undef, .nilIface, (.tuple #[.int .i64 0, .bool false]), undef, undef, undef, undef], []⟩) rfl rfl (by kernel_rfl) (by kernel_rfl) ?_
  refine recQ_val (v := (.tuple #[.int .i64 0, .bool false])) (w' := w) (a' := ⟨#[.pointer (some ⟨p, 0, none⟩), undef, undef, (.tuple #[.int .i64 0, .bool false]), .nilIface, (.tuple #[.int .i64 0, .bool false]), undef, undef, undef, undef], []⟩) rfl rfl (by kernel_rfl) (by kernel_rfl) ?_
  refine recQ_val (v := (.int .i64 0)) (w' := w) (a' := ⟨#[.pointer (some ⟨p, 0, none⟩), undef, undef, (.tuple #[.int .i64 0, .bool false]), .nilIface, (.tuple #[.int .i64 0, .bool false]), (.int .i64 0), undef, undef, undef], []⟩) rfl rfl (by kernel_rfl) (by kernel_rfl) ?_
  refine recQ_val (v := (.bool false)) (w' := w) (a' := ⟨#[.pointer (some ⟨p, 0, none⟩), undef, undef, (.tuple #[.int .i64 0, .bool false]), .nilIface, (.tuple #[.int .i64 0, .bool false]), (.int .i64 0), (.bool false), undef, undef], []⟩) rfl rfl (by kernel_rfl) (by kernel_rfl) ?_
  refine recQ_val (v := (.int .i64 0)) (w' := w) (a' := ⟨#[.pointer (some ⟨p, 0, none⟩), (.int .i64 0), undef, (.tuple #[.int .i64 0, .bool false]), .nilIface, (.tuple #[.int .i64 0, .bool false]), (.int .i64 0), (.bool false), undef, undef], []⟩) rfl rfl (by kernel_rfl) (by kernel_rfl) ?_
  refine recQ_val (v := (.bool false)) (w' := w) (a' := ⟨#[.pointer (some ⟨p, 0, none⟩), (.int .i64 0), (.bool false), (.tuple #[.int .i64 0, .bool false]), .nilIface, (.tuple #[.int .i64 0, .bool false]), (.int .i64 0), (.bool false), undef, undef], []⟩) rfl rfl (by kernel_rfl) (by kernel_rfl) ?_
  refine Wsq.nil ?_
  show Code.wpS _ _ _ _ _ _
  refine wpS_of_wp ?_
  go_wp2_with fail
  cases c₀
  simp_all [bodyPostS, results, Tryz.results27]
set_option maxHeartbeats 4000000 in
set_option maxRecDepth 100000 in
theorem qrec_fault (p : Nat) (y : Value) (x : Int) (w0 w : World) (U : Up w0 w) (hp : w0.heap.size ≤ p) (BQ : Ob w p 26 #[y]) :
    CallsD Tryz.prog 27 #[.pointer (some ⟨p, 0, none⟩)] (.panicking [{ v := .iface 26 (.int .i64 x), recovered := false }]) w fun e u' w' => e = .returned (.tuple #[]) ∧ u' = .panicking [{ v := .iface 26 (.int .i64 x), recovered := true }] ∧ Up w0 w' ∧ w'.cell? ⟨p, 0, none⟩ = some (.int .i64 x) := by
  refine callsD_of_wpS Tryz.func27 rfl fun c₀ cs hu => ?_
  apply wpS_seq
  apply wpS_region
  refine Wsq.out (l := [0, 1, 2, 3, 4, 5, 6]) ?_
  refine recQ_some (v := (.iface 26 (.int .i64 x))) (w' := w) (cs' := { c₀ with mode := .panicking [{ v := (.iface 26 (.int .i64 x)), recovered := true }] } :: cs) (a' := ⟨#[.pointer (some ⟨p, 0, none⟩), undef, undef, undef, (.iface 26 (.int .i64 x)), undef, undef, undef, undef, undef], []⟩) rfl rfl (by simp [go_sem]) (recoverQ_one c₀ cs _ hu) (by kernel_rfl) ?_
  refine recQ_val (v := (.tuple #[.int .i64 x, .bool true])) (w' := w) (a' := ⟨#[.pointer (some ⟨p, 0, none⟩), undef, undef, undef, (.iface 26 (.int .i64 x)), (.tuple #[.int .i64 x, .bool true]), undef, undef, undef, undef], []⟩) rfl rfl (by kernel_rfl) (by kernel_rfl) ?_
  refine recQ_val (v := (.tuple #[.int .i64 x, .bool true])) (w' := w) (a' := ⟨#[.pointer (some ⟨p, 0, none⟩), undef, undef, (.tuple #[.int .i64 x, .bool true]), (.iface 26 (.int .i64 x)), (.tuple #[.int .i64 x, .bool true]), undef, undef, undef, undef], []⟩) rfl rfl (by kernel_rfl) (by kernel_rfl) ?_
  refine recQ_val (v := (.int .i64 x)) (w' := w) (a' := ⟨#[.pointer (some ⟨p, 0, none⟩), undef, undef, (.tuple #[.int .i64 x, .bool true]), (.iface 26 (.int .i64 x)), (.tuple #[.int .i64 x, .bool true]), (.int .i64 x), undef, undef, undef], []⟩) rfl rfl (by kernel_rfl) (by kernel_rfl) ?_
  refine recQ_val (v := (.bool true)) (w' := w) (a' := ⟨#[.pointer (some ⟨p, 0, none⟩), undef, undef, (.tuple #[.int .i64 x, .bool true]), (.iface 26 (.int .i64 x)), (.tuple #[.int .i64 x, .bool true]), (.int .i64 x), (.bool true), undef, undef], []⟩) rfl rfl (by kernel_rfl) (by kernel_rfl) ?_
  refine recQ_val (v := (.int .i64 x)) (w' := w) (a' := ⟨#[.pointer (some ⟨p, 0, none⟩), (.int .i64 x), undef, (.tuple #[.int .i64 x, .bool true]), (.iface 26 (.int .i64 x)), (.tuple #[.int .i64 x, .bool true]), (.int .i64 x), (.bool true), undef, undef], []⟩) rfl rfl (by kernel_rfl) (by kernel_rfl) ?_
  refine recQ_val (v := (.bool true)) (w' := w) (a' := ⟨#[.pointer (some ⟨p, 0, none⟩), (.int .i64 x), (.bool true), (.tuple #[.int .i64 x, .bool true]), (.iface 26 (.int .i64 x)), (.tuple #[.int .i64 x, .bool true]), (.int .i64 x), (.bool true), undef, undef], []⟩) rfl rfl (by kernel_rfl) (by kernel_rfl) ?_
  refine Wsq.nil ?_
  show Code.wpS _ _ _ _ _ _
  refine wpS_of_wp ?_
  have c0 := BQ.get 0
  have f0 := BQ.fr 0
  simp only [List.getElem?_toArray, List.getElem?_cons_zero] at c0
  go_wp2_with fail
  refine ⟨rfl, _, rfl, .tuple #[], by simp [results, Tryz.results27, go_sem], rfl, rfl, ?_, ?_⟩
  · first | exact U.setCell (p := ⟨p, 0, none⟩) hp _ | exact U.drew.setCell (p := ⟨p, 0, none⟩) hp _
  · simp [go_sem, c0]
theorem M.fitc {a : Nat} (h : a < 2 ^ 2048) : a < 18446744073709551616 ^ 40 := by
  have key : ∀ p q : Nat, p ≤ 64 * q → a < 2 ^ p → a < 18446744073709551616 ^ q := fun p q hpq h => by
    rw [show (18446744073709551616 : Nat) = 2 ^ 64 by decide, ← Nat.pow_mul]
    exact Nat.lt_of_lt_of_le h (Nat.pow_le_pow_right (by decide) hpq)
  exact key 2048 40 (by decide) h
set_option maxHeartbeats 4000000 in
set_option maxRecDepth 100000 in
/-- Parse. -/
theorem qparse_any (w : World) (EW : ErrW w) (s : ByteArray) (l : List UInt8) (hl : Tx s l) (hs : l.length ≤ 100000) (e : Int) (g : Bool) (m : Nat) (x : Int) (h : M.Qr l e g m x) : Calls Tryz.prog 13 #[.string s, .int .i64 e] w (Prq g m x w) := by
  have hmf : ∀ (fn : Go.Fn) (first cap : Array Value) (w : World), (Instr.makeFunc fn first cap).run Tryz.prog w = .ok (.func fn first cap) w := fun _ _ _ _ => rfl
  have sz := hl.size
  rcases h with ⟨he, rfl, rfl, rfl⟩ | ⟨he, h⟩
  · have HN : Hid (decide (-1200 ≤ e ∧ e ≤ 1200) = false) := decide_eq_false he
    clear EW hl hs he sz
    go_enter_defers Tryz.func13, Tryz.ntmps13
    go_wp2_with fail
    obtain ⟨w0, hV⟩ : ∃ V, w.alloc (.cells #[.int .i64 1] 26) = V := ⟨_, rfl⟩
    have BQ : Ob w0 w.heap.size 26 #[.int .i64 1] := by rw [← hV]; exact Ob.mk_ _ _ _
    have U : Up w w0 := by rw [← hV]; exact (Up.refl _).alloc _
    rw [hV]
    clear hV
    refine (isnear_any _ e false HN).mono ?_
    rintro _ w1 ⟨rfl, hw1⟩
    have v1 : Up w0 w1 := by rw [← hw1]; first | exact Up.refl _ | exact (Up.refl _).drew | exact (Up.refl _).drewN _
    replace U := U.trans v1
    replace BQ := BQ.up v1
    clear v1 hw1
    go_wp2_with fail
    refine (qmust_bad _ _).mono ?_
    rintro _ w2 ⟨rfl, hw2⟩
    have v2 : Up w1 w2 := Up.trans (by first | exact Up.refl _ | exact (Up.refl _).drew | exact (Up.refl _).drewN _) hw2
    replace U := U.trans v2
    replace BQ := BQ.up v2
    clear v2 hw2
    refine leaves_cons (f := 27) (args := #[.pointer (some ⟨w.heap.size, 0, none⟩)]) (by simp) (by simp [go_sem]) ?_
    refine (qrec_fault _ _ _ w _ U (Nat.le_refl _) BQ).mono ?_
    rintro en u' w9 ⟨rfl, rfl, u9, z9⟩
    simp [Leaves, settle, results, Tryz.results13, go_sem, z9]
    exact ⟨_, rfl, Nt.nil _ _ _, u9⟩
  have HN : Hid (decide (-1200 ≤ e ∧ e ≤ 1200) = true) := decide_eq_true he
  rcases h with ⟨hn, rfl, rfl, rfl⟩ | ⟨ng, d, k, bg, ct, hn, h⟩
  · have CNM := Lib.hid (fun W (u : Up w W) => qnum_bad W (Lib.hid (EW.up u)) s l hl (by omega) hn)
    clear EW hl hs he sz hn
    go_enter_defers Tryz.func13, Tryz.ntmps13
    go_wp2_with fail
    obtain ⟨w0, hV⟩ : ∃ V, w.alloc (.cells #[.int .i64 1] 26) = V := ⟨_, rfl⟩
    have BQ : Ob w0 w.heap.size 26 #[.int .i64 1] := by rw [← hV]; exact Ob.mk_ _ _ _
    have U : Up w w0 := by rw [← hV]; exact (Up.refl _).alloc _
    rw [hV]
    clear hV
    refine (isnear_any _ e true HN).mono ?_
    rintro _ w1 ⟨rfl, hw1⟩
    have v1 : Up w0 w1 := by rw [← hw1]; first | exact Up.refl _ | exact (Up.refl _).drew | exact (Up.refl _).drewN _
    replace U := U.trans v1
    replace BQ := BQ.up v1
    clear v1 hw1
    go_wp2_with fail
    refine (qmust_ok _ _).mono ?_
    rintro _ w2 ⟨rfl, hw2⟩
    have v2 : Up w1 w2 := by rw [← hw2]; first | exact Up.refl _ | exact (Up.refl _).drew | exact (Up.refl _).drewN _
    replace U := U.trans v2
    replace BQ := BQ.up v2
    clear v2 hw2
    go_wp2_with fail
    refine (CNM.out _ (by first | exact U | exact U.drew | exact U.drewN _)).mono ?_
    rintro _ w3 ⟨rfl, hw3⟩
    have v3 : Up w2 w3 := Up.trans (by first | exact Up.refl _ | exact (Up.refl _).drew | exact (Up.refl _).drewN _) hw3
    replace U := U.trans v3
    replace BQ := BQ.up v3
    clear v3 hw3
    refine leaves_cons (f := 27) (args := #[.pointer (some ⟨w.heap.size, 0, none⟩)]) (by simp) (by simp [go_sem]) ?_
    refine (qrec_fault _ _ _ w _ U (Nat.le_refl _) BQ).mono ?_
    rintro en u' w9 ⟨rfl, rfl, u9, z9⟩
    simp [Leaves, settle, results, Tryz.results13, go_sem, z9]
    exact ⟨_, rfl, Nt.nil _ _ _, u9⟩
  have CNM := Lib.hid (fun W (u : Up w W) => qnum_ok W (Lib.hid (EW.up u)) s l hl (by omega) ng d k bg ct hn)
  rcases h with ⟨hc, rfl, rfl, rfl⟩ | ⟨b, rfl, rfl, hb, h⟩
  · have CW := Lib.hid (fun W lo A n c (N : Nt W lo 2001 (.slice A n c) d) => show Calls Tryz.prog 30 #[itv 1 ng (.slice A n c) k bg ct, .int .i64 e] W (Pn16 8 W) from by
      by_cases h1 : bg = 0
      · by_cases h2 : ct = true
        · exact qwhole_cut W lo 1 ng A n c d k bg ct e N (.inr h2)
        · exact qwhole_no W lo 1 ng A n c d k bg ct e N h1 (by simpa using h2) (M.isn_far hn h1) he (by
            rcases hc with h | h | h
            · exact absurd h1 h
            · exact absurd h h2
            · exact h)
      · exact qwhole_cut W lo 1 ng A n c d k bg ct e N (.inl h1))
    clear EW hl hs he sz hn hc
    go_enter_defers Tryz.func13, Tryz.ntmps13
    go_wp2_with fail
    obtain ⟨w0, hV⟩ : ∃ V, w.alloc (.cells #[.int .i64 1] 26) = V := ⟨_, rfl⟩
    have BQ : Ob w0 w.heap.size 26 #[.int .i64 1] := by rw [← hV]; exact Ob.mk_ _ _ _
    have U : Up w w0 := by rw [← hV]; exact (Up.refl _).alloc _
    rw [hV]
    clear hV
    refine (isnear_any _ e true HN).mono ?_
    rintro _ w1 ⟨rfl, hw1⟩
    have v1 : Up w0 w1 := by rw [← hw1]; first | exact Up.refl _ | exact (Up.refl _).drew | exact (Up.refl _).drewN _
    replace U := U.trans v1
    replace BQ := BQ.up v1
    clear v1 hw1
    go_wp2_with fail
    refine (qmust_ok _ _).mono ?_
    rintro _ w2 ⟨rfl, hw2⟩
    have v2 : Up w1 w2 := by rw [← hw2]; first | exact Up.refl _ | exact (Up.refl _).drew | exact (Up.refl _).drewN _
    replace U := U.trans v2
    replace BQ := BQ.up v2
    clear v2 hw2
    go_wp2_with fail
    refine (CNM.out _ (by first | exact U | exact U.drew | exact U.drewN _)).mono ?_
    rintro _ w3 ⟨A, n, c, rfl, N, hw3⟩
    have v3 : Up w2 w3 := Up.trans (by first | exact Up.refl _ | exact (Up.refl _).drew | exact (Up.refl _).drewN _) hw3
    replace U := U.trans v3
    replace BQ := BQ.up v3
    clear v3 hw3
    have g3 := BQ.lt
    go_upto_region 5 with (refine store_ob rfl 51 (.tmp 7) (.tmp 14) rfl _ #[.int .i64 0, .bool false, .slice none 0 0, .int .i64 0, .int .i64 0, .bool false] #[.int .i64 1, .bool ng, .slice A n c, .int .i64 k, .int .i64 bg, .bool ct] rfl rfl 6 (by kernel_rfl) rfl rfl (by simp [Value.oneCell']) w3 ((Up.refl _).alloc _) (Nat.le_refl _) 51 (Ob.mk_ _ _ _) ?_; intro w4 X v4)
    replace U := U.trans v4
    replace BQ := BQ.up v4
    replace N := N.up v4
    clear v4
    obtain ⟨gx, hgx⟩ : ∃ g, w3.heap.size = g := ⟨_, rfl⟩
    rw [hgx] at X g3 ⊢
    clear hgx
    obtain ⟨p0, p1, p2, p3, p4, p5⟩ := X.six
    go_wp2_with fail
    refine (CW.out _ _ _ _ _ (by first | exact N | exact N.up ((Up.refl _).drew) | exact N.up ((Up.refl _).drewN _))).mono ?_
    rintro _ w5 ⟨rfl, hw5⟩
    have v5 : Up w4 w5 := Up.trans (by first | exact Up.refl _ | exact (Up.refl _).drew | exact (Up.refl _).drewN _) hw5
    replace U := U.trans v5
    replace BQ := BQ.up v5
    clear v5 hw5
    refine leaves_cons (f := 27) (args := #[.pointer (some ⟨w.heap.size, 0, none⟩)]) (by simp) (by simp [go_sem]) ?_
    refine (qrec_fault _ _ _ w _ U (Nat.le_refl _) BQ).mono ?_
    rintro en u' w9 ⟨rfl, rfl, u9, z9⟩
    simp [Leaves, settle, results, Tryz.results13, go_sem, z9]
    exact ⟨_, rfl, Nt.nil _ _ _, u9⟩
  have hk := M.isn_far hn rfl
  obtain ⟨a, ha⟩ : ∃ a, M.Tms d 5 k a := by
    rcases Classical.em (∃ a, M.Tms d 5 k a) with h | h
    · exact h
    · exact absurd hb (M.ys_no_five (by omega) (by omega) (fun c hc => h ⟨c, hc⟩) b)
  have hb2 := (M.ys_five_two (by omega) (by omega) ha).1 hb
  obtain ⟨B, hB⟩ : ∃ B : Nat, M.bits b = B := ⟨_, rfl⟩
  have hBT : b < 2 ^ 2048 ↔ B ≤ 2048 := by
    rw [← hB]
    exact ⟨fun h => M.bits_le_of_lt h, fun h => M.lt_2048 (M.bits_lt b) h⟩
  have CB := Lib.hid (fun W lo v (N : Nt W lo 12005 v b) => bits_at2 W lo 12005 v b (B : Int) N.nw (Lib.hid (by rw [hB])))
  have CW := Lib.hid (fun W lo A n c (N : Nt W lo 2001 (.slice A n c) d) => show Calls Tryz.prog 30 #[itv 1 ng (.slice A n c) k 0 false, .int .i64 e] W (Res 12005 b W) from qwhole_ok W lo 1 ng A n c d k 0 false e N rfl rfl hk he a b ha hb2)
  rcases h with ⟨h1, rfl, rfl, rfl⟩ | ⟨h1, rfl, rfl, rfl⟩
  · have b1 : ¬ B ≤ 2048 := fun h => h1 (hBT.2 h)
    have d1 : decide ((B : Int) ≤ 2048) = false := decide_eq_false (by omega)
    have d2 : decide (B ≤ 2048) = false := decide_eq_false b1
    clear EW hl hs he sz hn hb ha hb2 hB hBT h1 hk
    go_enter_defers Tryz.func13, Tryz.ntmps13
    go_wp2_with fail
    obtain ⟨w0, hV⟩ : ∃ V, w.alloc (.cells #[.int .i64 1] 26) = V := ⟨_, rfl⟩
    have BQ : Ob w0 w.heap.size 26 #[.int .i64 1] := by rw [← hV]; exact Ob.mk_ _ _ _
    have U : Up w w0 := by rw [← hV]; exact (Up.refl _).alloc _
    rw [hV]
    clear hV
    refine (isnear_any _ e true HN).mono ?_
    rintro _ w1 ⟨rfl, hw1⟩
    have v1 : Up w0 w1 := by rw [← hw1]; first | exact Up.refl _ | exact (Up.refl _).drew | exact (Up.refl _).drewN _
    replace U := U.trans v1
    replace BQ := BQ.up v1
    clear v1 hw1
    go_wp2_with fail
    refine (qmust_ok _ _).mono ?_
    rintro _ w2 ⟨rfl, hw2⟩
    have v2 : Up w1 w2 := by rw [← hw2]; first | exact Up.refl _ | exact (Up.refl _).drew | exact (Up.refl _).drewN _
    replace U := U.trans v2
    replace BQ := BQ.up v2
    clear v2 hw2
    go_wp2_with fail
    refine (CNM.out _ (by first | exact U | exact U.drew | exact U.drewN _)).mono ?_
    rintro _ w3 ⟨A, n, c, rfl, N, hw3⟩
    have v3 : Up w2 w3 := Up.trans (by first | exact Up.refl _ | exact (Up.refl _).drew | exact (Up.refl _).drewN _) hw3
    replace U := U.trans v3
    replace BQ := BQ.up v3
    clear v3 hw3
    have g3 := BQ.lt
    go_upto_region 5 with (refine store_ob rfl 51 (.tmp 7) (.tmp 14) rfl _ #[.int .i64 0, .bool false, .slice none 0 0, .int .i64 0, .int .i64 0, .bool false] #[.int .i64 1, .bool ng, .slice A n c, .int .i64 k, .int .i64 0, .bool false] rfl rfl 6 (by kernel_rfl) rfl rfl (by simp [Value.oneCell']) w3 ((Up.refl _).alloc _) (Nat.le_refl _) 51 (Ob.mk_ _ _ _) ?_; intro w4 X v4)
    replace U := U.trans v4
    replace BQ := BQ.up v4
    replace N := N.up v4
    clear v4
    obtain ⟨gx, hgx⟩ : ∃ g, w3.heap.size = g := ⟨_, rfl⟩
    rw [hgx] at X g3 ⊢
    clear hgx
    obtain ⟨p0, p1, p2, p3, p4, p5⟩ := X.six
    go_wp2_with fail
    refine (CW.out _ _ _ _ _ (by first | exact N | exact N.up ((Up.refl _).drew) | exact N.up ((Up.refl _).drewN _))).mono ?_
    rintro _ w5 ⟨v5, rfl, M5, hw5⟩
    obtain ⟨A5, n5, c5, rfl, M5⟩ := M5.slr
    replace M5 := M5.lower (lo' := w.heap.size + 1) (by first | exact BQ.lt | exact Nat.lt_of_lt_of_le BQ.lt (Up.size (by first | exact Up.refl _ | exact (Up.refl _).drew | exact (Up.refl _).drewN _)))
    have v5 : Up w4 w5 := Up.trans (by first | exact Up.refl _ | exact (Up.refl _).drew | exact (Up.refl _).drewN _) hw5
    replace U := U.trans v5
    replace BQ := BQ.up v5
    replace X := X.up v5
    clear v5 hw5 p0 p1 p2 p3 p4 p5 N
    go_wp2_with fail
    refine (CB.out _ _ _ (by first | exact M5 | exact M5.up ((Up.refl _).drew) | exact M5.up ((Up.refl _).drewN _))).mono ?_
    rintro _ w6 ⟨rfl, hw6⟩
    have v6 : Up w5 w6 := by rw [← hw6]; first | exact Up.refl _ | exact (Up.refl _).drew | exact (Up.refl _).drewN _
    replace U := U.trans v6
    replace BQ := BQ.up v6
    replace X := X.up v6
    replace M5 := M5.up v6
    clear v6 hw6
    go_wp2_with fail
    refine (qmust_bad _ _).mono ?_
    rintro _ w7 ⟨rfl, hw7⟩
    have v7 : Up w6 w7 := Up.trans (by first | exact Up.refl _ | exact (Up.refl _).drew | exact (Up.refl _).drewN _) hw7
    replace U := U.trans v7
    replace BQ := BQ.up v7
    clear v7 hw7
    refine leaves_cons (f := 27) (args := #[.pointer (some ⟨w.heap.size, 0, none⟩)]) (by simp) (by simp [go_sem]) ?_
    refine (qrec_fault _ _ _ w _ U (Nat.le_refl _) BQ).mono ?_
    rintro en u' w9 ⟨rfl, rfl, u9, z9⟩
    simp [Leaves, settle, results, Tryz.results13, go_sem, z9]
    exact ⟨_, rfl, Nt.nil _ _ _, u9⟩
  · have b1 : B ≤ 2048 := hBT.1 h1
    have d1 : decide ((B : Int) ≤ 2048) = true := decide_eq_true (by omega)
    have d2 : decide (B ≤ 2048) = true := decide_eq_true b1
    obtain ⟨r, hr⟩ : ∃ r, decide (m ≠ 0) = r := ⟨_, rfl⟩
    have hB0 : m = 0 ↔ B = 0 := by
      rw [← hB]
      exact ⟨fun h => by rw [h]; rfl, fun h => by
        rcases Nat.eq_zero_or_pos m with h1 | h1
        · exact h1
        · have := M.bits_pos (a := m) (by omega); omega⟩
    have d3 : decide ((B : Int) > 0) = r := by
      rw [← hr, Bool.eq_iff_iff, decide_eq_true_iff, decide_eq_true_iff]; omega
    have d4 : decide (0 < B) = r := by
      rw [← hr, Bool.eq_iff_iff, decide_eq_true_iff, decide_eq_true_iff]; omega
    have d5 : decide (0 < (B : Int)) = r := d3
    have hfit : m < 18446744073709551616 ^ 40 := M.fitc h1
    rw [hr]
    clear EW hl hs he sz hn hb ha hb2 hB hBT h1 hk b1 hB0 hr
    cases ng with
    | true =>
      go_enter_defers Tryz.func13, Tryz.ntmps13
      go_wp2_with fail
      obtain ⟨w0, hV⟩ : ∃ V, w.alloc (.cells #[.int .i64 1] 26) = V := ⟨_, rfl⟩
      have BQ : Ob w0 w.heap.size 26 #[.int .i64 1] := by rw [← hV]; exact Ob.mk_ _ _ _
      have U : Up w w0 := by rw [← hV]; exact (Up.refl _).alloc _
      rw [hV]
      clear hV
      refine (isnear_any _ e true HN).mono ?_
      rintro _ w1 ⟨rfl, hw1⟩
      have v1 : Up w0 w1 := by rw [← hw1]; first | exact Up.refl _ | exact (Up.refl _).drew | exact (Up.refl _).drewN _
      replace U := U.trans v1
      replace BQ := BQ.up v1
      clear v1 hw1
      go_wp2_with fail
      refine (qmust_ok _ _).mono ?_
      rintro _ w2 ⟨rfl, hw2⟩
      have v2 : Up w1 w2 := by rw [← hw2]; first | exact Up.refl _ | exact (Up.refl _).drew | exact (Up.refl _).drewN _
      replace U := U.trans v2
      replace BQ := BQ.up v2
      clear v2 hw2
      go_wp2_with fail
      refine (CNM.out _ (by first | exact U | exact U.drew | exact U.drewN _)).mono ?_
      rintro _ w3 ⟨A, n, c, rfl, N, hw3⟩
      have v3 : Up w2 w3 := Up.trans (by first | exact Up.refl _ | exact (Up.refl _).drew | exact (Up.refl _).drewN _) hw3
      replace U := U.trans v3
      replace BQ := BQ.up v3
      clear v3 hw3
      have g3 := BQ.lt
      go_upto_region 5 with fail
      obtain ⟨w4, hw4⟩ : ∃ V, w3.alloc (.cells #[.int .i64 1, .bool true, .slice A n c, .int .i64 k, .int .i64 0, .bool false] 51) = V := ⟨_, rfl⟩
      have X : Ob w4 w3.heap.size 51 #[.int .i64 1, .bool true, .slice A n c, .int .i64 k, .int .i64 0, .bool false] := by rw [← hw4]; exact Ob.mk_ _ _ _
      have v4 : Up w3 w4 := by rw [← hw4]; exact (Up.refl _).alloc _
      rw [hw4]
      clear hw4
      replace U := U.trans v4
      replace BQ := BQ.up v4
      replace N := N.up v4
      clear v4
      obtain ⟨gx, hgx⟩ : ∃ g, w3.heap.size = g := ⟨_, rfl⟩
      rw [hgx] at X g3 ⊢
      clear hgx
      obtain ⟨p0, p1, p2, p3, p4, p5⟩ := X.six
      go_wp2_with fail
      refine (CW.out _ _ _ _ _ (by first | exact N | exact N.up ((Up.refl _).drew) | exact N.up ((Up.refl _).drewN _))).mono ?_
      rintro _ w5 ⟨v5, rfl, M5, hw5⟩
      obtain ⟨A5, n5, c5, rfl, M5⟩ := M5.slr
      replace M5 := M5.lower (lo' := w.heap.size + 1) (by first | exact BQ.lt | exact Nat.lt_of_lt_of_le BQ.lt (Up.size (by first | exact Up.refl _ | exact (Up.refl _).drew | exact (Up.refl _).drewN _)))
      have v5 : Up w4 w5 := Up.trans (by first | exact Up.refl _ | exact (Up.refl _).drew | exact (Up.refl _).drewN _) hw5
      replace U := U.trans v5
      replace BQ := BQ.up v5
      replace X := X.up v5
      clear v5 hw5 p0 p1 p2 p3 p4 p5 N
      go_wp2_with fail
      refine (CB.out _ _ _ (by first | exact M5 | exact M5.up ((Up.refl _).drew) | exact M5.up ((Up.refl _).drewN _))).mono ?_
      rintro _ w6 ⟨rfl, hw6⟩
      have v6 : Up w5 w6 := by rw [← hw6]; first | exact Up.refl _ | exact (Up.refl _).drew | exact (Up.refl _).drewN _
      replace U := U.trans v6
      replace BQ := BQ.up v6
      replace X := X.up v6
      replace M5 := M5.up v6
      clear v6 hw6
      go_wp2_with fail
      refine (qmust_ok _ _).mono ?_
      rintro _ w7 ⟨rfl, hw7⟩
      have v7 : Up w6 w7 := by rw [← hw7]; first | exact Up.refl _ | exact (Up.refl _).drew | exact (Up.refl _).drewN _
      replace U := U.trans v7
      replace BQ := BQ.up v7
      replace X := X.up v7
      replace M5 := M5.up v7
      clear v7 hw7
      obtain ⟨p0, p1, p2, p3, p4, p5⟩ := X.six
      have c0 := BQ.get 0
      have f0 := BQ.fr 0
      simp only [List.getElem?_toArray, List.getElem?_cons_zero] at c0
      go_wp2_with fail
      refine (CB.out _ _ _ (by first | exact M5 | exact M5.up ((Up.refl _).drew) | exact M5.up ((Up.refl _).drewN _))).mono ?_
      rintro _ w8 ⟨rfl, hw8⟩
      have v8 : Up w7 w8 := by rw [← hw8]; first | exact Up.refl _ | exact (Up.refl _).drew | exact (Up.refl _).drewN _
      replace U := U.trans v8
      replace BQ := BQ.up v8
      replace M5 := M5.up v8
      clear v8 hw8 c0 f0
      have c0 := BQ.get 0
      have f0 := BQ.fr 0
      simp only [List.getElem?_toArray, List.getElem?_cons_zero] at c0
      go_wp2_with fail
      refine leaves_cons (f := 27) (args := #[.pointer (some ⟨w.heap.size, 0, none⟩)]) (by simp) (by simp [go_sem]) ?_
      refine (qrec_idle _ _).mono ?_
      rintro en u' _ ⟨rfl, rfl, rfl⟩
      simp [Leaves, settle, results, Tryz.results13, go_sem, c0]
      exact ⟨_, rfl, ((M5.other (fun b' h => Below.heap_setCell _ _ _ b' h) (Nat.lt_succ_self _)).lower (Nat.le_succ _)).fit hfit, U.setCell (p := ⟨w.heap.size, 0, none⟩) (Nat.le_refl _) _⟩
    | false =>
      go_enter_defers Tryz.func13, Tryz.ntmps13
      go_wp2_with fail
      obtain ⟨w0, hV⟩ : ∃ V, w.alloc (.cells #[.int .i64 1] 26) = V := ⟨_, rfl⟩
      have BQ : Ob w0 w.heap.size 26 #[.int .i64 1] := by rw [← hV]; exact Ob.mk_ _ _ _
      have U : Up w w0 := by rw [← hV]; exact (Up.refl _).alloc _
      rw [hV]
      clear hV
      refine (isnear_any _ e true HN).mono ?_
      rintro _ w1 ⟨rfl, hw1⟩
      have v1 : Up w0 w1 := by rw [← hw1]; first | exact Up.refl _ | exact (Up.refl _).drew | exact (Up.refl _).drewN _
      replace U := U.trans v1
      replace BQ := BQ.up v1
      clear v1 hw1
      go_wp2_with fail
      refine (qmust_ok _ _).mono ?_
      rintro _ w2 ⟨rfl, hw2⟩
      have v2 : Up w1 w2 := by rw [← hw2]; first | exact Up.refl _ | exact (Up.refl _).drew | exact (Up.refl _).drewN _
      replace U := U.trans v2
      replace BQ := BQ.up v2
      clear v2 hw2
      go_wp2_with fail
      refine (CNM.out _ (by first | exact U | exact U.drew | exact U.drewN _)).mono ?_
      rintro _ w3 ⟨A, n, c, rfl, N, hw3⟩
      have v3 : Up w2 w3 := Up.trans (by first | exact Up.refl _ | exact (Up.refl _).drew | exact (Up.refl _).drewN _) hw3
      replace U := U.trans v3
      replace BQ := BQ.up v3
      clear v3 hw3
      have g3 := BQ.lt
      go_upto_region 5 with fail
      obtain ⟨w4, hw4⟩ : ∃ V, w3.alloc (.cells #[.int .i64 1, .bool false, .slice A n c, .int .i64 k, .int .i64 0, .bool false] 51) = V := ⟨_, rfl⟩
      have X : Ob w4 w3.heap.size 51 #[.int .i64 1, .bool false, .slice A n c, .int .i64 k, .int .i64 0, .bool false] := by rw [← hw4]; exact Ob.mk_ _ _ _
      have v4 : Up w3 w4 := by rw [← hw4]; exact (Up.refl _).alloc _
      rw [hw4]
      clear hw4
      replace U := U.trans v4
      replace BQ := BQ.up v4
      replace N := N.up v4
      clear v4
      obtain ⟨gx, hgx⟩ : ∃ g, w3.heap.size = g := ⟨_, rfl⟩
      rw [hgx] at X g3 ⊢
      clear hgx
      obtain ⟨p0, p1, p2, p3, p4, p5⟩ := X.six
      go_wp2_with fail
      refine (CW.out _ _ _ _ _ (by first | exact N | exact N.up ((Up.refl _).drew) | exact N.up ((Up.refl _).drewN _))).mono ?_
      rintro _ w5 ⟨v5, rfl, M5, hw5⟩
      obtain ⟨A5, n5, c5, rfl, M5⟩ := M5.slr
      replace M5 := M5.lower (lo' := w.heap.size + 1) (by first | exact BQ.lt | exact Nat.lt_of_lt_of_le BQ.lt (Up.size (by first | exact Up.refl _ | exact (Up.refl _).drew | exact (Up.refl _).drewN _)))
      have v5 : Up w4 w5 := Up.trans (by first | exact Up.refl _ | exact (Up.refl _).drew | exact (Up.refl _).drewN _) hw5
      replace U := U.trans v5
      replace BQ := BQ.up v5
      replace X := X.up v5
      clear v5 hw5 p0 p1 p2 p3 p4 p5 N
      go_wp2_with fail
      refine (CB.out _ _ _ (by first | exact M5 | exact M5.up ((Up.refl _).drew) | exact M5.up ((Up.refl _).drewN _))).mono ?_
      rintro _ w6 ⟨rfl, hw6⟩
      have v6 : Up w5 w6 := by rw [← hw6]; first | exact Up.refl _ | exact (Up.refl _).drew | exact (Up.refl _).drewN _
      replace U := U.trans v6
      replace BQ := BQ.up v6
      replace X := X.up v6
      replace M5 := M5.up v6
      clear v6 hw6
      go_wp2_with fail
      refine (qmust_ok _ _).mono ?_
      rintro _ w7 ⟨rfl, hw7⟩
      have v7 : Up w6 w7 := by rw [← hw7]; first | exact Up.refl _ | exact (Up.refl _).drew | exact (Up.refl _).drewN _
      replace U := U.trans v7
      replace BQ := BQ.up v7
      replace X := X.up v7
      replace M5 := M5.up v7
      clear v7 hw7
      obtain ⟨p0, p1, p2, p3, p4, p5⟩ := X.six
      have c0 := BQ.get 0
      have f0 := BQ.fr 0
      simp only [List.getElem?_toArray, List.getElem?_cons_zero] at c0
      go_wp2_with fail
      refine leaves_cons (f := 27) (args := #[.pointer (some ⟨w.heap.size, 0, none⟩)]) (by simp) (by simp [go_sem]) ?_
      refine (qrec_idle _ _).mono ?_
      rintro en u' _ ⟨rfl, rfl, rfl⟩
      simp [Leaves, settle, results, Tryz.results13, go_sem, c0]
      exact ⟨_, rfl, ((M5.other (fun b' h => Below.heap_setCell _ _ _ b' h) (Nat.lt_succ_self _)).lower (Nat.le_succ _)).fit hfit, U.setCell (p := ⟨w.heap.size, 0, none⟩) (Nat.le_refl _) _⟩
/-- What is asked of package qtext. -/
theorem qtx_face : Qtx where
  text := fun w L neg lo v a e h _ l x hq => qtext_any w L.ten neg lo v a e h l x hq
  parse := fun w L s l e hl hs _ g m x h => qparse_any w L.syn s l hl hs e g m x h
end Go.Proofs.YtjmnobgllnaljaaGreatDoor
