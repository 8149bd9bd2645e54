/-
  Check, and TenChecked: true, and nothing that was there has turned.
-/
import Derived.Test.YteeepfhjbemgoaaDoorTtops
import Derived.Defers
import Derived.Recover
namespace Go.Proofs.YteeepfhjbemgoaaDoor
open Go.RowKit Go.Shelf

/-- A yes or no; nothing that was there has turned. -/
def Ab (t : Bool) (w : World) (e : Ending) (w' : World) : Prop := e = .returned (.bool t) ∧ Up w w'
/-- Nothing is told; nothing that was there has turned. -/
def Vo (w : World) (e : Ending) (w' : World) : Prop := e = .returned (.tuple #[]) ∧ Up w w'

set_option maxHeartbeats 1000000 in
set_option maxRecDepth 100000 in
theorem above_any (w : World) (lo s : Nat) (v : Value) (a : Nat) (h : Nw w lo s v a) (hs : s ≤ 10) (k e : Int) (k1 : -400 ≤ k) (k2 : k ≤ 400) (e1 : -1456 ≤ e) (e2 : e ≤ 1202) (t : Bool)
    (ht : Hid (decide (10 ^ k.toNat * 2 ^ (-e).toNat < a * 2 ^ e.toNat * 10 ^ (-k).toNat) = t)) :
    Calls Tryd.prog 141 #[v, .int .i64 e, .int .i64 k] w (Ab t w) := by
  obtain ⟨N1, hN1⟩ : ∃ N, k.toNat = N := ⟨_, rfl⟩
  obtain ⟨N2, hN2⟩ : ∃ N, (-e).toNat = N := ⟨_, rfl⟩
  obtain ⟨N3, hN3⟩ : ∃ N, (-k).toNat = N := ⟨_, rfl⟩
  obtain ⟨N4, hN4⟩ : ∃ N, e.toNat = N := ⟨_, rfl⟩
  rw [hN1, hN2, hN3, hN4] at ht
  have P1 : Hid (max 0 (min k 5000) = (N1 : Int)) := by show _ = _; omega
  have P2 : Hid (max 0 (min (-e) 131072) = (N2 : Int)) := by show _ = _; omega
  have P3 : Hid (max 0 (min (-k) 5000) = (N3 : Int)) := by show _ = _; omega
  have P4 : Hid (max 0 (min e 131072) = (N4 : Int)) := by show _ = _; omega
  have B : N1 ≤ 400 ∧ N2 ≤ 2000 ∧ N3 ≤ 400 ∧ N4 ≤ 2000 := by omega
  obtain ⟨z, hz⟩ : ∃ z, M.cmp (a * 2 ^ N4 * 10 ^ N3) (10 ^ N1 * 2 ^ N2) = z := ⟨_, rfl⟩
  have d : decide (0 < z) = t := by
    rw [← ht.out, ← hz, Bool.eq_iff_iff, decide_eq_true_iff, decide_eq_true_iff]
    have := M.cmp_le (a := a * 2 ^ N4 * 10 ^ N3) (b := 10 ^ N1 * 2 ^ N2)
    omega
  have HZ := Lib.hid hz
  clear hN1 hN2 hN3 hN4 hz ht
  have U := Up.refl w
  go_enter Tryd.func141, Tryd.ntmps141
  go_wp2_with fail
  refine (shl_any w _ _ _ _ h (by omega) e N4 P4.out).mono ?_
  rintro _ w1 ⟨v1, rfl, n1, u1⟩
  replace U := U.trans u1
  clear u1
  go_wp2_with fail
  refine (pow10_call w1 (-k) N3 P3).mono ?_
  rintro _ w2 ⟨v2, rfl, n2, u2⟩
  replace n1 := n1.up u2
  replace U := U.trans u2
  clear u2
  go_wp2_with fail
  refine (mul_any _ _ _ _ _ _ _ _ _ n1.nw n2.nw (by omega) (by omega)).mono ?_
  rintro _ w3 ⟨v3, rfl, n3, u3⟩
  replace U := U.trans u3
  clear u3 n1 n2
  go_wp2_with fail
  refine (pow10_call w3 k N1 P1).mono ?_
  rintro _ w4 ⟨v4, rfl, n4, u4⟩
  replace n3 := n3.up u4
  replace U := U.trans u4
  clear u4
  go_wp2_with fail
  refine (shl_any w4 _ _ _ _ n4.nw (by omega) (-e) N2 P2.out).mono ?_
  rintro _ w5 ⟨v5, rfl, n5, u5⟩
  replace n3 := n3.up u5
  replace U := U.trans u5
  clear u5 n4
  go_wp2_with fail
  refine (cmp_at _ _ _ _ _ _ _ _ _ _ n3.nw n5.nw HZ).mono ?_
  rintro _ w6 ⟨rfl, kk, hk⟩
  have u6 : Up w5 w6 := by rw [hk]; exact (Up.refl _).drewN _
  clear hk
  replace U := U.trans u6
  clear u6
  go_wp2_with fail
  go_ret
  exact ⟨by first | rfl | rw [d], U⟩

set_option maxHeartbeats 2000000 in
set_option maxRecDepth 100000 in
theorem must_any (w : World) (k e : Int) (h1 : -400 ≤ k) (h2 : k ≤ 400) (hi lo : Nat) (q1 : Hid (M.lg2 k = e + 127)) (q2 : -1456 ≤ e) (q3 : e ≤ 1202) (q6 : 9223372036854775808 ≤ hi) (q7 : hi < 18446744073709551616) (q8 : lo < 18446744073709551616) (q9 : Hid (lo + 18446744073709551616 * hi = M.sig k)) :
    Calls Tryd.prog 122 #[.int .i64 k, u64 hi, u64 lo, .int .i64 e] w (Vo w) := by
  have E63 : (hi : Int) / 2 ^ 63 = 1 := by omega
  have E63' : (hi : Int) / 9223372036854775808 = 1 := by omega
  have hsd : M.sd k = 2 ^ e.toNat * 10 ^ (-k).toNat := by
    unfold M.sd
    rw [q1.out, show e + 127 - 127 = e by omega, Nat.mul_comm]
  have hsn : M.sn k = 10 ^ k.toNat * 2 ^ (-e).toNat := by
    unfold M.sn
    rw [q1.out, show 127 - (e + 127) = -e by omega]
  have T1 : Hid (decide (10 ^ k.toNat * 2 ^ (-e).toNat < M.sig k * 2 ^ e.toNat * 10 ^ (-k).toNat) = false) := by
    have := M.sig_le k
    rw [hsd, hsn] at this
    exact decide_eq_false (by rw [Nat.mul_assoc]; omega)
  have T2 : Hid (decide (10 ^ k.toNat * 2 ^ (-e).toNat < (M.sig k + 1) * 2 ^ e.toNat * 10 ^ (-k).toNat) = true) := by
    have := M.sig_lt k
    rw [hsd, hsn] at this
    exact decide_eq_true (by rw [Nat.mul_assoc]; exact this)
  clear hsd hsn
  have U := Up.refl w
  go_enter Tryd.func122, Tryd.ntmps122
  go_wp2_with fail
  obtain ⟨V1, hV1⟩ : ∃ V, w.alloc (.cells #[.int .u64 (lo : Int), .int .u64 (hi : Int)] 41) = V := ⟨_, rfl⟩
  have u1 : Up w V1 := by rw [← hV1]; exact (Up.refl _).alloc _
  have nl : Nw V1 w.heap.size 2 (.slice (some ⟨w.heap.size, 0, none⟩) 2 2) (M.sig k) := by rw [← hV1]; exact lit2 w lo hi (M.sig k) _ _ rfl rfl (by omega) (by omega) q9.out
  rw [hV1]
  clear hV1
  replace U := U.trans u1
  clear u1
  refine (norm_any _ _ _ _ _ nl).mono ?_
  rintro _ w2 ⟨vp, rfl, np, u2⟩
  replace U := U.trans u2
  clear u2 nl
  go_wp2_with fail
  refine (above_any w2 _ _ _ _ np.nw (by omega) k e h1 h2 q2 q3 false T1).mono ?_
  rintro _ w3 ⟨rfl, u3⟩
  replace np := np.up u3
  replace U := U.trans u3
  clear u3
  go_wp2_with fail
  refine (of_lit _ 1 _ rfl (by omega)).mono ?_
  rintro _ w4 ⟨vo, rfl, no, u4⟩
  replace np := np.up u4
  replace U := U.trans u4
  clear u4
  go_wp2_with fail
  refine (add_of _ _ _ _ _ 2 _ _ _ _ np.nw no.nw (by omega) (by omega) (by omega)).mono ?_
  rintro _ w5 ⟨vs, rfl, ns, u5⟩
  replace U := U.trans u5
  clear u5 np no
  go_wp2_with fail
  refine (above_any w5 _ _ _ _ ns.nw (by omega) k e h1 h2 q2 q3 true T2).mono ?_
  rintro _ w6 ⟨rfl, u6⟩
  replace U := U.trans u6
  clear u6
  go_wp2_with fail
  go_end0
  exact ⟨rfl, U⟩

theorem idle_any (p : Addr) (w : World) :
    CallsD Tryd.prog 121 #[.pointer (some p)] .returning w fun e u' w' => e = .returned (.tuple #[]) ∧ u' = .returning ∧ w' = w := by
  refine callsD_of_wpS Tryd.func121 rfl fun c₀ cs hu => ?_
  apply wpS_seq
  apply wpS_region
  simp [wpOpsS, go_sem, recoverD, hu, Tryd.ntmps121, Exit.thenS]
  refine wpS_cond (t := false) (by simp [Act.eval, Array.replicate]) ?_
  simp only [Bool.false_eq_true, if_false]
  refine wpS_of_wp (wp_skip ?_)
  cases c₀
  simp_all [bodyPostS, results, Tryd.results121]

set_option maxHeartbeats 2000000 in
set_option maxRecDepth 100000 in
theorem allhold_any (w : World) : Calls Tryd.prog 91 #[.func (Fn.func 47) #[] #[]] w (Ab true w) := by
  have hmf : ∀ (fn : Fn) (first cap : Array Value) (w : World), (Instr.makeFunc fn first cap).run Tryd.prog w = .ok (.func fn first cap) w := fun _ _ _ _ => rfl
  have c0 : (w.alloc (.cells #[.bool false] 4)).cell? ⟨w.heap.size, 0, none⟩ = some (.bool false) := by simp [go_sem]
  have f0 : (w.alloc (.cells #[.bool false] 4)).frozen? ⟨w.heap.size, 0, none⟩ = false := by simp [go_sem]
  have b0 := World.block_lt_of_cell? _ _ c0
  obtain ⟨V, hV⟩ : ∃ V, w.alloc (.cells #[.bool false] 4) = V := ⟨_, rfl⟩
  have uV : Up w V := by rw [← hV]; exact (Up.refl _).alloc _
  rw [hV] at c0 f0 b0
  go_enter_defers Tryd.func91, Tryd.ntmps91
  go_wp2_with fail
  clear hV
  go_loopw [9] (fun iv wr => ∃ i : Nat, i ≤ 801 ∧ iv = .int .i64 i ∧ Up V wr) (fun iv _ => 801 - (intOf iv).toNat)
  case atStart => exact ⟨0, by omega, rfl, Up.refl _⟩
  case round =>
    obtain ⟨i, hi801, rfl, U⟩ := hrel
    by_cases hlt : i < 801
    · obtain ⟨k, hk⟩ : ∃ k : Int, (i : Int) - 400 = k := ⟨_, rfl⟩
      obtain ⟨hi, lo, e, q1, q2, q3, q4, q5, q6, q7, q8, q9⟩ := M.sig_parts (k := k) (by omega) (by omega)
      have k1 : -400 ≤ k := by omega
      have k2 : k ≤ 400 := by omega
      have Q1 := Lib.hid q1
      have Q4 := Lib.hid q4
      have Q5 := Lib.hid q5
      have Q9 := Lib.hid q9
      have d1 : decide ((i : Int) < 801) = true := decide_eq_true (by omega)
      clear q1 q4 q5 q9
      go_wp2_with fail
      refine (sig_any wr k e k1 k2 Q1 hi lo Q4 Q5).mono ?_
      rintro _ w1 ⟨rfl, u1⟩
      clear hk
      go_wp2_with fail
      refine (must_any w1 k e k1 k2 hi lo Q1 q2 q3 q6 q7 q8 Q9).mono ?_
      rintro _ w2 ⟨rfl, u2⟩
      go_wp2_with fail
      go_roundw
      case rel => exact ⟨i + 1, by omega, by go_num, (U.trans u1).trans u2⟩
      case measure => simp [intOf]; omega
    · have d1 : decide ((i : Int) < 801) = false := decide_eq_false (by omega)
      have c1 := Below.cell (p := ⟨w.heap.size, 0, none⟩) U b0
      rw [c0] at c1
      have f1 := Below.frozen (p := ⟨w.heap.size, 0, none⟩) U b0
      rw [f0] at f1
      go_wp2_with fail
      have U2 : Up w (wr.setCell ⟨w.heap.size, 0, none⟩ (.bool true)) := (uV.trans U).setCell (Nat.le_refl _) _
      refine leaves_cons (f := 121) (args := #[.pointer (some ⟨w.heap.size, 0, none⟩)]) (by simp) (by simp [go_sem]) ?_
      refine (idle_any ⟨w.heap.size, 0, none⟩ _).mono ?_
      rintro e u' w'' ⟨rfl, rfl, rfl⟩
      simp [Leaves, settle, results, Tryd.results91, go_sem, c1, Ab]
      exact U2

set_option maxHeartbeats 1000000 in
theorem check_any (w : World) : Calls Tryd.prog 49 #[] w (Ab true w) := by
  go_enter Tryd.func49, Tryd.ntmps49
  go_wp2_with fail
  refine (allhold_any w).mono ?_
  rintro _ w1 ⟨rfl, u1⟩
  go_wp2_with fail
  go_ret
  exact ⟨rfl, u1⟩
set_option maxHeartbeats 1000000 in
theorem checked_walk (w : World) (hTW : TabW w) (x0 : Int) (_wx0 : (Lit.int .u8 x0).wf = true) : Calls Tryd.prog 8 #[.int .u8 x0] w (True_ w) := by
  obtain ⟨t, ht⟩ : ∃ t, (Go.bits BinOp.and IntKind.u8 x0 15 != 7) = t := ⟨_, rfl⟩
  rcases t with _ | _
  · go_enter Tryd.func8, Tryd.ntmps8
    go_wp2_with fail
    refine (tshown_any _ hTW).mono ?_
    rintro _ w1 ⟨rfl, u1⟩
    go_wp2_with fail
    refine (check_any w1).mono ?_
    rintro _ w2 ⟨rfl, u2⟩
    go_wp2_with fail
    go_ret
    exact ⟨rfl, u1.trans u2⟩
  · go_enter Tryd.func8, Tryd.ntmps8
    go_wp2_with fail
    refine (tshown_any _ hTW).mono ?_
    rintro _ w1 ⟨rfl, u1⟩
    go_wp2_with fail
    go_ret
    exact ⟨rfl, u1⟩
end Go.Proofs.YteeepfhjbemgoaaDoor
