/-
  The reference of layer 2 (ExactOf): a power that is one.
-/
import Derived.Test.YteeepfhjbemgoaaDoorEx7
namespace Go.Proofs.YteeepfhjbemgoaaDoor
open Go.RowKit Go.Shelf

set_option maxHeartbeats 1000000 in
theorem rin_any (w : World) (k : Int) (t : Bool) (ht : Hid (decide (M.pw k) = t)) : Calls Tryd.prog 80 #[.int .i64 k] w (Same (.bool t) w) := by
  by_cases h1 : -5000 ≤ k
  · by_cases h2 : k ≤ 5000
    · have e : t = true := by rw [← ht.out]; exact decide_eq_true ⟨h1, h2⟩
      subst e
      have d1 : decide (-5000 ≤ k) = true := decide_eq_true h1
      have d2 : decide (k ≤ 5000) = true := decide_eq_true h2
      clear ht
      go_enter Tryd.func80, Tryd.ntmps80
      go_wp2_with fail
      go_ret
      exact ⟨rfl, rfl⟩
    · have e : t = false := by rw [← ht.out]; exact decide_eq_false (fun h => h2 h.2)
      subst e
      have d1 : decide (-5000 ≤ k) = true := decide_eq_true h1
      have d2 : decide (k ≤ 5000) = false := decide_eq_false h2
      clear ht
      go_enter Tryd.func80, Tryd.ntmps80
      go_wp2_with fail
      go_ret
      exact ⟨rfl, rfl⟩
  · have e : t = false := by rw [← ht.out]; exact decide_eq_false (fun h => h1 h.1)
    subst e
    have d1 : decide (-5000 ≤ k) = false := decide_eq_false h1
    clear ht
    go_enter Tryd.func80, Tryd.ntmps80
    go_wp2_with fail
    go_ret
    exact ⟨rfl, rfl⟩
set_option maxHeartbeats 1000000 in
theorem rright_any (w : World) (neg : Bool) (A : Option Addr) (n c y : Nat) (t f : Int) (hn : n ≤ 9223372036854775807) (hcell : 0 < n → ∃ ad, A = some ad ∧ w.cell? (ad.add (n - 1)) = some (u64 y))
    (r : Bool) (hr : Hid (decide ((n = 0 ∨ y ≠ 0) ∧ n ≤ 128 ∧ M.pw t ∧ M.pw f) = r)) :
    Calls Tryd.prog 34 #[xv neg (.slice A n c) t f] w (Boo r w) := by
  have hu := (Up.refl w).alloc (.cells #[.bool neg, .slice A n c, .int .i64 t, .int .i64 f] 44)
  obtain ⟨t1, ht1⟩ : ∃ t1, decide (M.pw t) = t1 := ⟨_, rfl⟩
  obtain ⟨f1, hf1⟩ : ∃ f1, decide (M.pw f) = f1 := ⟨_, rfl⟩
  have CT := Lib.hid (fun w' => rin_any w' t t1 ht1)
  have CF := Lib.hid (fun w' => rin_any w' f f1 hf1)
  have hrest : Hid ((n = 0 ∨ y ≠ 0) → r = (decide (n ≤ 128) && (t1 && f1))) := by
    intro h
    rw [← hr.out, ← ht1, ← hf1]
    rw [Bool.eq_iff_iff]
    simp only [decide_eq_true_iff, Bool.and_eq_true]
    exact ⟨fun ⟨_, b⟩ => b, fun b => ⟨h, b⟩⟩
  rcases Nat.eq_zero_or_pos n with h0 | h0
  · subst h0
    have hR := hrest.out (.inl rfl)
    simp only [Nat.zero_le, decide_true, Bool.true_and] at hR
    have HR := Lib.hid hR
    clear hrest hr hcell ht1 hf1 hR
    rcases t1 with _ | _
    · go_enter Tryd.func34, Tryd.ntmps34
      go_wp2_with fail
      refine (CT.out _).mono ?_
      rintro _ _ ⟨rfl, rfl⟩
      go_wp2_with fail
      go_ret
      exact ⟨ret_bool HR.out.symm, hu⟩
    · go_enter Tryd.func34, Tryd.ntmps34
      go_wp2_with fail
      refine (CT.out _).mono ?_
      rintro _ _ ⟨rfl, rfl⟩
      go_wp2_with fail
      refine (CF.out _).mono ?_
      rintro _ _ ⟨rfl, rfl⟩
      go_wp2_with fail
      go_ret
      exact ⟨ret_bool HR.out.symm, hu⟩
  · obtain ⟨ad, rfl, hc⟩ := hcell h0
    have hc2 := cell_up hu hc
    have hn0 : ((n : Int) == 0) = false := by rw [beq_eq_false_iff_ne]; omega
    by_cases h128 : n ≤ 128
    · have hd : decide ((128 : Int) < (n : Int)) = false := decide_eq_false (by omega)
      have hd0 : decide ((0 : Int) < (n : Int)) = true := decide_eq_true (by omega)
      by_cases hy : y = 0
      · have HR : Hid (r = false) := by
          rw [Hid, ← hr.out, decide_eq_false_iff_not]
          rintro ⟨h, _⟩
          omega
        subst hy
        clear hrest hr hcell ht1 hf1 CT CF hc
        go_enter Tryd.func34, Tryd.ntmps34
        go_wp2_with fail
        go_ret
        exact ⟨ret_bool HR.out.symm, hu⟩
      · have HR := Lib.hid (hrest.out (.inr hy))
        have hy0 : ((y : Int) == 0) = false := by rw [beq_eq_false_iff_ne]; omega
        have HR2 : Hid (r = (t1 && f1)) := by rw [Hid, HR.out, decide_eq_true h128, Bool.true_and]
        clear HR hrest hr hcell ht1 hf1 hc hy
        rcases t1 with _ | _
        · go_enter Tryd.func34, Tryd.ntmps34
          go_wp2_with fail
          refine (CT.out _).mono ?_
          rintro _ _ ⟨rfl, rfl⟩
          go_wp2_with fail
          go_ret
          exact ⟨ret_bool HR2.out.symm, hu⟩
        · go_enter Tryd.func34, Tryd.ntmps34
          go_wp2_with fail
          refine (CT.out _).mono ?_
          rintro _ _ ⟨rfl, rfl⟩
          go_wp2_with fail
          refine (CF.out _).mono ?_
          rintro _ _ ⟨rfl, rfl⟩
          go_wp2_with fail
          go_ret
          exact ⟨ret_bool HR2.out.symm, hu⟩
    · have HR2 : Hid (r = false) := by
        rw [Hid, ← hr.out, decide_eq_false_iff_not]
        rintro ⟨_, h, _⟩
        omega
      have hn128 : 128 < n := by omega
      have hd : decide ((128 : Int) < (n : Int)) = true := decide_eq_true (by omega)
      clear hrest hr hcell ht1 hf1 CT CF h128 hc
      go_enter Tryd.func34, Tryd.ntmps34
      go_wp2_with fail
      go_ret
      exact ⟨ret_bool HR2.out.symm, hu⟩
set_option maxHeartbeats 1000000 in
set_option maxRecDepth 100000 in
theorem rof_zero (w : World) (neg : Bool) (m : Nat) (e : Int) : Calls Tryd.prog 32 #[vv 1 neg m e] w (Xo neg 0 0 0 0 true w) := by
  go_enter Tryd.func32, Tryd.ntmps32
  go_wp2_with fail
  exact bodyPost_ret (v := .tuple #[xv neg (.slice none 0 0) 0 0, .bool true]) (by simp [results, Tryd.results32, go_sem]) rfl ⟨_, rfl, Nt.nil _ _ _, by first | exact ((Up.refl w).alloc _).alloc _ | exact (Up.refl w).alloc _⟩
set_option maxHeartbeats 1000000 in
set_option maxRecDepth 100000 in
theorem rof_none (w : World) (c : Int) (neg : Bool) (m : Nat) (e : Int) (h1 : c ≠ 1) (h2 : ¬ (c = 2 ∧ M.pw e)) : Calls Tryd.prog 32 #[vv c neg m e] w (Xo false 0 0 0 0 false w) := by
  have t1 : (c == 1) = false := by rw [beq_eq_false_iff_ne]; exact h1
  by_cases hc : c = 2
  · subst hc
    have CE := Lib.hid (fun w' => rin_any w' e false (decide_eq_false (fun h => h2 ⟨rfl, h⟩)))
    clear h1 h2
    go_enter Tryd.func32, Tryd.ntmps32
    go_wp2_with fail
    refine (CE.out _).mono ?_
    rintro _ _ ⟨rfl, rfl⟩
    go_wp2_with fail
    exact bodyPost_ret (v := .tuple #[xv false (.slice none 0 0) 0 0, .bool false]) (by simp [results, Tryd.results32, go_sem]) rfl ⟨_, rfl, Nt.nil _ _ _, by first | exact ((Up.refl w).alloc _).alloc _ | exact (Up.refl w).alloc _⟩
  · have t2 : (c != 2) = true := by rw [bne_iff_ne]; exact hc
    clear h1 h2 hc
    go_enter Tryd.func32, Tryd.ntmps32
    go_wp2_with fail
    exact bodyPost_ret (v := .tuple #[xv false (.slice none 0 0) 0 0, .bool false]) (by simp [results, Tryd.results32, go_sem]) rfl ⟨_, rfl, Nt.nil _ _ _, by first | exact ((Up.refl w).alloc _).alloc _ | exact (Up.refl w).alloc _⟩
set_option maxHeartbeats 1000000 in
set_option maxRecDepth 100000 in
theorem rof_fin0 (w : World) (neg : Bool) (e : Int) (he : M.pw e) : Calls Tryd.prog 32 #[vv 2 neg 0 e] w (Xo neg 0 0 e 0 true w) := by
  have CE := Lib.hid (fun w' => rin_any w' e true (decide_eq_true he))
  clear he
  go_enter Tryd.func32, Tryd.ntmps32
  go_wp2_with fail
  refine (CE.out _).mono ?_
  rintro _ _ ⟨rfl, rfl⟩
  go_wp2_with fail
  exact bodyPost_ret (v := .tuple #[xv neg (.slice none 0 0) e 0, .bool true]) (by simp [results, Tryd.results32, go_sem]) rfl ⟨_, rfl, Nt.nil _ _ _, by first | exact (((Up.refl w).alloc _).alloc _).alloc _ | exact (Up.refl w).alloc _⟩
set_option maxHeartbeats 1000000 in
set_option maxRecDepth 100000 in
theorem rof_fin (w : World) (neg : Bool) (m : Nat) (e : Int) (hm : m < 18446744073709551616) (h0 : 0 < m) (he : M.pw e) : Calls Tryd.prog 32 #[vv 2 neg m e] w (Xo neg 1 m e 0 true w) := by
  have CE := Lib.hid (fun w' => rin_any w' e true (decide_eq_true he))
  have hd : decide ((0 : Int) < (m : Int)) = true := decide_eq_true (by omega)
  clear he
  go_enter Tryd.func32, Tryd.ntmps32
  go_wp2_with fail
  refine (CE.out _).mono ?_
  rintro _ _ ⟨rfl, rfl⟩
  go_wp2_with fail
  have sz : ∀ (w : World) (o : Obj), (w.alloc o).heap.size = w.heap.size + 1 := fun _ _ => Array.size_push _
  have key : ∀ W : World, W.heap.size = w.heap.size + 1 + 1 + 1 → Up w W → Xo neg 1 m e 0 true w (.returned (.tuple #[xv neg (.slice (some ⟨w.heap.size + 1 + 1 + 1, 0, none⟩) 1 1) e 0, .bool true])) (W.alloc (.cells #[u64 m] 41)) := by
    intro W hs hu
    have h1 := lit1n W m m rfl hm (by omega)
    rw [hs] at h1
    exact ⟨_, rfl, h1.lower (by omega), hu.alloc _⟩
  exact bodyPost_ret (v := .tuple #[xv neg (.slice (some ⟨w.heap.size + 1 + 1 + 1, 0, none⟩) 1 1) e 0, .bool true]) (by simp [results, Tryd.results32, go_sem]) rfl (key _ (by rw [sz, sz, sz]) ((((Up.refl w).alloc _).alloc _).alloc _))
end Go.Proofs.YteeepfhjbemgoaaDoor
