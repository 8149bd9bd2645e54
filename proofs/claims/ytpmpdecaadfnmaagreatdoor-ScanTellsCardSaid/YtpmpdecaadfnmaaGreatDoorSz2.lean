/-
  The reference of layer 9: next, whole: their contracts.
-/
import Derived.Test.YtpmpdecaadfnmaaGreatDoorSz1
namespace Go.Proofs.YtpmpdecaadfnmaaGreatDoor
open Go.RowKit Go.Shelf
set_option linter.unusedVariables false

theorem M.lv_states (s : Nat) (h : M.lv s = true) : s = 0 ∨ s = 1 ∨ s = 2 ∨ s = 3 ∨ s = 4 ∨ s = 5 ∨ s = 6 ∨ s = 7 ∨ s = 8 ∨ s = 10 ∨ s = 11 ∨ s = 12 ∨ s = 20 ∨ s = 21 ∨ s = 22 ∨ s = 30 ∨ s = 31 ∨ s = 32 := by
  simp [M.lv] at h
  omega
theorem byte_is (c k : Nat) : Hid ((((c : Int) == (k : Int)) = true → c = k) ∧ (((c : Int) == (k : Int)) = false → c ≠ k)) := by
  constructor
  · intro h
    rw [beq_iff_eq] at h
    omega
  · intro h
    rw [beq_eq_false_iff_ne] at h
    omega
set_option maxHeartbeats 16000000 in
set_option maxRecDepth 100000 in
theorem rnext_any (w : World) (s : Nat) (hs : M.lv s = true) (c : Nat) (hc : c < 256) (n : Nat) (hn : Hid (M.nx s c = n)) :
    Calls Tryz.prog 12 #[.int .i64 (s : Int), .int .u8 (c : Int)] w (Same (.int .i64 (n : Int)) w) := by
  have Q45 : Hid ((((c : Int) == 45) = true → c = 45) ∧ (((c : Int) == 45) = false → c ≠ 45)) := byte_is c 45
  have Q105 : Hid ((((c : Int) == 105) = true → c = 105) ∧ (((c : Int) == 105) = false → c ≠ 105)) := byte_is c 105
  have Q110 : Hid ((((c : Int) == 110) = true → c = 110) ∧ (((c : Int) == 110) = false → c ≠ 110)) := byte_is c 110
  have Q78 : Hid ((((c : Int) == 78) = true → c = 78) ∧ (((c : Int) == 78) = false → c ≠ 78)) := byte_is c 78
  have Q46 : Hid ((((c : Int) == 46) = true → c = 46) ∧ (((c : Int) == 46) = false → c ≠ 46)) := byte_is c 46
  have Q101 : Hid ((((c : Int) == 101) = true → c = 101) ∧ (((c : Int) == 101) = false → c ≠ 101)) := byte_is c 101
  have Q69 : Hid ((((c : Int) == 69) = true → c = 69) ∧ (((c : Int) == 69) = false → c ≠ 69)) := byte_is c 69
  have Q43 : Hid ((((c : Int) == 43) = true → c = 43) ∧ (((c : Int) == 43) = false → c ≠ 43)) := byte_is c 43
  have Q102 : Hid ((((c : Int) == 102) = true → c = 102) ∧ (((c : Int) == 102) = false → c ≠ 102)) := byte_is c 102
  have Q97 : Hid ((((c : Int) == 97) = true → c = 97) ∧ (((c : Int) == 97) = false → c ≠ 97)) := byte_is c 97
  have Q82 : Hid ((((c : Int) == 82) = true → c = 82) ∧ (((c : Int) == 82) = false → c ≠ 82)) := byte_is c 82
  have P1 : Hid (((((c : Int) == 101) = true ∨ ((c : Int) == 69) = true) → (c = 101 ∨ c = 69)) ∧ ((((c : Int) == 101) = false ∧ ((c : Int) == 69) = false) → ¬ (c = 101 ∨ c = 69))) := by
    constructor
    · intro h
      simp only [beq_iff_eq] at h
      omega
    · intro h
      simp only [beq_eq_false_iff_ne, ne_eq] at h
      omega
  have P2 : Hid (((((c : Int) == 43) = true ∨ ((c : Int) == 45) = true) → (c = 43 ∨ c = 45)) ∧ ((((c : Int) == 43) = false ∧ ((c : Int) == 45) = false) → ¬ (c = 43 ∨ c = 45))) := by
    constructor
    · intro h
      simp only [beq_iff_eq] at h
      omega
    · intro h
      simp only [beq_eq_false_iff_ne, ne_eq] at h
      omega
  rcases M.lv_states s hs with rfl | rfl | rfl | rfl | rfl | rfl | rfl | rfl | rfl | rfl | rfl | rfl | rfl | rfl | rfl | rfl | rfl | rfl
  all_goals
    clear hs
    go_enter Tryz.func12, Tryz.ntmps12
    go_wp2_with fail
    all_goals
      go_ret
      refine ⟨?_, rfl⟩
      rw [← hn.out]
      clear hn
      refine congrArg (fun k : Int => Ending.returned (Value.int .i64 k)) ?_
      unfold M.nx
      try first | have rd : (48 ≤ c ∧ c ≤ 57) = True := eq_true (by omega) | have rd : (48 ≤ c ∧ c ≤ 57) = False := eq_false (by omega)
      try simp only [rd]
      try first | have p1 := eq_true (P1.out.1 (by assumption)) | have p1 := eq_false (P1.out.2 (by assumption)) | have p1 : (c = 101 ∨ c = 69) = True := eq_true (by omega)
      try simp only [p1]
      try first | have p2 := eq_true (P2.out.1 (by assumption)) | have p2 := eq_false (P2.out.2 (by assumption)) | have p2 : (c = 43 ∨ c = 45) = True := eq_true (by omega)
      try simp only [p2]
      try first | have r45 := eq_true (Q45.out.1 (by assumption)) | have r45 := eq_false (Q45.out.2 (by assumption))
      try simp only [r45]
      try first | have r105 := eq_true (Q105.out.1 (by assumption)) | have r105 := eq_false (Q105.out.2 (by assumption))
      try simp only [r105]
      try first | have r110 := eq_true (Q110.out.1 (by assumption)) | have r110 := eq_false (Q110.out.2 (by assumption))
      try simp only [r110]
      try first | have r78 := eq_true (Q78.out.1 (by assumption)) | have r78 := eq_false (Q78.out.2 (by assumption))
      try simp only [r78]
      try first | have r46 := eq_true (Q46.out.1 (by assumption)) | have r46 := eq_false (Q46.out.2 (by assumption))
      try simp only [r46]
      try first | have r101 := eq_true (Q101.out.1 (by assumption)) | have r101 := eq_false (Q101.out.2 (by assumption))
      try simp only [r101]
      try first | have r69 := eq_true (Q69.out.1 (by assumption)) | have r69 := eq_false (Q69.out.2 (by assumption))
      try simp only [r69]
      try first | have r43 := eq_true (Q43.out.1 (by assumption)) | have r43 := eq_false (Q43.out.2 (by assumption))
      try simp only [r43]
      try first | have r102 := eq_true (Q102.out.1 (by assumption)) | have r102 := eq_false (Q102.out.2 (by assumption))
      try simp only [r102]
      try first | have r97 := eq_true (Q97.out.1 (by assumption)) | have r97 := eq_false (Q97.out.2 (by assumption))
      try simp only [r97]
      try first | have r82 := eq_true (Q82.out.1 (by assumption)) | have r82 := eq_false (Q82.out.2 (by assumption))
      try simp only [r82]
      all_goals first | rfl | simp
set_option maxHeartbeats 16000000 in
set_option maxRecDepth 100000 in
theorem rwhole_any (w : World) (s : Nat) (hs : M.lv s = true) (b : Bool) (hb : Hid (M.wh s = b)) :
    Calls Tryz.prog 13 #[.int .i64 (s : Int)] w (Same (.bool b) w) := by
  have hbb := hb.out
  subst hbb
  clear hb
  rcases M.lv_states s hs with rfl | rfl | rfl | rfl | rfl | rfl | rfl | rfl | rfl | rfl | rfl | rfl | rfl | rfl | rfl | rfl | rfl | rfl
  all_goals
    clear hs
    go_enter Tryz.func13, Tryz.ntmps13
    go_wp2_with fail
    go_ret
    exact ⟨rfl, rfl⟩
end Go.Proofs.YtpmpdecaadfnmaaGreatDoor
