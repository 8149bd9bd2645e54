/-
  The reference of layer 5: Split, wholly.
-/
import Derived.Test.YtjcbncfpcechnaaDoorPs
namespace Go.Proofs.YtjcbncfpcechnaaDoor
open Go.RowKit

/-- What Split comes to. -/
def Fdb (R E : Int) (F : Nat) (B : Int) (t : Bool) (w : World) (e : Ending) (w' : World) : Prop := e = .returned (.tuple #[fdv R E F B, .bool t]) ∧ Up w w'
set_option maxHeartbeats 4000000 in
set_option maxRecDepth 100000 in
theorem rsplit_full (w : World) (n k : Nat) (hn : n ≤ 64) (hn2 : 2 ≤ n) (hk : k < 2 ^ n) (hk0 : 0 < k) (hbl : M.bl n k = List.replicate n 1) :
    Calls Tryd.prog 50 #[.int .i64 ((n : Int) + 1), u64 k] w (Fdb ((n : Int) - 1) 0 0 0 true w) := by
  have h64 : 2 ^ n ≤ 18446744073709551616 := M.p2le (b := 64) hn
  have hk2 : decide (k < 2 ^ n) = true := decide_eq_true hk
  have CB := Lib.hid (fun W => rbits_in W n k hn2 hn hk0 (by omega))
  rw [hk2, hbl] at CB
  clear h64 hk2 hbl hk hk0
  go_enter Tryd.func50, Tryd.ntmps50
  go_wp2_with fail
  refine (CB.out _).mono ?_
  rintro _ w1 ⟨s, rfl, HS, U1⟩
  have U : Up w w1 := ((Up.refl w).alloc _).trans U1
  have a := (Ob.mk_ w 83 #[.int .i64 0, .int .i64 0, .int .u64 0, .int .i64 0]).up U1
  have hsz : s.size = n := by rw [HS.size]; simp
  have hpos : 0 < s.size := by omega
  have hg : ∀ (j : Nat), j < n → (List.replicate n 1).getD j 0 = 1 := fun j hj => by simp [List.getD_eq_getElem?_getD, hj]
  have h0 := HS.get hpos (hg 0 (by omega))
  have HS2 := Lib.hid HS
  have HG := Lib.hid hg
  clear HS CB U1 hg
  go_wp2_with fail
  go_loopw [8] (fun jv wr => ∃ j : Nat, j ≤ n ∧ jv = .int .i64 (j : Int) ∧ Up w1 wr) (fun jv _ => n - (intOf jv).toNat)
  case atStart => exact ⟨0, by omega, rfl, Up.refl _⟩
  case round =>
    obtain ⟨j, hj, rfl, U2⟩ := hrel
    rcases (show j < n ∨ j = n by omega) with hlt | rfl
    · have hjs : j < s.size := by omega
      have hjb := HS2.out.get hjs (HG.out j hlt)
      go_wp2_with fail
      go_quiet (fail)
      go_wp2_with fail
      go_roundw
      case rel => exact ⟨j + 1, hlt, by go_num, by first | exact U2 | exact U2.drewN _⟩
      case measure => simp [intOf]; omega
    · go_wp2_with fail
      go_quiet (fail)
      obtain ⟨wq, hwq⟩ : ∃ wq, wr.drewN nq = wq := ⟨_, rfl⟩
      have Uq : Up w wq := by rw [← hwq]; exact (U.trans U2).drewN _
      replace a := (a.up U2).drewN nq
      rw [hwq] at a ⊢
      clear hwq U U2 hj
      have CE := Lib.hid (fun W => rnum_any W _ _ ((St.nil.app St.noughts).ext 0 2 (by decide)) (by decide) 0 (by show _ = _; decide))
      go_wp2_with fail
      refine (CE.out _).mono ?_
      rintro _ _ ⟨rfl, rfl⟩
      go_wp2_with (refine store_ob rfl 83 (.tmp 4) (.tmp 71) rfl _ _ #[.int .i64 ((j : Int) - 1), .int .i64 0, .int .u64 0, .int .i64 (0)] rfl rfl 4 (by kernel_rfl) rfl rfl (by simp [Value.oneCell']) w (Uq.alloc _) (Nat.le_refl _) 83 (a.up ((Up.refl _).alloc _)) ?_; clear Uq; intro V z Uv)
      have z0 := z.get 0
      have z1 := z.get 1
      have z2 := z.get 2
      have z3 := z.get 3
      simp only [List.getElem?_toArray, List.getElem?_cons_zero, List.getElem?_cons_succ] at z0 z1 z2 z3
      refine bodyPost_ret (v := .tuple #[fdv ((j : Int) - 1) 0 0 (0), .bool true]) (by simp [results, Tryd.results50, go_sem, z0, z1, z2, z3]) rfl ?_
      exact ⟨rfl, Uv⟩
set_option maxHeartbeats 4000000 in
set_option maxRecDepth 100000 in
theorem rsplit_out (w : World) (wd : Int) (k : Nat) (hk : k < 18446744073709551616) (h : wd < 3 ∨ 65 < wd ∨ k = 0 ∨ 2 ^ (wd - 1).toNat ≤ k) :
    Calls Tryd.prog 50 #[.int .i64 wd, u64 k] w (Fdb 0 0 0 0 false w) := by
  have CB : Hid (∀ W, Calls Tryd.prog 67 #[.int .i64 wd, u64 k] W (fun e w' => ∃ s, e = .returned (.tuple #[.string s, .bool false]) ∧ Up W w')) := by
    intro W
    by_cases h1 : wd < 3 ∨ 65 < wd ∨ k = 0
    · exact (rbits_out W wd k h1).mono fun e w' ⟨h2, h3⟩ => ⟨_, h2, by rw [h3]; exact Up.refl _⟩
    · obtain ⟨n, rfl, hn2, hn⟩ : ∃ n : Nat, wd = (n : Int) + 1 ∧ 2 ≤ n ∧ n ≤ 64 := ⟨(wd - 1).toNat, by omega, by omega, by omega⟩
      have h2 : 2 ^ n ≤ k := by
        rcases h with h | h | h | h
        · omega
        · omega
        · omega
        · rwa [show ((n : Int) + 1 - 1).toNat = n by omega] at h
      have := rbits_in W n k hn2 hn (by omega) hk
      rw [decide_eq_false (by omega)] at this
      exact this.mono fun e w' ⟨s, h3, _, h4⟩ => ⟨s, h3, h4⟩
  clear h hk
  go_enter Tryd.func50, Tryd.ntmps50
  go_wp2_with fail
  refine (CB.out _).mono ?_
  rintro _ w1 ⟨s, rfl, U1⟩
  have U : Up w w1 := ((Up.refl w).alloc _).trans U1
  have a := (Ob.mk_ w 83 #[.int .i64 0, .int .i64 0, .int .u64 0, .int .i64 0]).up U1
  clear U1 CB
  go_wp2_with (refine store_ob rfl 83 (.tmp 4) (.tmp 20) rfl _ _ #[.int .i64 0, .int .i64 0, .int .u64 0, .int .i64 0] rfl rfl 4 (by kernel_rfl) rfl rfl (by simp [Value.oneCell']) w U (Nat.le_refl _) 83 a ?_; clear U; intro V z Uv)
  have z0 := z.get 0
  have z1 := z.get 1
  have z2 := z.get 2
  have z3 := z.get 3
  simp only [List.getElem?_toArray, List.getElem?_cons_zero, List.getElem?_cons_succ] at z0 z1 z2 z3
  refine bodyPost_ret (v := .tuple #[fdv 0 0 0 0, .bool false]) (by simp [results, Tryd.results50, go_sem, z0, z1, z2, z3]) rfl ?_
  exact ⟨rfl, Uv⟩
theorem rsplit_in (w : World) (n k r q : Nat) (R : Int) (hn : n ≤ 64) (h : M.Ps n k R r q) (E F : Nat) (B : Int) (hE : Hid (M.ex r q = E)) (hF : Hid (M.fr r q = F)) (hB : Hid (((r - 2 : Nat) : Int) = B)) :
    Calls Tryd.prog 50 #[.int .i64 ((n : Int) + 1), u64 k] w (Fdb R E F B true w) := by
  have rg := h.rng
  rcases h.bits with ⟨b, g, hb, hg, hgr, hbl, hR⟩ | ⟨hbl, h2, rfl, rfl, rfl⟩
  · exact rsplit_run w n k r q R hn h b g hb hg hgr hbl hR E F B hE hF hB
  · obtain rfl : E = 0 := hE.out.symm
    obtain rfl : F = 0 := hF.out.symm
    obtain rfl : B = 0 := hB.out.symm
    exact rsplit_full w n k hn h2 rg.2.1 rg.1 hbl
end Go.Proofs.YtjcbncfpcechnaaDoor
