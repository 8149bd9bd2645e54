/-
  What must be in any case, of whole texts.
-/
import Derived.Test.YtjmnobgllnaljaaGreatDoorCc
import Derived.Test.YtjmnobgllnaljaaGreatDoorCd
namespace Go.Proofs.YtjmnobgllnaljaaGreatDoor
open Go.RowKit Go.Shelf
set_option linter.unusedVariables false
set_option linter.unusedSimpArgs false

theorem M.qp_len {a n : Nat} {e k : Int} (h : M.Qd a e n k) (neg : Bool) : (M.qp neg n k).length ≤ 5000 := by
  have h1 := h.lo
  have h2 := h.len
  have h3 := h.rng
  have h4 : (M.sgt neg).length ≤ 1 := by cases neg <;> decide
  unfold M.qp
  rw [List.length_append]
  by_cases h0 : n = 0
  · rw [if_pos h0]
    show _ + 1 ≤ _
    omega
  · rw [if_neg h0]
    rw [M.dgs_pos h0] at h2 h3
    unfold M.qpb
    split
    · rw [List.length_cons, List.length_cons, List.length_append, List.length_replicate]; omega
    · split
      · rw [List.length_append, List.length_replicate]; omega
      · rw [List.length_append, List.length_cons, List.length_take, List.length_drop]; omega
theorem M.qt_len {neg : Bool} {a : Nat} {e : Int} {l : List UInt8} {x : Int} (h : M.Qt neg a e l x) : l.length ≤ 100000 := by
  rcases h with ⟨_, rfl, _⟩ | ⟨_, _, n, k, hq, rfl⟩
  · exact Nat.zero_le _
  · exact Nat.le_trans (M.qp_len hq _) (by decide)
theorem Nt.nil16 {w : World} {lo s : Nat} {A : Option Addr} {n c a : Nat} (h : Nt w lo s (.slice A n c) a) : n = 0 ↔ a = 0 := by
  obtain ⟨A', n', c', xs, e, h1, h2, h3, h4⟩ := h
  cases e
  subst h2
  constructor
  · intro e
    have hx : xs = [] := List.eq_nil_of_length_eq_zero (by rw [h1.num, e])
    rw [hx]; rfl
  · intro e
    have := M.len_of_lt (k := 0) h4 (by rw [e]; simp)
    rw [h1.num] at this
    omega
theorem M.cmp_zero {a b : Nat} (h : M.cmp a b = 0) : a = b := by
  unfold M.cmp at h
  split at h
  · cases h
  · split at h
    · omega
    · cases h
theorem wf_small {e : Int} (h : -1000000 ≤ e ∧ e ≤ 1000000) : (Lit.int .i64 e).wf = true := by
  simp [Lit.wf, IntKind.min, IntKind.max, IntKind.signed, IntKind.bits]; omega
theorem wrap_small {e : Int} (h : -1000000 ≤ e ∧ e ≤ 1000000) : IntKind.i64.wrap e = e := by
  unfold IntKind.wrap; simp [IntKind.min, IntKind.max, IntKind.signed, IntKind.bits]; omega
theorem and_65535c (x : Int) : ∃ m : Nat, Go.bits BinOp.and IntKind.i64 x 65535 = (m : Int) ∧ m ≤ 65535 := by
  refine ⟨((BitVec.ofInt 64 x).toNat &&& 65535), ?_, ?_⟩
  · show IntKind.i64.wrap ((BitVec.ofInt 64 x &&& BitVec.ofInt 64 65535).toNat : Int) = _
    rw [BitVec.toNat_and, show (BitVec.ofInt 64 65535).toNat = 65535 from rfl]
    have : (BitVec.ofInt 64 x).toNat &&& 65535 ≤ 65535 := Nat.and_le_right
    exact IntWalk.i64_in _ (by omega)
  · exact Nat.and_le_right
theorem M.shl_lt {a p T n : Nat} (h : a < 2 ^ p) (hn : p + T = n) : a * 2 ^ T < 2 ^ n := by
  subst hn
  rw [Nat.pow_add]
  exact Nat.mul_lt_mul_of_pos_right h (Nat.two_pow_pos T)
theorem M.words_two {a s k : Nat} (h : a < 18446744073709551616 ^ s) (hk : 64 * s = k) : a < 2 ^ k := by
  rw [show (18446744073709551616 : Nat) = 2 ^ 64 by decide, ← Nat.pow_mul, hk] at h
  exact h
theorem nt_lit (w : World) (x : Nat) (X : Int) (hX : X = (x : Int)) (h0 : 0 < x) (hx : x < 18446744073709551616) : Nt (w.alloc (.cells #[.int .u64 X] 37)) w.heap.size 40 (.slice (some ⟨w.heap.size, 0, none⟩) 1 1) x :=
  ⟨_, 1, 1, [x], rfl, lit1_wd w x X hX hx, by simp [M.val], by decide, by simp [M.Nrm]; omega⟩
set_option maxHeartbeats 8000000 in
set_option maxRecDepth 100000 in
theorem shown16_any (F : Qtx) (w : World) (L : Lt w) : Calls Tryz.prog 9 #[] w (True16 w) := by
  have C1 := Lib.hid (fun W (u : Up w W) lo v (N : Nt W lo 40 v 5) => show Calls Tryz.prog 11 #[.bool true, v, .int .i64 (-2)] W (fun e w' => e = .returned (.tuple #[.string ⟨#[45, 49, 46, 50, 53]⟩, .int .i64 0]) ∧ Up W w') from (F.text W (L.up u) true lo v 5 (-2) N (by decide) [45, 49, 46, 50, 53] 0 M.sh16_a).mono fun _ _ h => h.lit)
  have C2 := Lib.hid (fun W (u : Up w W) lo v (N : Nt W lo 40 v 0) => show Calls Tryz.prog 11 #[.bool true, v, .int .i64 (3)] W (fun e w' => e = .returned (.tuple #[.string ⟨#[48]⟩, .int .i64 0]) ∧ Up W w') from (F.text W (L.up u) true lo v 0 (3) N (by decide) [48] 0 M.sh16_b).mono fun _ _ h => h.lit)
  have C3 := Lib.hid (fun W (u : Up w W) lo v (N : Nt W lo 40 v 1) => show Calls Tryz.prog 11 #[.bool false, v, .int .i64 (1201)] W (fun e w' => e = .returned (.tuple #[.string ⟨#[]⟩, .int .i64 1]) ∧ Up W w') from (F.text W (L.up u) false lo v 1 (1201) N (by decide) [] 1 M.sh16_c).mono fun _ _ h => h.lit)
  have C4 := Lib.hid (fun W (u : Up w W) => show Calls Tryz.prog 13 #[.string ⟨#[49, 46, 50, 53]⟩, .int .i64 (-1)] W (Prq false 0 8 W) from F.parse W (L.up u) ⟨#[49, 46, 50, 53]⟩ [49, 46, 50, 53] (-1) rfl (by decide) (by decide) false 0 8 M.sh16_d)
  have C5 := Lib.hid (fun W (u : Up w W) => show Calls Tryz.prog 13 #[.string ⟨#[45, 49, 50, 46, 53, 48, 101, 45, 49]⟩, .int .i64 (-2)] W (Prq true 5 0 W) from F.parse W (L.up u) ⟨#[45, 49, 50, 46, 53, 48, 101, 45, 49]⟩ [45, 49, 50, 46, 53, 48, 101, 45, 49] (-2) rfl (by decide) (by decide) true 5 0 M.sh16_e)
  have C6 := Lib.hid (fun W (u : Up w W) => show Calls Tryz.prog 13 #[.string ⟨#[105, 110, 102]⟩, .int .i64 (0)] W (Prq false 0 2 W) from F.parse W (L.up u) ⟨#[105, 110, 102]⟩ [105, 110, 102] (0) rfl (by decide) (by decide) false 0 2 M.sh16_f)
  have C7 := Lib.hid (fun W (u : Up w W) => show Calls Tryz.prog 13 #[.string ⟨#[49, 101, 56, 48, 48]⟩, .int .i64 (-1200)] W (Prq false 0 4 W) from F.parse W (L.up u) ⟨#[49, 101, 56, 48, 48]⟩ [49, 101, 56, 48, 48] (-1200) rfl (by decide) (by decide) false 0 4 M.sh16_g)
  have C8 := Lib.hid (fun W (u : Up w W) => show Calls Tryz.prog 13 #[.string ⟨#[49, 101, 49, 48, 48, 48]⟩, .int .i64 (0)] W (Prq false 0 8 W) from F.parse W (L.up u) ⟨#[49, 101, 49, 48, 48, 48]⟩ [49, 101, 49, 48, 48, 48] (0) rfl (by decide) (by decide) false 0 8 M.sh16_h)
  have CT := Lib.hid (fun W (u : Up w W) lo s v (N : Nw W lo s v 5) (hs : s ≤ 40) => text_of W lo s v 5 N (by omega) (L.ten.up u) ⟨#[53]⟩ (by simp [Lib.decDigits]))
  have U := Up.refl w
  clear F L
  go_enter Tryz.func9, Tryz.ntmps9
  go_wp2_with fail
  refine (C1.out _ (by first | exact U.alloc _ | exact (U.drew).alloc _ | exact (U.alloc _).drew) _ _ (nt_lit _ 5 _ rfl (by decide) (by decide))).mono ?_
  rintro _ w1 ⟨rfl, h1⟩
  replace U := Up.trans (by first | exact U.alloc _ | exact (U.drew).alloc _ | exact (U.alloc _).drew) h1
  clear h1 C1
  go_wp2_with fail
  refine (C2.out _ (by first | exact U | exact U.drew | exact U.drewN _) 0 _ (Nt.nil _ _ _)).mono ?_
  rintro _ w2 ⟨rfl, h2⟩
  replace U := Up.trans (by first | exact U | exact U.drew | exact U.drewN _) h2
  clear h2
  go_wp2_with fail
  refine (C3.out _ (by first | exact U.alloc _ | exact (U.drew).alloc _ | exact (U.alloc _).drew) _ _ (nt_lit _ 1 _ rfl (by decide) (by decide))).mono ?_
  rintro _ w3 ⟨rfl, h3⟩
  replace U := Up.trans (by first | exact U.alloc _ | exact (U.drew).alloc _ | exact (U.alloc _).drew) h3
  clear h3 C3
  go_wp2_with fail
  refine (C4.out _ (by first | exact U | exact U.drew | exact U.drewN _)).mono ?_
  rintro _ w4 ⟨v4, rfl, _, h4⟩
  replace U := Up.trans (by first | exact U | exact U.drew | exact U.drewN _) h4
  clear h4
  go_wp2_with fail
  refine (C5.out _ (by first | exact U | exact U.drew | exact U.drewN _)).mono ?_
  rintro _ w5 ⟨vM_, rfl, M_, h5⟩
  replace U := Up.trans (by first | exact U | exact U.drew | exact U.drewN _) h5
  clear h5
  obtain ⟨AM_, nM_, cM_, rfl, M_⟩ := M_.slr
  go_wp2_with fail
  refine (C6.out _ (by first | exact U | exact U.drew | exact U.drewN _)).mono ?_
  rintro _ w6 ⟨v6, rfl, _, h6⟩
  replace U := Up.trans (by first | exact U | exact U.drew | exact U.drewN _) h6
  replace M_ := M_.up (Up.trans (by first | exact Up.refl _ | exact (Up.refl _).drew | exact (Up.refl _).drewN _) h6)
  clear h6
  go_wp2_with fail
  refine (C7.out _ (by first | exact U | exact U.drew | exact U.drewN _)).mono ?_
  rintro _ w7 ⟨v7, rfl, _, h7⟩
  replace U := Up.trans (by first | exact U | exact U.drew | exact U.drewN _) h7
  replace M_ := M_.up (Up.trans (by first | exact Up.refl _ | exact (Up.refl _).drew | exact (Up.refl _).drewN _) h7)
  clear h7
  go_wp2_with fail
  refine (C8.out _ (by first | exact U | exact U.drew | exact U.drewN _)).mono ?_
  rintro _ w8 ⟨v8, rfl, _, h8⟩
  replace U := Up.trans (by first | exact U | exact U.drew | exact U.drewN _) h8
  replace M_ := M_.up (Up.trans (by first | exact Up.refl _ | exact (Up.refl _).drew | exact (Up.refl _).drewN _) h8)
  clear h8
  go_wp2_with fail
  refine (CT.out _ (by first | exact U | exact U.drew | exact U.drewN _) _ _ _ (by first | exact M_.nw | exact M_.nw.up ((Up.refl _).drew) | exact M_.nw.up ((Up.refl _).drewN _)) (by decide)).mono ?_
  rintro _ w9 ⟨rfl, h9⟩
  replace U := Up.trans (by first | exact U | exact U.drew | exact U.drewN _) h9
  replace M_ := M_.up (Up.trans (by first | exact Up.refl _ | exact (Up.refl _).drew | exact (Up.refl _).drewN _) h9)
  clear h9
  go_wp2_with fail
  go_ret
  exact ⟨by first | rfl | (simp; done) | (simp; assumption) | (simp; omega), by first | exact U | exact U.drew | exact U.drewN _⟩
end Go.Proofs.YtjmnobgllnaljaaGreatDoor
