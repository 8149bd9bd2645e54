/-
  Package value: what reads, writes, and tells of magnitudes, kind by kind.
-/
import Derived.Test.YtjcbncfpcechnaaDoorVb
import Derived.Test.YtjcbncfpcechnaaDoorVs
import Derived.Test.YtjcbncfpcechnaaDoorPc
import Derived.Test.YtjcbncfpcechnaaDoorMq
import Derived.BigQuiet
import Derived.Deep.RegionWith
namespace Go.Proofs.YtjcbncfpcechnaaDoor
open Go.RowKit
set_option linter.unusedSimpArgs false

/-- What reading comes to. -/
def Rp (c : Int) (g : Bool) (k : Int) (w : World) (e : Ending) (w' : World) : Prop := e = .returned (.tuple #[.int .i64 c, .bool g, .int .u64 k]) ∧ Up w w'
set_option maxHeartbeats 4000000 in
set_option maxRecDepth 100000 in
theorem turned_any (w : World) (f : M.Fm) (hf : M.Ok f) (p : Int) (p1 : 0 ≤ p) (p2 : p ≤ M.msk f) (z : Int) (hz : M.trn f p = z) : Calls Tryd.prog 69 #[fv f, .int .u64 p] w (Wz z w) := by
  have pm : p < 18446744073709551616 := by have := hf.hm; omega
  have hb := M.and_neg_mask hf p1 p2
  rw [hz] at hb
  obtain ⟨M', hM⟩ : ∃ z, M.msk f = z := ⟨_, rfl⟩
  rw [hM] at hb
  have CM := Lib.hid (fun W => mask_any W f hf M' (Lib.hid hM))
  clear hz p2 hf hM
  have U := Up.refl w
  go_enter Tryd.func69, Tryd.ntmps69
  go_wp2_with fail
  obtain ⟨V1, hV1⟩ : ∃ V1, w.alloc (.cells #[.int .i64 f.k, .int .i64 f.W, .int .i64 f.m, .int .i64 f.b, .int .u64 f.t, .int .u64 f.n, .int .u64 f.x] 40) = V1 := ⟨_, rfl⟩
  have c : Bf V1 w.heap.size 40 f := by rw [← hV1]; exact Bf.mk_ w f 40
  have ltc : w.heap.size ≤ w.heap.size := U.size
  have uV1 : Up w V1 := by rw [← hV1]; exact (Up.refl _).alloc _
  rw [hV1]
  clear hV1
  replace U := U.trans uV1
  clear uV1
  obtain ⟨c0, c1, c2, c3, c4, c5, c6⟩ := Bf.cs c
  have c7 := Bf.lt c
  simp only [Nat.zero_add] at c0 c1 c2 c3 c4 c5 c6 c7
  go_wp2_with fail
  clear c0 c1 c2 c3 c4 c5 c6 c7
  refine (CM.out _).mono ?_
  rintro _ w2 ⟨rfl, h2⟩
  replace U := U.trans h2
  replace c := c.up h2
  clear h2
  obtain ⟨c0, c1, c2, c3, c4, c5, c6⟩ := Bf.cs c
  have c7 := Bf.lt c
  simp only [Nat.zero_add] at c0 c1 c2 c3 c4 c5 c6 c7
  go_wp2_with fail
  clear c0 c1 c2 c3 c4 c5 c6 c7
  go_ret
  exact ⟨by first | rfl | exact ret_int hb, U⟩
set_option maxHeartbeats 4000000 in
set_option maxRecDepth 100000 in
theorem wturned_any (w : World) (f : M.Fm) (hf : M.Ok f) (neg : Bool) (k : Int) (k1 : 0 ≤ k) (k2 : k ≤ M.msk f) (z : Int) (hz : (if neg = true then M.trn f k else k) = z) : Calls Tryd.prog 54 #[fv f, .bool neg, .int .u64 k] w (Wz z w) := by
  cases neg
  ·
    rw [if_neg (by decide)] at hz
    subst hz
    clear hf k2
    have U := Up.refl w
    go_enter Tryd.func54, Tryd.ntmps54
    go_wp2_with fail
    obtain ⟨V1, hV1⟩ : ∃ V1, w.alloc (.cells #[.int .i64 f.k, .int .i64 f.W, .int .i64 f.m, .int .i64 f.b, .int .u64 f.t, .int .u64 f.n, .int .u64 f.x] 40) = V1 := ⟨_, rfl⟩
    have c : Bf V1 w.heap.size 40 f := by rw [← hV1]; exact Bf.mk_ w f 40
    have ltc : w.heap.size ≤ w.heap.size := U.size
    have uV1 : Up w V1 := by rw [← hV1]; exact (Up.refl _).alloc _
    rw [hV1]
    clear hV1
    replace U := U.trans uV1
    clear uV1
    obtain ⟨c0, c1, c2, c3, c4, c5, c6⟩ := Bf.cs c
    have c7 := Bf.lt c
    simp only [Nat.zero_add] at c0 c1 c2 c3 c4 c5 c6 c7
    go_wp2_with fail
    clear c0 c1 c2 c3 c4 c5 c6 c7
    go_ret
    exact ⟨rfl, U⟩
  ·
    rw [if_pos rfl] at hz
    have CT := Lib.hid (fun W => turned_any W f hf k k1 k2 z hz)
    clear hf k2 hz
    have U := Up.refl w
    go_enter Tryd.func54, Tryd.ntmps54
    go_wp2_with fail
    obtain ⟨V1, hV1⟩ : ∃ V1, w.alloc (.cells #[.int .i64 f.k, .int .i64 f.W, .int .i64 f.m, .int .i64 f.b, .int .u64 f.t, .int .u64 f.n, .int .u64 f.x] 40) = V1 := ⟨_, rfl⟩
    have c : Bf V1 w.heap.size 40 f := by rw [← hV1]; exact Bf.mk_ w f 40
    have ltc : w.heap.size ≤ w.heap.size := U.size
    have uV1 : Up w V1 := by rw [← hV1]; exact (Up.refl _).alloc _
    rw [hV1]
    clear hV1
    replace U := U.trans uV1
    clear uV1
    obtain ⟨c0, c1, c2, c3, c4, c5, c6⟩ := Bf.cs c
    have c7 := Bf.lt c
    simp only [Nat.zero_add] at c0 c1 c2 c3 c4 c5 c6 c7
    go_wp2_with fail
    clear c0 c1 c2 c3 c4 c5 c6 c7
    refine (CT.out _).mono ?_
    rintro _ w2 ⟨rfl, h2⟩
    replace U := U.trans h2
    replace c := c.up h2
    clear h2
    obtain ⟨c0, c1, c2, c3, c4, c5, c6⟩ := Bf.cs c
    have c7 := Bf.lt c
    simp only [Nat.zero_add] at c0 c1 c2 c3 c4 c5 c6 c7
    go_wp2_with fail
    clear c0 c1 c2 c3 c4 c5 c6 c7
    go_ret
    exact ⟨rfl, U⟩
set_option maxHeartbeats 4000000 in
set_option maxRecDepth 100000 in
theorem wsigned_any (w : World) (f : M.Fm) (hf : M.Ok f) (hk4 : f.k ≠ 4) (neg : Bool) (k : Int) (k1 : 0 ≤ k) (k2 : k < M.half f) (z : Int) (hz : (if neg = true then k + M.half f else k) = z) : Calls Tryd.prog 58 #[fv f, .bool neg, .int .u64 k] w (Wz z w) := by
  cases neg
  ·
    rw [if_neg (by decide)] at hz
    subst hz
    clear hf k2
    have U := Up.refl w
    go_enter Tryd.func58, Tryd.ntmps58
    go_wp2_with fail
    obtain ⟨V1, hV1⟩ : ∃ V1, w.alloc (.cells #[.int .i64 f.k, .int .i64 f.W, .int .i64 f.m, .int .i64 f.b, .int .u64 f.t, .int .u64 f.n, .int .u64 f.x] 40) = V1 := ⟨_, rfl⟩
    have c : Bf V1 w.heap.size 40 f := by rw [← hV1]; exact Bf.mk_ w f 40
    have ltc : w.heap.size ≤ w.heap.size := U.size
    have uV1 : Up w V1 := by rw [← hV1]; exact (Up.refl _).alloc _
    rw [hV1]
    clear hV1
    replace U := U.trans uV1
    clear uV1
    obtain ⟨c0, c1, c2, c3, c4, c5, c6⟩ := Bf.cs c
    have c7 := Bf.lt c
    simp only [Nat.zero_add] at c0 c1 c2 c3 c4 c5 c6 c7
    go_wp2_with fail
    clear c0 c1 c2 c3 c4 c5 c6 c7
    go_ret
    exact ⟨rfl, U⟩
  ·
    rw [if_pos rfl, Int.add_comm, ← M.or_half hf k1 k2] at hz
    have hs := ((M.sgn_ok hf).2 hk4).1
    obtain ⟨S, hS⟩ : ∃ z, M.sgn f = z := ⟨_, rfl⟩
    rw [← hs, hS] at hz
    have CS := Lib.hid (fun W => sign_any W f hf S (Lib.hid hS))
    have kb : k < 18446744073709551616 := by have := hf.hm; omega
    clear hf k2 hs hS hk4
    have U := Up.refl w
    go_enter Tryd.func58, Tryd.ntmps58
    go_wp2_with fail
    obtain ⟨V1, hV1⟩ : ∃ V1, w.alloc (.cells #[.int .i64 f.k, .int .i64 f.W, .int .i64 f.m, .int .i64 f.b, .int .u64 f.t, .int .u64 f.n, .int .u64 f.x] 40) = V1 := ⟨_, rfl⟩
    have c : Bf V1 w.heap.size 40 f := by rw [← hV1]; exact Bf.mk_ w f 40
    have ltc : w.heap.size ≤ w.heap.size := U.size
    have uV1 : Up w V1 := by rw [← hV1]; exact (Up.refl _).alloc _
    rw [hV1]
    clear hV1
    replace U := U.trans uV1
    clear uV1
    obtain ⟨c0, c1, c2, c3, c4, c5, c6⟩ := Bf.cs c
    have c7 := Bf.lt c
    simp only [Nat.zero_add] at c0 c1 c2 c3 c4 c5 c6 c7
    go_wp2_with fail
    clear c0 c1 c2 c3 c4 c5 c6 c7
    refine (CS.out _).mono ?_
    rintro _ w2 ⟨rfl, h2⟩
    replace U := U.trans h2
    replace c := c.up h2
    clear h2
    obtain ⟨c0, c1, c2, c3, c4, c5, c6⟩ := Bf.cs c
    have c7 := Bf.lt c
    simp only [Nat.zero_add] at c0 c1 c2 c3 c4 c5 c6 c7
    go_wp2_with fail
    clear c0 c1 c2 c3 c4 c5 c6 c7
    go_ret
    exact ⟨by first | rfl | exact ret_int hz, U⟩
set_option maxHeartbeats 4000000 in
set_option maxRecDepth 100000 in
theorem wscale_any (w : World) (f : M.Fm) (neg : Bool) (k : Int) : Calls Tryd.prog 64 #[fv f, .bool neg, .int .u64 k] w (Wz k w) := by
  have U := Up.refl w
  go_enter Tryd.func64, Tryd.ntmps64
  go_wp2_with fail
  obtain ⟨V1, hV1⟩ : ∃ V1, w.alloc (.cells #[.int .i64 f.k, .int .i64 f.W, .int .i64 f.m, .int .i64 f.b, .int .u64 f.t, .int .u64 f.n, .int .u64 f.x] 40) = V1 := ⟨_, rfl⟩
  have c : Bf V1 w.heap.size 40 f := by rw [← hV1]; exact Bf.mk_ w f 40
  have ltc : w.heap.size ≤ w.heap.size := U.size
  have uV1 : Up w V1 := by rw [← hV1]; exact (Up.refl _).alloc _
  rw [hV1]
  clear hV1
  replace U := U.trans uV1
  clear uV1
  obtain ⟨c0, c1, c2, c3, c4, c5, c6⟩ := Bf.cs c
  have c7 := Bf.lt c
  simp only [Nat.zero_add] at c0 c1 c2 c3 c4 c5 c6 c7
  go_wp2_with fail
  clear c0 c1 c2 c3 c4 c5 c6 c7
  go_ret
  exact ⟨rfl, U⟩
set_option maxHeartbeats 4000000 in
set_option maxRecDepth 100000 in
theorem rturned_any (w : World) (f : M.Fm) (hf : M.Ok f) (hf2 : M.Ok2 f) (hk : f.k = 1 ∨ f.k = 3) (p : Int) (p1 : 0 ≤ p) (p2 : p ≤ M.msk f) (c : Int) (g : Bool) (k : Int) (h : M.Rd f p c g k) : Calls Tryd.prog 53 #[fv f, .int .u64 p] w (Rp c g k w) := by
  have hb := M.and_half hf p1 p2
  have hs := ((M.sgn_ok hf).2 (by omega)).1
  obtain ⟨S, hS⟩ : ∃ z, M.sgn f = z := ⟨_, rfl⟩
  have CS := Lib.hid (fun W => sign_any W f hf S (Lib.hid hS))
  have CT := Lib.hid (fun W => turned_any W f hf p p1 p2 _ rfl)
  have pb : p < 18446744073709551616 := by have := hf.hm; omega
  rw [← hs, hS] at hb
  have HH : M.half f = S := by rw [← hs, hS]
  rcases M.rd_turned hf hf2 hk p1 p2 with ⟨h0, r⟩ | ⟨h0, hx, r⟩ | ⟨h0, hx, hh, r⟩ | ⟨h0, hx, hh, r⟩
  ·
    obtain ⟨rfl, rfl, rfl⟩ := M.rd_uniq r h
    have d1 : (p == 0) = true := by simpa using h0
    clear hb
    clear h r hf hf2 hk hs hS p2 HH
    have U := Up.refl w
    go_enter Tryd.func53, Tryd.ntmps53
    go_wp2_with fail
    obtain ⟨V1, hV1⟩ : ∃ V1, w.alloc (.cells #[.int .i64 f.k, .int .i64 f.W, .int .i64 f.m, .int .i64 f.b, .int .u64 f.t, .int .u64 f.n, .int .u64 f.x] 40) = V1 := ⟨_, rfl⟩
    have c : Bf V1 w.heap.size 40 f := by rw [← hV1]; exact Bf.mk_ w f 40
    have ltc : w.heap.size ≤ w.heap.size := U.size
    have uV1 : Up w V1 := by rw [← hV1]; exact (Up.refl _).alloc _
    rw [hV1]
    clear hV1
    replace U := U.trans uV1
    clear uV1
    obtain ⟨c0, c1, c2, c3, c4, c5, c6⟩ := Bf.cs c
    have c7 := Bf.lt c
    simp only [Nat.zero_add] at c0 c1 c2 c3 c4 c5 c6 c7
    go_wp2_with fail
    clear c0 c1 c2 c3 c4 c5 c6 c7
    go_ret3
    exact ⟨rfl, U⟩
  ·
    obtain ⟨rfl, rfl, rfl⟩ := M.rd_uniq r h
    have d1 : (p == 0) = false := by simpa using h0
    have d2 : (p == f.x) = true := by simpa using hx
    clear hb
    clear h r hf hf2 hk hs hS p2 HH
    have U := Up.refl w
    go_enter Tryd.func53, Tryd.ntmps53
    go_wp2_with fail
    obtain ⟨V1, hV1⟩ : ∃ V1, w.alloc (.cells #[.int .i64 f.k, .int .i64 f.W, .int .i64 f.m, .int .i64 f.b, .int .u64 f.t, .int .u64 f.n, .int .u64 f.x] 40) = V1 := ⟨_, rfl⟩
    have c : Bf V1 w.heap.size 40 f := by rw [← hV1]; exact Bf.mk_ w f 40
    have ltc : w.heap.size ≤ w.heap.size := U.size
    have uV1 : Up w V1 := by rw [← hV1]; exact (Up.refl _).alloc _
    rw [hV1]
    clear hV1
    replace U := U.trans uV1
    clear uV1
    obtain ⟨c0, c1, c2, c3, c4, c5, c6⟩ := Bf.cs c
    have c7 := Bf.lt c
    simp only [Nat.zero_add] at c0 c1 c2 c3 c4 c5 c6 c7
    go_wp2_with fail
    clear c0 c1 c2 c3 c4 c5 c6 c7
    go_ret3
    exact ⟨rfl, U⟩
  ·
    obtain ⟨rfl, rfl, rfl⟩ := M.rd_uniq r h
    have d1 : (p == 0) = false := by simpa using h0
    have d2 : (p == f.x) = false := by simpa using hx
    rw [decide_eq_true (by omega)] at hb
    obtain ⟨z, hz⟩ : ∃ z, M.trn f p = z := ⟨_, rfl⟩
    rw [hz] at CT ⊢
    clear hz
    clear h r hf hf2 hk hs hS p2 HH
    have U := Up.refl w
    go_enter Tryd.func53, Tryd.ntmps53
    go_wp2_with fail
    obtain ⟨V1, hV1⟩ : ∃ V1, w.alloc (.cells #[.int .i64 f.k, .int .i64 f.W, .int .i64 f.m, .int .i64 f.b, .int .u64 f.t, .int .u64 f.n, .int .u64 f.x] 40) = V1 := ⟨_, rfl⟩
    have c : Bf V1 w.heap.size 40 f := by rw [← hV1]; exact Bf.mk_ w f 40
    have ltc : w.heap.size ≤ w.heap.size := U.size
    have uV1 : Up w V1 := by rw [← hV1]; exact (Up.refl _).alloc _
    rw [hV1]
    clear hV1
    replace U := U.trans uV1
    clear uV1
    obtain ⟨c0, c1, c2, c3, c4, c5, c6⟩ := Bf.cs c
    have c7 := Bf.lt c
    simp only [Nat.zero_add] at c0 c1 c2 c3 c4 c5 c6 c7
    go_wp2_with fail
    clear c0 c1 c2 c3 c4 c5 c6 c7
    refine (CS.out _).mono ?_
    rintro _ w2 ⟨rfl, h2⟩
    replace U := U.trans h2
    replace c := c.up h2
    clear h2
    obtain ⟨c0, c1, c2, c3, c4, c5, c6⟩ := Bf.cs c
    have c7 := Bf.lt c
    simp only [Nat.zero_add] at c0 c1 c2 c3 c4 c5 c6 c7
    go_wp2_with fail
    clear c0 c1 c2 c3 c4 c5 c6 c7
    refine (CT.out _).mono ?_
    rintro _ w3 ⟨rfl, h3⟩
    replace U := U.trans h3
    replace c := c.up h3
    clear h3
    obtain ⟨c0, c1, c2, c3, c4, c5, c6⟩ := Bf.cs c
    have c7 := Bf.lt c
    simp only [Nat.zero_add] at c0 c1 c2 c3 c4 c5 c6 c7
    go_wp2_with fail
    clear c0 c1 c2 c3 c4 c5 c6 c7
    go_ret3
    exact ⟨rfl, U⟩
  ·
    obtain ⟨rfl, rfl, rfl⟩ := M.rd_uniq r h
    have d1 : (p == 0) = false := by simpa using h0
    have d2 : (p == f.x) = false := by simpa using hx
    rw [decide_eq_false (by omega)] at hb
    clear h r hf hf2 hk hs hS p2 HH
    have U := Up.refl w
    go_enter Tryd.func53, Tryd.ntmps53
    go_wp2_with fail
    obtain ⟨V1, hV1⟩ : ∃ V1, w.alloc (.cells #[.int .i64 f.k, .int .i64 f.W, .int .i64 f.m, .int .i64 f.b, .int .u64 f.t, .int .u64 f.n, .int .u64 f.x] 40) = V1 := ⟨_, rfl⟩
    have c : Bf V1 w.heap.size 40 f := by rw [← hV1]; exact Bf.mk_ w f 40
    have ltc : w.heap.size ≤ w.heap.size := U.size
    have uV1 : Up w V1 := by rw [← hV1]; exact (Up.refl _).alloc _
    rw [hV1]
    clear hV1
    replace U := U.trans uV1
    clear uV1
    obtain ⟨c0, c1, c2, c3, c4, c5, c6⟩ := Bf.cs c
    have c7 := Bf.lt c
    simp only [Nat.zero_add] at c0 c1 c2 c3 c4 c5 c6 c7
    go_wp2_with fail
    clear c0 c1 c2 c3 c4 c5 c6 c7
    refine (CS.out _).mono ?_
    rintro _ w2 ⟨rfl, h2⟩
    replace U := U.trans h2
    replace c := c.up h2
    clear h2
    obtain ⟨c0, c1, c2, c3, c4, c5, c6⟩ := Bf.cs c
    have c7 := Bf.lt c
    simp only [Nat.zero_add] at c0 c1 c2 c3 c4 c5 c6 c7
    go_wp2_with fail
    clear c0 c1 c2 c3 c4 c5 c6 c7
    go_ret3
    exact ⟨rfl, U⟩
set_option maxHeartbeats 4000000 in
set_option maxRecDepth 100000 in
theorem rsigned_any (w : World) (f : M.Fm) (hf : M.Ok f) (hk : f.k = 2) (p : Int) (p1 : 0 ≤ p) (p2 : p ≤ M.msk f) (c : Int) (g : Bool) (k : Int) (h : M.Rd f p c g k) : Calls Tryd.prog 57 #[fv f, .int .u64 p] w (Rp c g k w) := by
  have hb := M.and_half hf p1 p2
  have ha := M.andNot_half hf p1 p2
  have hs := ((M.sgn_ok hf).2 (by omega)).1
  obtain ⟨S, hS⟩ : ∃ z, M.sgn f = z := ⟨_, rfl⟩
  have CS := Lib.hid (fun W => sign_any W f hf S (Lib.hid hS))
  have pb : p < 18446744073709551616 := by have := hf.hm; omega
  obtain ⟨t, ht⟩ : ∃ t, decide (M.half f ≤ p) = t := ⟨_, rfl⟩
  obtain ⟨m, hm⟩ : ∃ m, (if M.half f ≤ p then p - M.half f else p) = m := ⟨_, rfl⟩
  obtain ⟨m0, R⟩ := M.rd_signed hf hk p1 ht hm
  rw [ht, ← hs, hS] at hb
  rw [hm, ← hs, hS] at ha
  have mb : m < 18446744073709551616 := by have := hf.hm; rw [← hm]; split <;> omega
  rcases R with ⟨h0, r⟩ | ⟨h0, h1, r⟩ | ⟨h0, h1, h2, r⟩ | ⟨h0, h1, h2, r⟩
  ·
    obtain ⟨rfl, rfl, rfl⟩ := M.rd_uniq r h
    have d1 : (m == 0) = true := by simpa using h0
    clear h r hf hk hs hS p2 ht hm
    have U := Up.refl w
    go_enter Tryd.func57, Tryd.ntmps57
    go_wp2_with fail
    obtain ⟨V1, hV1⟩ : ∃ V1, w.alloc (.cells #[.int .i64 f.k, .int .i64 f.W, .int .i64 f.m, .int .i64 f.b, .int .u64 f.t, .int .u64 f.n, .int .u64 f.x] 40) = V1 := ⟨_, rfl⟩
    have c : Bf V1 w.heap.size 40 f := by rw [← hV1]; exact Bf.mk_ w f 40
    have ltc : w.heap.size ≤ w.heap.size := U.size
    have uV1 : Up w V1 := by rw [← hV1]; exact (Up.refl _).alloc _
    rw [hV1]
    clear hV1
    replace U := U.trans uV1
    clear uV1
    obtain ⟨c0, c1, c2, c3, c4, c5, c6⟩ := Bf.cs c
    have c7 := Bf.lt c
    simp only [Nat.zero_add] at c0 c1 c2 c3 c4 c5 c6 c7
    go_region_held3 (fun w' => w'.cell? ⟨w.heap.size, 0, none⟩ = some (.int .i64 f.k) ∧ w'.cell? ⟨w.heap.size, 1, none⟩ = some (.int .i64 f.W) ∧ w'.cell? ⟨w.heap.size, 2, none⟩ = some (.int .i64 f.m) ∧ w'.cell? ⟨w.heap.size, 3, none⟩ = some (.int .i64 f.b) ∧ w'.cell? ⟨w.heap.size, 4, none⟩ = some (.int .u64 f.t) ∧ w'.cell? ⟨w.heap.size, 5, none⟩ = some (.int .u64 f.n) ∧ w'.cell? ⟨w.heap.size, 6, none⟩ = some (.int .u64 f.x)) (go_keep) ((go_at_call 27; (with_reducible refine (CS.out _).mono ?_); rintro _ w3 ⟨rfl, h3⟩; have uw3 : Up V1 w3 := Up.trans (by first | with_reducible assumption | exact (Up.refl V1).drewN 1) h3; have cc0 := cell_up_ uw3 c0; have cc1 := cell_up_ uw3 c1; have cc2 := cell_up_ uw3 c2; have cc3 := cell_up_ uw3 c3; have cc4 := cell_up_ uw3 c4; have cc5 := cell_up_ uw3 c5; have cc6 := cell_up_ uw3 c6))
    go_wp2_with fail
    go_ret3
    exact ⟨rfl, U.trans (by assumption)⟩
  ·
    obtain ⟨rfl, rfl, rfl⟩ := M.rd_uniq r h
    have d1 : (m == 0) = false := by simpa using h0
    have d2 : decide (m ≤ f.t) = true := decide_eq_true h1
    clear h r hf hk hs hS p2 ht hm
    have U := Up.refl w
    go_enter Tryd.func57, Tryd.ntmps57
    go_wp2_with fail
    obtain ⟨V1, hV1⟩ : ∃ V1, w.alloc (.cells #[.int .i64 f.k, .int .i64 f.W, .int .i64 f.m, .int .i64 f.b, .int .u64 f.t, .int .u64 f.n, .int .u64 f.x] 40) = V1 := ⟨_, rfl⟩
    have c : Bf V1 w.heap.size 40 f := by rw [← hV1]; exact Bf.mk_ w f 40
    have ltc : w.heap.size ≤ w.heap.size := U.size
    have uV1 : Up w V1 := by rw [← hV1]; exact (Up.refl _).alloc _
    rw [hV1]
    clear hV1
    replace U := U.trans uV1
    clear uV1
    obtain ⟨c0, c1, c2, c3, c4, c5, c6⟩ := Bf.cs c
    have c7 := Bf.lt c
    simp only [Nat.zero_add] at c0 c1 c2 c3 c4 c5 c6 c7
    go_region_held3 (fun w' => w'.cell? ⟨w.heap.size, 0, none⟩ = some (.int .i64 f.k) ∧ w'.cell? ⟨w.heap.size, 1, none⟩ = some (.int .i64 f.W) ∧ w'.cell? ⟨w.heap.size, 2, none⟩ = some (.int .i64 f.m) ∧ w'.cell? ⟨w.heap.size, 3, none⟩ = some (.int .i64 f.b) ∧ w'.cell? ⟨w.heap.size, 4, none⟩ = some (.int .u64 f.t) ∧ w'.cell? ⟨w.heap.size, 5, none⟩ = some (.int .u64 f.n) ∧ w'.cell? ⟨w.heap.size, 6, none⟩ = some (.int .u64 f.x)) (go_keep) ((go_at_call 27; (with_reducible refine (CS.out _).mono ?_); rintro _ w3 ⟨rfl, h3⟩; have uw3 : Up V1 w3 := Up.trans (by first | with_reducible assumption | exact (Up.refl V1).drewN 1) h3; have cc0 := cell_up_ uw3 c0; have cc1 := cell_up_ uw3 c1; have cc2 := cell_up_ uw3 c2; have cc3 := cell_up_ uw3 c3; have cc4 := cell_up_ uw3 c4; have cc5 := cell_up_ uw3 c5; have cc6 := cell_up_ uw3 c6))
    go_wp2_with fail
    go_ret3
    exact ⟨rfl, U.trans (by assumption)⟩
  ·
    obtain ⟨rfl, rfl, rfl⟩ := M.rd_uniq r h
    have d1 : (m == 0) = false := by simpa using h0
    have d2 : decide (m ≤ f.t) = false := decide_eq_false (by omega)
    have d3 : (m == f.n) = true := by simpa using h2
    clear h r hf hk hs hS p2 ht hm
    have U := Up.refl w
    go_enter Tryd.func57, Tryd.ntmps57
    go_wp2_with fail
    obtain ⟨V1, hV1⟩ : ∃ V1, w.alloc (.cells #[.int .i64 f.k, .int .i64 f.W, .int .i64 f.m, .int .i64 f.b, .int .u64 f.t, .int .u64 f.n, .int .u64 f.x] 40) = V1 := ⟨_, rfl⟩
    have c : Bf V1 w.heap.size 40 f := by rw [← hV1]; exact Bf.mk_ w f 40
    have ltc : w.heap.size ≤ w.heap.size := U.size
    have uV1 : Up w V1 := by rw [← hV1]; exact (Up.refl _).alloc _
    rw [hV1]
    clear hV1
    replace U := U.trans uV1
    clear uV1
    obtain ⟨c0, c1, c2, c3, c4, c5, c6⟩ := Bf.cs c
    have c7 := Bf.lt c
    simp only [Nat.zero_add] at c0 c1 c2 c3 c4 c5 c6 c7
    go_region_held3 (fun w' => w'.cell? ⟨w.heap.size, 0, none⟩ = some (.int .i64 f.k) ∧ w'.cell? ⟨w.heap.size, 1, none⟩ = some (.int .i64 f.W) ∧ w'.cell? ⟨w.heap.size, 2, none⟩ = some (.int .i64 f.m) ∧ w'.cell? ⟨w.heap.size, 3, none⟩ = some (.int .i64 f.b) ∧ w'.cell? ⟨w.heap.size, 4, none⟩ = some (.int .u64 f.t) ∧ w'.cell? ⟨w.heap.size, 5, none⟩ = some (.int .u64 f.n) ∧ w'.cell? ⟨w.heap.size, 6, none⟩ = some (.int .u64 f.x)) (go_keep) ((go_at_call 27; (with_reducible refine (CS.out _).mono ?_); rintro _ w3 ⟨rfl, h3⟩; have uw3 : Up V1 w3 := Up.trans (by first | with_reducible assumption | exact (Up.refl V1).drewN 1) h3; have cc0 := cell_up_ uw3 c0; have cc1 := cell_up_ uw3 c1; have cc2 := cell_up_ uw3 c2; have cc3 := cell_up_ uw3 c3; have cc4 := cell_up_ uw3 c4; have cc5 := cell_up_ uw3 c5; have cc6 := cell_up_ uw3 c6))
    go_wp2_with fail
    go_ret3
    exact ⟨rfl, U.trans (by assumption)⟩
  ·
    obtain ⟨rfl, rfl, rfl⟩ := M.rd_uniq r h
    have d1 : (m == 0) = false := by simpa using h0
    have d2 : decide (m ≤ f.t) = false := decide_eq_false (by omega)
    have d3 : (m == f.n) = false := by simpa using h2
    clear h r hf hk hs hS p2 ht hm
    have U := Up.refl w
    go_enter Tryd.func57, Tryd.ntmps57
    go_wp2_with fail
    obtain ⟨V1, hV1⟩ : ∃ V1, w.alloc (.cells #[.int .i64 f.k, .int .i64 f.W, .int .i64 f.m, .int .i64 f.b, .int .u64 f.t, .int .u64 f.n, .int .u64 f.x] 40) = V1 := ⟨_, rfl⟩
    have c : Bf V1 w.heap.size 40 f := by rw [← hV1]; exact Bf.mk_ w f 40
    have ltc : w.heap.size ≤ w.heap.size := U.size
    have uV1 : Up w V1 := by rw [← hV1]; exact (Up.refl _).alloc _
    rw [hV1]
    clear hV1
    replace U := U.trans uV1
    clear uV1
    obtain ⟨c0, c1, c2, c3, c4, c5, c6⟩ := Bf.cs c
    have c7 := Bf.lt c
    simp only [Nat.zero_add] at c0 c1 c2 c3 c4 c5 c6 c7
    go_region_held3 (fun w' => w'.cell? ⟨w.heap.size, 0, none⟩ = some (.int .i64 f.k) ∧ w'.cell? ⟨w.heap.size, 1, none⟩ = some (.int .i64 f.W) ∧ w'.cell? ⟨w.heap.size, 2, none⟩ = some (.int .i64 f.m) ∧ w'.cell? ⟨w.heap.size, 3, none⟩ = some (.int .i64 f.b) ∧ w'.cell? ⟨w.heap.size, 4, none⟩ = some (.int .u64 f.t) ∧ w'.cell? ⟨w.heap.size, 5, none⟩ = some (.int .u64 f.n) ∧ w'.cell? ⟨w.heap.size, 6, none⟩ = some (.int .u64 f.x)) (go_keep) ((go_at_call 27; (with_reducible refine (CS.out _).mono ?_); rintro _ w3 ⟨rfl, h3⟩; have uw3 : Up V1 w3 := Up.trans (by first | with_reducible assumption | exact (Up.refl V1).drewN 1) h3; have cc0 := cell_up_ uw3 c0; have cc1 := cell_up_ uw3 c1; have cc2 := cell_up_ uw3 c2; have cc3 := cell_up_ uw3 c3; have cc4 := cell_up_ uw3 c4; have cc5 := cell_up_ uw3 c5; have cc6 := cell_up_ uw3 c6))
    go_wp2_with fail
    go_ret3
    exact ⟨rfl, U.trans (by assumption)⟩
set_option maxHeartbeats 4000000 in
set_option maxRecDepth 100000 in
theorem rscale_any (w : World) (f : M.Fm) (hf : M.Ok f) (hf2 : M.Ok2 f) (hk : f.k = 4) (p : Int) (c : Int) (g : Bool) (k : Int) (h : M.Rd f p c g k) : Calls Tryd.prog 63 #[fv f, .int .u64 p] w (Rp c g k w) := by
  rcases M.rd_scale hf hf2 hk (p := p) with ⟨hx, r⟩ | ⟨hx, r⟩
  ·
    obtain ⟨rfl, rfl, rfl⟩ := M.rd_uniq r h
    have d1 : (p == f.x) = true := by simpa using hx
    clear h r hf hf2 hk
    have U := Up.refl w
    go_enter Tryd.func63, Tryd.ntmps63
    go_wp2_with fail
    obtain ⟨V1, hV1⟩ : ∃ V1, w.alloc (.cells #[.int .i64 f.k, .int .i64 f.W, .int .i64 f.m, .int .i64 f.b, .int .u64 f.t, .int .u64 f.n, .int .u64 f.x] 40) = V1 := ⟨_, rfl⟩
    have c : Bf V1 w.heap.size 40 f := by rw [← hV1]; exact Bf.mk_ w f 40
    have ltc : w.heap.size ≤ w.heap.size := U.size
    have uV1 : Up w V1 := by rw [← hV1]; exact (Up.refl _).alloc _
    rw [hV1]
    clear hV1
    replace U := U.trans uV1
    clear uV1
    obtain ⟨c0, c1, c2, c3, c4, c5, c6⟩ := Bf.cs c
    have c7 := Bf.lt c
    simp only [Nat.zero_add] at c0 c1 c2 c3 c4 c5 c6 c7
    go_wp2_with fail
    clear c0 c1 c2 c3 c4 c5 c6 c7
    go_ret3
    exact ⟨rfl, U⟩
  ·
    obtain ⟨rfl, rfl, rfl⟩ := M.rd_uniq r h
    have d1 : (p == f.x) = false := by simpa using hx
    clear h r hf hf2 hk
    have U := Up.refl w
    go_enter Tryd.func63, Tryd.ntmps63
    go_wp2_with fail
    obtain ⟨V1, hV1⟩ : ∃ V1, w.alloc (.cells #[.int .i64 f.k, .int .i64 f.W, .int .i64 f.m, .int .i64 f.b, .int .u64 f.t, .int .u64 f.n, .int .u64 f.x] 40) = V1 := ⟨_, rfl⟩
    have c : Bf V1 w.heap.size 40 f := by rw [← hV1]; exact Bf.mk_ w f 40
    have ltc : w.heap.size ≤ w.heap.size := U.size
    have uV1 : Up w V1 := by rw [← hV1]; exact (Up.refl _).alloc _
    rw [hV1]
    clear hV1
    replace U := U.trans uV1
    clear uV1
    obtain ⟨c0, c1, c2, c3, c4, c5, c6⟩ := Bf.cs c
    have c7 := Bf.lt c
    simp only [Nat.zero_add] at c0 c1 c2 c3 c4 c5 c6 c7
    go_wp2_with fail
    clear c0 c1 c2 c3 c4 c5 c6 c7
    go_ret3
    exact ⟨rfl, U⟩
end Go.Proofs.YtjcbncfpcechnaaDoor
