/-
  The reference of layer 7: Key.
-/
import Derived.Test.YtjcbncfpcechnaaDoorVe
namespace Go.Proofs.YtjcbncfpcechnaaDoor
open Go.RowKit
set_option linter.unusedSimpArgs false
set_option linter.unusedVariables false

theorem kv_dv {f : M.Fm} {p : Int} {g : Bool} {k : Nat} {x : Int} (ok : M.Ok f) (ok2 : M.Ok2 f) (p1 : 0 ≤ p) (p2 : p ≤ M.msk f) (h : M.Kv f p g k x) :
    ∃ (c : Int) (g' : Bool) (m : Nat) (z : Int), M.Dv f p c g' m z ∧ ((c ≠ 1 ∧ c ≠ 2 ∧ g = false ∧ k = 0 ∧ x = 5) ∨ ((c = 1 ∨ c = 2) ∧ g' = g ∧ M.kyf f p = k ∧ x = 0)) := by
  rcases h with ⟨a | a, rfl, rfl, rfl⟩ | ⟨a, rfl, hk, rfl⟩ | ⟨a, rfl, hk, rfl⟩
  · exact ⟨3, _, 0, 0, .inr (.inl ⟨a, rfl, rfl, rfl, rfl⟩), .inl ⟨by decide, by decide, rfl, rfl, rfl⟩⟩
  · exact ⟨4, _, 0, 0, .inl ⟨a, rfl, rfl, rfl, rfl⟩, .inl ⟨by decide, by decide, rfl, rfl, rfl⟩⟩
  · exact ⟨1, _, 0, 0, .inr (.inr (.inl ⟨a, rfl, rfl, rfl, rfl⟩)), .inr ⟨.inl rfl, rfl, hk, rfl⟩⟩
  · obtain ⟨_, h2, _, h4⟩ := M.cls_key ok ok2 p1 p2 (.inr a)
    obtain ⟨m, z, hm⟩ := M.mg_ex ok ok2 (k := k) (by omega) (by have := h4 a; omega)
    exact ⟨2, _, m, z, .inr (.inr (.inr ⟨a, rfl, rfl, k, hk, hm⟩)), .inr ⟨.inr rfl, rfl, hk, rfl⟩⟩
set_option maxHeartbeats 4000000 in
set_option maxRecDepth 100000 in
theorem rkey7_any (w : World) (ii : Int) (p : Nat) (pb : p < 18446744073709551616) (g : Bool) (k : Nat) (x : Int) (h : M.Kc ii p g k x) : Calls Tryd.prog 15 #[.int .i64 ii, u64 p] w (Bkx g k x w) := by
  rcases h with ⟨h, rfl, rfl, rfl⟩ | ⟨i, rfl, a, b, ⟨h, rfl, rfl, rfl⟩ | ⟨hp, h⟩⟩
  ·
    have CD := Lib.hid (fun W => rdecode_any W ii p pb 0 false 0 0 3 (.inl ⟨h, rfl, rfl, rfl, rfl, rfl⟩))
    clear h
    have U := Up.refl w
    go_enter Tryd.func15, Tryd.ntmps15
    go_wp2_with fail
    refine (CD.out _).mono ?_
    rintro _ w1 ⟨rfl, h1⟩
    replace U := U.trans h1
    clear h1
    go_wp2_with fail
    go_ret3
    exact ⟨rfl, by first | exact U | exact U.alloc _⟩
  ·
    have CD := Lib.hid (fun W => rdecode_any W (i : Int) p pb 0 false 0 0 1 (.inr ⟨i, rfl, a, b, .inl ⟨h, rfl, rfl, rfl, rfl, rfl⟩⟩))
    clear h
    have U := Up.refl w
    go_enter Tryd.func15, Tryd.ntmps15
    go_wp2_with fail
    refine (CD.out _).mono ?_
    rintro _ w1 ⟨rfl, h1⟩
    replace U := U.trans h1
    clear h1
    go_wp2_with fail
    go_ret3
    exact ⟨rfl, by first | exact U | exact U.alloc _⟩
  ·
    have ok := M.ok i a b
    have ok2 := M.ok2 i a b
    obtain ⟨c, g', m, z, hd, h⟩ := kv_dv ok ok2 (by omega) hp h
    have CD := Lib.hid (fun W => rdecode_any W (i : Int) p pb c g' m z 0 (.inr ⟨i, rfl, a, b, .inr ⟨hp, hd, rfl⟩⟩))
    obtain ⟨f, hf⟩ : ∃ f, M.tb i = f := ⟨_, rfl⟩
    rw [hf] at hp ok ok2 h
    obtain ⟨t, ht⟩ : ∃ t, M.ngs f p = t := ⟨_, rfl⟩
    obtain ⟨key, hk⟩ : ∃ key, M.kyf f p = key := ⟨_, rfl⟩
    have CP := Lib.hid (fun W => rparts_any W f ok p (by omega) hp t key (Lib.hid ht) (Lib.hid hk))
    have CO := Lib.hid (fun W => rof_in W i f (Lib.hid hf) a b)
    rw [hk] at h
    clear hd hp ok ok2 hf ht hk a b
    rcases h with ⟨c1, c2, rfl, rfl, rfl⟩ | ⟨c1 | c1, rfl, rfl, rfl⟩
    ·
      have d1 : (c != 1) = true := by simpa using c1
      have d2 : (c != 2) = true := by simpa using c2
      clear c1 c2
      have U := Up.refl w
      go_enter Tryd.func15, Tryd.ntmps15
      go_wp2_with fail
      refine (CD.out _).mono ?_
      rintro _ w1 ⟨rfl, h1⟩
      replace U := U.trans h1
      clear h1
      go_wp2_with fail
      go_ret3
      exact ⟨rfl, by first | exact U | exact U.alloc _⟩
    ·
      subst c1
      have U := Up.refl w
      go_enter Tryd.func15, Tryd.ntmps15
      go_wp2_with fail
      refine (CD.out _).mono ?_
      rintro _ w1 ⟨rfl, h1⟩
      replace U := U.trans h1
      clear h1
      go_wp2_with fail
      obtain ⟨V2, hV2⟩ : ∃ V2, w1.alloc (.cells #[.int .i64 1, .bool g', .int .u64 (m : Int), .int .i64 z] 25) = V2 := ⟨_, rfl⟩
      have Y : Ob V2 w1.heap.size 25 #[.int .i64 1, .bool g', .int .u64 (m : Int), .int .i64 z] := by rw [← hV2]; exact Ob.mk_ _ _ _
      have uV2 : Up w1 V2 := by rw [← hV2]; exact (Up.refl _).alloc _
      have ltY : w.heap.size ≤ w1.heap.size := U.size
      rw [hV2]
      clear hV2
      replace U := U.trans uV2
      clear uV2
      refine (CO.out _).mono ?_
      rintro _ w3 ⟨rfl, h3⟩
      replace U := U.trans h3
      replace Y := Y.up h3
      clear h3
      go_wp2_with fail
      obtain ⟨V4, hV4⟩ : ∃ V4, w3.alloc (.cells #[.int .i64 f.k, .int .i64 f.W, .int .i64 f.m, .int .i64 f.b, .int .u64 f.t, .int .u64 f.n, .int .u64 f.x] 58) = V4 := ⟨_, rfl⟩
      have C : Bf V4 w3.heap.size 58 f := by rw [← hV4]; exact Bf.mk_ w3 f 58
      have ltC : w.heap.size ≤ w3.heap.size := U.size
      have uV4 : Up w3 V4 := by rw [← hV4]; exact (Up.refl _).alloc _
      rw [hV4]
      clear hV4
      replace U := U.trans uV4
      replace Y := Y.up uV4
      clear uV4
      refine (CP.out _).mono ?_
      rintro _ w5 ⟨rfl, h5⟩
      replace U := U.trans h5
      replace C := C.up h5
      replace Y := Y.up h5
      clear h5
      have Y0 := Y.get 0
      have Y1 := Y.get 1
      have Y2 := Y.get 2
      have Y3 := Y.get 3
      have Yf0 := Y.fr 0
      have Yf1 := Y.fr 1
      have Yf2 := Y.fr 2
      have Yf3 := Y.fr 3
      have Yl := Y.lt
      simp only [List.getElem?_toArray, List.getElem?_cons_zero, List.getElem?_cons_succ] at Y0 Y1 Y2 Y3
      go_wp2_with fail
      clear Y0 Yf0 Y1 Yf1 Y2 Yf2 Y3 Yf3 Yl
      go_ret3
      exact ⟨rfl, U⟩
    ·
      subst c1
      have U := Up.refl w
      go_enter Tryd.func15, Tryd.ntmps15
      go_wp2_with fail
      refine (CD.out _).mono ?_
      rintro _ w1 ⟨rfl, h1⟩
      replace U := U.trans h1
      clear h1
      go_wp2_with fail
      obtain ⟨V2, hV2⟩ : ∃ V2, w1.alloc (.cells #[.int .i64 2, .bool g', .int .u64 (m : Int), .int .i64 z] 25) = V2 := ⟨_, rfl⟩
      have Y : Ob V2 w1.heap.size 25 #[.int .i64 2, .bool g', .int .u64 (m : Int), .int .i64 z] := by rw [← hV2]; exact Ob.mk_ _ _ _
      have uV2 : Up w1 V2 := by rw [← hV2]; exact (Up.refl _).alloc _
      have ltY : w.heap.size ≤ w1.heap.size := U.size
      rw [hV2]
      clear hV2
      replace U := U.trans uV2
      clear uV2
      refine (CO.out _).mono ?_
      rintro _ w3 ⟨rfl, h3⟩
      replace U := U.trans h3
      replace Y := Y.up h3
      clear h3
      go_wp2_with fail
      obtain ⟨V4, hV4⟩ : ∃ V4, w3.alloc (.cells #[.int .i64 f.k, .int .i64 f.W, .int .i64 f.m, .int .i64 f.b, .int .u64 f.t, .int .u64 f.n, .int .u64 f.x] 58) = V4 := ⟨_, rfl⟩
      have C : Bf V4 w3.heap.size 58 f := by rw [← hV4]; exact Bf.mk_ w3 f 58
      have ltC : w.heap.size ≤ w3.heap.size := U.size
      have uV4 : Up w3 V4 := by rw [← hV4]; exact (Up.refl _).alloc _
      rw [hV4]
      clear hV4
      replace U := U.trans uV4
      replace Y := Y.up uV4
      clear uV4
      refine (CP.out _).mono ?_
      rintro _ w5 ⟨rfl, h5⟩
      replace U := U.trans h5
      replace C := C.up h5
      replace Y := Y.up h5
      clear h5
      have Y0 := Y.get 0
      have Y1 := Y.get 1
      have Y2 := Y.get 2
      have Y3 := Y.get 3
      have Yf0 := Y.fr 0
      have Yf1 := Y.fr 1
      have Yf2 := Y.fr 2
      have Yf3 := Y.fr 3
      have Yl := Y.lt
      simp only [List.getElem?_toArray, List.getElem?_cons_zero, List.getElem?_cons_succ] at Y0 Y1 Y2 Y3
      go_wp2_with fail
      clear Y0 Yf0 Y1 Yf1 Y2 Yf2 Y3 Yf3 Yl
      go_ret3
      exact ⟨rfl, U⟩
end Go.Proofs.YtjcbncfpcechnaaDoor
