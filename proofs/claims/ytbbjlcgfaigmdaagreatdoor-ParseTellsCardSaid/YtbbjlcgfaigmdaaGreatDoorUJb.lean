/-
  Package parse: the pattern of a text, or what is panicked with; Parse, that recovers.
-/
import Derived.Test.YtbbjlcgfaigmdaaGreatDoorUJa
namespace Go.Proofs.YtbbjlcgfaigmdaaGreatDoor
open Go.RowKit Go.Shelf
set_option linter.unusedSimpArgs false
set_option linter.unusedVariables false

set_option maxHeartbeats 4000000 in
set_option maxRecDepth 100000 in
theorem po_form (w : World) (ii mode : Int) (s : ByteArray) (h : ii < 1 ∨ 15 ≤ ii) : Calls Tryz.prog 31 #[.int .i64 ii, .int .i64 mode, .string s] w (Pnf 3 0 w) := by
  have CO := Lib.hid (fun W => of_out W ii h)
  clear h
  have U := Up.refl w
  go_enter Tryz.func31, Tryz.ntmps31
  go_wp2_with fail
  refine (CO.out _).mono ?_
  rintro _ W1 ⟨rfl, u1⟩
  replace U := U.trans u1
  clear u1
  go_wp2_with fail
  obtain ⟨V1, hV1⟩ : ∃ V1, W1.alloc (.cells #[.int .i64 0, .int .i64 0, .int .i64 0, .int .i64 0, .int .u64 0, .int .u64 0, .int .u64 0] 33) = V1 := ⟨_, rfl⟩
  have C : Bf V1 W1.heap.size 33 ⟨0, 0, 0, 0, 0, 0, 0⟩ := by rw [← hV1]; exact Bf.mk_ W1 ⟨0, 0, 0, 0, 0, 0, 0⟩ 33
  have u2 : Up W1 V1 := by rw [← hV1]; exact (Up.refl _).alloc _
  rw [hV1]
  clear hV1
  replace U := U.trans u2
  clear u2
  refine (must_bad _ 3 0 (by decide)).mono ?_
  rintro _ W2 ⟨rfl, u3⟩
  replace U := U.trans u3
  clear u3 C
  go_wp2_with fail
  exact ⟨rfl, rfl, U⟩
set_option maxHeartbeats 4000000 in
set_option maxRecDepth 100000 in
theorem po_mode (w : World) (TF : Hid (TabF w)) (i : Nat) (f : M.Fm) (hf : Hid (M.tb i = f)) (i1 : 1 ≤ i) (i2 : i ≤ 14) (mode : Int) (s : ByteArray) (m1 : (mode != 1) = true) (m2 : (mode != 2) = true) : Calls Tryz.prog 31 #[.int .i64 (i : Int), .int .i64 mode, .string s] w (Pnf 1 0 w) := by
  have CO := Lib.hid (fun W (F : TabF W) => of_in W F i f hf i1 i2)
  clear hf i1 i2
  have U := Up.refl w
  go_enter Tryz.func31, Tryz.ntmps31
  go_wp2_with fail
  refine (CO.out _ TF.out).mono ?_
  rintro _ W1 ⟨rfl, u1⟩
  replace U := U.trans u1
  clear u1
  go_wp2_with fail
  obtain ⟨V1, hV1⟩ : ∃ V1, W1.alloc (.cells #[.int .i64 f.k, .int .i64 f.W, .int .i64 f.m, .int .i64 f.b, .int .u64 f.t, .int .u64 f.n, .int .u64 f.x] 33) = V1 := ⟨_, rfl⟩
  have C : Bf V1 W1.heap.size 33 f := by rw [← hV1]; exact Bf.mk_ W1 f 33
  have u2 : Up W1 V1 := by rw [← hV1]; exact (Up.refl _).alloc _
  rw [hV1]
  clear hV1
  replace U := U.trans u2
  clear u2
  refine (must_ok _ 0).mono ?_
  rintro _ _ ⟨rfl, rfl⟩
  go_wp2_with fail
  exact ⟨rfl, rfl, U⟩
set_option maxHeartbeats 4000000 in
set_option maxRecDepth 100000 in
theorem po_scan (w : World) (L : Hid (Lp w)) (i : Nat) (f : M.Fm) (hf : Hid (M.tb i = f)) (i1 : 1 ≤ i) (i2 : i ≤ 14) (mode : Int) (m1 : Hid (mode = 1 ∨ mode = 2)) (s : ByteArray) (l : List UInt8) (hl : Hid (s.data.toList = l)) (hs : s.size ≤ 1000000) (r : M.It) (j : Nat) (hr : Hid (M.rs l = (r, j, 2))) : Calls Tryz.prog 31 #[.int .i64 (i : Int), .int .i64 mode, .string s] w (Pnf 2 (j : Int) w) := by
  have CO := Lib.hid (fun W (F : TabF W) => of_in W F i f hf i1 i2)
  obtain ⟨neg, hneg⟩ : ∃ neg, r.neg = neg := ⟨_, rfl⟩
  obtain ⟨d, k, bg, ct, hn⟩ : ∃ d k bg ct, r.n = ⟨d, k, bg, ct⟩ := ⟨_, _, _, _, rfl⟩
  have SC := Lib.hid (fun W (E : ErrW W) A n c (S : Sb W A n c l) (hn2 : n ≤ 100000000) => scan_val W (Lib.hid E) A n c l S hn2 r j 2 hr.out (r.kind : Int) neg d k bg ct (j : Int) rfl hneg hn rfl)
  obtain ⟨K, hK⟩ : ∃ K : Int, (r.kind : Int) = K := ⟨_, rfl⟩
  rw [hK] at SC
  clear hK
  clear hf i1 i2 hneg hn
  have MD : (mode != 1) = false ∨ ((mode != 1) = true ∧ (mode != 2) = false) := by rcases m1.out with rfl | rfl <;> decide
  have U := Up.refl w
  go_enter Tryz.func31, Tryz.ntmps31
  go_wp2_with fail
  refine (CO.out _ L.out.form).mono ?_
  rintro _ W1 ⟨rfl, u1⟩
  replace U := U.trans u1
  clear u1
  go_wp2_with fail
  obtain ⟨V1, hV1⟩ : ∃ V1, W1.alloc (.cells #[.int .i64 f.k, .int .i64 f.W, .int .i64 f.m, .int .i64 f.b, .int .u64 f.t, .int .u64 f.n, .int .u64 f.x] 33) = V1 := ⟨_, rfl⟩
  have C : Bf V1 W1.heap.size 33 f := by rw [← hV1]; exact Bf.mk_ W1 f 33
  have u2 : Up W1 V1 := by rw [← hV1]; exact (Up.refl _).alloc _
  rw [hV1]
  clear hV1
  replace U := U.trans u2
  clear u2
  refine (must_ok _ 0).mono ?_
  rintro _ _ ⟨rfl, rfl⟩
  obtain ⟨c, W2, hcv, S, u3⟩ := conv_str V1 s l hl.out (by omega)
  replace U := U.trans u3
  replace C := C.up u3
  have gC := C.lt
  obtain ⟨g, hg⟩ : ∃ g, V1.heap.size = g := ⟨_, rfl⟩
  rw [hg] at hcv S
  obtain ⟨n, hn⟩ : ∃ n, s.size = n := ⟨_, rfl⟩
  rw [hn] at hcv S hs
  have CS := Lib.hid (SC.out W2 (L.out.up U).er _ n c S (by omega))
  clear S hn hg u3 hl SC hr
  have back : ∀ Q : Prop, ((mode != 1) = false → Q) → ((mode != 1) = true → (mode != 2) = false → Q) → Q := fun Q a b => by rcases MD with e | ⟨e1, e2⟩; exact a e; exact b e1 e2
  clear MD
  refine back _ (fun m0 => ?_) (fun m0 m2 => ?_)
  all_goals clear back
  all_goals
    go_wp2_with fail
    refine CS.out.mono ?_
    rintro _ W3 ⟨A3, n3, c3, xs3, rfl, N3, v3, l3, w3, u3⟩
    have T3 := Lib.hid (wd_nt N3 v3 l3 w3)
    replace U := U.trans u3
    replace C := C.up u3
    clear N3 v3 l3 w3 u3 CS hcv
    go_wp2_with fail
    obtain ⟨V4, hV4⟩ : ∃ V4, W3.alloc (.cells #[.int .i64 K, .bool neg, .slice A3 n3 c3, .int .i64 k, .int .i64 bg, .bool ct] 49) = V4 := ⟨_, rfl⟩
    have R : Ob V4 W3.heap.size 49 #[.int .i64 K, .bool neg, .slice A3 n3 c3, .int .i64 k, .int .i64 bg, .bool ct] := by rw [← hV4]; exact Ob.mk_ _ _ _
    have u4 : Up W3 V4 := by rw [← hV4]; exact (Up.refl _).alloc _
    rw [hV4]
    clear hV4
    replace U := U.trans u4
    replace C := C.up u4
    replace T3 := Lib.hid (T3.out.up u4)
    clear u4
    refine (must_bad _ 2 _ (by decide)).mono ?_
    rintro _ W5 ⟨rfl, u5⟩
    replace U := U.trans u5
    clear u5 C R T3
    go_wp2_with fail
    exact ⟨rfl, rfl, U⟩
set_option maxHeartbeats 4000000 in
set_option maxRecDepth 100000 in
theorem po_word (w : World) (L : Hid (Lp w)) (i : Nat) (f : M.Fm) (hf : Hid (M.tb i = f)) (i1 : 1 ≤ i) (i2 : i ≤ 14) (mode : Int) (m1 : Hid (mode = 1 ∨ mode = 2)) (s : ByteArray) (l : List UInt8) (hl : Hid (s.data.toList = l)) (hs : s.size ≤ 1000000) (r : M.It) (j : Nat) (hr : Hid (M.rs l = (r, j, 0))) (hK : 2 ≤ r.kind ∧ r.kind ≤ 4) (p : Int) (n : Nat) (e : Int) (hq : M.Wq f r.kind r.neg p n e) : Calls Tryz.prog 31 #[.int .i64 (i : Int), .int .i64 mode, .string s] w (Pto p n e w) := by
  have CO := Lib.hid (fun W (F : TabF W) => of_in W F i f hf i1 i2)
  obtain ⟨neg, hneg⟩ : ∃ neg, r.neg = neg := ⟨_, rfl⟩
  obtain ⟨d, k, bg, ct, hn⟩ : ∃ d k bg ct, r.n = ⟨d, k, bg, ct⟩ := ⟨_, _, _, _, rfl⟩
  have ok := M.ok i i1 i2
  have ok3 := M.ok3 i i1 i2
  rw [hf.out] at ok ok3
  have SC := Lib.hid (fun W (E : ErrW W) A n c (S : Sb W A n c l) (hn2 : n ≤ 100000000) => scan_val W (Lib.hid E) A n c l S hn2 r j 0 hr.out (r.kind : Int) neg d k bg ct (j : Int) rfl hneg hn rfl)
  have CW := Lib.hid (fun W (v : Value) => word_any W f ok ok3 r.kind hK neg v k bg ct p n e (hneg ▸ hq))
  have dK : ((r.kind : Int) != 1) = true := by rw [bne_iff_ne]; omega
  obtain ⟨K, hK'⟩ : ∃ K : Int, (r.kind : Int) = K := ⟨_, rfl⟩
  rw [hK'] at SC CW dK
  clear hK' hq hK ok ok3
  clear hf i1 i2 hneg hn
  have MD : (mode != 1) = false ∨ ((mode != 1) = true ∧ (mode != 2) = false) := by rcases m1.out with rfl | rfl <;> decide
  have U := Up.refl w
  go_enter Tryz.func31, Tryz.ntmps31
  go_wp2_with fail
  refine (CO.out _ L.out.form).mono ?_
  rintro _ W1 ⟨rfl, u1⟩
  replace U := U.trans u1
  clear u1
  go_wp2_with fail
  obtain ⟨V1, hV1⟩ : ∃ V1, W1.alloc (.cells #[.int .i64 f.k, .int .i64 f.W, .int .i64 f.m, .int .i64 f.b, .int .u64 f.t, .int .u64 f.n, .int .u64 f.x] 33) = V1 := ⟨_, rfl⟩
  have C : Bf V1 W1.heap.size 33 f := by rw [← hV1]; exact Bf.mk_ W1 f 33
  have u2 : Up W1 V1 := by rw [← hV1]; exact (Up.refl _).alloc _
  rw [hV1]
  clear hV1
  replace U := U.trans u2
  clear u2
  refine (must_ok _ 0).mono ?_
  rintro _ _ ⟨rfl, rfl⟩
  obtain ⟨c, W2, hcv, S, u3⟩ := conv_str V1 s l hl.out (by omega)
  replace U := U.trans u3
  replace C := C.up u3
  have gC := C.lt
  obtain ⟨g, hg⟩ : ∃ g, V1.heap.size = g := ⟨_, rfl⟩
  rw [hg] at hcv S
  obtain ⟨n, hn⟩ : ∃ n, s.size = n := ⟨_, rfl⟩
  rw [hn] at hcv S hs
  have CS := Lib.hid (SC.out W2 (L.out.up U).er _ n c S (by omega))
  clear S hn hg u3 hl SC hr
  have back : ∀ Q : Prop, ((mode != 1) = false → Q) → ((mode != 1) = true → (mode != 2) = false → Q) → Q := fun Q a b => by rcases MD with e | ⟨e1, e2⟩; exact a e; exact b e1 e2
  clear MD
  refine back _ (fun m0 => ?_) (fun m0 m2 => ?_)
  all_goals clear back
  all_goals
    go_wp2_with fail
    refine CS.out.mono ?_
    rintro _ W3 ⟨A3, n3, c3, xs3, rfl, N3, v3, l3, w3, u3⟩
    have T3 := Lib.hid (wd_nt N3 v3 l3 w3)
    replace U := U.trans u3
    replace C := C.up u3
    clear N3 v3 l3 w3 u3 CS hcv
    go_wp2_with fail
    obtain ⟨V4, hV4⟩ : ∃ V4, W3.alloc (.cells #[.int .i64 K, .bool neg, .slice A3 n3 c3, .int .i64 k, .int .i64 bg, .bool ct] 49) = V4 := ⟨_, rfl⟩
    have R : Ob V4 W3.heap.size 49 #[.int .i64 K, .bool neg, .slice A3 n3 c3, .int .i64 k, .int .i64 bg, .bool ct] := by rw [← hV4]; exact Ob.mk_ _ _ _
    have u4 : Up W3 V4 := by rw [← hV4]; exact (Up.refl _).alloc _
    rw [hV4]
    clear hV4
    replace U := U.trans u4
    replace C := C.up u4
    replace T3 := Lib.hid (T3.out.up u4)
    clear u4
    refine (must_ok _ _).mono ?_
    rintro _ _ ⟨rfl, rfl⟩
    obtain ⟨i0, i1, i2, i3, i4, i5⟩ := R.six
    obtain ⟨C0, C1, C2, C3, C4, C5, C6⟩ := Bf.cs C
    simp only [Nat.zero_add] at C0 C1 C2 C3 C4 C5 C6
    go_wp2_with fail
    refine (CW.out _ _).mono ?_
    clear i0 i1 i2 i3 i4 i5 C0 C1 C2 C3 C4 C5 C6 R C T3
    rintro _ W5 (⟨e0, rfl, u5⟩ | ⟨e0, rfl, u5⟩)
    · replace U := U.trans u5
      clear u5
      go_wp2_with fail
      go_ret
      exact .inl ⟨e0, rfl, U⟩
    · replace U := U.trans u5
      clear u5
      go_wp2_with fail
      exact ⟨rfl, .inr ⟨e0, rfl, U⟩⟩
set_option maxHeartbeats 4000000 in
set_option maxRecDepth 100000 in
theorem po_num (w : World) (L : Hid (Lp w)) (i : Nat) (f : M.Fm) (hf : Hid (M.tb i = f)) (i1 : 1 ≤ i) (i2 : i ≤ 14) (mode : Int) (m1 : Hid (mode = 1 ∨ mode = 2)) (s : ByteArray) (l : List UInt8) (hl : Hid (s.data.toList = l)) (hs : s.size ≤ 1000000) (r : M.It) (j : Nat) (hr : Hid (M.rs l = (r, j, 0))) (hK : r.kind = 1) (hb : r.n.d < 18446744073709551616 ^ 128 ∧ (-3000 ≤ r.n.k ∧ r.n.k ≤ 1000) ∧ (r.n.big = 0 ∨ r.n.big = 1 ∨ r.n.big = -1)) (p : Int) (hp : M.Rv f mode r.neg (M.szn r.n) p) : Calls Tryz.prog 31 #[.int .i64 (i : Int), .int .i64 mode, .string s] w (fun en w' => en = .returned (.int .u64 p) ∧ Up w w') := by
  have CO := Lib.hid (fun W (F : TabF W) => of_in W F i f hf i1 i2)
  obtain ⟨neg, hneg⟩ : ∃ neg, r.neg = neg := ⟨_, rfl⟩
  obtain ⟨d, k, bg, ct, hn⟩ : ∃ d k bg ct, r.n = ⟨d, k, bg, ct⟩ := ⟨_, _, _, _, rfl⟩
  have SC := Lib.hid (fun W (E : ErrW W) A n c (S : Sb W A n c l) (hn2 : n ≤ 100000000) => scan_val W (Lib.hid E) A n c l S hn2 r j 0 hr.out 1 neg d k bg ct (j : Int) (by rw [hK]; rfl) hneg hn rfl)
  have HB := Lib.hid hb
  have HP := Lib.hid hp
  rw [hn] at HB HP
  rw [hneg] at HP
  have CR := Lib.hid (fun W (T : Tz W) (F : TabF W) (lo : Nat) (v : Value) (a : Nat) (t : Int) (N : Nt W lo 2001 v a) (ha : a < 18446744073709551616 ^ 128) (ht : -5000 ≤ t ∧ t ≤ 5000) (hs : M.szn ⟨d, k, bg, ct⟩ = M.sz a t t) => rnd_round W (Lib.hid T) (Lib.hid F) (i : Int) mode lo 2001 neg v t t a N (by decide) ht ht ha p 0 (.inr ⟨i, rfl, i1, i2, .inr ⟨m1.out, by rw [hf.out, ← hs]; exact HP.out, rfl⟩⟩))
  clear hK hb hp HP
  clear hf i1 i2 hneg hn
  have MD : (mode != 1) = false ∨ ((mode != 1) = true ∧ (mode != 2) = false) := by rcases m1.out with rfl | rfl <;> decide
  have U := Up.refl w
  go_enter Tryz.func31, Tryz.ntmps31
  go_wp2_with fail
  refine (CO.out _ L.out.form).mono ?_
  rintro _ W1 ⟨rfl, u1⟩
  replace U := U.trans u1
  clear u1
  go_wp2_with fail
  obtain ⟨V1, hV1⟩ : ∃ V1, W1.alloc (.cells #[.int .i64 f.k, .int .i64 f.W, .int .i64 f.m, .int .i64 f.b, .int .u64 f.t, .int .u64 f.n, .int .u64 f.x] 33) = V1 := ⟨_, rfl⟩
  have C : Bf V1 W1.heap.size 33 f := by rw [← hV1]; exact Bf.mk_ W1 f 33
  have u2 : Up W1 V1 := by rw [← hV1]; exact (Up.refl _).alloc _
  rw [hV1]
  clear hV1
  replace U := U.trans u2
  clear u2
  refine (must_ok _ 0).mono ?_
  rintro _ _ ⟨rfl, rfl⟩
  obtain ⟨c, W2, hcv, S, u3⟩ := conv_str V1 s l hl.out (by omega)
  replace U := U.trans u3
  replace C := C.up u3
  have gC := C.lt
  obtain ⟨g, hg⟩ : ∃ g, V1.heap.size = g := ⟨_, rfl⟩
  rw [hg] at hcv S
  obtain ⟨n, hn⟩ : ∃ n, s.size = n := ⟨_, rfl⟩
  rw [hn] at hcv S hs
  have CS := Lib.hid (SC.out W2 (L.out.up U).er _ n c S (by omega))
  clear S hn hg u3 hl SC hr
  have back : ∀ Q : Prop, ((mode != 1) = false → Q) → ((mode != 1) = true → (mode != 2) = false → Q) → Q := fun Q a b => by rcases MD with e | ⟨e1, e2⟩; exact a e; exact b e1 e2
  clear MD
  refine back _ (fun m0 => ?_) (fun m0 m2 => ?_)
  all_goals clear back
  all_goals
    go_wp2_with fail
    refine CS.out.mono ?_
    rintro _ W3 ⟨A3, n3, c3, xs3, rfl, N3, v3, l3, w3, u3⟩
    have T3 := Lib.hid (wd_nt N3 v3 l3 w3)
    replace U := U.trans u3
    replace C := C.up u3
    clear N3 v3 l3 w3 u3 CS hcv
    go_wp2_with fail
    obtain ⟨V4, hV4⟩ : ∃ V4, W3.alloc (.cells #[.int .i64 1, .bool neg, .slice A3 n3 c3, .int .i64 k, .int .i64 bg, .bool ct] 49) = V4 := ⟨_, rfl⟩
    have R : Ob V4 W3.heap.size 49 #[.int .i64 1, .bool neg, .slice A3 n3 c3, .int .i64 k, .int .i64 bg, .bool ct] := by rw [← hV4]; exact Ob.mk_ _ _ _
    have u4 : Up W3 V4 := by rw [← hV4]; exact (Up.refl _).alloc _
    rw [hV4]
    clear hV4
    replace U := U.trans u4
    replace C := C.up u4
    replace T3 := Lib.hid (T3.out.up u4)
    clear u4
    refine (must_ok _ _).mono ?_
    rintro _ _ ⟨rfl, rfl⟩
    obtain ⟨i0, i1, i2, i3, i4, i5⟩ := R.six
    obtain ⟨a, t, hsz, ha, ht, CN⟩ := numberOf_any V4 1 neg (.slice A3 n3 c3) _ ⟨d, k, bg, ct⟩ ct T3.out HB.out.1 HB.out.2.1 HB.out.2.2
    have CN := Lib.hid CN
    have HSZ := Lib.hid hsz
    have HA := Lib.hid ha
    have HT := Lib.hid ht
    clear hsz ha ht T3 HB
    go_wp2_with fail
    refine CN.out.mono ?_
    rintro _ W5 ⟨v5, rfl, N5, u5⟩
    replace U := U.trans u5
    clear u5 i0 i1 i2 i3 i4 i5 R C
    go_wp2_with fail
    refine (CR.out W5 (L.out.up U).low (L.out.up U).form _ _ a t N5 HA.out HT.out HSZ.out).mono ?_
    rintro _ W6 ⟨rfl, u6⟩
    replace U := U.trans u6
    clear u6 N5 CN CR
    go_wp2_with fail
    refine (must_ok _ _).mono ?_
    rintro _ _ ⟨rfl, rfl⟩
    go_wp2_with fail
    go_ret
    exact ⟨rfl, U⟩
/-- The pattern of a text, or what is panicked with. -/
theorem patternOf_any (w : World) (L : Hid (Lp w)) (ii mode : Int) (s : ByteArray) (l : List UInt8) (hl : Hid (s.data.toList = l)) (hs : s.size ≤ 1000000) (p : Int) (n : Nat) (e : Int) (h : M.Jc ii mode l p n e) :
    Calls Tryz.prog 31 #[.int .i64 ii, .int .i64 mode, .string s] w (Pto p n e w) := by
  have nb : ∀ {x y : Int}, x ≠ y → (x != y) = true := fun h => by simpa using h
  rcases h with ⟨a, rfl, rfl, rfl⟩ | ⟨i, rfl, a, b, ⟨d, rfl, rfl, rfl⟩ | ⟨d, r, j, er, hr, g⟩⟩
  · exact (po_form w ii mode s a).mono fun _ _ g => .inr ⟨by decide, g⟩
  · exact (po_mode w (Lib.hid L.out.form) i _ (Lib.hid rfl) a b mode s (nb fun e => d (.inl e)) (nb fun e => d (.inr e))).mono fun _ _ g => .inr ⟨by decide, g⟩
  · rcases g with ⟨g0, rfl, rfl, rfl⟩ | ⟨rfl, ⟨k1, g⟩ | ⟨k1, g, rfl, rfl⟩⟩
    · rcases M.rs_cases hr with ⟨rfl, _⟩ | ⟨e0, _⟩
      · exact (po_scan w L i _ (Lib.hid rfl) a b mode (Lib.hid d) s l hl hs r n (Lib.hid hr)).mono fun _ _ g => .inr ⟨by decide, g⟩
      · exact absurd e0 g0
    · have hk : 2 ≤ r.kind ∧ r.kind ≤ 4 := by
        rcases M.rs_cases hr with ⟨e0, _⟩ | ⟨_, _, x, hx, rfl⟩
        · exact absurd e0 (by decide)
        · rcases (M.itm_bounds l x hx).2 with ⟨h1, h2, _⟩ | ⟨h1, _⟩ <;> omega
      exact po_word w L i _ (Lib.hid rfl) a b mode (Lib.hid d) s l hl hs r j (Lib.hid hr) hk p n e g
    · exact (po_num w L i _ (Lib.hid rfl) a b mode (Lib.hid d) s l hl hs r j (Lib.hid hr) k1 (M.itm_num hr k1) p g).mono fun _ _ g => .inl ⟨rfl, g⟩
end Go.Proofs.YtbbjlcgfaigmdaaGreatDoor
