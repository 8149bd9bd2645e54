/-
  Layer 9's laws: of: its contract; bytes of a text.
-/
import Derived.Test.YtpmpdecaadfnmaaDoorSq
import Derived.Test.YtpmpdecaadfnmaaDoorSr1
import Derived.Lib.ConvBytes
namespace Go.Proofs.YtpmpdecaadfnmaaDoor
open Go.RowKit Go.Shelf
set_option linter.unusedVariables false

/-- An item is told. -/
def Ofi (r : M.It) (w : World) (e : Ending) (w' : World) : Prop := ∃ v, e = .returned (itv (r.kind : Int) r.neg v r.n.k r.n.big r.n.cut) ∧ Nt w' w.heap.size 2001 v r.n.d ∧ Up w w'
theorem conv_str (w : World) (s : ByteArray) (l : List UInt8) (hl : s.data.toList = l) (_hs : s.size ≤ 100000000) :
    ∃ c W, (convert 9 22 (.string s)).run Tryd.prog w = .ok (.slice (some ⟨w.heap.size, 0, none⟩) s.size c) W ∧ Sb W (some ⟨w.heap.size, 0, none⟩) s.size c l ∧ Up w W := by
  refine ⟨grownCap w s.size 0 5, Lib.bytesWorld w 5 s, Lib.run_convert_string_bytes w 9 22 5 s Tryd.underlying9 Tryd.underlying22 Tryd.underlying5, ?_, ?_⟩
  · refine ⟨by rw [← hl]; exact Array.length_toList, grownCap_ge w _ 0 5, (fun e => by cases e), fun ad e j hj => ?_⟩
    cases e
    rw [Addr.add_lit, Nat.zero_add, Lib.bytesWorld_cell w 5 s j hj, hl]
  · exact ⟨rfl, rfl, rfl, by show w.heap.size ≤ _; rw [Lib.bytesWorld_size]; omega, fun k hk => Lib.bytesWorld_at_old w 5 s k hk⟩
set_option maxHeartbeats 8000000 in
set_option maxRecDepth 100000 in
theorem of_text (w : World) (EW : Hid (ErrW w)) (s : ByteArray) (l : List UInt8) (hl : Hid (s.data.toList = l)) (hs : s.size ≤ 1000000) (r : M.It) (i : Nat) (er : Int) (hr : Hid (M.rs l = (r, i, er))) :
    Calls Tryd.prog 12 #[.string s] w (Ofi r w) := by
  have U := Up.refl w
  go_enter Tryd.func12, Tryd.ntmps12
  go_upto_region 1 with fail
  obtain ⟨V1, hV1⟩ : ∃ V1, w.alloc (.cells #[.int .i64 0, .bool false, .slice none 0 0, .int .i64 0, .int .i64 0, .bool false] 27) = V1 := ⟨_, rfl⟩
  have R : Ob V1 w.heap.size 27 #[.int .i64 0, .bool false, .slice none 0 0, .int .i64 0, .int .i64 0, .bool false] := by rw [← hV1]; exact Ob.mk_ _ _ _
  replace U : Up w V1 := by rw [← hV1]; exact U.alloc _
  rw [hV1]
  clear hV1
  obtain ⟨c, W, hcv, S, uW⟩ := conv_str V1 s l hl.out (by omega)
  replace U := U.trans uW
  replace R := R.up uW
  have gR := R.lt
  obtain ⟨g, hg⟩ : ∃ g, V1.heap.size = g := ⟨_, rfl⟩
  rw [hg] at hcv S
  obtain ⟨n, hn⟩ : ∃ n, s.size = n := ⟨_, rfl⟩
  rw [hn] at hcv S hs
  have CS := Lib.hid (scan_any W (Lib.hid (EW.out.up U)) _ n c l S (by omega) r i er hr)
  clear hr S hn hg uW hl
  go_wp2_with fail
  refine CS.out.mono ?_
  rintro _ V2 ⟨v2, rfl, ⟨A2, n2, c2, ys2, rfl, N2⟩, u2⟩
  replace U := U.trans u2
  replace R := R.up u2
  replace N2 : Nt V2 W.heap.size 2001 (.slice A2 n2 c2) r.n.d := ⟨_, _, _, _, rfl, N2⟩
  obtain ⟨K, hK⟩ : ∃ K : Int, (r.kind : Int) = K := ⟨_, rfl⟩
  obtain ⟨ng, hng⟩ : ∃ ng, r.neg = ng := ⟨_, rfl⟩
  obtain ⟨kk, hkk⟩ : ∃ kk, r.n.k = kk := ⟨_, rfl⟩
  obtain ⟨bg, hbg⟩ : ∃ bg, r.n.big = bg := ⟨_, rfl⟩
  obtain ⟨ct, hct⟩ : ∃ ct, r.n.cut = ct := ⟨_, rfl⟩
  rw [hK, hng, hkk, hbg, hct]
  have HK := Lib.hid hK
  have HNG := Lib.hid hng
  have HKK := Lib.hid hkk
  have HBG := Lib.hid hbg
  have HCT := Lib.hid hct
  clear hK hng hkk hbg hct CS u2 hcv
  have g2 : w.heap.size < V2.heap.size := R.lt
  go_upto_region 2 with (refine store_ob rfl 27 (.tmp 3) (.tmp 10) rfl _ #[.int .i64 0, .bool false, .slice none 0 0, .int .i64 0, .int .i64 0, .bool false] #[.int .i64 K, .bool ng, .slice A2 n2 c2, .int .i64 kk, .int .i64 bg, .bool ct] rfl rfl 6 (by kernel_rfl) rfl rfl (by simp [Value.oneCell']) V2 ((Up.refl _).alloc _) (Nat.le_refl _) 27 (Ob.mk_ _ _ _) ?_; intro V3 P u3)
  replace U := U.trans u3
  replace R := R.up u3
  replace N2 := N2.up u3
  clear u3
  obtain ⟨p0, p1, p2, p3, p4, p5⟩ := P.six
  go_wp2_with (refine store_ob2 rfl 27 (.tmp 2) (.tmp 13) rfl _ #[.int .i64 0, .bool false, .slice none 0 0, .int .i64 0, .int .i64 0, .bool false] #[.int .i64 K, .bool ng, .slice A2 n2 c2, .int .i64 kk, .int .i64 bg, .bool ct] rfl rfl 6 (by kernel_rfl) rfl rfl (by simp [Value.oneCell']) w U (Nat.le_refl _) 27 R ?_; clear U; intro V9 Z9 U ho)
  obtain ⟨z0, z1, z2, z3, z4, z5⟩ := Z9.six
  refine bodyPost_ret (v := itv K ng (.slice A2 n2 c2) kk bg ct) (by simp [results, Tryd.results12, go_sem, z0, z1, z2, z3, z4, z5]) rfl ?_
  refine ⟨_, ?_, (N2.other ho gR).lower (by omega), U⟩
  rw [HK.out, HNG.out, HKK.out, HBG.out, HCT.out]
end Go.Proofs.YtpmpdecaadfnmaaDoor
