/-
  strconv.FormatUint and AppendUint at base 10, strings.Repeat: in the form in which the walks of this seat take them.
-/
import Derived.Test.YtdokioefcfcfnaaDoorLib
import Derived.Shelf.Strconv.AppendUint10
import Derived.Shelf.Strconv.AppendInt10
namespace Go.Proofs.YtdokioefcfcfnaaDoor
open Go.RowKit Go.Shelf Go.Sort

/-- The table of powers of ten that the library reads. -/
abbrev TabW (w : World) : Prop := Lib.TabIs Tryd.prog w "internal/strconv.uint64pow10" .u64 Lib.pow10Tab

/-- A call that makes a string; nothing that was there has turned. -/
def Str (s : ByteArray) (w : World) (e : Ending) (w' : World) : Prop := e = .returned (.string s) ∧ Up w w'

set_option maxHeartbeats 1000000 in
set_option maxRecDepth 100000 in
theorem formatUint_small (w : World) (u : Nat) (hu : u < 100) : Calls Tryd.prog 86 #[u64 u, .int .i64 10] w (Str ⟨(Lib.decDigits u).toArray⟩ w) := by
  go_enter Tryd.func86, Tryd.ntmps86
  go_wp2_with (go_at_call 102; refine (Tryd.internal_strconv_small u hu _).mono ?_; rintro e w' ⟨rfl, rfl⟩)
  go_ret
  exact ⟨rfl, Up.refl _⟩

set_option maxHeartbeats 4000000 in
set_option maxRecDepth 100000 in
theorem formatUint_big (w : World) (u : Nat) (hu : 100 ≤ u) (hu64 : u < 18446744073709551616) (htab : TabW w) :
    Calls Tryd.prog 86 #[u64 u, .int .i64 10] w (Str ⟨(Lib.decDigits u).toArray⟩ w) := by
  have hu1 : 1 ≤ u := by omega
  have hnd20 : Lib.nDigits u ≤ 20 := by have := Lib.numDigits_eq u hu1 hu64; split at this <;> omega
  have hal : Tryd.prog.arrayLen 122 = 24 := by kernel_rfl
  have hsl : ∀ W, (Instr.sliceAt 122 (.pointer (some ⟨w.heap.size, 0, none⟩)) none (some (.int .i64 (Lib.nDigits u : Int))) none).run Tryd.prog W = .ok (.slice (some ⟨w.heap.size, 0, none⟩) (Lib.nDigits u) 24) W := fun W => by
    rw [run_sliceAt_array_h W 122 ⟨w.heap.size, 0, none⟩ (by kernel_rfl) .i64 (Lib.nDigits u : Int) (by omega) (by rw [hal]; omega)]
    go_simp
  have hH0 := Lib.holds_zero0 w 122 (Lib.nDigits u) (by omega)
  have hfmt := Tryd.internal_strconv_formatBase10 w.heap.size 0 24 u (Array.replicate (Lib.nDigits u) 0) (w.alloc (.cells Lib.zeros24 122)) hH0 (by rw [Array.size_replicate]; exact Lib.lt_pow_nDigits u) hu64 (by rw [Array.size_replicate]; omega)
  rw [Array.size_replicate] at hfmt
  have HH0 := Lib.hid hH0
  have iu : (100 : Int) ≤ (u : Int) := by omega
  clear hH0 hal
  go_enter Tryd.func86, Tryd.ntmps86
  go_wp2_with (first
    | (go_at_call 103; refine (Tryd.internal_strconv_numDigits u hu1 hu64 _ (Lib.tabIs_alloc htab _)).mono ?_; rintro e w' ⟨rfl, rfl⟩))
  go_at_call 104
  refine hfmt.mono ?_
  rintro e w' ⟨rfl, k, v', dk, rfl, hF⟩
  have hcv : (convert 83 9 (.slice (some ⟨w.heap.size, 0, none⟩) (Lib.nDigits u) 24)).run Tryd.prog ((putRow (fun (b : UInt8) => Value.int .u8 (b.toNat : Int)) (w.alloc (.cells Lib.zeros24 122)) w.heap.size 0 dk).drewN k) = .ok (.string ⟨(Lib.decDigits u).toArray⟩) ((putRow (fun (b : UInt8) => Value.int .u8 (b.toNat : Int)) (w.alloc (.cells Lib.zeros24 122)) w.heap.size 0 dk).drewN k) := by
    have h := run_convert_bytes_back (P := Tryd.prog) ((putRow (fun (b : UInt8) => Value.int .u8 (b.toNat : Int)) (w.alloc (.cells Lib.zeros24 122)) w.heap.size 0 dk).drewN k) 83 9 5 ⟨w.heap.size, 0, none⟩ 24 (Lib.decDigits u) Tryd.underlying83 Tryd.underlying5 Tryd.underlying9 (fun j hj => by
      rw [Lib.row_is_numeral hF j hj, Lib.add_plain, World.cell?_drewN]
      exact cell?_putRow (fun (b : UInt8) => Value.int .u8 (b.toNat : Int)) _ w.heap.size 0 _ dk HH0.out (by rw [hF.size, Array.size_replicate]) j (by rw [hF.size]; rw [Lib.decDigits_length] at hj; exact hj))
    rw [Lib.decDigits_length] at h
    exact h
  obtain ⟨os, eo⟩ := Lib.fin_at w (.cells Lib.zeros24 122) dk k 0
  have hup : Up w ((putRow (fun (b : UInt8) => Value.int .u8 (b.toNat : Int)) (w.alloc (.cells Lib.zeros24 122)) w.heap.size 0 dk).drewN k) := by rw [eo]; exact Lib.below_grow w.heap.size w (Nat.le_refl _) k os
  generalize (putRow (fun (b : UInt8) => Value.int .u8 (b.toNat : Int)) (w.alloc (.cells Lib.zeros24 122)) w.heap.size 0 dk).drewN k = W2 at hcv hup ⊢
  clear eo HH0 hfmt
  go_wp2
  go_ret
  exact ⟨rfl, hup⟩

set_option maxHeartbeats 1000000 in
theorem formatUint_any (w : World) (u : Nat) (hu64 : u < 18446744073709551616) (htab : TabW w) :
    Calls Tryd.prog 63 #[u64 u, .int .i64 10] w (Str ⟨(Lib.decDigits u).toArray⟩ w) := by
  have cw : Calls Tryd.prog 86 #[u64 u, .int .i64 10] w (Str ⟨(Lib.decDigits u).toArray⟩ w) := by
    rcases Nat.lt_or_ge u 100 with h | h
    · exact formatUint_small w u h
    · exact formatUint_big w u h hu64 htab
  have CW := Lib.hid cw
  clear cw hu64
  go_enter Tryd.func63, Tryd.ntmps63
  go_wp2_with (go_at_call 86; refine CW.out.mono ?_; rintro e w1 ⟨rfl, hu1⟩)
  go_ret
  exact ⟨rfl, hu1⟩

/-- strconv.AppendUint at base 10, onto bytes of the call's own. -/
def ApU (B u n : Nat) (xs : List Value) (w : World) (e : Ending) (w' : World) : Prop := ∃ v', e = .returned v' ∧ w'.ownsRow B 5 1 v' (n + (Lib.decDigits u).length) (xs ++ Lib.byteCells (Lib.decDigits u)) ∧ Below B w w' ∧ Lib.OthersKept 5 none w w'

set_option maxHeartbeats 1000000 in
theorem appendUint_any (B n u : Nat) (hu64 : u < 18446744073709551616) (sv : Value) (xs : List Value) (w : World) (hown : w.ownsRow B 5 1 sv n xs) (hBw : B ≤ w.heap.size) (hlim : n + 20 ≤ 140737488355328) (htab : TabW w) :
    Calls Tryd.prog 62 #[sv, u64 u, .int .i64 10] w (ApU B u n xs w) := by
  have CW := Lib.hid (Tryd.internal_strconv_AppendUint_10 B n u hu64 sv xs w hown hBw hlim htab)
  clear hu64
  go_enter Tryd.func62, Tryd.ntmps62
  go_wp2_with (go_at_call 85; refine CW.out.mono ?_; rintro e w1 ⟨v1, rfl, h1, h2, h3⟩)
  go_ret
  exact ⟨v1, rfl, h1, h2, h3⟩

theorem repeat_any (s : ByteArray) (c : Nat) (w : World) (hc : c ≤ 9223372036854775807) (hlen : s.size * c ≤ 140737488355328) :
    Calls Tryd.prog 64 #[.string s, .int .i64 c] w (Str ⟨(Lib.repeatL s.data.toList c).toArray⟩ w) :=
  (Tryd.strings_Repeat s c w hc hlen).mono fun _ _ ⟨h, k⟩ => ⟨h, k⟩
end Go.Proofs.YtdokioefcfcfnaaDoor
