/-
  What the rows' condition tells the walks of layer 9: the table of powers, the error; the witness that lays them all, the pinned table too; bytes that came in.
-/
import Derived.Test.YtjmnobgllnaljaaGreatDoorRows
import Derived.Test.YtjmnobgllnaljaaGreatDoorSb
import Derived.Test.YtjmnobgllnaljaaGreatDoorNb
import Derived.Test.YtjmnobgllnaljaaGreatDoorFld
import Derived.Lib.SmallJoins
import Derived.WalkKit
import Derived.ProofKit
import Derived.OpenShut
import Derived.ShutString
import Derived.ChangeOld
import Derived.Below
import Derived.LaidMore
import Derived.Stop.LaidErr
import Derived.Lib.LaidTab
import Derived.Lay
import Derived.LaidOnce
namespace Go.Proofs.YtjmnobgllnaljaaGreatDoor
open Go.ChangeShapes Go.WideShapes Go.ChangeAt Go.RowKit

theorem own_ : ownKnob Tryz.prog.godebug = none := by kernel_rfl
theorem laidOut_ : laidOutB Tryz.prog = true := by kernel_rfl
/-- The variables that the rows name, and what they hold at first. -/
abbrev LstS : List (String × DataW Unit) := [("math/bits.deBruijn32tab", Rows.laid_math_bits_deBruijn32tab), ("math/bits.deBruijn64tab", Rows.laid_math_bits_deBruijn64tab), ("internal/strconv.uint64pow10", Rows.laid_internal_strconv_uint64pow10), ("unicode/utf8.acceptRanges", Rows.laid_unicode_utf8_acceptRanges), ("strconv.ErrRange", Rows.laid_strconv_ErrRange), ("strconv.ErrSyntax", Rows.laid_strconv_ErrSyntax), ("unicode/utf8.first", Rows.laid_unicode_utf8_first)]
theorem gTab : Tryz.prog.globalNamed "internal/strconv.uint64pow10" = some 2 := by kernel_rfl
theorem tTab : (Tryz.prog.globals[2]?).map (·.type) = some 144 := by kernel_rfl
theorem gErr : Tryz.prog.globalNamed "strconv.ErrSyntax" = some 8 := by kernel_rfl
theorem tErr : (Tryz.prog.globals[8]?).map (·.type) = some 94 := by kernel_rfl
theorem star_ : "*" ++ "errors.errorString" = "*errors.errorString" := by decide
theorem rowErr (u : TypeId) (h : Tryz.prog.typeName? 3 u = some "*errors.errorString") : u = 190 :=
  typeName_ptr_named (nm := "errors.errorString") (by rw [star_]; kernel_rfl) (by kernel_rfl) (by decide) u (by rw [star_]; exact h)
theorem tab_is : (Rows.laid_internal_strconv_uint64pow10 : DataW Unit) = Lib.tabData .u64 Lib.pow10Tab := by kernel_rfl
theorem of_laidS {W : World} (h : laidMetH Tryz.prog LstS W) : TabW W ∧ ErrW W := by
  rw [MakeChecks.laidMetH_plain _ _ _ (by kernel_rfl)] at h
  have h2 := h.tail.tail
  have h4 := h2.tail.tail.tail
  refine ⟨?_, ?_⟩
  · rw [tab_is] at h2
    exact Lib.tabIs_of_head gTab tTab Tryz.underlying144 Tryz.underlying37 (by kernel_rfl) (by kernel_rfl) h2
  · obtain ⟨a, s, hv, _⟩ := laid_sentinel h4 gErr tErr Tryz.underlying94 rowErr Tryz.underlying190 Tryz.underlying192 rfl rfl Tryz.underlying9 (by kernel_rfl) (by kernel_rfl)
    exact ⟨_, _, hv⟩
theorem met_all (os : Os) (args : Array Value) : laidMetH Tryz.prog LstS ((World.laidAll Tryz.prog os LstS).forCall (fun _ _ => 0) ⟨#[], args, []⟩).memory := by
  rw [MakeChecks.laidMetH_plain _ _ _ (by kernel_rfl)]
  exact laidMet_laidAll _ (by kernel_rfl) (by kernel_rfl)
theorem IsRow.sb {w : World} {a : Option Addr} {len cap : Nat} {zs : List Int} (h : IsRow .u8 w a len cap zs) : Sb w a len cap ((zs.take len).map fun z => UInt8.ofNat z.toNat) := by
  rcases h with ⟨rfl, rfl, rfl, rfl⟩ | ⟨x, rfl, h1, h2, h3, h4, h5⟩
  · exact Sb.nil0 w
  · refine ⟨by simp; omega, h1, (fun e => by cases e), fun ad e j hj => ?_⟩
    cases e
    have hjl : j < zs.length := by omega
    rw [h4 j hjl]
    have hz := h5 _ (List.getElem_mem hjl)
    have h6 : (0 : Int) ≤ zs[j] ∧ zs[j] ≤ 255 := by simpa [Lit.wf, IntKind.min, IntKind.max, IntKind.signed, IntKind.bits] using hz
    have e1 : ((zs.take len).map fun z => UInt8.ofNat z.toNat).getD j 0 = UInt8.ofNat (zs[j]).toNat := by
      rw [List.getD_eq_getElem?_getD, List.getElem?_map, List.getElem?_take_of_lt hj, List.getElem?_eq_getElem hjl]
      rfl
    have e2 : zs.getD j 0 = zs[j] := by rw [List.getD_eq_getElem?_getD, List.getElem?_eq_getElem hjl]; rfl
    rw [e1, e2]
    have e3 : (UInt8.ofNat (zs[j]).toNat).toNat = (zs[j]).toNat := by
      rw [show (UInt8.ofNat (zs[j]).toNat).toNat = (zs[j]).toNat % 256 from rfl]
      omega
    show some (Value.int .u8 zs[j]) = some (Value.int .u8 ((UInt8.ofNat (zs[j]).toNat).toNat : Int))
    rw [e3]
    congr 2
    omega
end Go.Proofs.YtjmnobgllnaljaaGreatDoor
