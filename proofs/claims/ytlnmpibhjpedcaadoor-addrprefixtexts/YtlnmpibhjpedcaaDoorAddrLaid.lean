/- What the rows' lists give the walks; a world that holds it. -/
import Derived.Test.YtlnmpibhjpedcaaDoorAddrNum
import Derived.Stop.LaidErr
import Derived.Lib.LaidTab
import Derived.Deep.DeepLaidRun
import Derived.LaidLaws
namespace Go.Proofs.YtlnmpibhjpedcaaDoor
open Go.RowKit

theorem gPowType : (Tryd.prog.globals[3]?).map (·.type) = some 99 := by kernel_rfl
theorem gSyn : Tryd.prog.globalNamed "strconv.ErrSyntax" = some 1 := by kernel_rfl
theorem gSynType : (Tryd.prog.globals[1]?).map (·.type) = some 59 := by kernel_rfl
theorem gRan : Tryd.prog.globalNamed "strconv.ErrRange" = some 2 := by kernel_rfl
theorem gRanType : (Tryd.prog.globals[2]?).map (·.type) = some 59 := by kernel_rfl
theorem cells99 : Tryd.prog.cellsOf 99 = 20 := by kernel_rfl
theorem cells84 : Tryd.prog.cellsOf 84 = 1 := by kernel_rfl
theorem cells113 : Tryd.prog.cellsOf 113 = 1 := by kernel_rfl
theorem cells9 : Tryd.prog.cellsOf 9 = 1 := by kernel_rfl
theorem star : "*" ++ "errors.errorString" = "*errors.errorString" := by decide
theorem row111 (u : TypeId) (h : Tryd.prog.typeName? 3 u = some "*errors.errorString") : u = 111 :=
  typeName_ptr_named (nm := "errors.errorString") (by rw [star]; kernel_rfl) (by kernel_rfl) (by decide) u (by rw [star]; exact h)

theorem pow_data : (Rows.laid_internal_strconv_uint64pow10 : DataW Unit) = Lib.tabData .u64 Lib.pow10Tab := by kernel_rfl

theorem laid_of {W : World} (h : laidMetH Tryd.prog Rows.addrCutsRow.laid W) (hs : W.ShapedOpen Tryd.prog) : Laid W := by
  have h0 : laidMet Tryd.prog Rows.addrCutsRow.laid W := h
  have h2 := (laidMet.tail (laidMet.tail h0))
  rw [pow_data] at h2
  have hT := Lib.tabIs_of_head gPow gPowType Tryd.underlying99 Tryd.underlying84 cells84 cells99 h2
  have h4 := (laidMet.tail (laidMet.tail h2))
  obtain ⟨a1, s1, v1, _, _, _⟩ := laid_sentinel h4 gRan gRanType Tryd.underlying59 row111 Tryd.underlying111 Tryd.underlying113 rfl rfl Tryd.underlying9 cells113 cells9
  obtain ⟨a2, s2, v2, _, _, _⟩ := laid_sentinel (laidMet.tail h4) gSyn gSynType Tryd.underlying59 row111 Tryd.underlying111 Tryd.underlying113 rfl rfl Tryd.underlying9 cells113 cells9
  have c1 : W.cell? ⟨2, 0, none⟩ = some (.iface 111 (.pointer (some a1))) := by simpa using World.var?_cell gRan v1 0
  have c2 : W.cell? ⟨1, 0, none⟩ = some (.iface 111 (.pointer (some a2))) := by simpa using World.var?_cell gSyn v2 0
  refine ⟨?_, Tryd.laysM147.s1_3 W hs, ⟨_, _, c2⟩, ⟨_, _, c1⟩, hT⟩
  have := World.block_lt_of_cell? _ _ (hT.cell gPow 0 (by decide))
  exact this

/-- A table's cells. -/
def flat1 : DataW Unit → List Value
  | .lit (.int k n) => [.int k n]
  | _ => []
def flat2 : DataW Unit → List Value
  | .agg m => m.flatMap flat1
  | d => flat1 d
def flat : DataW Unit → Array Value
  | .agg m => (m.flatMap flat2).toArray
  | _ => #[]

abbrev ranS : ByteArray := ⟨#[118, 97, 108, 117, 101, 32, 111, 117, 116, 32, 111, 102, 32, 114, 97, 110, 103, 101]⟩
abbrev synS : ByteArray := ⟨#[105, 110, 118, 97, 108, 105, 100, 32, 115, 121, 110, 116, 97, 120]⟩
noncomputable def low : Nat := (World.holding Tryd.prog default ⟨#[], #[], []⟩).heap.size
def lay (cs : Array Value) : Obj → Obj
  | .cells _ t frozen => .cells cs t frozen
  | o => o
noncomputable def laidWorld (os : Os) : World :=
  let w0 := World.holding Tryd.prog os ⟨#[.cells #[.string ranS] 113, .cells #[.string synS] 113], #[], []⟩
  { w0 with heap := ((((((w0.heap.modify 1 (lay #[.iface 111 (.pointer (some ⟨low + 1, 0, none⟩))])).modify 2 (lay #[.iface 111 (.pointer (some ⟨low, 0, none⟩))])).modify 3 (lay (flat Rows.laid_internal_strconv_uint64pow10))).modify 4 (lay (flat Rows.laid_unicode_utf8_first))).modify 5 (lay (flat Rows.laid_unicode_utf8_acceptRanges))).modify 6 (lay (flat Rows.laid_math_bits_deBruijn32tab))).modify 7 (lay (flat Rows.laid_math_bits_deBruijn64tab)) }

theorem laid_met (os : Os) (args : Array Value) : laidMet Tryd.prog Rows.addrCutsRow.laid ((laidWorld os).forCall (fun _ _ => 0) ⟨#[], args, []⟩).memory :=
  laidMet_of_run3 8 (by kernel_rfl) (by kernel_rfl) (by kernel_rfl)
end Go.Proofs.YtlnmpibhjpedcaaDoor
