/- What the rows' lists give the walks of texts; a world that holds it. -/
import Derived.Test.YtmaddfjgiflkbaaDoorCtCat
import Derived.Test.YtmaddfjgiflkbaaDoorRows
import Derived.Test.YtmaddfjgiflkbaaDoorLbOpen
import Derived.Stop.LaidErr
import Derived.Lib.LaidTab
import Derived.Deep.DeepLaidRun
import Derived.LaidLaws
namespace Go.Proofs.YtmaddfjgiflkbaaDoor
set_option maxRecDepth 100000
open Go.RowKit Go.ChangeShapes Go.WideShapes Go.ChangeAt Go.Deep
set_option linter.unusedVariables false
set_option maxRecDepth 100000
namespace Tx
theorem gPowType : (Tryd.prog.globals[3]?).map (·.type) = some 178 := by kernel_rfl
theorem gSyn : Tryd.prog.globalNamed "strconv.ErrSyntax" = some 1 := by kernel_rfl
theorem gSynType : (Tryd.prog.globals[1]?).map (·.type) = some 93 := by kernel_rfl
theorem gRan : Tryd.prog.globalNamed "strconv.ErrRange" = some 2 := by kernel_rfl
theorem gRanType : (Tryd.prog.globals[2]?).map (·.type) = some 93 := by kernel_rfl
theorem cellsPow : Tryd.prog.cellsOf 178 = 20 := by kernel_rfl
theorem cellsU64 : Tryd.prog.cellsOf 150 = 1 := by kernel_rfl
theorem cellsErr : Tryd.prog.cellsOf 187 = 1 := by kernel_rfl
theorem cellsStr : Tryd.prog.cellsOf 9 = 1 := by kernel_rfl
theorem star : "*" ++ "errors.errorString" = "*errors.errorString" := by decide
theorem rowErr (u : TypeId) (h : Tryd.prog.typeName? 3 u = some "*errors.errorString") : u = 185 :=
  typeName_ptr_named (nm := "errors.errorString") (by rw [star]; kernel_rfl) (by kernel_rfl) (by decide) u (by rw [star]; exact h)
theorem pow_data : (Rows.laid_internal_strconv_uint64pow10 : DataW Unit) = Lib.tabData .u64 Lib.pow10Tab := by kernel_rfl

theorem laid_of {W : World} (h : laidMetH Tryd.prog Rows.catsTextsRow.laid W) (hs : W.ShapedOpen Tryd.prog) : LaidF W := by
  have h0 : laidMet Tryd.prog Rows.catsTextsRow.laid W := h
  have h2 := (laidMet.tail (laidMet.tail h0))
  rw [pow_data] at h2
  have hT := Lib.tabIs_of_head gPow gPowType Tryd.underlying178 Tryd.underlying150 cellsU64 cellsPow h2
  have h4 := (laidMet.tail (laidMet.tail h2))
  obtain ⟨a1, s1, v1, _, _, _⟩ := laid_sentinel h4 gRan gRanType Tryd.underlying93 rowErr Tryd.underlying185 Tryd.underlying187 rfl rfl Tryd.underlying9 cellsErr cellsStr
  obtain ⟨a2, s2, v2, _, _, _⟩ := laid_sentinel (laidMet.tail h4) gSyn gSynType Tryd.underlying93 rowErr Tryd.underlying185 Tryd.underlying187 rfl rfl Tryd.underlying9 cellsErr cellsStr
  have c1 : W.cell? ⟨2, 0, none⟩ = some (.iface 185 (.pointer (some a1))) := by simpa using World.var?_cell gRan v1 0
  have c2 : W.cell? ⟨1, 0, none⟩ = some (.iface 185 (.pointer (some a2))) := by simpa using World.var?_cell gSyn v2 0
  exact ⟨⟨World.block_lt_of_cell? _ _ (hT.cell gPow 0 (by decide)), hT⟩, Tryd.laysM147.s1_3 W hs, ⟨_, _, c2⟩, ⟨_, _, c1⟩⟩

/-- A table's cells. -/
def flat1 : DataW Unit → List Value
  | .lit (.int k n) => [.int k n]
  | _ => []
def flat2 : DataW Unit → List Value
  | .agg m => m.flatMap flat1
  | d => flat1 d
def flat : DataW Unit → Array Value
  | .agg m => (m.flatMap flat2).toArray
  | _ => #[]
abbrev ranS : ByteArray := ⟨#[118, 97, 108, 117, 101, 32, 111, 117, 116, 32, 111, 102, 32, 114, 97, 110, 103, 101]⟩
abbrev synS : ByteArray := ⟨#[105, 110, 118, 97, 108, 105, 100, 32, 115, 121, 110, 116, 97, 120]⟩
noncomputable def low : Nat := (World.holding Tryd.prog default ⟨#[], #[], []⟩).heap.size
def lay (cs : Array Value) : Obj → Obj
  | .cells _ t frozen => .cells cs t frozen
  | o => o
end Tx
noncomputable def laidWorld (os : Os) : World :=
  let w0 := World.holding Tryd.prog os ⟨#[.cells #[.string Tx.ranS] 187, .cells #[.string Tx.synS] 187], #[], []⟩
  { w0 with heap := ((((((w0.heap.modify 1 (Tx.lay #[.iface 185 (.pointer (some ⟨Tx.low + 1, 0, none⟩))])).modify 2 (Tx.lay #[.iface 185 (.pointer (some ⟨Tx.low, 0, none⟩))])).modify 3 (Tx.lay (Tx.flat Rows.laid_internal_strconv_uint64pow10))).modify 4 (Tx.lay (Tx.flat Rows.laid_unicode_utf8_first))).modify 5 (Tx.lay (Tx.flat Rows.laid_unicode_utf8_acceptRanges))).modify 6 (Tx.lay (Tx.flat Rows.laid_math_bits_deBruijn32tab))).modify 7 (Tx.lay (Tx.flat Rows.laid_math_bits_deBruijn64tab)) }
theorem laid_met (os : Os) (args : Array Value) : laidMet Tryd.prog Rows.catsTextsRow.laid ((laidWorld os).forCall (fun _ _ => 0) ⟨#[], args, []⟩).memory :=
  laidMet_of_run3 8 (by kernel_rfl) (by kernel_rfl) (by kernel_rfl)

theorem cats_of {H : Type} {enc : TypeId × Value → H} {W : World} {base b0 : Nat} {spare : Nat → Bool} {held : Bool} {r : Reach} {v : Value} {d : DataW H} {p : List MemPlace}
    (hv : Value.okWide Tryd.prog W r b0 23 v) (h : DataW.Trod enc Tryd.prog W base spare held 23 v d p) : ∃ n : Nat, v = .agg (C.cv n) ∧ n < 2 ^ 240 := by
  simp only [Value.okWide, Tryd.underlying23] at hv
  obtain ⟨cs, rfl, hsz, _⟩ := hv
  obtain ⟨fuel, hf0⟩ := h
  obtain ⟨xs, m, _, _, hlen, hxl, hf⟩ := DataW.trod_array Tryd.underlying23 hf0
  have hz : cs.size = 30 := by rw [hsz]; exact Tryd.lCats
  obtain ⟨n, hn, hl⟩ := lab_bytes cs hz (fun i hi => by
    have h1 := hf i hi
    rw [Tryd.lByte, Nat.mul_one, List.getElem?_eq_getElem (show i < xs.length by omega)] at h1
    obtain ⟨x, e, _, w⟩ := DataW.trod_int Tryd.underlying5 h1
    have hb := bounds_u8 w
    refine ⟨x, ?_, by omega, by omega⟩
    have hi' : i < cs.toList.length := by rw [Array.length_toList]; omega
    have e2 : (Value.agg cs).cells.toList = cs.toList := rfl
    rw [e2, List.drop_eq_getElem_cons hi', List.take_succ_cons, List.take_zero] at e
    have e3 : cs.toList[i] = .int .u8 x := by simpa using e
    rw [← e3]
    simp [show i < cs.size by omega])
  exact ⟨n, by rw [hn], hl⟩
#print axioms laid_met
end Go.Proofs.YtmaddfjgiflkbaaDoor
