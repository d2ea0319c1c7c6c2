/- A set that came in; what the rows list, and a world that holds it. -/
import Derived.Test.YtmaddfjgiflkbaaDoorCtText
import Derived.Test.YtmaddfjgiflkbaaDoorRows
import Derived.ProofKit
import Derived.OpenShut
import Derived.Deep.Slices
import Derived.Stop.LaidErr
import Derived.Lib.LaidTab
import Derived.Deep.DeepLaidRun
import Derived.LaidLaws
namespace Go.Proofs.YtmaddfjgiflkbaaDoor
set_option maxRecDepth 100000
open Go.RowKit Go.ChangeShapes Go.WideShapes Go.ChangeAt Go.Deep
set_option linter.unusedVariables false
set_option maxRecDepth 100000

theorem Tryd.cByte : Tryd.prog.cellsOf 5 = 1 := by kernel_rfl
theorem Tryd.cCats : Tryd.prog.cellsOf 23 = 30 := by kernel_rfl

theorem bv_of_cells (cs : Array Value) (hz : cs.size = 30) (h : ∀ i, i < 30 → ∃ x : Int, cs[i]? = some (.int .u8 x) ∧ 0 ≤ x ∧ x < 256) : ∃ n, cs = C.cv n ∧ n < 2 ^ 240 := by
  let f : Nat → Nat := fun i => match cs[i]? with | some (.int .u8 x) => x.toNat % 256 | _ => 0
  have hf : ∀ i, f i < 256 := fun i => by
    show (match cs[i]? with | some (.int .u8 x) => x.toNat % 256 | _ => 0) < 256
    split
    · exact Nat.mod_lt _ (by decide)
    · decide
  have hcs : cs = C.bv f := by
    apply Array.ext_getElem?
    intro i
    by_cases hi : i < 30
    · obtain ⟨x, hx, h0, h1⟩ := h i hi
      rw [C.bv_get f i hi, hx]
      have : f i = x.toNat % 256 := by show (match cs[i]? with | some (.int .u8 x) => x.toNat % 256 | _ => 0) = _; rw [hx]
      rw [this]
      congr 2
      omega
    · rw [Array.getElem?_eq_none (by omega), Array.getElem?_eq_none (by rw [C.bv_size]; omega)]
  obtain ⟨n, hn, e⟩ := C.cv_of f hf
  exact ⟨n, hcs.trans e, hn⟩

theorem cats_of {H : Type} {enc : TypeId × Value → H} {W : World} {base b0 : Nat} {spare : Nat → Bool} {held : Bool} {r : Reach} {v : Value} {d : DataW H} {p : List MemPlace}
    (hv : Value.okWide Tryd.prog W r b0 23 v) (h : DataW.Trod enc Tryd.prog W base spare held 23 v d p) : ∃ n : Nat, v = .agg (C.cv n) ∧ n < 2 ^ 240 := by
  simp only [Value.okWide, Tryd.underlying23] at hv
  obtain ⟨cs, rfl, hsz, _⟩ := hv
  obtain ⟨fuel, hf0⟩ := h
  obtain ⟨xs, m, _, _, hlen, hxl, hf⟩ := DataW.trod_array Tryd.underlying23 hf0
  have hz : cs.size = 30 := by rw [hsz]; exact Tryd.cCats
  obtain ⟨n, hn, hl⟩ := bv_of_cells cs hz (fun i hi => by
    have h1 := hf i hi
    rw [Tryd.cByte, Nat.mul_one, List.getElem?_eq_getElem (show i < xs.length by omega)] at h1
    obtain ⟨x, e, _, w⟩ := DataW.trod_int Tryd.underlying5 h1
    have hb := bounds_u8 w
    refine ⟨x, ?_, by omega, by omega⟩
    have hi' : i < cs.toList.length := by rw [Array.length_toList]; omega
    have e2 : (Value.agg cs).cells.toList = cs.toList := rfl
    rw [e2, List.drop_eq_getElem_cons hi', List.take_succ_cons, List.take_zero] at e
    have e3 : cs.toList[i] = .int .u8 x := by simpa using e
    rw [← e3]
    simp [show i < cs.size by omega])
  exact ⟨n, by rw [hn], hl⟩

theorem gPowType : (Tryd.prog.globals[3]?).map (·.type) = some 178 := by kernel_rfl
theorem cellsPow : Tryd.prog.cellsOf 178 = 20 := by kernel_rfl
theorem cellsU64 : Tryd.prog.cellsOf 150 = 1 := by kernel_rfl
theorem pow_data : (Rows.laid_internal_strconv_uint64pow10 : DataW Unit) = Lib.tabData .u64 Lib.pow10Tab := by kernel_rfl
theorem tab_of {W : World} (h : laidMetH Tryd.prog [("math/bits.deBruijn32tab", Rows.laid_math_bits_deBruijn32tab), ("math/bits.deBruijn64tab", Rows.laid_math_bits_deBruijn64tab), ("internal/strconv.uint64pow10", Rows.laid_internal_strconv_uint64pow10)] W) : TabL W := by
  have h0 : laidMet Tryd.prog _ W := h
  have h2 := (laidMet.tail (laidMet.tail h0))
  rw [pow_data] at h2
  have hT := Lib.tabIs_of_head gPow gPowType Tryd.underlying178 Tryd.underlying150 cellsU64 cellsPow h2
  exact ⟨World.block_lt_of_cell? _ _ (hT.cell gPow 0 (by decide)), hT⟩

/-- A table's cells. -/
def flat1 : DataW Unit → List Value
  | .lit (.int k n) => [.int k n]
  | _ => []
def flat : DataW Unit → Array Value
  | .agg m => (m.flatMap flat1).toArray
  | _ => #[]
def lay (cs : Array Value) : Obj → Obj
  | .cells _ t frozen => .cells cs t frozen
  | o => o
noncomputable def laidWorld (os : Os) : World :=
  let w0 := World.holding Tryd.prog os ⟨#[], #[], []⟩
  { w0 with heap := ((w0.heap.modify 3 (lay (flat Rows.laid_internal_strconv_uint64pow10))).modify 6 (lay (flat Rows.laid_math_bits_deBruijn32tab))).modify 7 (lay (flat Rows.laid_math_bits_deBruijn64tab)) }
theorem laid_met (os : Os) (args : Array Value) : laidMet Tryd.prog [("math/bits.deBruijn32tab", Rows.laid_math_bits_deBruijn32tab), ("math/bits.deBruijn64tab", Rows.laid_math_bits_deBruijn64tab), ("internal/strconv.uint64pow10", Rows.laid_internal_strconv_uint64pow10)] ((laidWorld os).forCall (fun _ _ => 0) ⟨#[], args, []⟩).memory :=
  laidMet_of_run3 8 (by kernel_rfl) (by kernel_rfl) (by kernel_rfl)
#print axioms cats_of
#print axioms laid_met
end Go.Proofs.YtmaddfjgiflkbaaDoor
