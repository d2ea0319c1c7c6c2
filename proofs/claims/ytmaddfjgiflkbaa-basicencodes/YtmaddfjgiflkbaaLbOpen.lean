/- A label, and an option, that came in. -/
import Derived.Test.YtmaddfjgiflkbaaOpAt
import Derived.ProofKit
import Derived.OpenShut
import Derived.Deep.Slices
namespace Go.Proofs.Ytmaddfjgiflkbaa
open Go.RowKit Go.ChangeShapes Go.WideShapes Go.ChangeAt Go.Deep
set_option linter.unusedVariables false
set_option maxRecDepth 100000

theorem Try.lByte : Try.prog.cellsOf 5 = 1 := by kernel_rfl
theorem Try.lCats : Try.prog.cellsOf 23 = 30 := by kernel_rfl
theorem Try.lLab : Try.prog.cellsOf 25 = 31 := by kernel_rfl
theorem Try.lInt : Try.prog.cellsOf 3 = 1 := by kernel_rfl
theorem Try.lStr : Try.prog.cellsOf 9 = 1 := by kernel_rfl
theorem Try.lOpt : Try.prog.cellsOf 27 = 2 := by kernel_rfl

theorem lab_bytes (cs : Array Value) (hz : cs.size = 30) (h : ∀ i, i < 30 → ∃ x : Int, cs[i]? = some (.int .u8 x) ∧ 0 ≤ x ∧ x < 256) : ∃ n, cs = C.cv n ∧ n < 2 ^ 240 := by
  let f : Nat → Nat := fun i => match cs[i]? with | some (.int .u8 x) => x.toNat % 256 | _ => 0
  have hf : ∀ i, f i < 256 := fun i => by
    show (match cs[i]? with | some (.int .u8 x) => x.toNat % 256 | _ => 0) < 256
    split
    · exact Nat.mod_lt _ (by decide)
    · decide
  have hcs : cs = C.bv f := by
    apply Array.ext_getElem?
    intro i
    by_cases hi : i < 30
    · obtain ⟨x, hx, h0, h1⟩ := h i hi
      rw [C.bv_get f i hi, hx]
      have : f i = x.toNat % 256 := by show (match cs[i]? with | some (.int .u8 x) => x.toNat % 256 | _ => 0) = _; rw [hx]
      rw [this]
      congr 2
      omega
    · rw [Array.getElem?_eq_none (by omega), Array.getElem?_eq_none (by rw [C.bv_size]; omega)]
  obtain ⟨n, hn, e⟩ := C.cv_of f hf
  exact ⟨n, hcs.trans e, hn⟩

theorem lab_of {H : Type} {enc : TypeId × Value → H} {W : World} {base b0 : Nat} {spare : Nat → Bool} {held : Bool} {r : Reach} {v : Value} {d : DataW H} {p : List MemPlace}
    (hv : Value.okWide Try.prog W r b0 25 v) (h : DataW.Trod enc Try.prog W base spare held 25 v d p) : ∃ (z : Int) (n : Nat), v = .agg (L.lv z n) ∧ n < 2 ^ 240 := by
  simp only [Value.okWide, Try.underlying25] at hv
  obtain ⟨cs, rfl, hsz, _⟩ := hv
  obtain ⟨fuel, hf0⟩ := h
  obtain ⟨xs, n', _, _, hlen, hxl, hf⟩ := DataW.trod_struct Try.underlying25 hf0
  have hz : cs.size = 31 := by rw [hsz]; exact Try.lLab
  have hcl : (Value.agg cs).cells.toList = cs.toList := rfl
  rw [hcl] at hf
  match xs, hxl with
  | [x0, x1], _ =>
    have h0 : DataW.trod enc Try.prog W base spare held n' 3 ((cs.toList.drop 0).take (Try.prog.cellsOf 3)) = some x0 := hf 0 _ rfl
    have h1 : DataW.trod enc Try.prog W base spare held n' 23 ((cs.toList.drop 1).take (Try.prog.cellsOf 23)) = some x1 := hf 1 _ rfl
    rw [Try.lInt] at h0
    rw [Try.lCats] at h1
    obtain ⟨z, e0, _⟩ := DataW.trod_int Try.underlying3 h0
    obtain ⟨ys, m, _, _, hyl, hyx, hfy⟩ := DataW.trod_array Try.underlying23 h1
    have hc0 : cs[0]? = some (.int .i64 z) := by
      have h2 : (cs.toList.drop 0).take 1 = [.int .i64 z] := e0
      have : cs.toList[0]? = some (.int .i64 z) := by
        rw [List.drop_zero] at h2
        have := congrArg (fun l => l[0]?) h2
        simpa [List.getElem?_take] using this
      simpa using this
    obtain ⟨n, hn, hl⟩ := lab_bytes (cs.extract 1 31) (by simp [hz]) (fun i hi => by
      have h2 := hfy i hi
      rw [Try.lByte, Nat.mul_one, List.getElem?_eq_getElem (show i < ys.length by omega)] at h2
      obtain ⟨x, e, _, wx⟩ := DataW.trod_int Try.underlying5 h2
      have hb := bounds_u8 wx
      refine ⟨x, ?_, by omega, by omega⟩
      have e2 := congrArg (fun l => l[0]?) e
      simp only [List.getElem?_take, List.getElem?_drop, List.getElem?_cons_zero] at e2
      rw [Array.getElem?_extract, if_pos (by omega)]
      simpa [hi, show ¬ 30 ≤ i by omega] using e2)
    refine ⟨z, n, ?_, hl⟩
    congr 1
    apply Array.ext_getElem?
    intro i
    by_cases h0 : i = 0
    · subst h0; rw [hc0, L.lv_zero]
    · obtain ⟨j, rfl⟩ : ∃ j, i = 1 + j := ⟨i - 1, by omega⟩
      rw [L.lv_succ, ← hn, Array.getElem?_extract]
      split
      · rfl
      · rw [Array.getElem?_eq_none (by omega)]

theorem opt_of {H : Type} {enc : TypeId × Value → H} {W : World} {base b0 : Nat} {spare : Nat → Bool} {held : Bool} {r : Reach} {v : Value} {d : DataW H} {p : List MemPlace}
    (hv : Value.okWide Try.prog W r b0 27 v) (h : DataW.Trod enc Try.prog W base spare held 27 v d p) : ∃ (k : Int) (s : ByteArray), v = .agg (opv k s) ∧ s.size ≤ maxLen := by
  simp only [Value.okWide, Try.underlying27] at hv
  obtain ⟨cs, rfl, hsz, _⟩ := hv
  obtain ⟨fuel, hf0⟩ := h
  obtain ⟨xs, n', _, _, hlen, hxl, hf⟩ := DataW.trod_struct Try.underlying27 hf0
  have hz : cs.toList.length = 2 := by rw [Array.length_toList, hsz]; exact Try.lOpt
  have hcl : (Value.agg cs).cells.toList = cs.toList := rfl
  rw [hcl] at hf
  obtain ⟨l⟩ := cs
  simp only at hz hf
  match l, hz with
  | [c0, c1], _ =>
    match xs, hxl with
    | [x0, x1], _ =>
      have h0 : DataW.trod enc Try.prog W base spare held n' 3 (([c0, c1].drop 0).take (Try.prog.cellsOf 3)) = some x0 := hf 0 _ rfl
      have h1 : DataW.trod enc Try.prog W base spare held n' 9 (([c0, c1].drop 1).take (Try.prog.cellsOf 9)) = some x1 := hf 1 _ rfl
      rw [Try.lInt] at h0
      rw [Try.lStr] at h1
      obtain ⟨k, e0, _⟩ := DataW.trod_int Try.underlying3 h0
      obtain ⟨s, e1, _, hs⟩ := DataW.trod_string Try.underlying9 h1
      have e0' : c0 = .int .i64 k := by simpa using e0
      have e1' : c1 = .string s := by simpa using e1
      exact ⟨k, s, by rw [e0', e1']; rfl, hs⟩
#print axioms lab_of
#print axioms opt_of
end Go.Proofs.Ytmaddfjgiflkbaa
