/- A label, and an option, that came in. -/
import Derived.Test.YtmaddfjgiflkbaaDoorOpAt
import Derived.ProofKit
import Derived.OpenShut
import Derived.Deep.Slices
namespace Go.Proofs.YtmaddfjgiflkbaaDoor
set_option maxRecDepth 100000
open Go.RowKit Go.ChangeShapes Go.WideShapes Go.ChangeAt Go.Deep
set_option linter.unusedVariables false
set_option maxRecDepth 100000

theorem Tryd.lByte : Tryd.prog.cellsOf 5 = 1 := by kernel_rfl
theorem Tryd.lCats : Tryd.prog.cellsOf 23 = 30 := by kernel_rfl
theorem Tryd.lLab : Tryd.prog.cellsOf 39 = 31 := by kernel_rfl
theorem Tryd.lInt : Tryd.prog.cellsOf 3 = 1 := by kernel_rfl
theorem Tryd.lStr : Tryd.prog.cellsOf 9 = 1 := by kernel_rfl
theorem Tryd.lOpt : Tryd.prog.cellsOf 57 = 2 := by kernel_rfl

theorem lab_bytes (cs : Array Value) (hz : cs.size = 30) (h : ∀ i, i < 30 → ∃ x : Int, cs[i]? = some (.int .u8 x) ∧ 0 ≤ x ∧ x < 256) : ∃ n, cs = C.cv n ∧ n < 2 ^ 240 := by
  let f : Nat → Nat := fun i => match cs[i]? with | some (.int .u8 x) => x.toNat % 256 | _ => 0
  have hf : ∀ i, f i < 256 := fun i => by
    show (match cs[i]? with | some (.int .u8 x) => x.toNat % 256 | _ => 0) < 256
    split
    · exact Nat.mod_lt _ (by decide)
    · decide
  have hcs : cs = C.bv f := by
    apply Array.ext_getElem?
    intro i
    by_cases hi : i < 30
    · obtain ⟨x, hx, h0, h1⟩ := h i hi
      rw [C.bv_get f i hi, hx]
      have : f i = x.toNat % 256 := by show (match cs[i]? with | some (.int .u8 x) => x.toNat % 256 | _ => 0) = _; rw [hx]
      rw [this]
      congr 2
      omega
    · rw [Array.getElem?_eq_none (by omega), Array.getElem?_eq_none (by rw [C.bv_size]; omega)]
  obtain ⟨n, hn, e⟩ := C.cv_of f hf
  exact ⟨n, hcs.trans e, hn⟩

theorem lab_of {H : Type} {enc : TypeId × Value → H} {W : World} {base b0 : Nat} {spare : Nat → Bool} {held : Bool} {r : Reach} {v : Value} {d : DataW H} {p : List MemPlace}
    (hv : Value.okWide Tryd.prog W r b0 39 v) (h : DataW.Trod enc Tryd.prog W base spare held 39 v d p) : ∃ (z : Int) (n : Nat), v = .agg (L.lv z n) ∧ n < 2 ^ 240 := by
  simp only [Value.okWide, Tryd.underlying39] at hv
  obtain ⟨cs, rfl, hsz, _⟩ := hv
  obtain ⟨fuel, hf0⟩ := h
  obtain ⟨xs, n', _, _, hlen, hxl, hf⟩ := DataW.trod_struct Tryd.underlying39 hf0
  have hz : cs.size = 31 := by rw [hsz]; exact Tryd.lLab
  have hcl : (Value.agg cs).cells.toList = cs.toList := rfl
  rw [hcl] at hf
  match xs, hxl with
  | [x0, x1], _ =>
    have h0 : DataW.trod enc Tryd.prog W base spare held n' 3 ((cs.toList.drop 0).take (Tryd.prog.cellsOf 3)) = some x0 := hf 0 _ rfl
    have h1 : DataW.trod enc Tryd.prog W base spare held n' 23 ((cs.toList.drop 1).take (Tryd.prog.cellsOf 23)) = some x1 := hf 1 _ rfl
    rw [Tryd.lInt] at h0
    rw [Tryd.lCats] at h1
    obtain ⟨z, e0, _⟩ := DataW.trod_int Tryd.underlying3 h0
    obtain ⟨ys, m, _, _, hyl, hyx, hfy⟩ := DataW.trod_array Tryd.underlying23 h1
    have hc0 : cs[0]? = some (.int .i64 z) := by
      have h2 : (cs.toList.drop 0).take 1 = [.int .i64 z] := e0
      have : cs.toList[0]? = some (.int .i64 z) := by
        rw [List.drop_zero] at h2
        have := congrArg (fun l => l[0]?) h2
        simpa [List.getElem?_take] using this
      simpa using this
    obtain ⟨n, hn, hl⟩ := lab_bytes (cs.extract 1 31) (by simp [hz]) (fun i hi => by
      have h2 := hfy i hi
      rw [Tryd.lByte, Nat.mul_one, List.getElem?_eq_getElem (show i < ys.length by omega)] at h2
      obtain ⟨x, e, _, wx⟩ := DataW.trod_int Tryd.underlying5 h2
      have hb := bounds_u8 wx
      refine ⟨x, ?_, by omega, by omega⟩
      have e2 := congrArg (fun l => l[0]?) e
      simp only [List.getElem?_take, List.getElem?_drop, List.getElem?_cons_zero] at e2
      rw [Array.getElem?_extract, if_pos (by omega)]
      simpa [hi, show ¬ 30 ≤ i by omega] using e2)
    refine ⟨z, n, ?_, hl⟩
    congr 1
    apply Array.ext_getElem?
    intro i
    by_cases h0 : i = 0
    · subst h0; rw [hc0, L.lv_zero]
    · obtain ⟨j, rfl⟩ : ∃ j, i = 1 + j := ⟨i - 1, by omega⟩
      rw [L.lv_succ, ← hn, Array.getElem?_extract]
      split
      · rfl
      · rw [Array.getElem?_eq_none (by omega)]

theorem opt_of {H : Type} {enc : TypeId × Value → H} {W : World} {base b0 : Nat} {spare : Nat → Bool} {held : Bool} {r : Reach} {v : Value} {d : DataW H} {p : List MemPlace}
    (hv : Value.okWide Tryd.prog W r b0 57 v) (h : DataW.Trod enc Tryd.prog W base spare held 57 v d p) : ∃ (k : Int) (s : ByteArray), v = .agg (opv k s) ∧ s.size ≤ maxLen := by
  simp only [Value.okWide, Tryd.underlying57] at hv
  obtain ⟨cs, rfl, hsz, _⟩ := hv
  obtain ⟨fuel, hf0⟩ := h
  obtain ⟨xs, n', _, _, hlen, hxl, hf⟩ := DataW.trod_struct Tryd.underlying57 hf0
  have hz : cs.toList.length = 2 := by rw [Array.length_toList, hsz]; exact Tryd.lOpt
  have hcl : (Value.agg cs).cells.toList = cs.toList := rfl
  rw [hcl] at hf
  obtain ⟨l⟩ := cs
  simp only at hz hf
  match l, hz with
  | [c0, c1], _ =>
    match xs, hxl with
    | [x0, x1], _ =>
      have h0 : DataW.trod enc Tryd.prog W base spare held n' 3 (([c0, c1].drop 0).take (Tryd.prog.cellsOf 3)) = some x0 := hf 0 _ rfl
      have h1 : DataW.trod enc Tryd.prog W base spare held n' 9 (([c0, c1].drop 1).take (Tryd.prog.cellsOf 9)) = some x1 := hf 1 _ rfl
      rw [Tryd.lInt] at h0
      rw [Tryd.lStr] at h1
      obtain ⟨k, e0, _⟩ := DataW.trod_int Tryd.underlying3 h0
      obtain ⟨s, e1, _, hs⟩ := DataW.trod_string Tryd.underlying9 h1
      have e0' : c0 = .int .i64 k := by simpa using e0
      have e1' : c1 = .string s := by simpa using e1
      exact ⟨k, s, by rw [e0', e1']; rfl, hs⟩
#print axioms lab_of
#print axioms opt_of
end Go.Proofs.YtmaddfjgiflkbaaDoor
