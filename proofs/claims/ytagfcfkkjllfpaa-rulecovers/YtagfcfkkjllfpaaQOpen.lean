/- Numbers, bools, prefixes, keys within what came in. -/
import Derived.Test.YtagfcfkkjllfpaaQRows
namespace Go.Proofs.Ytagfcfkkjllfpaa
open Go.RowKit Go.ChangeShapes Go.WideShapes Go.ChangeAt Go.Deep
set_option linter.unusedVariables false
set_option maxRecDepth 100000

theorem Try.lU32 : Try.prog.cellsOf 23 = 1 := by kernel_rfl
theorem Try.lInt : Try.prog.cellsOf 3 = 1 := by kernel_rfl
theorem Try.lBool : Try.prog.cellsOf 4 = 1 := by kernel_rfl
theorem Try.lPre : Try.prog.cellsOf 32 = 2 := by kernel_rfl
theorem Try.lKey : Try.prog.cellsOf 25 = 5 := by kernel_rfl
section
variable {H : Type} {enc : TypeId × Value → H} {W : World} {base b0 : Nat} {spare : Nat → Bool} {held : Bool} {n : Nat} {cs : List Value} {x : DataW H × List MemPlace} {k : Nat}
theorem at_int (h : DataW.trod enc Try.prog W base spare held n 3 ((cs.drop k).take (Try.prog.cellsOf 3)) = some x) : ∃ z, cs[k]? = some (.int .i64 z) ∧ I64 z := by
  rw [Try.lInt] at h
  obtain ⟨z, e, _, w⟩ := DataW.trod_int Try.underlying3 h
  exact ⟨z, one_cell e, bounds_i64 w⟩
theorem at_u32 (h : DataW.trod enc Try.prog W base spare held n 23 ((cs.drop k).take (Try.prog.cellsOf 23)) = some x) : ∃ z : Nat, cs[k]? = some (.int .u32 z) ∧ z < 4294967296 := by
  rw [Try.lU32] at h
  obtain ⟨z, e, _, w⟩ := DataW.trod_int Try.underlying23 h
  have hb := bounds_u32 w
  exact ⟨z.toNat, by rw [one_cell e, show ((z.toNat : Nat) : Int) = z by omega], by omega⟩
theorem at_bool (h : DataW.trod enc Try.prog W base spare held n 4 ((cs.drop k).take (Try.prog.cellsOf 4)) = some x) : ∃ z, cs[k]? = some (.bool z) := by
  rw [Try.lBool] at h
  obtain ⟨z, e, _⟩ := DataW.trod_bool Try.underlying4 h
  exact ⟨z, one_cell e⟩
theorem at_sub {l : List Value} {m j : Nat} {v : Value} (h : ((l.drop k).take m)[j]? = some v) : l[k + j]? = some v := by
  rw [List.getElem?_take] at h
  split at h
  · rwa [List.getElem?_drop] at h
  · cases h
theorem at_pre (h : DataW.trod enc Try.prog W base spare held n 32 ((cs.drop k).take (Try.prog.cellsOf 32)) = some x) : ∃ (a : Nat) (b : Int), cs[k]? = some (.int .u32 a) ∧ cs[k + 1]? = some (.int .i64 b) ∧ a < 4294967296 ∧ I64 b := by
  obtain ⟨xs, n', _, _, hlen, hxl, hf⟩ := DataW.trod_struct Try.underlying32 h
  match xs, hxl with
  | [x0, x1], _ =>
    obtain ⟨a, e0, ha⟩ := at_u32 (k := 0) (hf 0 _ rfl)
    obtain ⟨b, e1, hb⟩ := at_int (k := 1) (hf 1 _ rfl)
    exact ⟨a, b, at_sub e0, at_sub e1, ha, hb⟩
theorem at_key (h : DataW.trod enc Try.prog W base spare held n 25 ((cs.drop k).take (Try.prog.cellsOf 25)) = some x) : ∃ (s d : Nat) (p sp dp : Int), cs[k]? = some (.int .u32 s) ∧ cs[k + 1]? = some (.int .u32 d) ∧ cs[k + 2]? = some (.int .i64 p) ∧ cs[k + 3]? = some (.int .i64 sp) ∧ cs[k + 4]? = some (.int .i64 dp) ∧ s < 4294967296 ∧ d < 4294967296 := by
  obtain ⟨xs, n', _, _, hlen, hxl, hf⟩ := DataW.trod_struct Try.underlying25 h
  match xs, hxl with
  | [x0, x1, x2, x3, x4], _ =>
    obtain ⟨s, e0, hs⟩ := at_u32 (k := 0) (hf 0 _ rfl)
    obtain ⟨d, e1, hd⟩ := at_u32 (k := 1) (hf 1 _ rfl)
    obtain ⟨p, e2, _⟩ := at_int (k := 2) (hf 2 _ rfl)
    obtain ⟨sp, e3, _⟩ := at_int (k := 3) (hf 3 _ rfl)
    obtain ⟨dp, e4, _⟩ := at_int (k := 4) (hf 4 _ rfl)
    exact ⟨s, d, p, sp, dp, at_sub e0, at_sub e1, at_sub e2, at_sub e3, at_sub e4, hs, hd⟩
theorem list_is {l l' : List Value} (hz : l.length = l'.length) (h : ∀ (k : Nat) v, l'[k]? = some v → l[k]? = some v) : l = l' := by
  apply List.ext_getElem? 
  intro k
  cases e : l'[k]? with
  | some v => exact h k v e
  | none =>
    rw [List.getElem?_eq_none_iff] at e ⊢
    omega
end
end Go.Proofs.Ytagfcfkkjllfpaa
