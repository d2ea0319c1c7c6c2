/- A rule, a question, a slice of rules, that came in. -/
import Derived.Test.YtagfcfkkjllfpaaRuFirst
namespace Go.Proofs.Ytagfcfkkjllfpaa
open Go.RowKit Go.ChangeShapes Go.WideShapes Go.ChangeAt Go.Deep
set_option linter.unusedVariables false
set_option maxRecDepth 100000
open U

theorem Try.lU32 : Try.prog.cellsOf 23 = 1 := by kernel_rfl
theorem Try.lInt : Try.prog.cellsOf 3 = 1 := by kernel_rfl
theorem Try.lBool : Try.prog.cellsOf 4 = 1 := by kernel_rfl
theorem Try.lPre : Try.prog.cellsOf 32 = 2 := by kernel_rfl
theorem Try.lKey : Try.prog.cellsOf 25 = 5 := by kernel_rfl
theorem Try.lRule : Try.prog.cellsOf 34 = 12 := by kernel_rfl
theorem Try.lAsk : Try.prog.cellsOf 27 = 7 := by kernel_rfl
section
variable {H : Type} {enc : TypeId × Value → H} {W : World} {base b0 : Nat} {spare : Nat → Bool} {held : Bool} {n : Nat} {cs : List Value} {x : DataW H × List MemPlace} {k : Nat}
theorem at_int (h : DataW.trod enc Try.prog W base spare held n 3 ((cs.drop k).take (Try.prog.cellsOf 3)) = some x) : ∃ z, cs[k]? = some (.int .i64 z) ∧ I64 z := by
  rw [Try.lInt] at h
  obtain ⟨z, e, _, w⟩ := DataW.trod_int Try.underlying3 h
  exact ⟨z, one_cell e, bounds_i64 w⟩
theorem at_u32 (h : DataW.trod enc Try.prog W base spare held n 23 ((cs.drop k).take (Try.prog.cellsOf 23)) = some x) : ∃ z : Nat, cs[k]? = some (.int .u32 z) ∧ z < 4294967296 := by
  rw [Try.lU32] at h
  obtain ⟨z, e, _, w⟩ := DataW.trod_int Try.underlying23 h
  have hb := bounds_u32 w
  exact ⟨z.toNat, by rw [one_cell e, show ((z.toNat : Nat) : Int) = z by omega], by omega⟩
theorem at_bool (h : DataW.trod enc Try.prog W base spare held n 4 ((cs.drop k).take (Try.prog.cellsOf 4)) = some x) : ∃ z, cs[k]? = some (.bool z) := by
  rw [Try.lBool] at h
  obtain ⟨z, e, _⟩ := DataW.trod_bool Try.underlying4 h
  exact ⟨z, one_cell e⟩
theorem at_sub {l : List Value} {m j : Nat} {v : Value} (h : ((l.drop k).take m)[j]? = some v) : l[k + j]? = some v := by
  rw [List.getElem?_take] at h
  split at h
  · rwa [List.getElem?_drop] at h
  · cases h
theorem at_pre (h : DataW.trod enc Try.prog W base spare held n 32 ((cs.drop k).take (Try.prog.cellsOf 32)) = some x) : ∃ (a : Nat) (b : Int), cs[k]? = some (.int .u32 a) ∧ cs[k + 1]? = some (.int .i64 b) ∧ a < 4294967296 ∧ I64 b := by
  obtain ⟨xs, n', _, _, hlen, hxl, hf⟩ := DataW.trod_struct Try.underlying32 h
  match xs, hxl with
  | [x0, x1], _ =>
    obtain ⟨a, e0, ha⟩ := at_u32 (k := 0) (hf 0 _ rfl)
    obtain ⟨b, e1, hb⟩ := at_int (k := 1) (hf 1 _ rfl)
    exact ⟨a, b, at_sub e0, at_sub e1, ha, hb⟩
theorem at_key (h : DataW.trod enc Try.prog W base spare held n 25 ((cs.drop k).take (Try.prog.cellsOf 25)) = some x) : ∃ (s d : Nat) (p sp dp : Int), cs[k]? = some (.int .u32 s) ∧ cs[k + 1]? = some (.int .u32 d) ∧ cs[k + 2]? = some (.int .i64 p) ∧ cs[k + 3]? = some (.int .i64 sp) ∧ cs[k + 4]? = some (.int .i64 dp) ∧ s < 4294967296 ∧ d < 4294967296 := by
  obtain ⟨xs, n', _, _, hlen, hxl, hf⟩ := DataW.trod_struct Try.underlying25 h
  match xs, hxl with
  | [x0, x1, x2, x3, x4], _ =>
    obtain ⟨s, e0, hs⟩ := at_u32 (k := 0) (hf 0 _ rfl)
    obtain ⟨d, e1, hd⟩ := at_u32 (k := 1) (hf 1 _ rfl)
    obtain ⟨p, e2, _⟩ := at_int (k := 2) (hf 2 _ rfl)
    obtain ⟨sp, e3, _⟩ := at_int (k := 3) (hf 3 _ rfl)
    obtain ⟨dp, e4, _⟩ := at_int (k := 4) (hf 4 _ rfl)
    exact ⟨s, d, p, sp, dp, at_sub e0, at_sub e1, at_sub e2, at_sub e3, at_sub e4, hs, hd⟩
theorem list_is {l l' : List Value} (hz : l.length = l'.length) (h : ∀ (k : Nat) v, l'[k]? = some v → l[k]? = some v) : l = l' := by
  apply List.ext_getElem? 
  intro k
  cases e : l'[k]? with
  | some v => exact h k v e
  | none =>
    rw [List.getElem?_eq_none_iff] at e ⊢
    omega
theorem ru_cells (hz : cs.length = 12) (h : DataW.trod enc Try.prog W base spare held n 34 cs = some x) : ∃ r : Ru, cs = r.v ∧ r.fine := by
  obtain ⟨xs, n', _, _, hlen, hxl, hf⟩ := DataW.trod_struct Try.underlying34 h
  match xs, hxl with
  | [x0, x1, x2, x3, x4, x5, x6, x7, x8, x9], _ =>
    obtain ⟨i, e0, _⟩ := at_int (k := 0) (hf 0 _ rfl)
    obtain ⟨o, e1, _⟩ := at_int (k := 1) (hf 1 _ rfl)
    obtain ⟨sa, sb, e2, e3, hs, _⟩ := at_pre (k := 2) (hf 2 _ rfl)
    obtain ⟨da, db, e4, e5, hd, _⟩ := at_pre (k := 4) (hf 3 _ rfl)
    obtain ⟨p, e6, _⟩ := at_int (k := 6) (hf 4 _ rfl)
    obtain ⟨slo, e7, _⟩ := at_int (k := 7) (hf 5 _ rfl)
    obtain ⟨shi, e8, _⟩ := at_int (k := 8) (hf 6 _ rfl)
    obtain ⟨dlo, e9, _⟩ := at_int (k := 9) (hf 7 _ rfl)
    obtain ⟨dhi, e10, _⟩ := at_int (k := 10) (hf 8 _ rfl)
    obtain ⟨al, e11⟩ := at_bool (k := 11) (hf 9 _ rfl)
    refine ⟨⟨i, o, sa, sb, da, db, p, slo, shi, dlo, dhi, al⟩, list_is (by rw [hz]; rfl) ?_, hs, hd⟩
    intro k v hv
    match k, hv with
    | 0, hv => rw [e0]; exact hv
    | 1, hv => rw [e1]; exact hv
    | 2, hv => rw [e2]; exact hv
    | 3, hv => rw [e3]; exact hv
    | 4, hv => rw [e4]; exact hv
    | 5, hv => rw [e5]; exact hv
    | 6, hv => rw [e6]; exact hv
    | 7, hv => rw [e7]; exact hv
    | 8, hv => rw [e8]; exact hv
    | 9, hv => rw [e9]; exact hv
    | 10, hv => rw [e10]; exact hv
    | 11, hv => rw [e11]; exact hv
    | k + 12, hv => cases hv
theorem ask_cells (hz : cs.length = 7) (h : DataW.trod enc Try.prog W base spare held n 27 cs = some x) : ∃ a : U.Ask, cs = a.v ∧ (a.s < 4294967296 ∧ a.d < 4294967296) := by
  obtain ⟨xs, n', _, _, hlen, hxl, hf⟩ := DataW.trod_struct Try.underlying27 h
  match xs, hxl with
  | [x0, x1, x2], _ =>
    obtain ⟨i, e0, _⟩ := at_int (k := 0) (hf 0 _ rfl)
    obtain ⟨o, e1, _⟩ := at_int (k := 1) (hf 1 _ rfl)
    obtain ⟨s, d, p, sp, dp, e2, e3, e4, e5, e6, hs, hd⟩ := at_key (k := 2) (hf 2 _ rfl)
    refine ⟨⟨i, o, s, d, p, sp, dp⟩, list_is (by rw [hz]; rfl) ?_, hs, hd⟩
    intro k v hv
    match k, hv with
    | 0, hv => rw [e0]; exact hv
    | 1, hv => rw [e1]; exact hv
    | 2, hv => rw [e2]; exact hv
    | 3, hv => rw [e3]; exact hv
    | 4, hv => rw [e4]; exact hv
    | 5, hv => rw [e5]; exact hv
    | 6, hv => rw [e6]; exact hv
    | k + 7, hv => cases hv
theorem ru_of {r : Reach} {v : Value} {d : DataW H} {p : List MemPlace} (hv : Value.okWide Try.prog W r b0 34 v) (h : DataW.Trod enc Try.prog W base spare held 34 v d p) : ∃ x : Ru, v = .agg x.v.toArray ∧ x.fine := by
  obtain ⟨cs, rfl, hsz⟩ := okWide_struct Try.underlying34 hv
  obtain ⟨fuel, hf0⟩ := h
  obtain ⟨x, e, hx⟩ := ru_cells (cs := cs.toList) (by rw [Array.length_toList, hsz]; exact Try.lRule) hf0
  exact ⟨x, by rw [← e], hx⟩
theorem ask_of {r : Reach} {v : Value} {d : DataW H} {p : List MemPlace} (hv : Value.okWide Try.prog W r b0 27 v) (h : DataW.Trod enc Try.prog W base spare held 27 v d p) : ∃ x : U.Ask, v = .agg x.v.toArray ∧ (x.s < 4294967296 ∧ x.d < 4294967296) := by
  obtain ⟨cs, rfl, hsz⟩ := okWide_struct Try.underlying27 hv
  obtain ⟨fuel, hf0⟩ := h
  obtain ⟨x, e, hx⟩ := ask_cells (cs := cs.toList) (by rw [Array.length_toList, hsz]; exact Try.lAsk) hf0
  exact ⟨x, by rw [← e], hx⟩
theorem rus_of {r : Reach} {v : Value} {d : DataW H} {p : List MemPlace} (hv : Value.okWide Try.prog W r b0 22 v) (h : DataW.Trod enc Try.prog W base spare held 22 v d p) : ∃ (a : Option Addr) (cap : Nat) (l : List Ru), v = .slice a l.length cap ∧ RRow W a l ∧ Fine l ∧ l.length ≤ cap := by
  haveI : Inhabited Ru := ⟨zRu⟩
  obtain ⟨a, cap, l, e, h1, h2, h3, _⟩ := rows_open Ru.v Ru.fine _ _ 12 Try.underlying22 Try.lRule (fun _ => rfl) (by omega) (fun fuel cs x hz hx => ru_cells hz hx) hv h
  exact ⟨a, cap, l, e, h1, h2, h3⟩
end
#print axioms rus_of
end Go.Proofs.Ytagfcfkkjllfpaa
