/- A rule, a question, a slice of rules, that came in. -/
import Derived.Test.YtagfcfkkjllfpaaRuFirst
import Derived.Test.YtagfcfkkjllfpaaQOpen
namespace Go.Proofs.Ytagfcfkkjllfpaa
open Go.RowKit Go.ChangeShapes Go.WideShapes Go.ChangeAt Go.Deep
set_option linter.unusedVariables false
set_option maxRecDepth 100000
open U

theorem Try.lRule : Try.prog.cellsOf 34 = 12 := by kernel_rfl
theorem Try.lAsk : Try.prog.cellsOf 27 = 7 := by kernel_rfl
section
variable {H : Type} {enc : TypeId × Value → H} {W : World} {base b0 : Nat} {spare : Nat → Bool} {held : Bool} {n : Nat} {cs : List Value} {x : DataW H × List MemPlace} {k : Nat}
theorem ru_cells (hz : cs.length = 12) (h : DataW.trod enc Try.prog W base spare held n 34 cs = some x) : ∃ r : Ru, cs = r.v ∧ r.fine := by
  obtain ⟨xs, n', _, _, hlen, hxl, hf⟩ := DataW.trod_struct Try.underlying34 h
  match xs, hxl with
  | [x0, x1, x2, x3, x4, x5, x6, x7, x8, x9], _ =>
    obtain ⟨i, e0, _⟩ := at_int (k := 0) (hf 0 _ rfl)
    obtain ⟨o, e1, _⟩ := at_int (k := 1) (hf 1 _ rfl)
    obtain ⟨sa, sb, e2, e3, hs, _⟩ := at_pre (k := 2) (hf 2 _ rfl)
    obtain ⟨da, db, e4, e5, hd, _⟩ := at_pre (k := 4) (hf 3 _ rfl)
    obtain ⟨p, e6, _⟩ := at_int (k := 6) (hf 4 _ rfl)
    obtain ⟨slo, e7, _⟩ := at_int (k := 7) (hf 5 _ rfl)
    obtain ⟨shi, e8, _⟩ := at_int (k := 8) (hf 6 _ rfl)
    obtain ⟨dlo, e9, _⟩ := at_int (k := 9) (hf 7 _ rfl)
    obtain ⟨dhi, e10, _⟩ := at_int (k := 10) (hf 8 _ rfl)
    obtain ⟨al, e11⟩ := at_bool (k := 11) (hf 9 _ rfl)
    refine ⟨⟨i, o, sa, sb, da, db, p, slo, shi, dlo, dhi, al⟩, list_is (by rw [hz]; rfl) ?_, hs, hd⟩
    intro k v hv
    match k, hv with
    | 0, hv => rw [e0]; exact hv
    | 1, hv => rw [e1]; exact hv
    | 2, hv => rw [e2]; exact hv
    | 3, hv => rw [e3]; exact hv
    | 4, hv => rw [e4]; exact hv
    | 5, hv => rw [e5]; exact hv
    | 6, hv => rw [e6]; exact hv
    | 7, hv => rw [e7]; exact hv
    | 8, hv => rw [e8]; exact hv
    | 9, hv => rw [e9]; exact hv
    | 10, hv => rw [e10]; exact hv
    | 11, hv => rw [e11]; exact hv
    | k + 12, hv => cases hv
theorem ask_cells (hz : cs.length = 7) (h : DataW.trod enc Try.prog W base spare held n 27 cs = some x) : ∃ a : U.Ask, cs = a.v ∧ (a.s < 4294967296 ∧ a.d < 4294967296) := by
  obtain ⟨xs, n', _, _, hlen, hxl, hf⟩ := DataW.trod_struct Try.underlying27 h
  match xs, hxl with
  | [x0, x1, x2], _ =>
    obtain ⟨i, e0, _⟩ := at_int (k := 0) (hf 0 _ rfl)
    obtain ⟨o, e1, _⟩ := at_int (k := 1) (hf 1 _ rfl)
    obtain ⟨s, d, p, sp, dp, e2, e3, e4, e5, e6, hs, hd⟩ := at_key (k := 2) (hf 2 _ rfl)
    refine ⟨⟨i, o, s, d, p, sp, dp⟩, list_is (by rw [hz]; rfl) ?_, hs, hd⟩
    intro k v hv
    match k, hv with
    | 0, hv => rw [e0]; exact hv
    | 1, hv => rw [e1]; exact hv
    | 2, hv => rw [e2]; exact hv
    | 3, hv => rw [e3]; exact hv
    | 4, hv => rw [e4]; exact hv
    | 5, hv => rw [e5]; exact hv
    | 6, hv => rw [e6]; exact hv
    | k + 7, hv => cases hv
theorem ru_of {r : Reach} {v : Value} {d : DataW H} {p : List MemPlace} (hv : Value.okWide Try.prog W r b0 34 v) (h : DataW.Trod enc Try.prog W base spare held 34 v d p) : ∃ x : Ru, v = .agg x.v.toArray ∧ x.fine := by
  obtain ⟨cs, rfl, hsz⟩ := okWide_struct Try.underlying34 hv
  obtain ⟨fuel, hf0⟩ := h
  obtain ⟨x, e, hx⟩ := ru_cells (cs := cs.toList) (by rw [Array.length_toList, hsz]; exact Try.lRule) hf0
  exact ⟨x, by rw [← e], hx⟩
theorem ask_of {r : Reach} {v : Value} {d : DataW H} {p : List MemPlace} (hv : Value.okWide Try.prog W r b0 27 v) (h : DataW.Trod enc Try.prog W base spare held 27 v d p) : ∃ x : U.Ask, v = .agg x.v.toArray ∧ (x.s < 4294967296 ∧ x.d < 4294967296) := by
  obtain ⟨cs, rfl, hsz⟩ := okWide_struct Try.underlying27 hv
  obtain ⟨fuel, hf0⟩ := h
  obtain ⟨x, e, hx⟩ := ask_cells (cs := cs.toList) (by rw [Array.length_toList, hsz]; exact Try.lAsk) hf0
  exact ⟨x, by rw [← e], hx⟩
theorem rus_of {r : Reach} {v : Value} {d : DataW H} {p : List MemPlace} (hv : Value.okWide Try.prog W r b0 22 v) (h : DataW.Trod enc Try.prog W base spare held 22 v d p) : ∃ (a : Option Addr) (cap : Nat) (l : List Ru), v = .slice a l.length cap ∧ RRow W a l ∧ Fine l ∧ l.length ≤ cap := by
  haveI : Inhabited Ru := ⟨zRu⟩
  obtain ⟨a, cap, l, e, h1, h2, h3, _⟩ := rows_open Ru.v Ru.fine _ _ 12 Try.underlying22 Try.lRule (fun _ => rfl) (by omega) (fun fuel cs x hz hx => ru_cells hz hx) hv h
  exact ⟨a, cap, l, e, h1, h2, h3⟩
end
#print axioms rus_of
end Go.Proofs.Ytagfcfkkjllfpaa
