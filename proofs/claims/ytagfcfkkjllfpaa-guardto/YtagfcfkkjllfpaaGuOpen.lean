/- A relabelling rule, what came in, a slice of relabelling rules, that came in. -/
import Derived.Test.YtagfcfkkjllfpaaGuFirst
import Derived.Test.YtagfcfkkjllfpaaQOpen
namespace Go.Proofs.Ytagfcfkkjllfpaa
open Go.RowKit Go.ChangeShapes Go.WideShapes Go.ChangeAt Go.Deep
set_option linter.unusedVariables false
set_option maxRecDepth 100000
open Gd

theorem Try.lRelabel : Try.prog.cellsOf 50 = 8 := by kernel_rfl
theorem Try.lGAsk : Try.prog.cellsOf 47 = 5 := by kernel_rfl
section
variable {H : Type} {enc : TypeId × Value → H} {W : World} {base b0 : Nat} {spare : Nat → Bool} {held : Bool} {n : Nat} {cs : List Value} {x : DataW H × List MemPlace} {k : Nat}
theorem gu_cells (hz : cs.length = 8) (h : DataW.trod enc Try.prog W base spare held n 50 cs = some x) : ∃ r : Gu, cs = r.v ∧ r.fine := by
  obtain ⟨xs, n', _, _, hlen, hxl, hf⟩ := DataW.trod_struct Try.underlying50 h
  match xs, hxl with
  | [x0, x1, x2, x3, x4, x5], _ =>
    obtain ⟨i, e0, _⟩ := at_int (k := 0) (hf 0 _ rfl)
    obtain ⟨l, e1, _⟩ := at_int (k := 1) (hf 1 _ rfl)
    obtain ⟨sa, sb, e2, e3, hs, _⟩ := at_pre (k := 2) (hf 2 _ rfl)
    obtain ⟨da, db, e4, e5, hd, _⟩ := at_pre (k := 4) (hf 3 _ rfl)
    obtain ⟨p, e6, _⟩ := at_int (k := 6) (hf 4 _ rfl)
    obtain ⟨t, e7, _⟩ := at_int (k := 7) (hf 5 _ rfl)
    refine ⟨⟨i, l, sa, sb, da, db, p, t⟩, list_is (by rw [hz]; rfl) ?_, hs, hd⟩
    intro k v hv
    match k, hv with
    | 0, hv => rw [e0]; exact hv
    | 1, hv => rw [e1]; exact hv
    | 2, hv => rw [e2]; exact hv
    | 3, hv => rw [e3]; exact hv
    | 4, hv => rw [e4]; exact hv
    | 5, hv => rw [e5]; exact hv
    | 6, hv => rw [e6]; exact hv
    | 7, hv => rw [e7]; exact hv
    | k + 8, hv => cases hv
theorem gq_cells (hz : cs.length = 5) (h : DataW.trod enc Try.prog W base spare held n 47 cs = some x) : ∃ a : Gd.Q, cs = a.v ∧ a.fine := by
  obtain ⟨xs, n', _, _, hlen, hxl, hf⟩ := DataW.trod_struct Try.underlying47 h
  match xs, hxl with
  | [x0, x1, x2, x3, x4], _ =>
    obtain ⟨i, e0, _⟩ := at_int (k := 0) (hf 0 _ rfl)
    obtain ⟨l, e1, _⟩ := at_int (k := 1) (hf 1 _ rfl)
    obtain ⟨p, e2, _⟩ := at_int (k := 2) (hf 2 _ rfl)
    obtain ⟨s, e3, hs⟩ := at_u32 (k := 3) (hf 3 _ rfl)
    obtain ⟨d, e4, hd⟩ := at_u32 (k := 4) (hf 4 _ rfl)
    refine ⟨⟨i, l, p, s, d⟩, list_is (by rw [hz]; rfl) ?_, hs, hd⟩
    intro k v hv
    match k, hv with
    | 0, hv => rw [e0]; exact hv
    | 1, hv => rw [e1]; exact hv
    | 2, hv => rw [e2]; exact hv
    | 3, hv => rw [e3]; exact hv
    | 4, hv => rw [e4]; exact hv
    | k + 5, hv => cases hv
theorem gq_of {r : Reach} {v : Value} {d : DataW H} {p : List MemPlace} (hv : Value.okWide Try.prog W r b0 47 v) (h : DataW.Trod enc Try.prog W base spare held 47 v d p) : ∃ x : Gd.Q, v = .agg x.v.toArray ∧ x.fine := by
  obtain ⟨cs, rfl, hsz⟩ := okWide_struct Try.underlying47 hv
  obtain ⟨fuel, hf0⟩ := h
  obtain ⟨x, e, hx⟩ := gq_cells (cs := cs.toList) (by rw [Array.length_toList, hsz]; exact Try.lGAsk) hf0
  exact ⟨x, by rw [← e], hx⟩
theorem gus_of {r : Reach} {v : Value} {d : DataW H} {p : List MemPlace} (hv : Value.okWide Try.prog W r b0 45 v) (h : DataW.Trod enc Try.prog W base spare held 45 v d p) : ∃ (a : Option Addr) (cap : Nat) (l : List Gu), v = .slice a l.length cap ∧ GRow W a l ∧ GFine l := by
  haveI : Inhabited Gu := ⟨zG⟩
  obtain ⟨a, cap, l, e, h1, h2, _⟩ := rows_open Gu.v Gu.fine _ _ 8 Try.underlying45 Try.lRelabel (fun _ => rfl) (by omega) (fun fuel cs x hz hx => gu_cells hz hx) hv h
  exact ⟨a, cap, l, e, h1, h2⟩
end
#print axioms gus_of
end Go.Proofs.Ytagfcfkkjllfpaa
