/- The walks of what is in one of some sets, and in all. -/
import Derived.Test.YtmaddfjgiflkbaaCtCount
namespace Go.Proofs.Ytmaddfjgiflkbaa
open Go.RowKit
set_option maxRecDepth 100000
set_option linter.unusedVariables false

/-- Bytes in a block of their own. -/
def BytesAt (w : World) (g : Nat) (f : Nat → Nat) : Prop := w.heap[g]? = some (.cells (C.bv f) 23 (0, 0))
theorem BytesAt.cell {w : World} {g : Nat} {f : Nat → Nat} (h : BytesAt w g f) (i : Nat) (hi : i < 30) : w.cell? ⟨g, i, none⟩ = some (.int .u8 (f i)) :=
  (cell_of_row w g i _ _ (0, 0) h).trans (C.bv_get _ i hi)
theorem BytesAt.frozen {w : World} {g : Nat} {f : Nat → Nat} (h : BytesAt w g f) (i : Nat) : w.frozen? ⟨g, i, none⟩ = false := frozen_of_row w g i _ _ h
theorem BytesAt.set {w : World} {g : Nat} {f : Nat → Nat} (h : BytesAt w g f) (i x : Nat) : BytesAt (w.setCell ⟨g, i, none⟩ (.int .u8 x)) g (fun j => if j = i then x else f j) := by
  have := heap_setCell_same w g i _ _ (.int .u8 x) h
  rw [C.bv_set] at this
  exact this
theorem BytesAt.eq {w : World} {g : Nat} {f h : Nat → Nat} (hb : BytesAt w g f) (he : ∀ i, i < 30 → f i = h i) : BytesAt w g h := by
  unfold BytesAt at *
  rw [← C.bv_ext he]
  exact hb

/-- A row of sets that a slice leads to. -/
def SRow (w : World) (a : Option Addr) (l : List Nat) : Prop := 0 < l.length → ∃ b off, a = some ⟨b, off, none⟩ ∧ b < w.heap.size ∧ ∀ k, k < l.length → w.rangeAt b (off + k * 30) (C.cv (l.getD k 0)).toList
theorem SRow.then {W wr : World} {a : Option Addr} {l : List Nat} (h : SRow W a l) (hb : Below W.heap.size W wr) (k : Nat) (hk : k < l.length) : ∃ b off, a = some ⟨b, off, none⟩ ∧ b < W.heap.size ∧ wr.rangeAt b (off + k * 30) (C.cv (l.getD k 0)).toList := by
  obtain ⟨b, off, ha, hlt, hc⟩ := h (by omega)
  exact ⟨b, off, ha, hlt, fun j v hv => (hb.cell (p := ⟨b, off + k * 30 + j, none⟩) hlt).trans (hc k hk j v hv)⟩
theorem SRow.none (w : World) (a : Option Addr) : SRow w a [] := fun h => by simp at h

theorem load_mid_set {ops : Array Oper} {rest : List Oper} {o : Oper} {a : Act} {w : World} {Q : Exit → Act → World → Prop} {x : Operand} {b off n : Nat} (hgd : o.guard = .none) (ho : o.op = .load 23 x) (hx : a.eval x = .pointer (some ⟨b, off, .none⟩)) (hg : w.rangeAt b off (C.cv n).toList)
    (h : wpList Try.prog ops Q rest (a.put o.dst (.agg (C.cv n))) w) : wpList Try.prog ops Q (o :: rest) a w :=
  wpList_load_mid hgd _ x ho b off hx _ _ hg Try.underlying23 rfl (by rw [Array.length_toList, cv_size]; exact Try.info_cats) (by rw [Array.toArray_toList]; exact h)

namespace C
def union (l : List Nat) : Nat := l.foldl (· ||| ·) 0
def meet (n : Nat) (l : List Nat) : Nat := l.foldl (· &&& ·) n
theorem takeN (l : List Nat) (k : Nat) (h : k < l.length) : l.take (k + 1) = l.take k ++ [l.getD k 0] := by
  rw [List.take_succ_eq_append_getElem h, List.getD_eq_getElem?_getD, List.getElem?_eq_getElem h]; rfl
theorem union_take (l : List Nat) (k : Nat) (h : k < l.length) : union (l.take (k + 1)) = union (l.take k) ||| l.getD k 0 := by
  rw [takeN l k h]; unfold union; rw [List.foldl_append]; rfl
theorem meet_take (n : Nat) (l : List Nat) (k : Nat) (h : k < l.length) : meet n (l.take (k + 1)) = meet n (l.take k) &&& l.getD k 0 := by
  rw [takeN l k h]; unfold meet; rw [List.foldl_append]; rfl
/-- The first k bytes are those of the one, the others those of the other. -/
def mix (f g : Nat → Nat) (k i : Nat) : Nat := if i < k then g i else f i
end C

end Go.Proofs.Ytmaddfjgiflkbaa
