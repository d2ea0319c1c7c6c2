/- What laws of layer 12 begin with: a domain and a label in variables. -/
import Derived.Test.YtdipoaekdafbeaaDoLaw
namespace Go.Proofs.Ytdipoaekdafbeaa
open Go.RowKit Go.Maps
set_option maxRecDepth 100000
set_option linter.unusedVariables false
open D

/-- A domain and a label in two variables. -/
structure DL (w : World) (B : Nat) (d : Dm) (z : Int) (n : Nat) : Prop where
  dm : w.heap[B]? = some (.cells d.v 25 (0, 0))
  la : LabAt w (B + 1) z n
  ok : DOk w d
section
variable {w w' : World} {B : Nat} {d : Dm} {z : Int} {n : Nat}
theorem DL.below (h : DL w B d z n) (hb : Below w.heap.size w w') : DL w' B d z n :=
  ⟨(hb.block B (heap_lt h.dm)).trans h.dm, h.la.below hb h.la.lt, h.ok.below hb⟩
theorem DL.k0 (h : DL w B d z n) : w.cell? ⟨B, 0, none⟩ = some (.int .u32 d.num) := (cell_of_row w B 0 _ _ (0, 0) h.dm).trans rfl
theorem DL.k1 (h : DL w B d z n) : w.cell? ⟨B, 1, none⟩ = some (.slice d.la d.lv.length d.lc) := (cell_of_row w B 1 _ _ (0, 0) h.dm).trans rfl
theorem DL.k2 (h : DL w B d z n) : w.cell? ⟨B, 2, none⟩ = some (.slice d.ca d.ct.length d.cc) := (cell_of_row w B 2 _ _ (0, 0) h.dm).trans rfl
theorem DL.new (d : Dm) (z : Int) (n : Nat) (h : DOk w d) : DL ((w.alloc (.cells d.v 25)).alloc (.cells (L.lv z n) 29)) w.heap.size d z n := by
  have hb0 : Below w.heap.size w ((w.alloc (.cells d.v 25)).alloc (.cells (L.lv z n) 29)) := ((Below.refl _ w).alloc (Nat.le_refl _) _).alloc (by simp) _
  refine ⟨?_, ?_, h.below hb0⟩
  · have := heap_alloc_new w (.cells d.v 25)
    exact (Below.heap_alloc _ _ _ (by simp)).trans this
  · have := LabAt.new (w.alloc (.cells d.v 25)) z n
    simpa using this
end
/-- A call's result, put into a new variable. -/
theorem lab_new {w0 w w' : World} {B : Nat} {d : Dm} {z y : Int} {n m : Nat} (H : DL w B d z n) (hs : LabAt w' w.heap.size y m) (ho : Only w.heap.size (w.alloc (.cells (L.lv 0 0) 29)) w') (hb : Below w0.heap.size w0 w) : DL w' B d z n ∧ Below w0.heap.size w0 w' ∧ Below w.heap.size w w' := by
  have hbn : Below w.heap.size w w' := ((Below.refl w.heap.size w).alloc (Nat.le_refl _) _).trans (ho.below (Nat.le_refl _))
  exact ⟨H.below hbn, hb.trans (hbn.mono hb.size), hbn⟩
end Go.Proofs.Ytdipoaekdafbeaa
