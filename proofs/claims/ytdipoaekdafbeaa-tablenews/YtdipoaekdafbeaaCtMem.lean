/- A set in a block of its own: read, and written, whole. -/
import Derived.Test.YtdipoaekdafbeaaCtLow
import Derived.Laws.ResultCell
namespace Go.Proofs.Ytdipoaekdafbeaa
open Go.RowKit
set_option maxRecDepth 100000

/-- The set n lies in block g. -/
def SetAt (w : World) (g n : Nat) : Prop := w.heap[g]? = some (.cells (C.cv n) 27 (0, 0))
/-- Nothing but block g has turned. -/
structure Only (g : Nat) (w w' : World) : Prop where
  os : w'.os = w.os
  tape : w'.tape = w.tape
  output : w'.output = w.output
  size : w'.heap.size = w.heap.size
  block : ∀ k, k ≠ g → w'.heap[k]? = w.heap[k]?

theorem Only.below {g B : Nat} {w w' : World} (h : Only g w w') (hB : B ≤ g) : Below B w w' := ⟨h.os, h.tape, h.output, Nat.le_of_eq h.size.symm, fun k hk => h.block k (by omega)⟩
theorem SetAt.lt {w : World} {g n : Nat} (h : SetAt w g n) : g < w.heap.size := by
  rcases Nat.lt_or_ge g w.heap.size with hlt | hge
  · exact hlt
  · unfold SetAt at h; rw [Array.getElem?_eq_none hge] at h; cases h
theorem SetAt.below {w w' : World} {g n B : Nat} (h : SetAt w g n) (hb : Below B w w') (hg : g < B) : SetAt w' g n := (hb.block g hg).trans h
theorem SetAt.only {w w' : World} {g g' n : Nat} (h : SetAt w g n) (ho : Only g' w w') (hg : g ≠ g') : SetAt w' g n := (ho.block g hg).trans h
theorem SetAt.drewN {w : World} {g n : Nat} (h : SetAt w g n) (k : Nat) : SetAt (w.drewN k) g n := h
theorem SetAt.alloc {w : World} {g n : Nat} (h : SetAt w g n) (o : Obj) : SetAt (w.alloc o) g n := (Below.heap_alloc w o g h.lt).trans h
theorem SetAt.new (w : World) (n : Nat) : SetAt (w.alloc (.cells (C.cv n) 27)) w.heap.size n := heap_alloc_new w _
theorem SetAt.cell {w : World} {g n : Nat} (h : SetAt w g n) (i : Nat) (hi : i < 30) : w.cell? ⟨g, i, none⟩ = some (.int .u8 (C.byte n i)) :=
  (cell_of_row w g i _ _ (0, 0) h).trans (C.bv_get _ i hi)
theorem SetAt.frozen {w : World} {g n : Nat} (h : SetAt w g n) (i : Nat) : w.frozen? ⟨g, i, none⟩ = false := frozen_of_row w g i _ _ h
theorem only_cell (w : World) (g i : Nat) (v : Value) : Only g w (w.setCell ⟨g, i, none⟩ v) :=
  ⟨rfl, rfl, rfl, by simp [World.setCell], fun k hk => heap_setCell_other w ⟨g, i, none⟩ k v hk⟩

theorem Try.info_cats : (Try.prog.info? 27).map (·.size) = some 30 := by kernel_rfl
theorem cv_size (n : Nat) : (C.cv n).size = 30 := C.bv_size _

section
variable {ops : Array Oper} {rest : List Oper} {o : Oper} {a : Act} {w : World} {Q : Exit → Act → World → Prop} {x y : Operand} {g n m : Nat}
theorem run_load_set (h : SetAt w g n) : (loadVar 27 ⟨g, 0, none⟩).run Try.prog w = .ok (.agg (C.cv n)) w :=
  run_loadVar_row w g _ _ _ (0, 0) _ h Try.underlying27 rfl (by rw [cv_size]; exact Try.info_cats)
theorem load_set (hgd : Region.wanted o (yielded ops a.tmps) = true) (ho : o.op = .load 27 x) (hx : a.eval x = .pointer (some ⟨g, 0, none⟩)) (hg : SetAt w g n) (h : wpList Try.prog ops Q rest (a.put o.dst (.agg (C.cv n))) w) : wpList Try.prog ops Q (o :: rest) a w :=
  by
    unfold wpList
    rw [if_pos hgd]
    exact .inl (wp_load_row _ x ho g hx _ _ (0, 0) _ hg Try.underlying27 rfl (by rw [cv_size]; exact Try.info_cats) h)
theorem store_set (hgd : o.guard = none) (ho : o.op = .store 27 x y) (hx : a.eval x = .pointer (some ⟨g, 0, none⟩)) (hy : a.eval y = .agg (C.cv m)) (hg : SetAt w g n)
    (h : ∀ w', SetAt w' g m → Only g w w' → wpList Try.prog ops Q rest (a.put o.dst undef) w') : wpList Try.prog ops Q (o :: rest) a w :=
  wpList_store_row hgd _ x y ho g _ hx hy _ _ hg (by rw [cv_size]; exact Try.info_cats) (by rw [cv_size, cv_size]) (C.bv_one _)
    (h _ (setRow_heap w g _ _ _ _ hg) ⟨rfl, rfl, rfl, by simp, fun k hk => setRow_other w g k _ hk⟩)
theorem ret_set {fn : Func} {R : Ending → World → Prop} {p : Tmp} (h : fn.results = #[.cell p 27]) (hp : a.tmps.getD p undef = .pointer (some ⟨g, 0, none⟩)) (hd : a.defers = []) (hg : SetAt w g n) (hR : R (.returned (.agg (C.cv n))) w) : bodyPost Try.prog fn R .ret a w :=
  bodyPost_ret (results_cell_row h _ _ g _ _ (0, 0) _ hp hg Try.underlying27 rfl (by rw [cv_size]; exact Try.info_cats)) hd hR
theorem ret_set_tmp {fn : Func} {R : Ending → World → Prop} {p u : Tmp} {v : Value} (h : fn.results = #[.cell p 27, .tmp u]) (hp : a.tmps.getD p undef = .pointer (some ⟨g, 0, none⟩)) (hu : a.tmps.getD u undef = v) (hd : a.defers = []) (hg : SetAt w g n) (hR : R (.returned (.tuple #[.agg (C.cv n), v])) w) : bodyPost Try.prog fn R .ret a w :=
  bodyPost_ret (by rw [results_cell_tmp h, hp, hu]; simp [asAddr, Result.andThen, run_load_set hg]) hd hR
end
end Go.Proofs.Ytdipoaekdafbeaa
