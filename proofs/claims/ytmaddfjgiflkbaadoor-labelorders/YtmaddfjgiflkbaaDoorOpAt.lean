/- An option in a block of its own: read, and written, whole. -/
import Derived.Test.YtmaddfjgiflkbaaDoorLbRow
namespace Go.Proofs.YtmaddfjgiflkbaaDoor
set_option maxRecDepth 100000
open Go.RowKit
set_option maxRecDepth 100000
set_option linter.unusedVariables false

def opv (k : Int) (s : ByteArray) : Array Value := #[.int .i64 k, .string s]
/-- The option (k, s) lies in block g. -/
def OptAt (w : World) (g : Nat) (k : Int) (s : ByteArray) : Prop := w.heap[g]? = some (.cells (opv k s) 57 (0, 0))
theorem OptAt.lt {w : World} {g : Nat} {k : Int} {s : ByteArray} (h : OptAt w g k s) : g < w.heap.size := heap_lt h
theorem OptAt.below {w w' : World} {g B : Nat} {k : Int} {s : ByteArray} (h : OptAt w g k s) (hb : Below B w w') (hg : g < B) : OptAt w' g k s := (hb.block g hg).trans h
theorem OptAt.only {w w' : World} {g g' : Nat} {k : Int} {s : ByteArray} (h : OptAt w g k s) (ho : Only g' w w') (hg : g ≠ g') : OptAt w' g k s := (ho.block g hg).trans h
theorem OptAt.alloc {w : World} {g : Nat} {k : Int} {s : ByteArray} (h : OptAt w g k s) (o : Obj) : OptAt (w.alloc o) g k s := (Below.heap_alloc w o g h.lt).trans h
theorem OptAt.new (w : World) (k : Int) (s : ByteArray) : OptAt (w.alloc (.cells #[.int .i64 k, .string s] 57)) w.heap.size k s := heap_alloc_new w _
theorem OptAt.kind {w : World} {g : Nat} {k : Int} {s : ByteArray} (h : OptAt w g k s) : w.cell? ⟨g, 0, none⟩ = some (.int .i64 k) := (cell_of_row w g 0 _ _ (0, 0) h).trans rfl
theorem OptAt.data {w : World} {g : Nat} {k : Int} {s : ByteArray} (h : OptAt w g k s) : w.cell? ⟨g, 1, none⟩ = some (.string s) := (cell_of_row w g 1 _ _ (0, 0) h).trans rfl
theorem opv_one (k : Int) (s : ByteArray) : (opv k s).all (·.oneCell') = true := by simp [opv, Value.oneCell']
theorem Tryd.info_opt : (Tryd.prog.info? 57).map (·.size) = some 2 := by kernel_rfl
section
variable {ops : Array Oper} {rest : List Oper} {o : Oper} {a : Act} {w : World} {Q : Exit → Act → World → Prop} {x y : Operand} {g : Nat} {k k' : Int} {s s' : ByteArray} {ev : Operand → Value}
theorem run_load_opt (h : OptAt w g k s) : (loadVar 57 ⟨g, 0, none⟩).run Tryd.prog w = .ok (.agg (opv k s)) w :=
  run_loadVar_row w g _ _ _ (0, 0) _ h Tryd.underlying57 rfl Tryd.info_opt
theorem load_opt (hgd : Region.wanted o (yielded ops a.tmps) = true) (ho : o.op = .load 57 x) (hx : a.eval x = .pointer (some ⟨g, 0, none⟩)) (hg : OptAt w g k s) (h : wpList Tryd.prog ops Q rest (a.put o.dst (.agg (opv k s))) w) : wpList Tryd.prog ops Q (o :: rest) a w := by
  unfold wpList
  rw [if_pos hgd]
  exact .inl (wp_load_row _ x ho g hx _ _ (0, 0) _ hg Tryd.underlying57 rfl Tryd.info_opt h)
theorem store_opt (hgd : o.guard = none) (ho : o.op = .store 57 x y) (hx : a.eval x = .pointer (some ⟨g, 0, none⟩)) (hy : a.eval y = .agg #[.int .i64 k', .string s']) (hg : OptAt w g k s)
    (h : ∀ w', OptAt w' g k' s' → Only g w w' → wpList Tryd.prog ops Q rest (a.put o.dst undef) w') : wpList Tryd.prog ops Q (o :: rest) a w :=
  wpList_store_row hgd _ x y ho g (opv k' s') hx hy _ _ hg Tryd.info_opt rfl (opv_one _ _)
    (h _ (setRow_heap w g _ _ _ _ hg) ⟨rfl, rfl, rfl, by simp, fun k hk => setRow_other w g k _ hk⟩)
theorem ret_opt_tmp {fn : Func} {R : Ending → World → Prop} {p u : Tmp} {v : Value} (h : fn.results = #[.cell p 57, .tmp u]) (hp : a.tmps.getD p undef = .pointer (some ⟨g, 0, none⟩)) (hu : a.tmps.getD u undef = v) (hd : a.defers = []) (hg : OptAt w g k s) (hR : R (.returned (.tuple #[.agg (opv k s), v])) w) : bodyPost Tryd.prog fn R .ret a w :=
  bodyPost_ret (by rw [results_cell_tmp h, hp, hu]; simp [asAddr, Result.andThen, run_load_opt hg]) hd hR
theorem run_op_load_opt (ho : o.op = .load 57 x) (hx : ev x = .pointer (some ⟨g, 0, none⟩)) (h : OptAt w g k s) : (execOp ev o).run Tryd.prog w = .ok (.value (.agg (opv k s))) w := by
  unfold execOp
  simp only [ho, hx, Instr.loadAt, Instr.sureAddr, Sem.run_bind, Sem.run_pure, Result.andThen_ok, run_load_opt h]
end
#print axioms ret_opt_tmp
end Go.Proofs.YtmaddfjgiflkbaaDoor
