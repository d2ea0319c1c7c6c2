/- Labels, one behind the other, as a row's cells; what builds such a row; labels held against one another, as values. -/
import Derived.Test.YtdipoaekdafbeaaLbMem
import Derived.Test.YtdipoaekdafbeaaCtGen
namespace Go.Proofs.Ytdipoaekdafbeaa
open Go.RowKit
set_option maxRecDepth 100000
set_option linter.unusedVariables false

theorem step_op {P : Program} {ops : Array Oper} {rest : List Oper} {o : Oper} {a : Act} {w w' : World} {Q : Exit → Act → World → Prop} {v : Value} (hgd : o.guard = none) (hr : (execOp a.eval o).run P w = .ok (.value v) w') (h : wpList P ops Q rest (a.put o.dst v) w') : wpList P ops Q (o :: rest) a w :=
  wpList_plain hgd fun _ hK => by
    unfold Oper.wp
    rw [hr]
    exact hK _ _ h

def labV (p : Int × Nat) : Value := .agg (L.lv p.1 p.2)
def labsX (l : List (Int × Nat)) : Array Value := ((l.map labV).flatMap fun v => v.cells.toList).toArray
theorem LRow.of_block {w : World} {r : Nat} {l : List (Int × Nat)} (h : w.heap[r]? = some (.cells (labsX l) 29 (0, 0))) : LRow w (some ⟨r, 0, Option.none⟩) l := fun _ => by
  refine ⟨r, 0, rfl, heap_lt h, fun k hk j v hv => ?_⟩
  have hj : j < 31 := by
    have := (List.getElem?_eq_some_iff.1 hv).1
    rwa [Array.length_toList, L.lv_size] at this
  rw [cell_of_row w r _ _ _ (0, 0) h]
  unfold labsX
  rw [List.getElem?_toArray, Great.flat_get (s := 31) (by omega) _ (fun v hv => by obtain ⟨n, _, rfl⟩ := List.mem_map.1 hv; exact L.lv_size n.1 n.2), show (0 + k * 31 + j) / 31 = k by omega, show (0 + k * 31 + j) % 31 = j by omega, List.getElem?_map, List.getElem?_eq_getElem hk]
  simp only [Option.map_some, Option.bind_some]
  rw [List.getD_eq_getElem?_getD, List.getElem?_eq_getElem hk] at hv
  simpa [Value.cells, labV] using hv
theorem labsX_one (z : Int) (n : Nat) : labsX [(z, n)] = L.lv z n := by simp [labsX, labV, Value.cells]
theorem Try.lab_all : (Try.prog.info? 29).map (fun i => (i.zero, i.size)) = some (some (.agg (L.lv 0 0)), 31) := by kernel_rfl
theorem run_op_labs {ev : Operand → Value} {w : World} {o : Oper} {len : Nat} {parts : Array (Nat × Operand)} (l : List (Int × Nat)) (ho : o.op = .buildSlice 42 len parts) (hp : (parts.map fun (i, x) => (i, ev x)).toList = ((l.map labV).zipIdx 0).map fun x => (x.2, x.1)) (hl : len = l.length) (h0 : 0 < l.length) (h1 : l.length ≤ 1000) :
    (execOp ev o).run Try.prog w = .ok (.value (.slice (some ⟨w.heap.size, 0, Option.none⟩) len len)) (w.alloc (.cells (labsX l) 29)) := by
  subst hl
  have hi := Try.lab_all
  cases hq : Try.prog.info? 29 with
  | none => rw [hq] at hi; cases hi
  | some i =>
    rw [hq] at hi
    simp only [Option.map_some, Option.some.injEq, Prod.mk.injEq] at hi
    have hf := Great.fill_whole (s := 31) (by omega) (l.map labV) ((Array.range (l.length * 31)).map ((L.lv 0 0)[· % (L.lv 0 0).size]!)) (fun v hv => by obtain ⟨n, _, rfl⟩ := List.mem_map.1 hv; exact L.lv_size n.1 n.2) (by simp)
    unfold execOp
    simp only [ho, Sem.run_bind]
    rw [run_buildSlice w _ _ l.length _ (labsX l) i (.agg (L.lv 0 0)) Try.underlying42 hq hi.1 (by rw [hi.2]; omega) (by rw [hi.2]; omega) (by rw [hi.2, hp]; exact hf)]
    simp

/-! Labels as values. -/
theorem lab_cats (z : Int) (n : Nat) : (L.lv z n).extract 1 31 = C.cv n := by
  apply Array.ext_getElem?
  intro i
  rw [Array.getElem?_extract]
  split
  · rw [L.lv_succ]
  · rw [Array.getElem?_eq_none (by rw [cv_size]; rename_i h; rw [L.lv_size] at h; omega)]
theorem run_eql_lab_in (d : Nat) (z y : Int) (n m : Nat) (w : World) (hn : n < 2 ^ 240) (hm : m < 2 ^ 240) : (Op.equalIn (d + 3) 29 (.agg (L.lv z n)) (.agg (L.lv y m))).run Try.prog w = .ok (decide (z = y) && decide (n = m)) w := by
  have hC : (Op.equalIn (d + 2) 27 (.agg (C.cv n)) (.agg (C.cv m))).run Try.prog w = .ok (decide (n = m)) w := by
    have := run_eq_in d (C.byte n) (C.byte m) w
    rw [all_eq n m hn hm] at this
    exact this
  have hq : Try.prog.stoodInHeld 29 = false := by kernel_rfl
  rw [Op.equalIn, Sem.run_bind, run_underlying Try.underlying29]
  simp only [Result.andThen_ok]
  simp [go_sem, hq, L.lv_zero, lab_cats, hC]
  by_cases h1 : z = y
  · by_cases h2 : n = m
    · simp [h1, h2]
    · simp [h1, h2]
  · simp [h1]
/-- Two labels are the same value just where level and set are the same. -/
theorem run_eql_lab (z y : Int) (n m : Nat) (w : World) (hn : n < 2 ^ 240) (hm : m < 2 ^ 240) : (binOp .eql 29 (.agg (L.lv z n)) (.agg (L.lv y m))).run Try.prog w = .ok (.bool (decide (z = y) && decide (n = m))) w := by
  rw [run_eql_struct, show (10000 : Nat) = 9997 + 3 from rfl, run_eql_lab_in 9997 z y n m w hn hm]
  rfl
theorem run_neq_lab (z y : Int) (n m : Nat) (w : World) (hn : n < 2 ^ 240) (hm : m < 2 ^ 240) : (binOp .neq 29 (.agg (L.lv z n)) (.agg (L.lv y m))).run Try.prog w = .ok (.bool (!(decide (z = y) && decide (n = m)))) w := by
  rw [run_neq_struct, show (10000 : Nat) = 9997 + 3 from rfl, run_eql_lab_in 9997 z y n m w hn hm]
  rfl
section
variable {ops : Array Oper} {rest : List Oper} {o : Oper} {a : Act} {ev : Operand → Value} {w : World} {Q : Exit → Act → World → Prop} {x y : Operand} {n m : Nat} {z z' : Int} {t : TypeId}
theorem run_op_eql_lab (ho : o.op = .binOp .eql 29 x y t) (hx : ev x = .agg (L.lv z n)) (hy : ev y = .agg (L.lv z' m)) (hn : n < 2 ^ 240) (hm : m < 2 ^ 240) : (execOp ev o).run Try.prog w = .ok (.value (.bool (decide (z = z') && decide (n = m)))) w := by
  unfold execOp
  simp only [ho, hx, hy, Sem.run_bind]
  rw [run_eqGuard_agg w _ _ _ _ _ _ (by kernel_rfl)]
  simp only [Result.andThen_ok, run_eql_lab z z' n m w hn hm, Sem.run_pure]
theorem run_op_same_lab (ho : o.op = .binOp .eql 29 x y t) (hx : ev x = .agg (L.lv z n)) (hy : ev y = .agg (L.lv z n)) (hn : n < 2 ^ 240) : (execOp ev o).run Try.prog w = .ok (.value (.bool true)) w := by
  rw [run_op_eql_lab ho hx hy hn hn, decide_eq_true rfl, decide_eq_true rfl]; rfl
theorem run_op_neq_lab (ho : o.op = .binOp .neq 29 x y t) (hx : ev x = .agg (L.lv z n)) (hy : ev y = .agg (L.lv z' m)) (hn : n < 2 ^ 240) (hm : m < 2 ^ 240) : (execOp ev o).run Try.prog w = .ok (.value (.bool (!(decide (z = z') && decide (n = m))))) w := by
  unfold execOp
  simp only [ho, hx, hy, Sem.run_bind]
  rw [run_eqGuard_agg w _ _ _ _ _ _ (by kernel_rfl)]
  simp only [Result.andThen_ok, run_neq_lab z z' n m w hn hm, Sem.run_pure]
theorem run_op_load_lab {g : Nat} (ho : o.op = .load 29 x) (hx : ev x = .pointer (some ⟨g, 0, none⟩)) (h : LabAt w g z n) : (execOp ev o).run Try.prog w = .ok (.value (.agg (L.lv z n))) w := by
  unfold execOp
  simp only [ho, hx, Instr.loadAt, Instr.sureAddr, Sem.run_bind, Sem.run_pure, Result.andThen_ok, run_load_lab h]
theorem run_op_load_labcats {g : Nat} (ho : o.op = .load 27 x) (hx : ev x = .pointer (some ⟨g, 1, none⟩)) (h : LabAt w g z n) : (execOp ev o).run Try.prog w = .ok (.value (.agg (C.cv n))) w := by
  unfold execOp
  have := run_loadAt_mid (P := Try.prog) w g 1 27 (C.cv n).toList _ h.range Try.underlying27 rfl (by rw [Array.length_toList, cv_size]; exact Try.info_cats)
  rw [Array.toArray_toList] at this
  simp only [ho, hx, Sem.run_bind, Result.andThen_ok, this, Sem.run_pure]
end
/-- A label built of its parts. -/
theorem built_lab (z : Int) (n : Nat) : Try.prog.built 29 [(0, .int .i64 z), (1, .agg (C.cv n))] = some (L.lv z n) := by
  have hi := Try.lab_all
  cases hq : Try.prog.info? 29 with
  | none => rw [hq] at hi; cases hi
  | some i =>
    rw [hq] at hi
    simp only [Option.map_some, Option.some.injEq, Prod.mk.injEq] at hi
    unfold Program.built
    rw [hq, Try.underlying29]
    simp only [hi.1]
    have hm : (Try.prog.underlying 29).bind (fun d => match d with | .struct fields => fields.toList.mapM (fun f => (Try.prog.info? f.type).map fun i => (f.offset, i.size)) | _ => none) = some [(0, 1), (1, 30)] := by kernel_rfl
    rw [Try.underlying29] at hm
    simp only [Option.bind_some] at hm
    rw [hm]
    obtain ⟨g1, g2⟩ := Great.foldl_set 1 (C.cv n).toList 0 ((L.lv 0 0).setIfInBounds 0 (.int .i64 z))
    have e0 : (L.lv 0 0).setIfInBounds 0 (.int .i64 z) = L.lv z 0 := by
      unfold L.lv
      apply Array.ext_getElem?
      intro i
      by_cases e : i = 0
      · subst e; simp
      · rw [Array.getElem?_setIfInBounds_ne (by omega), Array.getElem?_append_right (by simp; omega), Array.getElem?_append_right (by simp; omega)]
        simp
    rw [e0] at g1 g2
    have e1 : (C.cv n).zipIdx.foldl (fun cs (x : Value × Nat) => cs.setIfInBounds (1 + x.2) x.1) (L.lv z 0) = L.lv z n := by
      rw [← Array.foldl_toList, Array.toList_zipIdx]
      apply Array.ext_getElem?
      intro k
      rw [g2 k, Array.length_toList, cv_size, L.lv_size]
      by_cases hk : 1 + 0 ≤ k ∧ k < 1 + 0 + 30 ∧ k < 31
      · rw [if_pos hk]
        obtain ⟨j, rfl⟩ : ∃ j, k = 1 + j := ⟨k - 1, by omega⟩
        rw [L.lv_succ, show 1 + j - (1 + 0) = j by omega]
        simp
      · rw [if_neg hk]
        by_cases h0 : k = 0
        · subst h0; rw [L.lv_zero, L.lv_zero]
        · rw [Array.getElem?_eq_none (by rw [L.lv_size]; omega), Array.getElem?_eq_none (by rw [L.lv_size]; omega)]
    have hsz := L.lv_size 0 0
    have hsz2 := L.lv_size z 0
    have hcz := cv_size n
    have e2 : Array.foldl (fun cs (x : Value × Nat) => cs.setIfInBounds (1 + x.2) x.1) (L.lv z 0) (C.cv n).zipIdx 0 30 = L.lv z n := by
      have h30 : (C.cv n).zipIdx.size = 30 := by simp [hcz]
      rw [← h30]
      exact e1
    simp only [Value.cells, Instr.fill]
    simp [e0, hsz, hsz2, hcz]
    exact e2
theorem run_op_build_lab {o : Oper} {ev : Operand → Value} {w : World} {x y : Operand} {z : Int} {n : Nat} (ho : o.op = .build 29 #[(0, x), (1, y)]) (hx : ev x = .int .i64 z) (hy : ev y = .agg (C.cv n)) : (execOp ev o).run Try.prog w = .ok (.value (.agg (L.lv z n))) w := by
  unfold execOp
  simp only [ho, Sem.run_bind]
  rw [run_build w _ _ (L.lv z n) (by simp [hx, hy, built_lab])]
  simp
#print axioms run_op_build_lab
end Go.Proofs.Ytdipoaekdafbeaa
