/- Steps of regions that draw their order, over sets: what each operation's value is. -/
import Derived.Test.YtdipoaekdafbeaaQGen
import Derived.Test.YtdipoaekdafbeaaCtEq
import Derived.Test.YtdipoaekdafbeaaCtPut
import Derived.Great.BuildSlice
namespace Go.Proofs.Ytdipoaekdafbeaa
open Go.RowKit
set_option maxRecDepth 100000
set_option linter.unusedVariables false

/-- What an operation's value is: one value, a new row, a new variable, a row of integers; or nothing is said. -/
inductive GV where
  | val (x : Value)
  | row (X : Array Value) (T : TypeId) (n : Nat)
  | ptr (X : Array Value) (T : TypeId)
  | ints (l : List Int)
  | pr (p : Value → World → Prop) (h : ∀ v w w', p v w → Below w.heap.size w w' → p v w')
  | any

def GV.ok (B : Nat) : GV → Value → World → Prop
  | .val x, v, _ => v = x
  | .row X T n, v, w => ∃ r, B ≤ r ∧ v = .slice (some ⟨r, 0, none⟩) n n ∧ w.heap[r]? = some (.cells X T (0, 0))
  | .ptr X T, v, w => ∃ r, B ≤ r ∧ v = .pointer (some ⟨r, 0, none⟩) ∧ w.heap[r]? = some (.cells X T (0, 0))
  | .ints l, v, w => ∃ ao cp, v = .slice ao l.length cp ∧ IRow w ao l
  | .pr p _, v, w => p v w
  | .any, _, _ => True

theorem IRow.below {w w' : World} {a : Option Addr} {l : List Int} (h : IRow w a l) (hb : Below w.heap.size w w') : IRow w' a l := fun h0 => by
  obtain ⟨b, off, ha, hlt, hc⟩ := h h0
  exact ⟨b, off, ha, Nat.lt_of_lt_of_le hlt hb.size, fun k hk => (hb.cell (p := ⟨b, off + k, none⟩) hlt).trans (hc k hk)⟩
theorem SRow.below {w w' : World} {a : Option Addr} {l : List Nat} (h : SRow w a l) (hb : Below w.heap.size w w') : SRow w' a l := fun h0 => by
  obtain ⟨b, off, ha, hlt, hc⟩ := h h0
  exact ⟨b, off, ha, Nat.lt_of_lt_of_le hlt hb.size, fun k hk j v hv => (hb.cell (p := ⟨b, off + k * 30 + j, Option.none⟩) hlt).trans (hc k hk j v hv)⟩

theorem GV.keep {B : Nat} {g : GV} {v : Value} {w w' : World} (h : g.ok B v w) (hb : Below w.heap.size w w') : g.ok B v w' := by
  cases g with
  | val x => exact h
  | row X T n => obtain ⟨r, h1, h2, h3⟩ := h; exact ⟨r, h1, h2, (hb.block r (heap_lt h3)).trans h3⟩
  | ptr X T => obtain ⟨r, h1, h2, h3⟩ := h; exact ⟨r, h1, h2, (hb.block r (heap_lt h3)).trans h3⟩
  | ints l => obtain ⟨ao, cp, h1, h2⟩ := h; exact ⟨ao, cp, h1, h2.below hb⟩
  | pr p k => exact k _ _ _ h hb
  | any => trivial

def VG (B : Nat) (sp : List GV) (i : Nat) (v : Value) (w : World) : Prop :=
  match sp[i]? with
  | some s => s.ok B v w
  | none => True
theorem VG.keep {B : Nat} {sp : List GV} {w w' : World} (hb : Below w.heap.size w w') : ∀ j u, VG B sp j u w → VG B sp j u w' := by
  intro j u h
  unfold VG at *
  cases hs : sp[j]? with
  | none => trivial
  | some s => rw [hs] at h; exact GV.keep h hb

/-- What lay there when the region began lies there still. -/
def BS (w0 : World) : Array Bool → Act → World → Prop := fun _ _ w => Below w0.heap.size w0 w

section
variable {P : Program} {l : List Oper} {B : Nat} {sp : List GV} {w0 : World} {a a' : Act} {i : Nat} {o : Oper} {listed : Array Bool} {w' : World}
theorem Seen.out {md : Region.Mode} {ops : Array Oper} {V : Nat → Value → World → Prop} {a0 a : Act} {listed : Array Bool} {w : World} (h : Seen md ops V a0 listed a w) (t : Nat) (ht : (ops.toList.all fun o => o.dst != some t) = true) : a.eval (.tmp t) = a0.eval (.tmp t) :=
  h.was t fun i o ho => by simpa using List.all_eq_true.1 ht o (by simpa using Array.mem_of_getElem? ho)

theorem wanted_of {ops : Array Oper} {a : Act} {o og : Oper} {g d : Nat} {b pol : Bool} (hg : o.guard = some (g, pol)) (hog : ops[g]? = some og) (hd : og.dst = some d) (he : a.eval (.tmp d) = .bool b) : Region.wanted o (yielded ops a.tmps) = (b == pol) := by
  have h1 : a.tmps[d]? = some (.bool b) := by
    cases ht : a.tmps[d]? with
    | none => simp [Act.eval, ht, undef] at he
    | some v => simp [Act.eval, ht] at he; rw [he]
  unfold Region.wanted
  rw [hg]
  unfold yielded
  simp only [hog, Option.bind_some, hd, h1]
  cases b <;> cases pol <;> rfl

theorem wanted_yes {ops : Array Oper} {a : Act} {o og : Oper} {g d : Nat} {pol : Bool} (hg : o.guard = some (g, pol)) (hog : ops[g]? = some og) (hd : og.dst = some d) (he : a.eval (.tmp d) = .bool pol) : Region.wanted o (yielded ops a.tmps) = true :=
  (wanted_of hg hog hd he).trans (by cases pol <;> rfl)
theorem wanted_no {ops : Array Oper} {a : Act} {o og : Oper} {g d : Nat} {b pol : Bool} (hg : o.guard = some (g, pol)) (hog : ops[g]? = some og) (hd : og.dst = some d) (he : a.eval (.tmp d) = .bool b) (hb : b ≠ pol) : Region.wanted o (yielded ops a.tmps) = false :=
  (wanted_of hg hog hd he).trans (by cases b <;> cases pol <;> first | rfl | exact absurd rfl hb)

theorem g_val (v : Value) (hS : BS w0 listed a' w') (hw : Region.wanted o (yielded l.toArray a'.tmps) = true) (hr : (execOp a'.eval o).run P w' = .ok (.value v) w') (hV : VG B sp i v w') :
    (Region.wanted o (yielded l.toArray a'.tmps) = true ∧ planUpon P (fun v w'' => VG B sp i v w'' ∧ BS w0 (listed.setIfInBounds i true) (a'.put o.dst v) w'' ∧ ∀ j u, VG B sp j u w' → VG B sp j u w'') ((execOp a'.eval o).run P w')) ∨ (Region.wanted o (yielded l.toArray a'.tmps) = false ∧ VG B sp i undef w' ∧ BS w0 (listed.setIfInBounds i true) (a'.put o.dst undef) w') :=
  .inl ⟨hw, by rw [hr]; exact ⟨hV, hS, fun _ _ h => h⟩⟩
theorem g_new (v : Value) (O : Obj) (hS : BS w0 listed a' w') (hw : Region.wanted o (yielded l.toArray a'.tmps) = true) (hr : (execOp a'.eval o).run P w' = .ok (.value v) (w'.alloc O)) (hV : VG B sp i v (w'.alloc O)) :
    (Region.wanted o (yielded l.toArray a'.tmps) = true ∧ planUpon P (fun v w'' => VG B sp i v w'' ∧ BS w0 (listed.setIfInBounds i true) (a'.put o.dst v) w'' ∧ ∀ j u, VG B sp j u w' → VG B sp j u w'') ((execOp a'.eval o).run P w')) ∨ (Region.wanted o (yielded l.toArray a'.tmps) = false ∧ VG B sp i undef w' ∧ BS w0 (listed.setIfInBounds i true) (a'.put o.dst undef) w') :=
  .inl ⟨hw, by rw [hr]; exact ⟨hV, Below.alloc hS (Below.size hS) O, VG.keep ((Below.refl _ w').alloc (Nat.le_refl _) _)⟩⟩
theorem g_call (f : FuncId) (args : Array Value) (hS : BS w0 listed a' w') (hw : Region.wanted o (yielded l.toArray a'.tmps) = true) (hr : (execOp a'.eval o).run P w' = .ok (.enter f args) w') (hc : Calls P f args w' (fun e w'' => ∃ v, e = .returned v ∧ VG B sp i v w'' ∧ Below w'.heap.size w' w'')) :
    (Region.wanted o (yielded l.toArray a'.tmps) = true ∧ planUpon P (fun v w'' => VG B sp i v w'' ∧ BS w0 (listed.setIfInBounds i true) (a'.put o.dst v) w'' ∧ ∀ j u, VG B sp j u w' → VG B sp j u w'') ((execOp a'.eval o).run P w')) ∨ (Region.wanted o (yielded l.toArray a'.tmps) = false ∧ VG B sp i undef w' ∧ BS w0 (listed.setIfInBounds i true) (a'.put o.dst undef) w') :=
  .inl ⟨hw, by
    rw [hr]
    exact Calls.mono hc fun e w'' ⟨v, he, hV, hb⟩ => ⟨v, he, hV, Below.trans hS (hb.mono (Below.size hS)), VG.keep hb⟩⟩
theorem g_not (hS : BS w0 listed a' w') (hw : Region.wanted o (yielded l.toArray a'.tmps) = false) (hV : VG B sp i undef w') :
    (Region.wanted o (yielded l.toArray a'.tmps) = true ∧ planUpon P (fun v w'' => VG B sp i v w'' ∧ BS w0 (listed.setIfInBounds i true) (a'.put o.dst v) w'' ∧ ∀ j u, VG B sp j u w' → VG B sp j u w'') ((execOp a'.eval o).run P w')) ∨ (Region.wanted o (yielded l.toArray a'.tmps) = false ∧ VG B sp i undef w' ∧ BS w0 (listed.setIfInBounds i true) (a'.put o.dst undef) w') :=
  .inr ⟨hw, hV, hS⟩
/-- A contract whose value is one. -/
theorem c_val {f : FuncId} {args : Array Value} {v : Value} (h : Calls P f args w' fun e w'' => e = .returned v ∧ Below w'.heap.size w' w'') (hi : sp[i]? = some (.val v)) : Calls P f args w' (fun e w'' => ∃ v, e = .returned v ∧ VG B sp i v w'' ∧ Below w'.heap.size w' w'') :=
  h.mono fun e w'' ⟨he, hb⟩ => ⟨v, he, by unfold VG; rw [hi]; rfl, hb⟩
end

section
variable {o : Oper} {ev : Operand → Value} {w : World} {x y : Operand}
theorem run_op_load {g n : Nat} (ho : o.op = .load 27 x) (hx : ev x = .pointer (some ⟨g, 0, none⟩)) (h : SetAt w g n) : (execOp ev o).run Try.prog w = .ok (.value (.agg (C.cv n))) w := by
  unfold execOp
  simp only [ho, hx, Instr.loadAt, Instr.sureAddr, Sem.run_bind, Sem.run_pure, Result.andThen_ok, run_load_set h]
theorem run_op_eql {n m : Nat} {t : TypeId} (ho : o.op = .binOp .eql 27 x y t) (hx : ev x = .agg (C.cv n)) (hy : ev y = .agg (C.cv m)) (hn : n < 2 ^ 240) (hm : m < 2 ^ 240) : (execOp ev o).run Try.prog w = .ok (.value (.bool (decide (n = m)))) w := by
  unfold execOp
  simp only [ho, hx, hy, Sem.run_bind]
  rw [run_eqGuard_agg w _ _ _ _ _ _ (by kernel_rfl)]
  simp only [Result.andThen_ok, run_eql_set n m w hn hm, Sem.run_pure]
theorem run_op_same {n : Nat} {t : TypeId} (ho : o.op = .binOp .eql 27 x y t) (hx : ev x = .agg (C.cv n)) (hy : ev y = .agg (C.cv n)) (hn : n < 2 ^ 240) : (execOp ev o).run Try.prog w = .ok (.value (.bool true)) w := by
  rw [run_op_eql ho hx hy hn hn, decide_eq_true rfl]
/-- Sets, one behind the other, as a row's cells. -/
def setsX (l : List Nat) : Array Value := ((l.map fun n => Value.agg (C.cv n)).flatMap fun v => v.cells.toList).toArray
theorem SRow.of_block {w : World} {r : Nat} {l : List Nat} (h : w.heap[r]? = some (.cells (setsX l) 27 (0, 0))) : SRow w (some ⟨r, 0, Option.none⟩) l := fun _ => by
  refine ⟨r, 0, rfl, heap_lt h, fun k hk j v hv => ?_⟩
  have hj : j < 30 := by
    have := (List.getElem?_eq_some_iff.1 hv).1
    rwa [Array.length_toList, cv_size] at this
  rw [cell_of_row w r _ _ _ (0, 0) h]
  unfold setsX
  rw [List.getElem?_toArray, Great.flat_get (s := 30) (by omega) _ (fun v hv => by obtain ⟨n, _, rfl⟩ := List.mem_map.1 hv; exact cv_size n), show (0 + k * 30 + j) / 30 = k by omega, show (0 + k * 30 + j) % 30 = j by omega, List.getElem?_map, List.getElem?_eq_getElem hk]
  simp only [Option.map_some, Option.bind_some]
  rw [List.getD_eq_getElem?_getD, List.getElem?_eq_getElem hk] at hv
  simpa [Value.cells] using hv
theorem Try.info_all : (Try.prog.info? 27).map (fun i => (i.zero, i.size)) = some (some (.agg (C.cv 0)), 30) := by kernel_rfl
theorem run_op_sets {len : Nat} {parts : Array (Nat × Operand)} (l : List Nat) (ho : o.op = .buildSlice 98 len parts) (hp : (parts.map fun (i, x) => (i, ev x)).toList = ((l.map fun n => Value.agg (C.cv n)).zipIdx 0).map fun x => (x.2, x.1)) (hl : len = l.length) (h0 : 0 < l.length) (h1 : l.length ≤ 1000) :
    (execOp ev o).run Try.prog w = .ok (.value (.slice (some ⟨w.heap.size, 0, Option.none⟩) len len)) (w.alloc (.cells (setsX l) 27)) := by
  subst hl
  have hi := Try.info_all
  cases hq : Try.prog.info? 27 with
  | none => rw [hq] at hi; cases hi
  | some i =>
    rw [hq] at hi
    simp only [Option.map_some, Option.some.injEq, Prod.mk.injEq] at hi
    have hf := Great.fill_whole (s := 30) (by omega) (l.map fun n => Value.agg (C.cv n)) ((Array.range (l.length * 30)).map ((C.cv 0)[· % (C.cv 0).size]!)) (fun v hv => by obtain ⟨n, _, rfl⟩ := List.mem_map.1 hv; exact cv_size n) (by simp)
    unfold execOp
    simp only [ho, Sem.run_bind]
    rw [run_buildSlice w _ _ l.length _ (setsX l) i (.agg (C.cv 0)) Try.underlying98 hq hi.1 (by rw [hi.2]; omega) (by rw [hi.2]; omega) (by rw [hi.2, hp]; exact hf)]
    simp
end
end Go.Proofs.Ytdipoaekdafbeaa
