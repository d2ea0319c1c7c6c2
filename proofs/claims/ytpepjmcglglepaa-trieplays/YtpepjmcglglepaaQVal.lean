/- Steps of regions that draw their order: what each operation's value is; what lies in a block. -/
import Derived.Test.YtpepjmcglglepaaQGen
import Derived.Test.YtpepjmcglglepaaRows
import Derived.WalkKit
import Derived.WalkSpells
import Derived.WalkSmall
import Derived.Lib.Hide
import Derived.Below
import Derived.IntWalk
import Derived.Deep.Light
import Derived.Deep.DeepCutAuto
namespace Go.Proofs.Ytpepjmcglglepaa
open Go.RowKit
set_option maxRecDepth 100000
set_option linter.unusedVariables false

theorem heap_lt {w : World} {g : Nat} {o : Obj} (h : w.heap[g]? = some o) : g < w.heap.size := (Array.getElem?_eq_some_iff.1 h).1

/-- What an operation's value is: one value, a new row, a new variable, what something holds of; or nothing is said. -/
inductive GV where
  | val (x : Value)
  | row (X : Array Value) (T : TypeId) (n : Nat)
  | ptr (X : Array Value) (T : TypeId)
  | pr (p : Value → World → Prop) (h : ∀ v w w', p v w → Below w.heap.size w w' → p v w')
  | any

def GV.ok (B : Nat) : GV → Value → World → Prop
  | .val x, v, _ => v = x
  | .row X T n, v, w => ∃ r, B ≤ r ∧ v = .slice (some ⟨r, 0, none⟩) n n ∧ w.heap[r]? = some (.cells X T (0, 0))
  | .ptr X T, v, w => ∃ r, B ≤ r ∧ v = .pointer (some ⟨r, 0, none⟩) ∧ w.heap[r]? = some (.cells X T (0, 0))
  | .pr p _, v, w => p v w
  | .any, _, _ => True

theorem GV.keep {B : Nat} {g : GV} {v : Value} {w w' : World} (h : g.ok B v w) (hb : Below w.heap.size w w') : g.ok B v w' := by
  cases g with
  | val x => exact h
  | row X T n => obtain ⟨r, h1, h2, h3⟩ := h; exact ⟨r, h1, h2, (hb.block r (heap_lt h3)).trans h3⟩
  | ptr X T => obtain ⟨r, h1, h2, h3⟩ := h; exact ⟨r, h1, h2, (hb.block r (heap_lt h3)).trans h3⟩
  | pr p k => exact k _ _ _ h hb
  | any => trivial

def VG (B : Nat) (sp : List GV) (i : Nat) (v : Value) (w : World) : Prop :=
  match sp[i]? with
  | some s => s.ok B v w
  | none => True
theorem VG.keep {B : Nat} {sp : List GV} {w w' : World} (hb : Below w.heap.size w w') : ∀ j u, VG B sp j u w → VG B sp j u w' := by
  intro j u h
  unfold VG at *
  cases hs : sp[j]? with
  | none => trivial
  | some s => rw [hs] at h; exact GV.keep h hb

/-- What lay there when the region began lies there still. -/
def BS (w0 : World) : Array Bool → Act → World → Prop := fun _ _ w => Below w0.heap.size w0 w

section
variable {P : Program} {l : List Oper} {B : Nat} {sp : List GV} {w0 : World} {a a' : Act} {i : Nat} {o : Oper} {listed : Array Bool} {w' : World}
theorem Seen.out {md : Region.Mode} {ops : Array Oper} {V : Nat → Value → World → Prop} {a0 a : Act} {listed : Array Bool} {w : World} (h : Seen md ops V a0 listed a w) (t : Nat) (ht : (ops.toList.all fun o => o.dst != some t) = true) : a.eval (.tmp t) = a0.eval (.tmp t) :=
  h.was t fun i o ho => by simpa using List.all_eq_true.1 ht o (by simpa using Array.mem_of_getElem? ho)

theorem Seen.lat {ops : Array Oper} {V : Nat → Value → World → Prop} {a0 a : Act} {listed : Array Bool} {w : World} (h : Seen .any ops V a0 listed a w) (i k : Nat) (hun : listed.getD i true = false) (ok : Oper) (hk : ops[k]? = some ok) (g : Ground) (hg : ⟨i, g⟩ ∈ ok.after) (hb : Region.binds .any ⟨i, g⟩ = true) : listed.getD k true = false := by
  cases hl : listed.getD k true with
  | false => rfl
  | true =>
    have hks : k < listed.size := by rw [h.size]; exact (Array.getElem?_eq_some_iff.1 hk).1
    have h1 : listed.getD k false = true := by simpa [hks] using hl
    have h2 := h.closed k ok hk h1 _ hg hb
    rw [getD_both hun] at h2
    cases h2
theorem wanted_of {ops : Array Oper} {a : Act} {o og : Oper} {g d : Nat} {b pol : Bool} (hg : o.guard = some (g, pol)) (hog : ops[g]? = some og) (hd : og.dst = some d) (he : a.eval (.tmp d) = .bool b) : Region.wanted o (yielded ops a.tmps) = (b == pol) := by
  have h1 : a.tmps[d]? = some (.bool b) := by
    cases ht : a.tmps[d]? with
    | none => simp [Act.eval, ht, undef] at he
    | some v => simp [Act.eval, ht] at he; rw [he]
  unfold Region.wanted
  rw [hg]
  unfold yielded
  simp only [hog, Option.bind_some, hd, h1]
  cases b <;> cases pol <;> rfl

theorem wanted_yes {ops : Array Oper} {a : Act} {o og : Oper} {g d : Nat} {pol : Bool} (hg : o.guard = some (g, pol)) (hog : ops[g]? = some og) (hd : og.dst = some d) (he : a.eval (.tmp d) = .bool pol) : Region.wanted o (yielded ops a.tmps) = true :=
  (wanted_of hg hog hd he).trans (by cases pol <;> rfl)
theorem wanted_no {ops : Array Oper} {a : Act} {o og : Oper} {g d : Nat} {b pol : Bool} (hg : o.guard = some (g, pol)) (hog : ops[g]? = some og) (hd : og.dst = some d) (he : a.eval (.tmp d) = .bool b) (hb : b ≠ pol) : Region.wanted o (yielded ops a.tmps) = false :=
  (wanted_of hg hog hd he).trans (by cases b <;> cases pol <;> first | rfl | exact absurd rfl hb)
theorem wanted_un {ops : Array Oper} {a : Act} {o og : Oper} {g d : Nat} {pol : Bool} (hg : o.guard = some (g, pol)) (hog : ops[g]? = some og) (hd : og.dst = some d) (he : a.eval (.tmp d) = undef) : Region.wanted o (yielded ops a.tmps) = false := by
  unfold Region.wanted
  rw [hg]
  unfold yielded
  simp only [hog, Option.bind_some, hd]
  cases ht : a.tmps[d]? with
  | none => rfl
  | some v =>
    have : v = undef := by simpa [Act.eval, ht] using he
    subst this
    rfl

theorem g_val (v : Value) (hS : BS w0 listed a' w') (hw : Region.wanted o (yielded l.toArray a'.tmps) = true) (hr : (execOp a'.eval o).run P w' = .ok (.value v) w') (hV : VG B sp i v w') :
    (Region.wanted o (yielded l.toArray a'.tmps) = true ∧ planUpon P (fun v w'' => VG B sp i v w'' ∧ BS w0 (listed.setIfInBounds i true) (a'.put o.dst v) w'' ∧ ∀ j u, VG B sp j u w' → VG B sp j u w'') ((execOp a'.eval o).run P w')) ∨ (Region.wanted o (yielded l.toArray a'.tmps) = false ∧ VG B sp i undef w' ∧ BS w0 (listed.setIfInBounds i true) (a'.put o.dst undef) w') :=
  .inl ⟨hw, by rw [hr]; exact ⟨hV, hS, fun _ _ h => h⟩⟩
theorem g_new (v : Value) (O : Obj) (hS : BS w0 listed a' w') (hw : Region.wanted o (yielded l.toArray a'.tmps) = true) (hr : (execOp a'.eval o).run P w' = .ok (.value v) (w'.alloc O)) (hV : VG B sp i v (w'.alloc O)) :
    (Region.wanted o (yielded l.toArray a'.tmps) = true ∧ planUpon P (fun v w'' => VG B sp i v w'' ∧ BS w0 (listed.setIfInBounds i true) (a'.put o.dst v) w'' ∧ ∀ j u, VG B sp j u w' → VG B sp j u w'') ((execOp a'.eval o).run P w')) ∨ (Region.wanted o (yielded l.toArray a'.tmps) = false ∧ VG B sp i undef w' ∧ BS w0 (listed.setIfInBounds i true) (a'.put o.dst undef) w') :=
  .inl ⟨hw, by rw [hr]; exact ⟨hV, Below.alloc hS (Below.size hS) O, VG.keep ((Below.refl _ w').alloc (Nat.le_refl _) _)⟩⟩
theorem g_call (f : FuncId) (args : Array Value) (hS : BS w0 listed a' w') (hw : Region.wanted o (yielded l.toArray a'.tmps) = true) (hr : (execOp a'.eval o).run P w' = .ok (.enter f args) w') (hc : Calls P f args w' (fun e w'' => ∃ v, e = .returned v ∧ VG B sp i v w'' ∧ Below w'.heap.size w' w'')) :
    (Region.wanted o (yielded l.toArray a'.tmps) = true ∧ planUpon P (fun v w'' => VG B sp i v w'' ∧ BS w0 (listed.setIfInBounds i true) (a'.put o.dst v) w'' ∧ ∀ j u, VG B sp j u w' → VG B sp j u w'') ((execOp a'.eval o).run P w')) ∨ (Region.wanted o (yielded l.toArray a'.tmps) = false ∧ VG B sp i undef w' ∧ BS w0 (listed.setIfInBounds i true) (a'.put o.dst undef) w') :=
  .inl ⟨hw, by
    rw [hr]
    exact Calls.mono hc fun e w'' ⟨v, he, hV, hb⟩ => ⟨v, he, hV, Below.trans hS (hb.mono (Below.size hS)), VG.keep hb⟩⟩
theorem g_run (v : Value) (w'' : World) (hS : BS w0 listed a' w') (hw : Region.wanted o (yielded l.toArray a'.tmps) = true) (hr : (execOp a'.eval o).run P w' = .ok (.value v) w'') (hb : Below w'.heap.size w' w'') (hV : VG B sp i v w'') :
    (Region.wanted o (yielded l.toArray a'.tmps) = true ∧ planUpon P (fun v w'' => VG B sp i v w'' ∧ BS w0 (listed.setIfInBounds i true) (a'.put o.dst v) w'' ∧ ∀ j u, VG B sp j u w' → VG B sp j u w'') ((execOp a'.eval o).run P w')) ∨ (Region.wanted o (yielded l.toArray a'.tmps) = false ∧ VG B sp i undef w' ∧ BS w0 (listed.setIfInBounds i true) (a'.put o.dst undef) w') :=
  .inl ⟨hw, by rw [hr]; exact ⟨hV, Below.trans hS (hb.mono (Below.size hS)), VG.keep hb⟩⟩
theorem g_not (hS : BS w0 listed a' w') (hw : Region.wanted o (yielded l.toArray a'.tmps) = false) (hV : VG B sp i undef w') :
    (Region.wanted o (yielded l.toArray a'.tmps) = true ∧ planUpon P (fun v w'' => VG B sp i v w'' ∧ BS w0 (listed.setIfInBounds i true) (a'.put o.dst v) w'' ∧ ∀ j u, VG B sp j u w' → VG B sp j u w'') ((execOp a'.eval o).run P w')) ∨ (Region.wanted o (yielded l.toArray a'.tmps) = false ∧ VG B sp i undef w' ∧ BS w0 (listed.setIfInBounds i true) (a'.put o.dst undef) w') :=
  .inr ⟨hw, hV, hS⟩
/-- A contract whose value is one. -/
theorem c_val {f : FuncId} {args : Array Value} {v : Value} (h : Calls P f args w' fun e w'' => e = .returned v ∧ Below w'.heap.size w' w'') (hi : sp[i]? = some (.val v)) : Calls P f args w' (fun e w'' => ∃ v, e = .returned v ∧ VG B sp i v w'' ∧ Below w'.heap.size w' w'') :=
  h.mono fun e w'' ⟨he, hb⟩ => ⟨v, he, by unfold VG; rw [hi]; rfl, hb⟩
end
theorem vs_cons (vs : List Value) {n : Nat} (h : vs.length = n + 1) : ∃ v r, vs = v :: r ∧ r.length = n := by
  cases vs with
  | nil => cases h
  | cons v r => exact ⟨v, r, rfl, by simpa using h⟩
/-- A contract whose value something holds of. -/
theorem c_pr {P : Program} {B i : Nat} {sp : List GV} {w' : World} {f : FuncId} {args : Array Value} {p : Value → World → Prop} {hk : ∀ v w w', p v w → Below w.heap.size w w' → p v w'} (h : Calls P f args w' fun e w'' => ∃ v, e = .returned v ∧ p v w'' ∧ Below w'.heap.size w' w'') (hi : sp[i]? = some (.pr p hk)) : Calls P f args w' (fun e w'' => ∃ v, e = .returned v ∧ VG B sp i v w'' ∧ Below w'.heap.size w' w'') :=
  h.mono fun e w'' ⟨v, he, hp, hb⟩ => ⟨v, he, by unfold VG; rw [hi]; exact hp, hb⟩

/-- What lies in a block from a place on. -/
structure Lies (w : World) (b off : Nat) (vs : List Value) : Prop where
  lt : b < w.heap.size
  at_ : ∀ (k : Nat) v, vs[k]? = some v → w.cell? ⟨b, off + k, none⟩ = some v
theorem Lies.below {w w' : World} {b off : Nat} {vs : List Value} (h : Lies w b off vs) (hb : Below w.heap.size w w') : Lies w' b off vs :=
  ⟨Nat.lt_of_lt_of_le h.lt hb.size, fun k v hv => (hb.cell (p := ⟨b, off + k, none⟩) h.lt).trans (h.at_ k v hv)⟩
theorem Lies.of_block {w : World} {b : Nat} {vs : List Value} {T : TypeId} (h : w.heap[b]? = some (.cells vs.toArray T (0, 0))) : Lies w b 0 vs :=
  ⟨heap_lt h, fun k v hv => by rw [Nat.zero_add, cell_of_row w b k _ _ (0, 0) h]; simpa using hv⟩
theorem Lies.new (w : World) (vs : List Value) (T : TypeId) : Lies (w.alloc (.cells vs.toArray T)) w.heap.size 0 vs := Lies.of_block (heap_alloc_new w _)
theorem Lies.newAt {w : World} {b : Nat} {vs : List Value} {T : TypeId} (h : b = w.heap.size) : Lies (w.alloc (.cells vs.toArray T)) b 0 vs := h ▸ Lies.new w vs T
theorem Lies.alloc {w : World} {b off : Nat} {vs : List Value} (h : Lies w b off vs) (O : Obj) : Lies (w.alloc O) b off vs := h.below ((Below.refl _ w).alloc (Nat.le_refl _) _)
theorem Lies.at0 {w : World} {b off : Nat} {vs : List Value} (h : Lies w b off vs) (k q : Nat) (v : Value) (hv : vs[k]? = some v) (hq : off + k = q) : w.cell? ⟨b, q, none⟩ = some v := hq ▸ h.at_ k v hv
theorem Lies.sub {w : World} {b off : Nat} {vs : List Value} (h : Lies w b off vs) (j : Nat) : Lies w b (off + j) (vs.drop j) := ⟨h.lt, fun k v hv => by rw [Nat.add_assoc]; exact h.at_ _ v (by rwa [List.getElem?_drop] at hv)⟩

section
variable {P : Program} {o : Oper} {ev : Operand → Value} {w : World} {x y z : Operand}
def aggB : TypeDesc → Bool
  | .struct _ => true
  | .array _ _ => true
  | _ => false
theorem run_isAgg {t : TypeId} {d : TypeDesc} (hu : P.underlying t = some d) (w : World) : (isAgg t).run P w = .ok (aggB d) w := by
  unfold isAgg
  rw [Sem.run_bind, run_underlying hu w]
  cases d <;> simp [aggB]
theorem op_move {v : Value} (ho : o.op = .move x) (hx : ev x = v) : (execOp ev o).run P w = .ok (.value v) w := by
  unfold execOp
  simp only [ho, hx, Sem.run_pure]
theorem op_assign {v : Value} (ho : o.op = .assign x) (hx : ev x = v) : (execOp ev o).run P w = .ok (.value v) w := by
  unfold execOp
  simp only [ho, hx, Sem.run_pure]
theorem op_not {t : TypeId} {b : Bool} (ho : o.op = .unOp .not t x) (hx : ev x = .bool b) : (execOp ev o).run P w = .ok (.value (.bool (!b))) w := by
  unfold execOp
  simp only [ho, hx]
  cases b <;> rfl
theorem op_pick_t {v : Value} (ho : o.op = .pick x y z) (hx : ev x = .bool true) (hy : ev y = v) : (execOp ev o).run P w = .ok (.value v) w := by
  unfold execOp
  simp only [ho, hx, hy, Sem.run_bind]
  rfl
theorem op_pick_f {v : Value} (ho : o.op = .pick x y z) (hx : ev x = .bool false) (hz : ev z = v) : (execOp ev o).run P w = .ok (.value v) w := by
  unfold execOp
  simp only [ho, hx, hz, Sem.run_bind]
  rfl
theorem op_ld1 {T : TypeId} {d : TypeDesc} {b off q : Nat} {vs : List Value} (v : Value) (ho : o.op = .load T x) (hx : ev x = .pointer (some ⟨b, q, none⟩)) (h : Lies w b off vs) (j : Nat) (hq : off + j = q) (hv : vs[j]? = some v) (hu : P.underlying T = some d) (hd : aggB d = false) :
    (execOp ev o).run P w = .ok (.value v) w := by
  have hc := h.at0 j q v hv hq
  unfold execOp
  simp only [ho, hx, Instr.loadAt, Instr.sureAddr, Sem.run_bind, Sem.run_pure, Result.andThen_ok, loadVar, run_isAgg hu, hd, run_load, hc, if_neg Bool.false_ne_true]
theorem op_ld {T : TypeId} {d : TypeDesc} {b off q : Nat} {vs : List Value} (cs : List Value) (ho : o.op = .load T x) (hx : ev x = .pointer (some ⟨b, q, none⟩)) (h : Lies w b off vs) (j : Nat) (hq : off + j = q) (hv : (vs.drop j).take cs.length = cs) (hu : P.underlying T = some d) (hd : aggB d = true) (hi : (P.info? T).map (·.size) = some cs.length) :
    (execOp ev o).run P w = .ok (.value (.agg cs.toArray)) w := by
  have hl : (loadCells ⟨b, q, none⟩ cs.length).run P w = .ok cs.toArray w :=
    run_loadCells_list (P := P) w ⟨b, q, none⟩ cs (fun k v hk => by
      rw [Addr.add_lit]
      refine h.at0 (j + k) _ v ?_ (by omega)
      rw [← hv, List.getElem?_take] at hk
      split at hk
      · rwa [List.getElem?_drop] at hk
      · cases hk)
  cases hq' : P.info? T with
  | none => simp [hq'] at hi
  | some i =>
    have hs : i.size = cs.length := by simpa [hq'] using hi
    unfold execOp
    simp only [ho, hx, Instr.loadAt, Instr.sureAddr, Sem.run_bind, Sem.run_pure, Result.andThen_ok, loadVar, run_isAgg hu, hd]
    simp [sizeOf, typeInfo, hq', hs, hl]
theorem op_ixa {T e : TypeId} {n b off len cap k : Nat} (ho : o.op = .indexAddr T x y) (hx : ev x = .slice (some ⟨b, off, none⟩) len cap) (hy : ev y = .int .i64 (k : Int)) (hu : P.underlying T = some (.slice e)) (hn : (P.info? e).map (·.size) = some n) (hk : k < len) :
    (execOp ev o).run P w = .ok (.value (.pointer (some ⟨b, off + k * n, none⟩))) w := by
  cases hq : P.info? e with
  | none => simp [hq] at hn
  | some i =>
    have hs : i.size = n := by simpa [hq] using hn
    have hk' : (0 : Int) ≤ (k : Int) ∧ (k : Int) < (len : Int) := by omega
    have hsz : (sizeOf e).run P w = .ok n w := by simp [sizeOf, typeInfo, hq, hs]
    unfold execOp
    simp only [ho, hx, hy]
    unfold Instr.indexAt
    simp only [asIntOf, Sem.run_bind, Sem.run_pure, Result.andThen_ok, run_underlying hu, if_pos hk', hsz, Addr.add_lit, Int.toNat_natCast]
theorem op_eqlb {t t' : TypeId} {a b : Bool} (ho : o.op = .binOp .eql t x y t') (hx : ev x = .bool a) (hy : ev y = .bool b) (hu : P.underlying t = some .bool) : (execOp ev o).run P w = .ok (.value (.bool (a == b))) w := by
  unfold execOp
  simp only [ho, hx, hy]
  cases a <;> cases b <;> simp [go_sem, hu]
theorem op_neqb {t t' : TypeId} {a b : Bool} (ho : o.op = .binOp .neq t x y t') (hx : ev x = .bool a) (hy : ev y = .bool b) (hu : P.underlying t = some .bool) : (execOp ev o).run P w = .ok (.value (.bool (!(a == b)))) w := by
  unfold execOp
  simp only [ho, hx, hy]
  cases a <;> cases b <;> simp [go_sem, hu]
end
#print axioms op_ld
end Go.Proofs.Ytpepjmcglglepaa
