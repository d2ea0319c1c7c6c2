/- Steps of regions that draw their order: what each operation's value is. -/
import Derived.Test.YtepjefgbbobphaaTrGet
namespace Go.Proofs.Ytepjefgbbobphaa
open Go.RowKit
set_option maxRecDepth 100000
set_option linter.unusedVariables false

/-- What an operation's value is: one value, a new row, a new variable, what something holds of; or nothing is said. -/
inductive GV where
  | val (x : Value)
  | row (X : Array Value) (T : TypeId) (n : Nat)
  | ptr (X : Array Value) (T : TypeId)
  | pr (p : Value → World → Prop) (h : ∀ v w w', p v w → Below w.heap.size w w' → p v w')
  | any

def GV.ok (B : Nat) : GV → Value → World → Prop
  | .val x, v, _ => v = x
  | .row X T n, v, w => ∃ r, B ≤ r ∧ v = .slice (some ⟨r, 0, none⟩) n n ∧ w.heap[r]? = some (.cells X T (0, 0))
  | .ptr X T, v, w => ∃ r, B ≤ r ∧ v = .pointer (some ⟨r, 0, none⟩) ∧ w.heap[r]? = some (.cells X T (0, 0))
  | .pr p _, v, w => p v w
  | .any, _, _ => True

theorem GV.keep {B : Nat} {g : GV} {v : Value} {w w' : World} (h : g.ok B v w) (hb : Below w.heap.size w w') : g.ok B v w' := by
  cases g with
  | val x => exact h
  | row X T n => obtain ⟨r, h1, h2, h3⟩ := h; exact ⟨r, h1, h2, (hb.block r (heap_lt h3)).trans h3⟩
  | ptr X T => obtain ⟨r, h1, h2, h3⟩ := h; exact ⟨r, h1, h2, (hb.block r (heap_lt h3)).trans h3⟩
  | pr p k => exact k _ _ _ h hb
  | any => trivial

def VG (B : Nat) (sp : List GV) (i : Nat) (v : Value) (w : World) : Prop :=
  match sp[i]? with
  | some s => s.ok B v w
  | none => True
theorem VG.keep {B : Nat} {sp : List GV} {w w' : World} (hb : Below w.heap.size w w') : ∀ j u, VG B sp j u w → VG B sp j u w' := by
  intro j u h
  unfold VG at *
  cases hs : sp[j]? with
  | none => trivial
  | some s => rw [hs] at h; exact GV.keep h hb

/-- What lay there when the region began lies there still. -/
def BS (w0 : World) : Array Bool → Act → World → Prop := fun _ _ w => Below w0.heap.size w0 w

section
variable {P : Program} {l : List Oper} {B : Nat} {sp : List GV} {w0 : World} {a a' : Act} {i : Nat} {o : Oper} {listed : Array Bool} {w' : World}
theorem Seen.out {md : Region.Mode} {ops : Array Oper} {V : Nat → Value → World → Prop} {a0 a : Act} {listed : Array Bool} {w : World} (h : Seen md ops V a0 listed a w) (t : Nat) (ht : (ops.toList.all fun o => o.dst != some t) = true) : a.eval (.tmp t) = a0.eval (.tmp t) :=
  h.was t fun i o ho => by simpa using List.all_eq_true.1 ht o (by simpa using Array.mem_of_getElem? ho)

theorem wanted_of {ops : Array Oper} {a : Act} {o og : Oper} {g d : Nat} {b pol : Bool} (hg : o.guard = some (g, pol)) (hog : ops[g]? = some og) (hd : og.dst = some d) (he : a.eval (.tmp d) = .bool b) : Region.wanted o (yielded ops a.tmps) = (b == pol) := by
  have h1 : a.tmps[d]? = some (.bool b) := by
    cases ht : a.tmps[d]? with
    | none => simp [Act.eval, ht, undef] at he
    | some v => simp [Act.eval, ht] at he; rw [he]
  unfold Region.wanted
  rw [hg]
  unfold yielded
  simp only [hog, Option.bind_some, hd, h1]
  cases b <;> cases pol <;> rfl

theorem wanted_yes {ops : Array Oper} {a : Act} {o og : Oper} {g d : Nat} {pol : Bool} (hg : o.guard = some (g, pol)) (hog : ops[g]? = some og) (hd : og.dst = some d) (he : a.eval (.tmp d) = .bool pol) : Region.wanted o (yielded ops a.tmps) = true :=
  (wanted_of hg hog hd he).trans (by cases pol <;> rfl)
theorem wanted_no {ops : Array Oper} {a : Act} {o og : Oper} {g d : Nat} {b pol : Bool} (hg : o.guard = some (g, pol)) (hog : ops[g]? = some og) (hd : og.dst = some d) (he : a.eval (.tmp d) = .bool b) (hb : b ≠ pol) : Region.wanted o (yielded ops a.tmps) = false :=
  (wanted_of hg hog hd he).trans (by cases b <;> cases pol <;> first | rfl | exact absurd rfl hb)

theorem g_val (v : Value) (hS : BS w0 listed a' w') (hw : Region.wanted o (yielded l.toArray a'.tmps) = true) (hr : (execOp a'.eval o).run P w' = .ok (.value v) w') (hV : VG B sp i v w') :
    (Region.wanted o (yielded l.toArray a'.tmps) = true ∧ planUpon P (fun v w'' => VG B sp i v w'' ∧ BS w0 (listed.setIfInBounds i true) (a'.put o.dst v) w'' ∧ ∀ j u, VG B sp j u w' → VG B sp j u w'') ((execOp a'.eval o).run P w')) ∨ (Region.wanted o (yielded l.toArray a'.tmps) = false ∧ VG B sp i undef w' ∧ BS w0 (listed.setIfInBounds i true) (a'.put o.dst undef) w') :=
  .inl ⟨hw, by rw [hr]; exact ⟨hV, hS, fun _ _ h => h⟩⟩
theorem g_new (v : Value) (O : Obj) (hS : BS w0 listed a' w') (hw : Region.wanted o (yielded l.toArray a'.tmps) = true) (hr : (execOp a'.eval o).run P w' = .ok (.value v) (w'.alloc O)) (hV : VG B sp i v (w'.alloc O)) :
    (Region.wanted o (yielded l.toArray a'.tmps) = true ∧ planUpon P (fun v w'' => VG B sp i v w'' ∧ BS w0 (listed.setIfInBounds i true) (a'.put o.dst v) w'' ∧ ∀ j u, VG B sp j u w' → VG B sp j u w'') ((execOp a'.eval o).run P w')) ∨ (Region.wanted o (yielded l.toArray a'.tmps) = false ∧ VG B sp i undef w' ∧ BS w0 (listed.setIfInBounds i true) (a'.put o.dst undef) w') :=
  .inl ⟨hw, by rw [hr]; exact ⟨hV, Below.alloc hS (Below.size hS) O, VG.keep ((Below.refl _ w').alloc (Nat.le_refl _) _)⟩⟩
theorem g_call (f : FuncId) (args : Array Value) (hS : BS w0 listed a' w') (hw : Region.wanted o (yielded l.toArray a'.tmps) = true) (hr : (execOp a'.eval o).run P w' = .ok (.enter f args) w') (hc : Calls P f args w' (fun e w'' => ∃ v, e = .returned v ∧ VG B sp i v w'' ∧ Below w'.heap.size w' w'')) :
    (Region.wanted o (yielded l.toArray a'.tmps) = true ∧ planUpon P (fun v w'' => VG B sp i v w'' ∧ BS w0 (listed.setIfInBounds i true) (a'.put o.dst v) w'' ∧ ∀ j u, VG B sp j u w' → VG B sp j u w'') ((execOp a'.eval o).run P w')) ∨ (Region.wanted o (yielded l.toArray a'.tmps) = false ∧ VG B sp i undef w' ∧ BS w0 (listed.setIfInBounds i true) (a'.put o.dst undef) w') :=
  .inl ⟨hw, by
    rw [hr]
    exact Calls.mono hc fun e w'' ⟨v, he, hV, hb⟩ => ⟨v, he, hV, Below.trans hS (hb.mono (Below.size hS)), VG.keep hb⟩⟩
theorem g_not (hS : BS w0 listed a' w') (hw : Region.wanted o (yielded l.toArray a'.tmps) = false) (hV : VG B sp i undef w') :
    (Region.wanted o (yielded l.toArray a'.tmps) = true ∧ planUpon P (fun v w'' => VG B sp i v w'' ∧ BS w0 (listed.setIfInBounds i true) (a'.put o.dst v) w'' ∧ ∀ j u, VG B sp j u w' → VG B sp j u w'') ((execOp a'.eval o).run P w')) ∨ (Region.wanted o (yielded l.toArray a'.tmps) = false ∧ VG B sp i undef w' ∧ BS w0 (listed.setIfInBounds i true) (a'.put o.dst undef) w') :=
  .inr ⟨hw, hV, hS⟩
/-- A contract whose value is one. -/
theorem c_val {f : FuncId} {args : Array Value} {v : Value} (h : Calls P f args w' fun e w'' => e = .returned v ∧ Below w'.heap.size w' w'') (hi : sp[i]? = some (.val v)) : Calls P f args w' (fun e w'' => ∃ v, e = .returned v ∧ VG B sp i v w'' ∧ Below w'.heap.size w' w'') :=
  h.mono fun e w'' ⟨he, hb⟩ => ⟨v, he, by unfold VG; rw [hi]; rfl, hb⟩
end


theorem vs_cons (vs : List Value) {n : Nat} (h : vs.length = n + 1) : ∃ v r, vs = v :: r ∧ r.length = n := by
  cases vs with
  | nil => cases h
  | cons v r => exact ⟨v, r, rfl, by simpa using h⟩
theorem vs_9 (vs : List Value) (h : vs.length = 9) : ∃ v0 v1 v2 v3 v4 v5 v6 v7 v8, vs = [v0, v1, v2, v3, v4, v5, v6, v7, v8] := by
  obtain ⟨v0, r0, rfl, h0⟩ := vs_cons vs h
  obtain ⟨v1, r1, rfl, h1⟩ := vs_cons r0 h0
  obtain ⟨v2, r2, rfl, h2⟩ := vs_cons r1 h1
  obtain ⟨v3, r3, rfl, h3⟩ := vs_cons r2 h2
  obtain ⟨v4, r4, rfl, h4⟩ := vs_cons r3 h3
  obtain ⟨v5, r5, rfl, h5⟩ := vs_cons r4 h4
  obtain ⟨v6, r6, rfl, h6⟩ := vs_cons r5 h5
  obtain ⟨v7, r7, rfl, h7⟩ := vs_cons r6 h6
  obtain ⟨v8, r8, rfl, h8⟩ := vs_cons r7 h7
  obtain rfl := List.eq_nil_of_length_eq_zero h8
  exact ⟨v0, v1, v2, v3, v4, v5, v6, v7, v8, rfl⟩
/-- A contract whose value something holds of. -/
theorem c_pr {P : Program} {B i : Nat} {sp : List GV} {w' : World} {f : FuncId} {args : Array Value} {p : Value → World → Prop} {hk : ∀ v w w', p v w → Below w.heap.size w w' → p v w'} (h : Calls P f args w' fun e w'' => ∃ v, e = .returned v ∧ p v w'' ∧ Below w'.heap.size w' w'') (hi : sp[i]? = some (.pr p hk)) : Calls P f args w' (fun e w'' => ∃ v, e = .returned v ∧ VG B sp i v w'' ∧ Below w'.heap.size w' w'') :=
  h.mono fun e w'' ⟨v, he, hp, hb⟩ => ⟨v, he, by unfold VG; rw [hi]; exact hp, hb⟩
end Go.Proofs.Ytepjefgbbobphaa
