/- Steps of regions that make variables and write them, whatever the order: what each variable holds, by whether its store has come up. -/
import Derived.Test.YtmaddfjgiflkbaaDoorCtGen2
import Derived.Test.YtmaddfjgiflkbaaDoorQGen2
namespace Go.Proofs.YtmaddfjgiflkbaaDoor
set_option maxRecDepth 100000
open Go.RowKit
set_option maxRecDepth 100000
set_option linter.unusedVariables false

/-- A variable that a region makes, and writes once: the places of the operations, its slot, what it holds. -/
structure MV where
  place : Nat
  slot : Nat
  store : Nat
  zero : Obj
  full : Obj
structure MS (w0 : World) (ml : List MV) (listed : Array Bool) (a : Act) (w : World) : Prop where
  below : Below w0.heap.size w0 w
  at_ : ∀ p ∈ ml, listed.getD p.place false = true → ∃ r, w0.heap.size ≤ r ∧ a.eval (.tmp p.slot) = .pointer (some ⟨r, 0, none⟩) ∧ w.heap[r]? = some (if listed.getD p.store false then p.full else p.zero)
  apart : ∀ p ∈ ml, ∀ q ∈ ml, p.place ≠ q.place → listed.getD p.place false = true → listed.getD q.place false = true → a.eval (.tmp p.slot) ≠ a.eval (.tmp q.slot)

def plainSp (sp : List GV) : Bool := sp.all fun
  | .val _ => true
  | .any => true
  | _ => false
theorem VG.plain {B : Nat} {sp : List GV} {w w' : World} (h : plainSp sp = true) : ∀ j u, VG B sp j u w → VG B sp j u w' := by
  intro j u hv
  unfold VG at *
  cases hs : sp[j]? with
  | none => trivial
  | some s =>
    rw [hs] at hv
    have := List.all_eq_true.1 h s (List.mem_of_getElem? hs)
    cases s with
    | val x => exact hv
    | any => trivial
    | row X T n => cases this
    | ptr X T => cases this
    | ints l => cases this

theorem VG.none_of {l : List Oper} {B : Nat} {sp : List GV} (h : ((List.range l.length).all fun i => match l[i]?, sp[i]? with
    | some _, some .any => true
    | some o, _ => o.dst.isSome
    | none, _ => true) = true) : ∀ (i : Nat) o, l[i]? = some o → o.dst = none → ∀ w, VG B sp i undef w := fun i o ho hd w => by
  have h1 := List.all_eq_true.1 h i (List.mem_range.2 (List.getElem?_eq_some_iff.1 ho).1)
  unfold VG
  rw [ho] at h1
  cases hs : sp[i]? with
  | none => trivial
  | some g =>
    rw [hs] at h1
    cases g <;> first | trivial | (simp [hd] at h1)

section
variable {P : Program} {l : List Oper} {B : Nat} {sp : List GV} {w0 : World} {ml : List MV} {a a' : Act} {i : Nat} {o : Oper} {listed : Array Bool} {w' w'' : World} {v : Value}
theorem MS.keep (h : MS w0 ml listed a' w') (hi : (ml.all fun p => p.place != i && p.store != i && o.dst != some p.slot) = true) (hb : Below w'.heap.size w' w'') : MS w0 ml (listed.setIfInBounds i true) (a'.put o.dst v) w'' := by
  have hx : ∀ p ∈ ml, (p.place ≠ i ∧ p.store ≠ i) ∧ o.dst ≠ some p.slot := fun p hp => by
    have := List.all_eq_true.1 hi p hp
    simpa only [Bool.and_eq_true, bne_iff_ne, ne_eq] using this
  refine ⟨h.below.trans (hb.mono h.below.size), fun p hp h1 => ?_, fun p hp q hq hne h1 h2 => ?_⟩
  · have hp' := hx p hp
    rw [getD_set_ne false (fun e => hp'.1.1 e.symm)] at h1
    rw [getD_set_ne false (fun e => hp'.1.2 e.symm), eval_put_other _ _ _ _ hp'.2]
    obtain ⟨r, hr, he, hk⟩ := h.at_ p hp h1
    exact ⟨r, hr, he, (hb.block r (heap_lt hk)).trans hk⟩
  · have hp' := hx p hp
    have hq' := hx q hq
    rw [getD_set_ne false (fun e => hp'.1.1 e.symm)] at h1
    rw [getD_set_ne false (fun e => hq'.1.1 e.symm)] at h2
    rw [eval_put_other _ _ _ _ hp'.2, eval_put_other _ _ _ _ hq'.2]
    exact h.apart p hp q hq hne h1 h2

theorem gM_val (v : Value) (hS : MS w0 ml listed a' w') (hw : Region.wanted o (yielded l.toArray a'.tmps) = true) (hr : (execOp a'.eval o).run P w' = .ok (.value v) w') (hV : VG B sp i v w') (hi : (ml.all fun p => p.place != i && p.store != i && o.dst != some p.slot) = true) :
    (Region.wanted o (yielded l.toArray a'.tmps) = true ∧ planUpon2 P (fun v w'' => VG B sp i v w'' ∧ MS w0 ml (listed.setIfInBounds i true) (a'.put o.dst v) w'' ∧ ∀ j u, VG B sp j u w' → VG B sp j u w'') ((execOp a'.eval o).run P w')) ∨ (Region.wanted o (yielded l.toArray a'.tmps) = false ∧ VG B sp i undef w' ∧ MS w0 ml (listed.setIfInBounds i true) (a'.put o.dst undef) w') :=
  .inl ⟨hw, by rw [hr]; exact ⟨hV, hS.keep hi (Below.refl _ _), fun _ _ h => h⟩⟩

theorem gM_call (f : FuncId) (args : Array Value) (hS : MS w0 ml listed a' w') (hw : Region.wanted o (yielded l.toArray a'.tmps) = true) (hr : (execOp a'.eval o).run P w' = .ok (.enter f args) w') (hi : (ml.all fun p => p.place != i && p.store != i && o.dst != some p.slot) = true) (hsp : plainSp sp = true) (hc : Calls P f args w' (fun e w'' => ∃ v, e = .returned v ∧ VG B sp i v w'' ∧ Below w'.heap.size w' w'')) :
    (Region.wanted o (yielded l.toArray a'.tmps) = true ∧ planUpon2 P (fun v w'' => VG B sp i v w'' ∧ MS w0 ml (listed.setIfInBounds i true) (a'.put o.dst v) w'' ∧ ∀ j u, VG B sp j u w' → VG B sp j u w'') ((execOp a'.eval o).run P w')) ∨ (Region.wanted o (yielded l.toArray a'.tmps) = false ∧ VG B sp i undef w' ∧ MS w0 ml (listed.setIfInBounds i true) (a'.put o.dst undef) w') :=
  .inl ⟨hw, by
    rw [hr]
    exact Calls.mono hc fun e w'' ⟨v, he, hV, hb⟩ => ⟨v, he, hV, hS.keep hi hb, VG.plain hsp⟩⟩

theorem gM_make (p : MV) (hp : p ∈ ml) (hS : MS w0 ml listed a' w') (hs : Seen .any l.toArray (VG B sp) a listed a' w') (hun : listed.getD i true = false) (hw : Region.wanted o (yielded l.toArray a'.tmps) = true) (hr : (execOp a'.eval o).run P w' = .ok (.value (.pointer (some ⟨w'.heap.size, 0, none⟩))) (w'.alloc p.zero)) (hV : VG B sp i (.pointer (some ⟨w'.heap.size, 0, none⟩)) (w'.alloc p.zero)) (hd : o.dst = some p.slot) (hdm : p.slot < a.tmps.size) (hsp : plainSp sp = true)
    (hpi : p.place = i) (hst : (match l[p.store]? with | some o' => o'.after.any fun e => Region.binds .any e && e.on == i | none => false) = true) (hsi : p.store ≠ i)
    (hi : (ml.all fun q => (q.place == i && q.slot == p.slot && q.store == p.store) || (q.place != i && q.store != i && q.slot != p.slot)) = true) (hone : ∀ q ∈ ml, q.place = i → q = p) :
    (Region.wanted o (yielded l.toArray a'.tmps) = true ∧ planUpon2 P (fun v w'' => VG B sp i v w'' ∧ MS w0 ml (listed.setIfInBounds i true) (a'.put o.dst v) w'' ∧ ∀ j u, VG B sp j u w' → VG B sp j u w'') ((execOp a'.eval o).run P w')) ∨ (Region.wanted o (yielded l.toArray a'.tmps) = false ∧ VG B sp i undef w' ∧ MS w0 ml (listed.setIfInBounds i true) (a'.put o.dst undef) w') := by
  refine .inl ⟨hw, ?_⟩
  rw [hr]
  refine ⟨hV, ?_, VG.plain hsp⟩
  have hb : Below w'.heap.size w' (w'.alloc p.zero) := (Below.refl _ w').alloc (Nat.le_refl _) _
  have hnew : (a'.put o.dst (.pointer (some ⟨w'.heap.size, 0, none⟩))).eval (.tmp p.slot) = .pointer (some ⟨w'.heap.size, 0, none⟩) := by
    rw [hd]; simp [Act.eval, Act.put, show p.slot < a'.tmps.size by rw [hs.tmps]; exact hdm]
  have hoth : ∀ q ∈ ml, q.place ≠ i → q.store ≠ i ∧ q.slot ≠ p.slot := fun q hq hne => by
    have h1 := List.all_eq_true.1 hi q hq
    simp only [Bool.or_eq_true, Bool.and_eq_true, beq_iff_eq, bne_iff_ne, ne_eq] at h1
    rcases h1 with h1 | h1
    · exact absurd h1.1.1 hne
    · exact ⟨h1.1.2, h1.2⟩
  have hnot : listed.getD p.store false = false := by
    cases hl : listed.getD p.store false with
    | false => rfl
    | true =>
      cases ho : l[p.store]? with
      | none => rw [ho] at hst; cases hst
      | some o' =>
        rw [ho] at hst
        obtain ⟨e, he, hb⟩ := Array.any_eq_true'.1 hst
        simp only [Bool.and_eq_true, beq_iff_eq] at hb
        have := hs.closed p.store o' (by simpa using ho) hl e he hb.1
        rw [hb.2, getD_both hun] at this
        cases this
  refine ⟨hS.below.alloc hS.below.size _, fun q hq h1 => ?_, fun x hx y hy hne h1 h2 => ?_⟩
  · by_cases hqi : q.place = i
    · obtain rfl := hone q hq hqi
      refine ⟨w'.heap.size, hS.below.size, hnew, ?_⟩
      rw [getD_set_ne false (fun e => hsi e.symm), hnot]
      exact heap_alloc_new w' _
    · rw [getD_set_ne false (fun e => hqi e.symm)] at h1
      obtain ⟨r, hr, he, hk⟩ := hS.at_ q hq h1
      have h3 := hoth q hq hqi
      rw [getD_set_ne false (fun e => h3.1 e.symm)]
      exact ⟨r, hr, by rw [eval_put_other _ _ _ _ (by rw [hd]; intro e; injection e with e; exact h3.2 e.symm)]; exact he, (hb.block r (heap_lt hk)).trans hk⟩
  · by_cases hxi : x.place = i
    · obtain rfl := hone x hx hxi
      have hyi : y.place ≠ i := fun e => hne (hxi.trans e.symm)
      rw [getD_set_ne false (fun e => hyi e.symm)] at h2
      obtain ⟨r, _, he, hk⟩ := hS.at_ y hy h2
      rw [hnew, eval_put_other _ _ _ _ (by rw [hd]; intro e; injection e with e; exact (hoth y hy hyi).2 e.symm), he]
      intro e
      injection e with e; injection e with e; injection e with e
      have := heap_lt hk
      omega
    · rw [getD_set_ne false (fun e => hxi e.symm)] at h1
      by_cases hyi : y.place = i
      · obtain rfl := hone y hy hyi
        obtain ⟨r, _, he, hk⟩ := hS.at_ x hx h1
        rw [hnew, eval_put_other _ _ _ _ (by rw [hd]; intro e; injection e with e; exact (hoth x hx hxi).2 e.symm), he]
        intro e
        injection e with e; injection e with e; injection e with e
        have := heap_lt hk
        omega
      · rw [getD_set_ne false (fun e => hyi e.symm)] at h2
        rw [eval_put_other _ _ _ _ (by rw [hd]; intro e; injection e with e; exact (hoth x hx hxi).2 e.symm), eval_put_other _ _ _ _ (by rw [hd]; intro e; injection e with e; exact (hoth y hy hyi).2 e.symm)]
        exact hS.apart x hx y hy hne h1 h2

theorem gM_store (p : MV) (hp : p ∈ ml) (hS : MS w0 ml listed a' w') (hun : listed.getD i true = false) (hw : Region.wanted o (yielded l.toArray a'.tmps) = true) (hl : listed.getD p.place false = true)
    (hr : ∀ r, a'.eval (.tmp p.slot) = .pointer (some ⟨r, 0, none⟩) → w'.heap[r]? = some p.zero → ∃ w'', (execOp a'.eval o).run P w' = .ok .skip w'' ∧ w''.heap[r]? = some p.full ∧ Only r w' w'') (hV : sp[i]? = some .any) (hd : o.dst = none) (hsp : plainSp sp = true)
    (hpi : p.store = i) (hi : (ml.all fun q => (q.place == p.place && q.store == i) || (q.place != p.place && q.store != i)) = true) (hpl : (ml.all fun q => q.place != i) = true) (hone : ∀ q ∈ ml, q.place = p.place → q = p) (hsz : i < listed.size) :
    (Region.wanted o (yielded l.toArray a'.tmps) = true ∧ planUpon2 P (fun v w'' => VG B sp i v w'' ∧ MS w0 ml (listed.setIfInBounds i true) (a'.put o.dst v) w'' ∧ ∀ j u, VG B sp j u w' → VG B sp j u w'') ((execOp a'.eval o).run P w')) ∨ (Region.wanted o (yielded l.toArray a'.tmps) = false ∧ VG B sp i undef w' ∧ MS w0 ml (listed.setIfInBounds i true) (a'.put o.dst undef) w') := by
  refine .inl ⟨hw, ?_⟩
  obtain ⟨r, hr0, he, hk⟩ := hS.at_ p hp hl
  rw [hpi, getD_both hun] at hk
  obtain ⟨w'', hrun, hfull, ho⟩ := hr r he hk
  rw [hrun]
  have hnp : ∀ q ∈ ml, q.place ≠ i := fun q hq => by
    have := List.all_eq_true.1 hpl q hq
    simpa using this
  have hput : a'.put o.dst undef = a' := by rw [hd]; rfl
  refine ⟨by unfold VG; rw [hV]; trivial, ?_, VG.plain hsp⟩
  rw [hput]
  refine ⟨hS.below.trans (ho.below hr0), fun q hq h1 => ?_, fun x hx y hy hne h1 h2 => ?_⟩
  · rw [getD_set_ne false (fun e => hnp q hq e.symm)] at h1
    obtain ⟨s, hs0, hse, hsk⟩ := hS.at_ q hq h1
    by_cases hqp : q.place = p.place
    · obtain rfl := hone q hq hqp
      have : s = r := by rw [he] at hse; injection hse with e; injection e with e; injection e with e; exact e.symm
      subst this
      refine ⟨s, hs0, hse, ?_⟩
      rw [hpi, show (listed.setIfInBounds i true).getD i false = true by simp [Array.getD, hsz]]
      exact hfull
    · have h3 := List.all_eq_true.1 hi q hq
      simp only [Bool.or_eq_true, Bool.and_eq_true, beq_iff_eq, bne_iff_ne, ne_eq] at h3
      have hqs : q.store ≠ i := by
        rcases h3 with h3 | h3
        · exact absurd h3.1 hqp
        · exact h3.2
      have hne : s ≠ r := fun e => by
        have := hS.apart q hq p hp hqp h1 hl
        rw [hse, he, e] at this
        exact this rfl
      refine ⟨s, hs0, hse, ?_⟩
      rw [getD_set_ne false (fun e => hqs e.symm)]
      exact (ho.block s hne).trans hsk
  · rw [getD_set_ne false (fun e => hnp x hx e.symm)] at h1
    rw [getD_set_ne false (fun e => hnp y hy e.symm)] at h2
    exact hS.apart x hx y hy hne h1 h2
end

section
variable {o : Oper} {ev : Operand → Value} {w : World} {x y : Operand}
theorem run_op_store {g n m : Nat} (ho : o.op = .store 23 x y) (hx : ev x = .pointer (some ⟨g, 0, none⟩)) (hy : ev y = .agg (C.cv m)) (h : SetAt w g n) : ∃ w'', (execOp ev o).run Tryd.prog w = .ok .skip w'' ∧ SetAt w'' g m ∧ Only g w w'' := by
  refine ⟨w.setRow g (C.cv m), ?_, setRow_heap w g _ _ _ _ h, ⟨rfl, rfl, rfl, by simp, fun k hk => setRow_other w g k _ hk⟩⟩
  unfold execOp
  simp only [ho, hx, hy, Instr.storeAt, Instr.sureAddr, Sem.run_bind, Sem.run_pure, Result.andThen_ok]
  rw [run_storeVar_row w g 23 23 _ _ h (by rw [cv_size]; exact Tryd.info_cats) (by rw [cv_size, cv_size]) (show (C.cv m).all (·.oneCell') = true from C.bv_one _)]
  rfl
end
#print axioms gM_make
#print axioms gM_store
end Go.Proofs.YtmaddfjgiflkbaaDoor
