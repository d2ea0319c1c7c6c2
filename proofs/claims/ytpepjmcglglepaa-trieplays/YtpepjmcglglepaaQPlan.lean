/- A region that draws its order, by what holds of each operation's value once it has come up, and of the world by which have: whatever the order. -/
import Derived.Test.YtpepjmcglglepaaQFloat
namespace Go.Proofs.Ytpepjmcglglepaa
open Go
section
variable {P : Program} {ops : Array Oper} {md : Region.Mode}

/-- How many of the first n are not listed. -/
def unl (listed : Array Bool) : Nat → Nat
  | 0 => 0
  | n + 1 => unl listed n + (if listed.getD n true then 0 else 1)

theorem unl_le (listed : Array Bool) (n : Nat) : unl listed n ≤ n := by
  induction n with
  | zero => exact Nat.le_refl _
  | succ n ih => simp only [unl]; split <;> omega
theorem unl_far (listed : Array Bool) (i : Nat) : ∀ n, n ≤ i → unl (listed.setIfInBounds i true) n = unl listed n
  | 0, _ => rfl
  | n + 1, h => by
    simp only [unl]
    rw [unl_far listed i n (by omega), getD_set_ne true (by omega)]
theorem unl_set (listed : Array Bool) (i : Nat) (hun : listed.getD i true = false) : ∀ n, i < n → unl (listed.setIfInBounds i true) n + 1 = unl listed n
  | 0, h => absurd h (Nat.not_lt_zero _)
  | n + 1, h => by
    simp only [unl]
    by_cases hin : i = n
    · subst hin
      rw [unl_far listed i i (Nat.le_refl _), set_self, hun]
      simp
    · have := unl_set listed i hun n (by omega)
      rw [getD_set_ne true hin]
      omega
theorem unl_zero (listed : Array Bool) : ∀ n, unl listed n = 0 → ∀ i, i < n → listed.getD i true = true
  | 0, _, i, hi => absurd hi (Nat.not_lt_zero _)
  | n + 1, h, i, hi => by
    simp only [unl] at h
    by_cases hin : i = n
    · subst hin
      by_cases hl : listed.getD i true = true
      · exact hl
      · rw [if_neg hl] at h
        omega
    · exact unl_zero listed n (by omega) i (by omega)

/-- What is asked of an operation that comes up: K of its value and of the world behind it. -/
def planUpon (P : Program) (K : Value → World → Prop) : Result Next → Prop
  | .ok (.value v) w' => K v w'
  | .ok (.enter f args) w' => Calls P f args w' (fun e w'' => ∃ v, e = .returned v ∧ K v w'')
  | _ => False

/-- What is known of the frame and of what has come up. -/
structure Seen (md : Region.Mode) (ops : Array Oper) (V : Nat → Value → World → Prop) (a0 : Act) (listed : Array Bool) (a : Act) (w : World) : Prop where
  size : listed.size = ops.size
  old : ∀ t, (∀ (i : Nat) o, ops[i]? = some o → o.dst = some t → listed.getD i false = false) → a.tmps[t]? = a0.tmps[t]?
  val : ∀ (i : Nat) o d, ops[i]? = some o → listed.getD i false = true → o.dst = some d → ∃ v, a.tmps[d]? = some v ∧ V i v w
  tmps : a.tmps.size = a0.tmps.size
  defs : a.defers = a0.defers
  closed : ∀ (i : Nat) o, ops[i]? = some o → listed.getD i false = true → ∀ e ∈ o.after, Region.binds md e = true → listed.getD e.on false = true

theorem Seen.eval {V : Nat → Value → World → Prop} {a0 a : Act} {listed : Array Bool} {w : World} (h : Seen md ops V a0 listed a w) (i : Nat) (o : Oper) (d : Nat) (ho : ops[i]? = some o) (hl : listed.getD i false = true) (hd : o.dst = some d) : V i (a.eval (.tmp d)) w := by
  obtain ⟨v, h1, h2⟩ := h.val i o d ho hl hd
  have : a.eval (.tmp d) = v := by simp [Act.eval, h1]
  rwa [this]
theorem Seen.was {V : Nat → Value → World → Prop} {a0 a : Act} {listed : Array Bool} {w : World} (h : Seen md ops V a0 listed a w) (t : Nat) (ht : ∀ (i : Nat) o, ops[i]? = some o → o.dst ≠ some t) : a.eval (.tmp t) = a0.eval (.tmp t) := by
  simp [Act.eval, h.old t (fun i o ho hd => absurd hd (ht i o ho))]
/-- A slot that an operation writes, ahead of it. -/
theorem Seen.yet {V : Nat → Value → World → Prop} {a0 a : Act} {listed : Array Bool} {w : World} (h : Seen md ops V a0 listed a w) (t k : Nat) (ht : ((List.range ops.size).all fun i => i == k || (match ops[i]? with | some o => o.dst != some t | none => true)) = true) (hk : listed.getD k true = false) : a.eval (.tmp t) = a0.eval (.tmp t) := by
  have := h.old t (fun i o ho hd => by
    have h1 := List.all_eq_true.1 ht i (List.mem_range.2 (Array.getElem?_eq_some_iff.1 ho).1)
    by_cases hik : i = k
    · subst hik
      exact getD_both hk
    · simp [hik, ho, hd] at h1)
  simp [Act.eval, this]

/-- Edges go back, nothing is guarded, each operation has a slot of its own. -/
def planB (md : Region.Mode) (ops : Array Oper) (m : Nat) : Bool :=
  ((List.range ops.size).all fun i => match ops[i]? with
    | some o => (o.after.all fun e => !Region.binds md e || decide (e.on < i)) && o.guard.isNone
    | none => true) && dstsB m ops.toList

theorem dsts_two {m : Nat} : ∀ {l : List Oper}, dstsB m l = true → ∀ (i j : Nat) oi oj, l[i]? = some oi → l[j]? = some oj → i ≠ j → oi.dst ≠ oj.dst
  | [], _, i, j, oi, oj, hi, _, _ => by simp at hi
  | o :: l, h, i, j, oi, oj, hi, hj, hne => by
    simp only [dstsB, Bool.and_eq_true] at h
    obtain ⟨h1, h2⟩ := h
    cases ho : o.dst with
    | none => rw [ho] at h1; cases h1
    | some d =>
      rw [ho] at h1
      simp only [Bool.and_eq_true, decide_eq_true_eq] at h1
      have hdl : ∀ o' ∈ l, o'.dst ≠ some d := fun o' ho' => by simpa using List.all_eq_true.1 h1.2 o' ho'
      cases i with
      | zero =>
        cases j with
        | zero => exact absurd rfl hne
        | succ j =>
          simp only [List.getElem?_cons_zero, Option.some.injEq] at hi
          subst hi
          rw [ho]
          exact fun e => hdl oj (List.mem_of_getElem? (by simpa using hj)) e.symm
      | succ i =>
        cases j with
        | zero =>
          simp only [List.getElem?_cons_zero, Option.some.injEq] at hj
          subst hj
          rw [ho]
          exact hdl oi (List.mem_of_getElem? (by simpa using hi))
        | succ j => exact dsts_two h2 i j oi oj (by simpa using hi) (by simpa using hj) (by omega)
theorem dsts_some {m : Nat} : ∀ {l : List Oper}, dstsB m l = true → ∀ o ∈ l, ∃ d, o.dst = some d ∧ d < m
  | [], _, o, ho => by cases ho
  | o :: l, h, o', ho' => by
    simp only [dstsB, Bool.and_eq_true] at h
    obtain ⟨h1, h2⟩ := h
    rcases List.mem_cons.1 ho' with rfl | hm
    · cases ho : o'.dst with
      | none => rw [ho] at h1; cases h1
      | some d =>
        rw [ho] at h1
        simp only [Bool.and_eq_true, decide_eq_true_eq] at h1
        exact ⟨d, rfl, h1.1⟩
    · exact dsts_some h2 o' hm

/-- The values laid into the operations' slots. -/
def lays (a : Act) : List Oper → List Value → Act
  | o :: l, v :: vs => lays (a.put o.dst v) l vs
  | _, _ => a

theorem lays_eq {b : Act} : ∀ (l : List Oper) (vs : List Value) (a : Act), dstsB a.tmps.size l = true → l.length = vs.length → b.defers = a.defers → b.tmps.size = a.tmps.size →
    (∀ t, (∀ o ∈ l, o.dst ≠ some t) → b.tmps[t]? = a.tmps[t]?) → (∀ (i : Nat) o d, l[i]? = some o → o.dst = some d → b.tmps[d]? = vs[i]?) → b = lays a l vs
  | [], vs, a, _, hl, hd, hz, h1, _ => by
    cases vs with
    | nil =>
      have ht : b.tmps = a.tmps := Array.ext_getElem? fun t => h1 t (fun o ho => by cases ho)
      cases a
      cases b
      simp only at hd ht
      subst hd
      subst ht
      rfl
    | cons v vs => simp at hl
  | o :: l, vs, a, hB, hl, hd, hz, h1, h2 => by
    cases vs with
    | nil => simp at hl
    | cons v vs =>
      obtain ⟨d, ho, hdm⟩ := dsts_some hB o List.mem_cons_self
      have hB' := hB
      simp only [dstsB, Bool.and_eq_true] at hB'
      refine lays_eq l vs (a.put o.dst v) (by rw [put_tmps]; exact hB'.2) (by simpa using hl) (by rw [hd, ho]; rfl) (by rw [put_tmps]; exact hz) (fun t ht => ?_) (fun i o' d' ho' hd' => ?_)
      · by_cases hdt : o.dst = some t
        · rw [h2 0 o t (by simp) hdt, hdt]
          rw [ho] at hdt
          cases hdt
          simp [Act.put, hdm]
        · rw [put_other _ _ _ _ hdt]
          exact h1 t (fun o' ho' => (List.mem_cons.1 ho').elim (fun e => e ▸ hdt) (fun hm => ht o' hm))
      · have := h2 (i + 1) o' d' (by simpa using ho') hd'
        simpa using this

theorem plan_any {V : Nat → Value → World → Prop} {S : Array Bool → World → Prop} {Q : Exit → Act → World → Prop} {a0 : Act} (hB : planB md ops a0.tmps.size = true)
    (hstep : ∀ (i : Nat) o, ops[i]? = some o → ∀ listed a w, Seen md ops V a0 listed a w → S listed w → listed.getD i true = false → (∀ e ∈ o.after, Region.binds md e = true → listed.getD e.on false = true) →
      planUpon P (fun v w' => V i v w' ∧ S (listed.setIfInBounds i true) w' ∧ ∀ j u, V j u w → V j u w') ((execOp a.eval o).run P w))
    (hfin : ∀ (vs : List Value) listed w, vs.length = ops.size → (∀ (i : Nat) v, vs[i]? = some v → V i v w) → (∀ i, i < ops.size → listed.getD i false = true) → S listed w → Q .normal (lays a0 ops.toList vs) w) (f : Nat) :
    ∀ listed a w, unl listed ops.size ≤ f → Seen md ops V a0 listed a w → S listed w → wpAny P md ops Q f listed a w := by
  simp only [planB, Bool.and_eq_true] at hB
  obtain ⟨hB1, hB2⟩ := hB
  have back : ∀ (i : Nat) o, ops[i]? = some o → (∀ e ∈ o.after, Region.binds md e = true → e.on < i) ∧ o.guard = none := fun i o ho => by
    have := List.all_eq_true.1 hB1 i (List.mem_range.2 (Array.getElem?_eq_some_iff.1 ho).1)
    simp only [ho, Bool.and_eq_true] at this
    refine ⟨fun e he hb => ?_, by simpa using this.2⟩
    have h1 := Array.all_eq_true_iff_forall_mem.1 this.1 e he
    simpa [hb] using h1
  have full : ∀ listed : Array Bool, listed.size = ops.size → Region.ready md ops listed = [] → ∀ n i, i < n → i < ops.size → listed.getD i false = true := fun listed hz hr n => by
    induction n with
    | zero => intro i hi; exact absurd hi (Nat.not_lt_zero _)
    | succ n ih =>
      intro i hi hio
      by_cases hin : i < n
      · exact ih i hin hio
      · have hi' : i = n := by omega
        subst hi'
        by_cases hl : listed.getD i true = true
        · simpa [hz, hio] using hl
        · exfalso
          have ho : ops[i]? = some ops[i] := Array.getElem?_eq_getElem hio
          have : i ∈ Region.ready md ops listed := mem_ready.2 ⟨by simpa using hl, _, ho, fun e he hb => by
            have hlt := (back i _ ho).1 e he hb
            exact ih e.on hlt (by omega)⟩
          rw [hr] at this
          cases this
  have fin : ∀ listed a w, Seen md ops V a0 listed a w → S listed w → (∀ i, i < ops.size → listed.getD i false = true) → Q .normal a w := fun listed a w hs hS hall => by
    have he : a = lays a0 ops.toList (ops.toList.map fun o => match o.dst with | some d => (a.tmps[d]?).getD undef | none => undef) := by
      refine lays_eq _ _ _ hB2 (by simp) hs.defs hs.tmps (fun t ht => hs.old t (fun i o ho hd => absurd hd (ht o (by simpa using Array.mem_of_getElem? ho)))) (fun i o d ho hd => ?_)
      have ho' : ops[i]? = some o := by simpa using ho
      obtain ⟨v, h1, _⟩ := hs.val i o d ho' (hall i (Array.getElem?_eq_some_iff.1 ho').1) hd
      rw [h1, List.getElem?_map, ho]
      simp [hd, h1]
    rw [he]
    refine hfin _ listed w (by simp) (fun i v hv => ?_) hall hS
    rw [List.getElem?_map] at hv
    cases ho : ops.toList[i]? with
    | none => rw [ho] at hv; cases hv
    | some o =>
      have ho' : ops[i]? = some o := by simpa using ho
      obtain ⟨d, hd, _⟩ := dsts_some hB2 o (List.mem_of_getElem? ho)
      obtain ⟨u, h1, h2⟩ := hs.val i o d ho' (hall i (Array.getElem?_eq_some_iff.1 ho').1) hd
      rw [ho] at hv
      simp only [Option.map_some, Option.some.injEq, hd, h1, Option.getD_some] at hv
      subst hv
      exact h2
  induction f with
  | zero =>
    intro listed a w hu hs hS
    have hz := unl_zero listed ops.size (by omega)
    have hall : ∀ i, i < ops.size → listed.getD i false = true := fun i hi => by simpa [hs.size, hi] using hz i hi
    refine ⟨List.eq_nil_iff_forall_not_mem.2 fun i hi => ?_, fin listed a w hs hS hall⟩
    obtain ⟨h0, o, ho, _⟩ := mem_ready.1 hi
    rw [hz i (Array.getElem?_eq_some_iff.1 ho).1] at h0
    cases h0
  | succ f ih =>
    intro listed a w hu hs hS
    refine ⟨fun hr => fin listed a w hs hS (fun i hi => full listed hs.size hr (i + 1) i (Nat.lt_succ_self _) hi), fun i hi => ?_⟩
    obtain ⟨hun, o, ho, hdep⟩ := mem_ready.1 hi
    have hio := (Array.getElem?_eq_some_iff.1 ho).1
    unfold wpOp
    simp only [ho]
    rw [if_pos (by unfold Region.wanted; rw [(back i o ho).2])]
    refine .inl ?_
    have h := hstep i o ho listed a w hs hS hun hdep
    obtain ⟨d, hd, hdm⟩ := dsts_some hB2 o (by simpa using Array.mem_of_getElem? ho)
    have key : ∀ v w', (V i v w' ∧ S (listed.setIfInBounds i true) w' ∧ ∀ j u, V j u w → V j u w') → wpAny P md ops Q f (listed.setIfInBounds i true) (a.put o.dst v) w' := fun v w' ⟨k1, k2, k3⟩ => by
      refine ih _ _ _ (by have := unl_set listed i hun ops.size hio; omega) ⟨by simp [hs.size], fun t ht => ?_, fun j oj dj hj hl hdj => ?_, by rw [put_tmps]; exact hs.tmps, ?_, fun j oj hj hl e he hb => ?_⟩ k2
      · have hit : o.dst ≠ some t := fun hh => by
          have := ht i o ho hh
          rw [show (listed.setIfInBounds i true).getD i false = true from by simp [hs.size, hio]] at this
          cases this
        rw [put_other _ _ _ _ hit]
        refine hs.old t (fun j oj hj hd' => ?_)
        have hij : i ≠ j := fun e => by
          subst e
          have : oj = o := Option.some.inj (hj.symm.trans ho)
          subst this
          exact hit hd'
        have := ht j oj hj hd'
        rwa [getD_set_ne false hij] at this
      · by_cases hij : i = j
        · subst hij
          have : oj = o := Option.some.inj (hj.symm.trans ho)
          subst this
          refine ⟨v, ?_, k1⟩
          rw [hdj]
          rw [hd] at hdj
          cases hdj
          simp [Act.put, hs.tmps, hdm]
        · rw [getD_set_ne false hij] at hl
          obtain ⟨u, h1, h2⟩ := hs.val j oj dj hj hl hdj
          refine ⟨u, ?_, k3 j u h2⟩
          rw [put_other _ _ _ _ (fun hh => dsts_two hB2 i j o oj (by simpa using ho) (by simpa using hj) hij (hh.trans hdj.symm))]
          exact h1
      · rw [← hs.defs, hd]
        rfl
      · by_cases hij : i = j
        · subst hij
          have : oj = o := Option.some.inj (hj.symm.trans ho)
          subst this
          exact getD_set_true (hdep e he hb)
        · rw [getD_set_ne false hij] at hl
          exact getD_set_true (hs.closed j oj hj hl e he hb)
    unfold Oper.wp
    generalize (execOp a.eval o).run P w = r at *
    cases r with
    | halt x w' => exact h.elim
    | ok n w' =>
      cases n with
      | value u => exact key u w' h
      | enter g args => exact Calls.mono h fun e w'' ⟨v, he, hk⟩ => by subst he; exact key v w'' hk
      | _ => exact h.elim

/-- The region, whatever the order. -/
theorem region_plan {id : Nat} {Q : Exit → Act → World → Prop} {a : Act} {w : World} {l : List Oper} (V : Nat → Value → World → Prop) (S : Array Bool → World → Prop) (hm : P.follows .mixedOrders = true) (hB : planB .any l.toArray a.tmps.size = true)
    (h0 : S (Array.replicate l.length false) w.drew)
    (hstep : ∀ (i : Nat) o, l.toArray[i]? = some o → ∀ listed a' w', Seen .any l.toArray V a listed a' w' → S listed w' → listed.getD i true = false → (∀ e ∈ o.after, Region.binds .any e = true → listed.getD e.on false = true) →
      planUpon P (fun v w'' => V i v w'' ∧ S (listed.setIfInBounds i true) w'' ∧ ∀ j u, V j u w' → V j u w'') ((execOp a'.eval o).run P w'))
    (hfin : ∀ (vs : List Value) listed w', vs.length = l.length → (∀ (i : Nat) v, vs[i]? = some v → V i v w') → (∀ i, i < l.length → listed.getD i false = true) → S listed w' → Q .normal (lays a l vs) w') :
    (Code.region id l.toArray true).wp P Q a w := by
  refine wp_region_any hm ?_
  have := plan_any (P := P) (md := .any) (Q := Q) hB hstep (fun vs listed w' h1 h2 h3 h4 => by
    have := hfin vs listed w' (by simpa using h1) h2 (by simpa using h3) h4
    simpa using this) l.length (Array.replicate l.length false) a w.drew (by have := unl_le (Array.replicate l.length false) l.toArray.size; simpa using this)
    ⟨by simp, fun t _ => rfl, fun i o d _ hl => (by rw [getD_replicate_false] at hl; cases hl), rfl, rfl, fun i o _ hl => (by rw [getD_replicate_false] at hl; cases hl)⟩ h0
  simpa using this
end
#print axioms region_plan
end Go.Proofs.Ytpepjmcglglepaa
