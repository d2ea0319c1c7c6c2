/- A region that draws its order, with stores among its operations. -/
import Derived.Test.YtmaddfjgiflkbaaDoorQGen
namespace Go.Proofs.YtmaddfjgiflkbaaDoor
set_option maxRecDepth 100000
open Go
set_option linter.unusedVariables false
/-- Do the operations that write to slots write to slots of their own? -/
def dstsO (m : Nat) : List Oper → Bool
  | [] => true
  | o :: l => (match o.dst with
    | some d => decide (d < m) && l.all fun o' => o'.dst != some d
    | none => true) && dstsO m l
def planUpon2 (P : Program) (K : Value → World → Prop) : Result Next → Prop
  | .ok (.value v) w' => K v w'
  | .ok .skip w' => K undef w'
  | .ok (.enter f args) w' => Calls P f args w' (fun e w'' => ∃ v, e = .returned v ∧ K v w'')
  | _ => False
theorem dstsO_two {m : Nat} : ∀ {l : List Oper}, dstsO m l = true → ∀ (i j : Nat) oi oj d, l[i]? = some oi → l[j]? = some oj → i ≠ j → oi.dst = some d → oj.dst = some d → False
  | [], _, i, j, oi, oj, d, hi, _, _, _, _ => by simp at hi
  | o :: l, h, i, j, oi, oj, d, hi, hj, hne, hdi, hdj => by
    simp only [dstsO, Bool.and_eq_true] at h
    obtain ⟨h1, h2⟩ := h
    cases i with
    | zero =>
      cases j with
      | zero => exact hne rfl
      | succ j =>
        simp only [List.getElem?_cons_zero, Option.some.injEq] at hi
        subst hi
        rw [hdi] at h1
        simp only [Bool.and_eq_true, decide_eq_true_eq] at h1
        have : oj.dst ≠ some d := by simpa using List.all_eq_true.1 h1.2 oj (List.mem_of_getElem? (by simpa using hj))
        exact this hdj
    | succ i =>
      cases j with
      | zero =>
        simp only [List.getElem?_cons_zero, Option.some.injEq] at hj
        subst hj
        rw [hdj] at h1
        simp only [Bool.and_eq_true, decide_eq_true_eq] at h1
        have : oi.dst ≠ some d := by simpa using List.all_eq_true.1 h1.2 oi (List.mem_of_getElem? (by simpa using hi))
        exact this hdi
      | succ j => exact dstsO_two h2 i j oi oj d (by simpa using hi) (by simpa using hj) (by omega) hdi hdj
theorem dstsO_lt {m : Nat} : ∀ {l : List Oper}, dstsO m l = true → ∀ o ∈ l, ∀ d, o.dst = some d → d < m
  | [], _, o, ho, _, _ => by cases ho
  | o :: l, h, o', ho', d, hd => by
    simp only [dstsO, Bool.and_eq_true] at h
    obtain ⟨h1, h2⟩ := h
    rcases List.mem_cons.1 ho' with rfl | hm
    · rw [hd] at h1
      simp only [Bool.and_eq_true, decide_eq_true_eq] at h1
      exact h1.1
    · exact dstsO_lt h2 o' hm d hd
theorem laysO_eq {b : Act} : ∀ (l : List Oper) (vs : List Value) (a : Act), dstsO a.tmps.size l = true → l.length = vs.length → b.defers = a.defers → b.tmps.size = a.tmps.size →
    (∀ t, (∀ o ∈ l, o.dst ≠ some t) → b.tmps[t]? = a.tmps[t]?) → (∀ (i : Nat) o d, l[i]? = some o → o.dst = some d → b.tmps[d]? = vs[i]?) → b = lays a l vs
  | [], vs, a, _, hl, hd, hz, h1, _ => by
    cases vs with
    | nil =>
      have ht : b.tmps = a.tmps := Array.ext_getElem? fun t => h1 t (fun o ho => by cases ho)
      cases a
      cases b
      simp only at hd ht
      subst hd
      subst ht
      rfl
    | cons v vs => simp at hl
  | o :: l, vs, a, hB, hl, hd, hz, h1, h2 => by
    cases vs with
    | nil => simp at hl
    | cons v vs =>
      have hlt := dstsO_lt hB o List.mem_cons_self
      have hB' := hB
      simp only [dstsO, Bool.and_eq_true] at hB'
      refine laysO_eq l vs (a.put o.dst v) (by rw [put_tmps]; exact hB'.2) (by simpa using hl) (by rw [hd]; cases o.dst <;> rfl) (by rw [put_tmps]; exact hz) (fun t ht => ?_) (fun i o' d' ho' hd' => ?_)
      · by_cases hdt : o.dst = some t
        · rw [h2 0 o t (by simp) hdt, hdt]
          have := hlt t hdt
          simp [Act.put, this]
        · rw [put_other _ _ _ _ hdt]
          exact h1 t (fun o' ho' => (List.mem_cons.1 ho').elim (fun e => e ▸ hdt) (fun hm => ht o' hm))
      · have := h2 (i + 1) o' d' (by simpa using ho') hd'
        simpa using this
section
variable {P : Program} {ops : Array Oper} {md : Region.Mode}
def gen2B (md : Region.Mode) (ops : Array Oper) (n m : Nat) : Bool :=
  ((List.range n).all fun i => match ops[i]? with
    | some o => o.after.all fun e => !Region.binds md e || decide (e.on < i)
    | none => true) && dstsO m (ops.toList.take n) && decide (n ≤ ops.size)

theorem gen2_any {n : Nat} {V : Nat → Value → World → Prop} {S : Array Bool → Act → World → Prop} {Q : Exit → Act → World → Prop} {a0 : Act} (hB : gen2B md ops n a0.tmps.size = true)
    (hnone : ∀ (i : Nat) o, ops[i]? = some o → o.dst = none → ∀ w, V i undef w)
    (hwait : ∀ listed, HeadInv md ops n listed → ∀ i, i < n → listed.getD i true = false → ∀ t, n ≤ t → t ∉ Region.ready md ops listed)
    (hstep : ∀ (i : Nat) o, i < n → ops[i]? = some o → ∀ listed a w, Seen md ops V a0 listed a w → S listed a w → listed.getD i true = false → (∀ e ∈ o.after, Region.binds md e = true → listed.getD e.on false = true) →
      (Region.wanted o (yielded ops a.tmps) = true ∧ planUpon2 P (fun v w' => V i v w' ∧ S (listed.setIfInBounds i true) (a.put o.dst v) w' ∧ ∀ j u, V j u w → V j u w') ((execOp a.eval o).run P w)) ∨ (Region.wanted o (yielded ops a.tmps) = false ∧ V i undef w ∧ S (listed.setIfInBounds i true) (a.put o.dst undef) w))
    (hfin : ∀ (vs : List Value) listed w, vs.length = n → (∀ (i : Nat) v, vs[i]? = some v → V i v w) → HeadInv md ops n listed → (∀ i, i < n → listed.getD i false = true) → S listed (lays a0 (ops.toList.take n) vs) w → wpAny P md ops Q (ops.size - n) listed (lays a0 (ops.toList.take n) vs) w) (f : Nat) :
    ∀ listed a w, unl listed n = f → HeadInv md ops n listed → Seen md ops V a0 listed a w → S listed a w → wpAny P md ops Q (f + (ops.size - n)) listed a w := by
  simp only [gen2B, Bool.and_eq_true, decide_eq_true_eq] at hB
  obtain ⟨⟨hB1, hB2⟩, hn⟩ := hB
  have htl : (ops.toList.take n).length = n := by rw [List.length_take, Array.length_toList]; omega
  have hget : ∀ i, i < n → (ops.toList.take n)[i]? = ops[i]? := fun i hi => by rw [List.getElem?_take_of_lt hi]; simp
  have back : ∀ (i : Nat) o, i < n → ops[i]? = some o → ∀ e ∈ o.after, Region.binds md e = true → e.on < i := fun i o hi ho e he hb => by
    have := List.all_eq_true.1 hB1 i (List.mem_range.2 hi)
    simp only [ho] at this
    have h1 := Array.all_eq_true_iff_forall_mem.1 this e he
    simpa [hb] using h1
  have fin : ∀ listed a w, HeadInv md ops n listed → Seen md ops V a0 listed a w → S listed a w → (∀ i, i < n → listed.getD i false = true) → wpAny P md ops Q (ops.size - n) listed a w := fun listed a w inv hs hS hall => by
    have he : a = lays a0 (ops.toList.take n) ((ops.toList.take n).map fun o => match o.dst with | some d => (a.tmps[d]?).getD undef | none => undef) := by
      refine laysO_eq _ _ _ hB2 (by simp) hs.defs hs.tmps (fun t ht => hs.old t (fun i o ho hd => ?_)) (fun i o d ho hd => ?_)
      · rcases Nat.lt_or_ge i n with hi | hi
        · exact absurd hd (ht o (List.mem_of_getElem? ((hget i hi).trans ho)))
        · exact getD_both (inv.tail i hi (Array.getElem?_eq_some_iff.1 ho).1)
      · have hi : i < n := by
          have := (List.getElem?_eq_some_iff.1 ho).1
          omega
        have ho' : ops[i]? = some o := (hget i hi).symm.trans ho
        obtain ⟨v, h1, _⟩ := hs.val i o d ho' (hall i hi) hd
        rw [h1, List.getElem?_map, ho]
        simp [hd, h1]
    rw [he] at hS ⊢
    refine hfin _ listed w (by rw [List.length_map, htl]) (fun i v hv => ?_) inv hall (by rw [← he] at hS ⊢; exact hS)
    rw [List.getElem?_map] at hv
    cases ho : (ops.toList.take n)[i]? with
    | none => rw [ho] at hv; cases hv
    | some o =>
      have hi : i < n := by
        have := (List.getElem?_eq_some_iff.1 ho).1
        omega
      have ho' : ops[i]? = some o := (hget i hi).symm.trans ho
      cases hd : o.dst with
      | none =>
        rw [ho] at hv
        simp only [Option.map_some, Option.some.injEq, hd] at hv
        subst hv
        exact hnone i o ho' hd w
      | some d =>
        obtain ⟨u, h1, h2⟩ := hs.val i o d ho' (hall i hi) hd
        rw [ho] at hv
        simp only [Option.map_some, Option.some.injEq, hd, h1, Option.getD_some] at hv
        subst hv
        exact h2
  induction f with
  | zero =>
    intro listed a w hu inv hs hS
    have hz := unl_zero listed n hu
    rw [Nat.zero_add]
    exact fin listed a w inv hs hS (fun i hi => by have := hz i hi; simpa [inv.size, show i < ops.size by omega] using this)
  | succ f ih =>
    intro listed a w hu inv hs hS
    rw [show f + 1 + (ops.size - n) = (f + (ops.size - n)) + 1 by omega]
    obtain ⟨i1, hi1, hl1⟩ := unl_pos listed n (by omega)
    -- the first that is not listed is ready
    have first : ∀ k, k ≤ n → (∃ i, i < k ∧ listed.getD i true = false) → ∃ i, i < n ∧ i ∈ Region.ready md ops listed := by
      intro k
      induction k with
      | zero => rintro _ ⟨i, hi, _⟩; omega
      | succ k ihk =>
        rintro hk ⟨i, hi, hl⟩
        by_cases hex : ∃ j, j < k ∧ listed.getD j true = false
        · exact ihk (by omega) hex
        · have hik : i = k := by
            by_cases e : i = k
            · exact e
            · exact absurd ⟨i, by omega, hl⟩ hex
          subst hik
          have ho : ops[i]? = some ops[i] := Array.getElem?_eq_getElem (by omega)
          refine ⟨i, by omega, mem_ready.2 ⟨hl, _, ho, fun e he hb => ?_⟩⟩
          have hlt := back i _ (by omega) ho e he hb
          by_cases hle : listed.getD e.on true = true
          · simpa [inv.size, show e.on < ops.size by omega] using hle
          · exact absurd ⟨e.on, hlt, by simpa using hle⟩ hex
    obtain ⟨i0, hi0, hr0⟩ := first n (Nat.le_refl _) ⟨i1, hi1, hl1⟩
    refine ⟨fun h0 => absurd h0 (List.ne_nil_of_mem hr0), fun i hi => ?_⟩
    have hin : i < n := by
      rcases Nat.lt_or_ge i n with h | h
      · exact h
      · exact absurd hi (hwait listed inv i1 hi1 hl1 i h)
    obtain ⟨hun, o, ho, hdep⟩ := mem_ready.1 hi
    have hio := (Array.getElem?_eq_some_iff.1 ho).1
    have hdm := dstsO_lt hB2 o (List.mem_of_getElem? ((hget i hin).trans ho))
    have inv' := inv.set hi hin
    have key : ∀ v w', (V i v w' ∧ S (listed.setIfInBounds i true) (a.put o.dst v) w' ∧ ∀ j u, V j u w → V j u w') → wpAny P md ops Q (f + (ops.size - n)) (listed.setIfInBounds i true) (a.put o.dst v) w' := fun v w' ⟨k1, k2, k3⟩ => by
      refine ih _ _ _ (by have := unl_set listed i hun n hin; omega) inv' ⟨by simp [hs.size], fun t ht => ?_, fun j oj dj hj hl hdj => ?_, by rw [put_tmps]; exact hs.tmps, ?_, inv'.closed⟩ k2
      · have hit : o.dst ≠ some t := fun hh => by
          have := ht i o ho hh
          rw [show (listed.setIfInBounds i true).getD i false = true from by simp [hs.size, hio]] at this
          cases this
        rw [put_other _ _ _ _ hit]
        refine hs.old t (fun j oj hj hd' => ?_)
        have hij : i ≠ j := fun e => by
          subst e
          have : oj = o := Option.some.inj (hj.symm.trans ho)
          subst this
          exact hit hd'
        have := ht j oj hj hd'
        rwa [getD_set_ne false hij] at this
      · by_cases hij : i = j
        · subst hij
          have : oj = o := Option.some.inj (hj.symm.trans ho)
          subst this
          refine ⟨v, ?_, k1⟩
          have hdm' := hdm dj hdj
          rw [hdj]
          simp [Act.put, hs.tmps, hdm']
        · rw [getD_set_ne false hij] at hl
          have hjn : j < n := by
            rcases Nat.lt_or_ge j n with h | h
            · exact h
            · have := getD_both (inv.tail j h (Array.getElem?_eq_some_iff.1 hj).1)
              rw [hl] at this
              cases this
          obtain ⟨u, h1, h2⟩ := hs.val j oj dj hj hl hdj
          refine ⟨u, ?_, k3 j u h2⟩
          rw [put_other _ _ _ _ (fun hh => dstsO_two hB2 i j o oj dj ((hget i hin).trans ho) ((hget j hjn).trans hj) hij hh hdj)]
          exact h1
      · rw [← hs.defs]
        cases o.dst <;> rfl
    unfold wpOp
    simp only [ho]
    rcases hstep i o hin ho listed a w hs hS hun hdep with ⟨hw, h⟩ | ⟨hw, h⟩
    · rw [if_pos hw]
      refine .inl ?_
      unfold Oper.wp
      generalize (execOp a.eval o).run P w = r at *
      cases r with
      | halt x w' => exact h.elim
      | ok x w' =>
        cases x with
        | value u => exact key u w' h
        | skip => exact key undef w' h
        | enter g args => exact Calls.mono h fun e w'' ⟨v, he, hk⟩ => by subst he; exact key v w'' hk
        | _ => exact h.elim
    · rw [if_neg (by rw [hw]; exact Bool.false_ne_true)]
      exact key undef w ⟨h.1, h.2, fun _ _ hh => hh⟩

/-- What is asked of one operation. -/
def GStep2 (P : Program) (l : List Oper) (V : Nat → Value → World → Prop) (S : Array Bool → Act → World → Prop) (a : Act) (i : Nat) (o : Oper) : Prop :=
  ∀ listed a' w', Seen .any l.toArray V a listed a' w' → S listed a' w' → listed.getD i true = false → (∀ e ∈ o.after, Region.binds .any e = true → listed.getD e.on false = true) →
    (Region.wanted o (yielded l.toArray a'.tmps) = true ∧ planUpon2 P (fun v w'' => V i v w'' ∧ S (listed.setIfInBounds i true) (a'.put o.dst v) w'' ∧ ∀ j u, V j u w' → V j u w'') ((execOp a'.eval o).run P w')) ∨ (Region.wanted o (yielded l.toArray a'.tmps) = false ∧ V i undef w' ∧ S (listed.setIfInBounds i true) (a'.put o.dst undef) w')

/-- The region, whatever the order. -/
theorem region_gen2 {id : Nat} {Q : Exit → Act → World → Prop} {a : Act} {w : World} {l : List Oper} (V : Nat → Value → World → Prop) (S : Array Bool → Act → World → Prop) (hm : P.follows .mixedOrders = true) (hB : gen2B .any l.toArray l.length a.tmps.size = true)
    (hnone : ∀ (i : Nat) o, l[i]? = some o → o.dst = none → ∀ w, V i undef w)
    (h0 : S (Array.replicate l.length false) a w.drew) (hstep : GSteps (GStep2 P l V S a) 0 l)
    (hfin : ∀ (vs : List Value) w', vs.length = l.length → (∀ (i : Nat) v, vs[i]? = some v → V i v w') → (∀ listed, (∀ i, i < l.length → listed.getD i false = true) → S listed (lays a l vs) w' → Q .normal (lays a l vs) w')) :
    (Code.region id l.toArray true).wp P Q a w := by
  refine wp_region_any hm ?_
  have := gen2_any (P := P) (md := .any) (n := l.length) (Q := Q) hB (fun i o ho hd w => hnone i o (by simpa using ho) hd w) (fun listed inv i hi hl t ht hr => by
      have := (Array.getElem?_eq_some_iff.1 (mem_ready.1 hr).2.choose_spec.1).1
      simp at this
      omega)
    (fun i o hi ho => by
      have := GSteps.get hstep i o (by simpa using ho)
      rw [Nat.zero_add] at this
      exact this)
    (fun vs listed w' h1 h2 inv hall hS => by
      have hr : Region.ready .any l.toArray listed = [] := List.eq_nil_iff_forall_not_mem.2 fun i hi => by
        obtain ⟨hun, o, ho, _⟩ := mem_ready.1 hi
        have hio := (Array.getElem?_eq_some_iff.1 ho).1
        have := hall i (by simpa using hio)
        rw [getD_both hun] at this
        cases this
      have hq := hfin vs w' h1 h2 listed hall (by simpa using hS)
      rw [show l.toArray.size - l.length = 0 by simp]
      refine ⟨hr, ?_⟩
      simpa using hq)
    l.length (Array.replicate l.length false) a w.drew (unl_none _ _ (Nat.le_refl _)) (inv_zero l _) (seen_zero l V a _) h0
  simpa using this

end
#print axioms region_gen2
end Go.Proofs.YtmaddfjgiflkbaaDoor
