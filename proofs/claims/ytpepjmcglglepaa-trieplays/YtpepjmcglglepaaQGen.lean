/- A region that draws its order, by what holds of each operation's value once it has come up, whatever the order: with guards, and with an end in one forced order behind it. -/
import Derived.Test.YtpepjmcglglepaaQPlan
namespace Go.Proofs.Ytpepjmcglglepaa
open Go
section
variable {P : Program} {ops : Array Oper} {md : Region.Mode}

/-- Edges of the first n go back; each of them has a slot of its own. -/
def genB (md : Region.Mode) (ops : Array Oper) (n m : Nat) : Bool :=
  ((List.range n).all fun i => match ops[i]? with
    | some o => o.after.all fun e => !Region.binds md e || decide (e.on < i)
    | none => true) && dstsB m (ops.toList.take n) && decide (n ≤ ops.size)

theorem unl_pos (listed : Array Bool) : ∀ n, 0 < unl listed n → ∃ i, i < n ∧ listed.getD i true = false
  | 0, h => by simp [unl] at h
  | n + 1, h => by
    simp only [unl] at h
    by_cases hl : listed.getD n true = true
    · rw [if_pos hl] at h
      obtain ⟨i, hi, h1⟩ := unl_pos listed n (by omega)
      exact ⟨i, by omega, h1⟩
    · exact ⟨n, by omega, by simpa using hl⟩

theorem gen_any {n : Nat} {V : Nat → Value → World → Prop} {S : Array Bool → Act → World → Prop} {Q : Exit → Act → World → Prop} {a0 : Act} (hB : genB md ops n a0.tmps.size = true)
    (hwait : ∀ listed, HeadInv md ops n listed → ∀ i, i < n → listed.getD i true = false → ∀ t, n ≤ t → t ∉ Region.ready md ops listed)
    (hstep : ∀ (i : Nat) o, i < n → ops[i]? = some o → ∀ listed a w, Seen md ops V a0 listed a w → S listed a w → listed.getD i true = false → (∀ e ∈ o.after, Region.binds md e = true → listed.getD e.on false = true) →
      (Region.wanted o (yielded ops a.tmps) = true ∧ planUpon P (fun v w' => V i v w' ∧ S (listed.setIfInBounds i true) (a.put o.dst v) w' ∧ ∀ j u, V j u w → V j u w') ((execOp a.eval o).run P w)) ∨ (Region.wanted o (yielded ops a.tmps) = false ∧ V i undef w ∧ S (listed.setIfInBounds i true) (a.put o.dst undef) w))
    (hfin : ∀ (vs : List Value) listed w, vs.length = n → (∀ (i : Nat) v, vs[i]? = some v → V i v w) → HeadInv md ops n listed → (∀ i, i < n → listed.getD i false = true) → S listed (lays a0 (ops.toList.take n) vs) w → wpAny P md ops Q (ops.size - n) listed (lays a0 (ops.toList.take n) vs) w) (f : Nat) :
    ∀ listed a w, unl listed n = f → HeadInv md ops n listed → Seen md ops V a0 listed a w → S listed a w → wpAny P md ops Q (f + (ops.size - n)) listed a w := by
  simp only [genB, Bool.and_eq_true, decide_eq_true_eq] at hB
  obtain ⟨⟨hB1, hB2⟩, hn⟩ := hB
  have htl : (ops.toList.take n).length = n := by rw [List.length_take, Array.length_toList]; omega
  have hget : ∀ i, i < n → (ops.toList.take n)[i]? = ops[i]? := fun i hi => by rw [List.getElem?_take_of_lt hi]; simp
  have back : ∀ (i : Nat) o, i < n → ops[i]? = some o → ∀ e ∈ o.after, Region.binds md e = true → e.on < i := fun i o hi ho e he hb => by
    have := List.all_eq_true.1 hB1 i (List.mem_range.2 hi)
    simp only [ho] at this
    have h1 := Array.all_eq_true_iff_forall_mem.1 this e he
    simpa [hb] using h1
  have fin : ∀ listed a w, HeadInv md ops n listed → Seen md ops V a0 listed a w → S listed a w → (∀ i, i < n → listed.getD i false = true) → wpAny P md ops Q (ops.size - n) listed a w := fun listed a w inv hs hS hall => by
    have he : a = lays a0 (ops.toList.take n) ((ops.toList.take n).map fun o => match o.dst with | some d => (a.tmps[d]?).getD undef | none => undef) := by
      refine lays_eq _ _ _ hB2 (by simp) hs.defs hs.tmps (fun t ht => hs.old t (fun i o ho hd => ?_)) (fun i o d ho hd => ?_)
      · rcases Nat.lt_or_ge i n with hi | hi
        · exact absurd hd (ht o (List.mem_of_getElem? ((hget i hi).trans ho)))
        · exact getD_both (inv.tail i hi (Array.getElem?_eq_some_iff.1 ho).1)
      · have hi : i < n := by
          have := (List.getElem?_eq_some_iff.1 ho).1
          omega
        have ho' : ops[i]? = some o := (hget i hi).symm.trans ho
        obtain ⟨v, h1, _⟩ := hs.val i o d ho' (hall i hi) hd
        rw [h1, List.getElem?_map, ho]
        simp [hd, h1]
    rw [he] at hS ⊢
    refine hfin _ listed w (by rw [List.length_map, htl]) (fun i v hv => ?_) inv hall (by rw [← he] at hS ⊢; exact hS)
    rw [List.getElem?_map] at hv
    cases ho : (ops.toList.take n)[i]? with
    | none => rw [ho] at hv; cases hv
    | some o =>
      have hi : i < n := by
        have := (List.getElem?_eq_some_iff.1 ho).1
        omega
      have ho' : ops[i]? = some o := (hget i hi).symm.trans ho
      obtain ⟨d, hd, _⟩ := dsts_some hB2 o (List.mem_of_getElem? ho)
      obtain ⟨u, h1, h2⟩ := hs.val i o d ho' (hall i hi) hd
      rw [ho] at hv
      simp only [Option.map_some, Option.some.injEq, hd, h1, Option.getD_some] at hv
      subst hv
      exact h2
  induction f with
  | zero =>
    intro listed a w hu inv hs hS
    have hz := unl_zero listed n hu
    rw [Nat.zero_add]
    exact fin listed a w inv hs hS (fun i hi => by have := hz i hi; simpa [inv.size, show i < ops.size by omega] using this)
  | succ f ih =>
    intro listed a w hu inv hs hS
    rw [show f + 1 + (ops.size - n) = (f + (ops.size - n)) + 1 by omega]
    obtain ⟨i1, hi1, hl1⟩ := unl_pos listed n (by omega)
    -- the first that is not listed is ready
    have first : ∀ k, k ≤ n → (∃ i, i < k ∧ listed.getD i true = false) → ∃ i, i < n ∧ i ∈ Region.ready md ops listed := by
      intro k
      induction k with
      | zero => rintro _ ⟨i, hi, _⟩; omega
      | succ k ihk =>
        rintro hk ⟨i, hi, hl⟩
        by_cases hex : ∃ j, j < k ∧ listed.getD j true = false
        · exact ihk (by omega) hex
        · have hik : i = k := by
            by_cases e : i = k
            · exact e
            · exact absurd ⟨i, by omega, hl⟩ hex
          subst hik
          have ho : ops[i]? = some ops[i] := Array.getElem?_eq_getElem (by omega)
          refine ⟨i, by omega, mem_ready.2 ⟨hl, _, ho, fun e he hb => ?_⟩⟩
          have hlt := back i _ (by omega) ho e he hb
          by_cases hle : listed.getD e.on true = true
          · simpa [inv.size, show e.on < ops.size by omega] using hle
          · exact absurd ⟨e.on, hlt, by simpa using hle⟩ hex
    obtain ⟨i0, hi0, hr0⟩ := first n (Nat.le_refl _) ⟨i1, hi1, hl1⟩
    refine ⟨fun h0 => absurd h0 (List.ne_nil_of_mem hr0), fun i hi => ?_⟩
    have hin : i < n := by
      rcases Nat.lt_or_ge i n with h | h
      · exact h
      · exact absurd hi (hwait listed inv i1 hi1 hl1 i h)
    obtain ⟨hun, o, ho, hdep⟩ := mem_ready.1 hi
    have hio := (Array.getElem?_eq_some_iff.1 ho).1
    obtain ⟨d, hd, hdm⟩ := dsts_some hB2 o (List.mem_of_getElem? ((hget i hin).trans ho))
    have inv' := inv.set hi hin
    have key : ∀ v w', (V i v w' ∧ S (listed.setIfInBounds i true) (a.put o.dst v) w' ∧ ∀ j u, V j u w → V j u w') → wpAny P md ops Q (f + (ops.size - n)) (listed.setIfInBounds i true) (a.put o.dst v) w' := fun v w' ⟨k1, k2, k3⟩ => by
      refine ih _ _ _ (by have := unl_set listed i hun n hin; omega) inv' ⟨by simp [hs.size], fun t ht => ?_, fun j oj dj hj hl hdj => ?_, by rw [put_tmps]; exact hs.tmps, ?_, inv'.closed⟩ k2
      · have hit : o.dst ≠ some t := fun hh => by
          have := ht i o ho hh
          rw [show (listed.setIfInBounds i true).getD i false = true from by simp [hs.size, hio]] at this
          cases this
        rw [put_other _ _ _ _ hit]
        refine hs.old t (fun j oj hj hd' => ?_)
        have hij : i ≠ j := fun e => by
          subst e
          have : oj = o := Option.some.inj (hj.symm.trans ho)
          subst this
          exact hit hd'
        have := ht j oj hj hd'
        rwa [getD_set_ne false hij] at this
      · by_cases hij : i = j
        · subst hij
          have : oj = o := Option.some.inj (hj.symm.trans ho)
          subst this
          refine ⟨v, ?_, k1⟩
          rw [hdj]
          rw [hd] at hdj
          cases hdj
          simp [Act.put, hs.tmps, hdm]
        · rw [getD_set_ne false hij] at hl
          have hjn : j < n := by
            rcases Nat.lt_or_ge j n with h | h
            · exact h
            · have := getD_both (inv.tail j h (Array.getElem?_eq_some_iff.1 hj).1)
              rw [hl] at this
              cases this
          obtain ⟨u, h1, h2⟩ := hs.val j oj dj hj hl hdj
          refine ⟨u, ?_, k3 j u h2⟩
          rw [put_other _ _ _ _ (fun hh => dsts_two hB2 i j o oj ((hget i hin).trans ho) ((hget j hjn).trans hj) hij (hh.trans hdj.symm))]
          exact h1
      · rw [← hs.defs, hd]
        rfl
    unfold wpOp
    simp only [ho]
    rcases hstep i o hin ho listed a w hs hS hun hdep with ⟨hw, h⟩ | ⟨hw, h⟩
    · rw [if_pos hw]
      refine .inl ?_
      unfold Oper.wp
      generalize (execOp a.eval o).run P w = r at *
      cases r with
      | halt x w' => exact h.elim
      | ok x w' =>
        cases x with
        | value u => exact key u w' h
        | enter g args => exact Calls.mono h fun e w'' ⟨v, he, hk⟩ => by subst he; exact key v w'' hk
        | _ => exact h.elim
    · rw [if_neg (by rw [hw]; exact Bool.false_ne_true)]
      exact key undef w ⟨h.1, h.2, fun _ _ hh => hh⟩

/-- One step after the other. -/
def GSteps (K : Nat → Oper → Prop) : Nat → List Oper → Prop
  | _, [] => True
  | k, o :: l => K k o ∧ GSteps K (k + 1) l
theorem GSteps.get {K : Nat → Oper → Prop} : ∀ {k : Nat} {l : List Oper}, GSteps K k l → ∀ (i : Nat) o, l[i]? = some o → K (k + i) o
  | _, [], _, i, o, ho => by simp at ho
  | k, o' :: l, h, 0, o, ho => by
    simp only [List.getElem?_cons_zero, Option.some.injEq] at ho
    subst ho
    exact h.1
  | k, o' :: l, h, i + 1, o, ho => by
    have := GSteps.get h.2 i o (by simpa using ho)
    rwa [show k + 1 + i = k + (i + 1) by omega] at this

/-- What is asked of one operation. -/
def GStep (P : Program) (l : List Oper) (V : Nat → Value → World → Prop) (S : Array Bool → Act → World → Prop) (a : Act) (i : Nat) (o : Oper) : Prop :=
  ∀ listed a' w', Seen .any l.toArray V a listed a' w' → S listed a' w' → listed.getD i true = false → (∀ e ∈ o.after, Region.binds .any e = true → listed.getD e.on false = true) →
    (Region.wanted o (yielded l.toArray a'.tmps) = true ∧ planUpon P (fun v w'' => V i v w'' ∧ S (listed.setIfInBounds i true) (a'.put o.dst v) w'' ∧ ∀ j u, V j u w' → V j u w'') ((execOp a'.eval o).run P w')) ∨ (Region.wanted o (yielded l.toArray a'.tmps) = false ∧ V i undef w' ∧ S (listed.setIfInBounds i true) (a'.put o.dst undef) w')

theorem inv_zero (l : List Oper) (n : Nat) : HeadInv .any l.toArray n (Array.replicate l.length false) :=
  ⟨by simp, fun j oj _ hl => (by rw [getD_replicate_false] at hl; cases hl), fun t _ ht => getD_in (by simpa using ht) (getD_replicate_false _ _)⟩
theorem seen_zero (l : List Oper) (V : Nat → Value → World → Prop) (a : Act) (w : World) : Seen .any l.toArray V a (Array.replicate l.length false) a w :=
  ⟨by simp, fun t _ => rfl, fun i o d _ hl => (by rw [getD_replicate_false] at hl; cases hl), rfl, rfl, fun i o _ hl => (by rw [getD_replicate_false] at hl; cases hl)⟩
theorem unl_none (m : Nat) : ∀ n, n ≤ m → unl (Array.replicate m false) n = n
  | 0, _ => rfl
  | n + 1, h => by
    simp only [unl]
    rw [unl_none m n (by omega)]
    have : (Array.replicate m false).getD n true = false := getD_in (by simp; omega) (getD_replicate_false _ _)
    rw [this]
    simp

/-- The region, whatever the order. -/
theorem region_gen {id : Nat} {Q : Exit → Act → World → Prop} {a : Act} {w : World} {l : List Oper} (V : Nat → Value → World → Prop) (S : Array Bool → Act → World → Prop) (hm : P.follows .mixedOrders = true) (hB : genB .any l.toArray l.length a.tmps.size = true)
    (h0 : S (Array.replicate l.length false) a w.drew) (hstep : GSteps (GStep P l V S a) 0 l)
    (hfin : ∀ (vs : List Value) w', vs.length = l.length → (∀ (i : Nat) v, vs[i]? = some v → V i v w') → (∀ listed, (∀ i, i < l.length → listed.getD i false = true) → S listed (lays a l vs) w' → Q .normal (lays a l vs) w')) :
    (Code.region id l.toArray true).wp P Q a w := by
  refine wp_region_any hm ?_
  have := gen_any (P := P) (md := .any) (n := l.length) (Q := Q) hB (fun listed inv i hi hl t ht hr => by
      have := (Array.getElem?_eq_some_iff.1 (mem_ready.1 hr).2.choose_spec.1).1
      simp at this
      omega)
    (fun i o hi ho => by
      have := GSteps.get hstep i o (by simpa using ho)
      rw [Nat.zero_add] at this
      exact this)
    (fun vs listed w' h1 h2 inv hall hS => by
      have hr : Region.ready .any l.toArray listed = [] := List.eq_nil_iff_forall_not_mem.2 fun i hi => by
        obtain ⟨hun, o, ho, _⟩ := mem_ready.1 hi
        have hio := (Array.getElem?_eq_some_iff.1 ho).1
        have := hall i (by simpa using hio)
        rw [getD_both hun] at this
        cases this
      have hq := hfin vs w' h1 h2 listed hall (by simpa using hS)
      rw [show l.toArray.size - l.length = 0 by simp]
      refine ⟨hr, ?_⟩
      simpa using hq)
    l.length (Array.replicate l.length false) a w.drew (unl_none _ _ (Nat.le_refl _)) (inv_zero l _) (seen_zero l V a _) h0
  simpa using this

def canonN (n g : Nat) : Array Bool := (List.replicate n true ++ List.replicate g false).toArray
theorem canonN_of {n g : Nat} {listed : Array Bool} (hz : listed.size = n + g) (h1 : ∀ i, i < n → listed.getD i false = true) (h2 : ∀ t, n ≤ t → t < n + g → listed.getD t true = false) : listed = canonN n g := by
  apply Array.ext
  · simp [canonN, hz]
  · intro i hi hi'
    have hg : listed.getD i true = listed[i] := by simp [hi]
    have hg' : listed.getD i false = listed[i] := by simp [hi]
    rcases Nat.lt_or_ge i n with h | h
    · rw [← hg', h1 i h]
      simp [canonN, h]
    · rw [← hg, h2 i h (by omega)]
      simp [canonN, List.getElem_append, show ¬ i < n by omega]

/-- The first n in whatever order, then one forced order. -/
theorem region_gen_tail {id : Nat} {Q : Exit → Act → World → Prop} {a : Act} {w : World} {l : List Oper} (n : Nat) (V : Nat → Value → World → Prop) (S : Array Bool → Act → World → Prop) (hm : P.follows .mixedOrders = true) (hB : genB .any l.toArray n a.tmps.size = true)
    (hT : (decide (n < l.length) && Region.sinkB .any l.toArray n && Region.chainB .any l.toArray n && Region.seqB .any l.toArray (l.length - n) n (canonN n (l.length - n))) = true)
    (h0 : S (Array.replicate l.length false) a w.drew) (hstep : GSteps (GStep P l V S a) 0 (l.take n))
    (hfin : ∀ (vs : List Value) w', vs.length = n → (∀ (i : Nat) v, vs[i]? = some v → V i v w') → S (canonN n (l.length - n)) (lays a (l.take n) vs) w' → wpList P l.toArray Q (l.drop n) (lays a (l.take n) vs) w') :
    (Code.region id l.toArray true).wp P Q a w := by
  simp only [Bool.and_eq_true, decide_eq_true_eq] at hT
  obtain ⟨⟨⟨hn, hs⟩, hc⟩, hq⟩ := hT
  refine wp_region_any hm ?_
  have := gen_any (P := P) (md := .any) (n := n) (Q := Q) hB (fun listed inv i hi hl t ht => tail_waits hs hc (by simpa using hn) inv _ i rfl hi hl t ht)
    (fun i o hi ho => by
      have := GSteps.get hstep i o (by rw [List.getElem?_take_of_lt hi]; simpa using ho)
      rw [Nat.zero_add] at this
      exact this)
    (fun vs listed w' h1 h2 inv hall hS => by
      have hcan : listed = canonN n (l.length - n) := canonN_of (by rw [inv.size]; simp; omega) hall (fun t ht ht' => inv.tail t ht (by simp; omega))
      have hdl : (l.drop n).length = l.length - n := by simp
      have hw := wpAny_of_seq (P := P) (Q' := Q) (l.drop n) n listed (lays a (l.take n) vs) w' (fun j => by simp [List.getElem?_drop]) (by rw [hdl, hcan]; exact hq) (hfin vs w' h1 h2 (by rw [← hcan]; simpa using hS))
      rw [hdl] at hw
      simpa using hw)
    n (Array.replicate l.length false) a w.drew (unl_none _ _ (by omega)) (inv_zero l _) (seen_zero l V a _) h0
  rw [show n + (l.toArray.size - n) = l.length by simp; omega] at this
  simpa using this
end
#print axioms region_gen
#print axioms region_gen_tail
end Go.Proofs.Ytpepjmcglglepaa
