/- A region that draws its order, whose first operations only read or call what leaves the world as it was in what is read, beside one allocation that may come at any time, and whose last operations come in one forced order: one walk. -/
import Derived.StillTail
import Derived.BigQuiet
namespace Go.Proofs.Ytpepjmcglglepaa
open Go
section
variable {P : Program} {ops : Array Oper} {md : Region.Mode} {C : World → Prop} {R : World → World → Prop}

/-- In every world that meets C: the value v, and a world that R leads to. -/
def CalmAt (P : Program) (C : World → Prop) (R : World → World → Prop) (o : Oper) (a : Act) (v : Value) : Prop := ∀ w, C w → o.quietAt P a (R w) w v

def Gives (P : Program) (ops : Array Oper) (C : World → Prop) (R : World → World → Prop) (o : Oper) (v : Value) (a : Act) : Prop :=
  (Region.wanted o (yielded ops a.tmps) = true ∧ CalmAt P C R o a v) ∨ (Region.wanted o (yielded ops a.tmps) = false ∧ v = undef)

theorem Gives.same {o : Oper} {v : Value} {a a' : Act} (h : Gives P ops C R o v a) (he : execOp a'.eval o = execOp a.eval o) (hw : Region.wanted o (yielded ops a'.tmps) = Region.wanted o (yielded ops a.tmps)) : Gives P ops C R o v a' := by
  unfold Gives CalmAt Oper.quietAt at *
  rw [he, hw]
  exact h

theorem Gives.op {i : Nat} {o : Oper} {v : Value} {a : Act} {K : Act → World → Prop} {Q : Exit → Act → World → Prop} {w : World} (hi : ops[i]? = some o) (h : Gives P ops C R o v a) (hw : C w) (hr : R w w) (hK : ∀ w', R w w' → K (a.put o.dst v) w') : wpOp P ops Q i K a w := by
  unfold wpOp
  simp only [hi]
  rcases h with ⟨h1, h2⟩ | ⟨h1, rfl⟩
  · rw [if_pos h1]
    refine .inl ?_
    have h3 := h2 w hw
    unfold Oper.quietAt at h3
    unfold Oper.wp
    generalize (execOp a.eval o).run P w = r at *
    cases r with
    | halt x w' => exact h3.elim
    | ok n w' =>
      cases n with
      | value u => obtain ⟨rfl, rfl⟩ := h3; exact hK _ hr
      | skip => obtain ⟨rfl, rfl⟩ := h3; exact hK _ hr
      | enter f args => obtain ⟨rfl, hc⟩ := h3; exact hc.mono fun e w'' ⟨he, hw''⟩ => by subst he; exact hK _ hw''
      | defer d => exact h3.elim
      | row r args => exact h3.elim
      | _ => exact h3.elim
  · rw [if_neg (by rw [h1]; exact Bool.false_ne_true)]
    exact hK _ hr

/-- The walk in the order of the text, from a to A. -/
def Walk (P : Program) (ops : Array Oper) (C : World → Prop) (R : World → World → Prop) : List Oper → Act → Act → Prop
  | [], a, A => a = A
  | o :: l, a, A => ∃ v, Gives P ops C R o v a ∧ Walk P ops C R l (a.put o.dst v) A

/-- Whatever order is picked among the first n operations, f of them still to come: A behind them. -/
def AnyF (P : Program) (md : Region.Mode) (ops : Array Oper) (C : World → Prop) (R : World → World → Prop) (n : Nat) (A : Act) : Nat → Array Bool → Act → Prop
  | 0, listed, a => a = A ∧ ∀ i, i < n → listed.getD i true = true
  | f + 1, listed, a =>
    (∃ i, i < n ∧ i ∈ Region.ready md ops listed) ∧
    ∀ i, i ∈ Region.ready md ops listed → i < n → ∃ oi v, ops[i]? = some oi ∧ Gives P ops C R oi v a ∧ AnyF P md ops C R n A f (listed.setIfInBounds i true) (a.put oi.dst v)

theorem set_self (listed : Array Bool) (k : Nat) : (listed.setIfInBounds k true).getD k true = true := by
  rcases Nat.lt_or_ge k listed.size with h | h
  · simp [h]
  · simp

theorem F_first {n i : Nat} {oi : Oper} {v : Value} {A : Act} (hi : ops[i]? = some oi) (hsel : ∀ (j : Nat) (o : Oper) cs b, ops[j]? = some o → o.op ≠ .select cs b) (hin : i < n) (f : Nat) :
    ∀ (listed : Array Bool) (a : Act),
      (∀ j oj, ops[j]? = some oj → j ≠ i → listed.getD j true = false → (∀ e ∈ oj.after, Region.binds md e = true → e.on ≠ i) → oi.apart ops oj = true) →
      i ∈ Region.ready md ops listed → Gives P ops C R oi v a →
      AnyF P md ops C R n A f (listed.setIfInBounds i true) (a.put oi.dst v) → AnyF P md ops C R n A (f + 1) listed a := by
  induction f with
  | zero =>
    intro listed a _ hr hy H
    refine ⟨⟨i, hin, hr⟩, fun j hj hjn => ?_⟩
    by_cases hji : j = i
    · subst hji
      exact ⟨oi, v, hi, hy, H⟩
    · have h1 := H.2 j hjn
      rw [getD_set_ne true (Ne.symm hji), (mem_ready.1 hj).1] at h1
      cases h1
  | succ f ih =>
    intro listed a hfree hr hy H
    have hun := (mem_ready.1 hr).1
    refine ⟨⟨i, hin, hr⟩, fun j hj hjn => ?_⟩
    by_cases hji : j = i
    · subst hji
      exact ⟨oi, v, hi, hy, H⟩
    · obtain ⟨oj', u, hoj', hu, hrest⟩ := H.2 j (ready_mono hj hji) hjn
      obtain ⟨hjun, oj, hoj, hall⟩ := mem_ready.1 hj
      have : oj' = oj := Option.some.inj (hoj'.symm.trans hoj)
      subst this
      have hnot : ∀ e ∈ oj'.after, Region.binds md e = true → e.on ≠ i := fun e he hb heq => by
        have h1 := hall e he hb
        rw [heq, getD_both hun] at h1
        cases h1
      obtain ⟨h1, h2, h3⟩ := Oper.apart_spec (hfree j oj' hoj hji hjun hnot)
      refine ⟨oj', u, hoj, hu.same (execOp_put oj' (fun cs b => hsel j oj' cs b hoj) a oi.dst v h1).symm (wanted_put oj' a oi.dst v h1).symm, ?_⟩
      refine ih (listed.setIfInBounds j true) (a.put oj'.dst u) (fun k ok hk hki hunk hno => ?_) (ready_mono hr (Ne.symm hji))
        (hy.same (execOp_put oi (fun cs b => hsel i oi cs b hi) a oj'.dst u h3) (wanted_put oi a oj'.dst u h3)) ?_
      · refine hfree k ok hk hki ?_ hno
        by_cases hjk : j = k
        · subst hjk
          exact hjun
        · rwa [getD_set_ne true hjk] at hunk
      · rw [Array.setIfInBounds_comm _ _ hji, ← Act.put_comm a v u h2]
        exact hrest

/-- May the first operations be walked in the order of the text? -/
def headB (md : Region.Mode) (ops : Array Oper) : Nat → Nat → Array Bool → Bool
  | 0, _, _ => true
  | f + 1, k, listed => (Region.ready md ops listed).contains k && Region.free md ops listed k && headB md ops f (k + 1) (listed.setIfInBounds k true)

theorem F_lex {n : Nat} {A : Act} (hsel : Region.noSelect ops = true) : ∀ (l : List Oper) (k : Nat) (listed : Array Bool) (a : Act), (∀ j, j < l.length → l[j]? = ops[k + j]?) → k + l.length = n →
    (∀ i, i < k → listed.getD i true = true) → headB md ops l.length k listed = true → Walk P ops C R l a A → AnyF P md ops C R n A l.length listed a
  | [], k, listed, a, _, hk, hl, _, h => ⟨h, fun i hi => hl i (by simp at hk; omega)⟩
  | o :: l, k, listed, a, hop, hk, hl, hB, h => by
    have h0 : ops[k]? = some o := by simpa using (hop 0 (by simp)).symm
    simp only [List.length_cons, headB, Bool.and_eq_true] at hB
    obtain ⟨⟨hr, hf⟩, hB'⟩ := hB
    simp only [List.length_cons] at hk
    obtain ⟨v, hy, hK⟩ := h
    refine F_first h0 (Region.noSelect_spec hsel) (by omega) l.length listed a (Region.free_spec h0 hf) (by simpa using hr) hy ?_
    refine F_lex hsel l (k + 1) _ _ (fun j hj => ?_) (by omega) (fun i hi => ?_) hB' hK
    · have := hop (j + 1) (by simp; omega)
      simpa [Nat.add_assoc, Nat.add_comm 1 j] using this
    · by_cases hik : k = i
      · subst hik
        exact set_self _ _
      · rw [getD_set_ne true hik]
        exact hl i (by omega)

/-- The first n operations and the allocation are listed, the g others are not. -/
def canon (n g : Nat) : Array Bool := (List.replicate (n + 1) true ++ List.replicate g false).toArray

theorem canon_of {n g : Nat} {listed : Array Bool} (hz : listed.size = n + 1 + g) (h1 : ∀ i, i < n + 1 → listed.getD i true = true) (h2 : ∀ t, n + 1 ≤ t → t < n + 1 + g → listed.getD t true = false) : listed = canon n g := by
  apply Array.ext
  · simp [canon, hz]
  · intro i hi hi'
    have hg : listed.getD i true = listed[i] := by simp [hi]
    rw [← hg]
    rcases Nat.lt_or_ge i (n + 1) with h | h
    · rw [h1 i h]
      simp [canon, h]
    · rw [h2 i h (by omega)]
      simp [canon, List.getElem_append, show ¬ i < n + 1 by omega]

/-- Does the region have this form: n operations in the order of the text, an allocation that may come at any time, then one forced order? -/
def floatB (md : Region.Mode) (ops : Array Oper) (n : Nat) (oa : Oper) : Bool :=
  Region.noSelect ops && decide (n + 1 < ops.size) && Region.sinkB md ops (n + 1) && Region.chainB md ops (n + 1) && headB md ops n 0 (Array.replicate ops.size false) &&
  Region.seqB md ops (ops.size - (n + 1)) (n + 1) (canon n (ops.size - (n + 1))) &&
  ((List.range n).all fun j => match ops[j]? with
    | some oj => (oj.after.all fun e => !Region.binds md e || e.on != n) && oa.apart ops oj
    | none => true) &&
  (oa.after.all fun e => !Region.binds md e) && oa.guard.isNone

structure Float (md : Region.Mode) (ops : Array Oper) (n d : Nat) (oa : Oper) : Prop where
  sel : Region.noSelect ops = true
  lt : n + 1 < ops.size
  sink : Region.sinkB md ops (n + 1) = true
  chain : Region.chainB md ops (n + 1) = true
  head : headB md ops n 0 (Array.replicate ops.size false) = true
  seq : Region.seqB md ops (ops.size - (n + 1)) (n + 1) (canon n (ops.size - (n + 1))) = true
  free : ∀ j oj, j < n → ops[j]? = some oj → (∀ e ∈ oj.after, Region.binds md e = true → e.on ≠ n) ∧ oa.apart ops oj = true
  none : ∀ e ∈ oa.after, Region.binds md e = true → False
  guard : oa.guard = Option.none
  at_ : ops[n]? = some oa
  dst : oa.dst = some d

theorem float_of {n d : Nat} {oa : Oper} (h : floatB md ops n oa = true) (ha : ops[n]? = some oa) (hd : oa.dst = some d) : Float md ops n d oa := by
  simp only [floatB, Bool.and_eq_true, decide_eq_true_eq] at h
  obtain ⟨⟨⟨⟨⟨⟨⟨⟨h1, h2⟩, h3⟩, h4⟩, h5⟩, h6⟩, h7⟩, h8⟩, h9⟩ := h
  refine ⟨h1, h2, h3, h4, h5, h6, fun j oj hj hoj => ?_, fun e he hb => ?_, by simpa using h9, ha, hd⟩
  · have := List.all_eq_true.1 h7 j (List.mem_range.2 hj)
    simp only [hoj, Bool.and_eq_true] at this
    refine ⟨fun e he hb heq => ?_, this.2⟩
    have h10 := Array.all_eq_true_iff_forall_mem.1 this.1 e he
    simp [hb, heq] at h10
  · have h10 := Array.all_eq_true_iff_forall_mem.1 h8 e he
    rw [hb] at h10
    cases h10

theorem ready_back {n d : Nat} {oa : Oper} (F : Float md ops n d oa) {i : Nat} {listed : Array Bool} (hi : i < n) (h : i ∈ Region.ready md ops (listed.setIfInBounds n true)) : i ∈ Region.ready md ops listed := by
  rw [mem_ready] at *
  obtain ⟨h0, o, ho, hall⟩ := h
  refine ⟨by rwa [getD_set_ne true (by omega)] at h0, o, ho, fun e he hb => ?_⟩
  have h1 := hall e he hb
  rwa [getD_set_ne false (Ne.symm ((F.free i o hi ho).1 e he hb))] at h1

theorem inv_more {n d : Nat} {oa : Oper} (F : Float md ops n d oa) {listed : Array Bool} (inv : HeadInv md ops n listed) : HeadInv md ops (n + 1) (listed.setIfInBounds n true) := by
  refine ⟨by simp [inv.size], fun j oj hj hl e he hb => ?_, fun t ht ht' => by rw [getD_set_ne true (by omega)]; exact inv.tail t (by omega) ht'⟩
  by_cases hij : n = j
  · subst hij
    have : oj = oa := Option.some.inj (hj.symm.trans F.at_)
    subst this
    exact (F.none e he hb).elim
  · rw [getD_set_ne false hij] at hl
    exact getD_set_true (inv.closed j oj hj hl e he hb)
theorem inv_less {n : Nat} {listed : Array Bool} (inv : HeadInv md ops n listed) : HeadInv md ops (n + 1) listed :=
  ⟨inv.size, inv.closed, fun t ht ht' => inv.tail t (by omega) ht'⟩

/-- Behind the allocation. -/
theorem F_after {n d : Nat} {oa : Oper} (F : Float md ops n d oa) {A : Act} {p : Value} {wA : World} {Q : Exit → Act → World → Prop} {tl : List Oper} (htl : ∀ j, tl[j]? = ops[n + 1 + j]?) (hlen : tl.length = ops.size - (n + 1))
    (hrefl : ∀ w, R w w) (htr : ∀ x y z, R x y → R y z → R x z) (hC : ∀ x y, C x → R x y → C y)
    (hQ : ∀ w2, C w2 → R wA w2 → wpList P ops Q tl (A.put (some d) p) w2) (f : Nat) :
    ∀ (listed : Array Bool) (a : Act) (w2 : World), HeadInv md ops n listed → AnyF P md ops C R n A f listed a → C w2 → R wA w2 →
      wpAny P md ops Q (f + tl.length) (listed.setIfInBounds n true) (a.put (some d) p) w2 := by
  induction f with
  | zero =>
    intro listed a w2 inv h hc hr
    obtain ⟨rfl, hall⟩ := h
    have hcan : listed.setIfInBounds n true = canon n (ops.size - (n + 1)) := by
      have := F.lt
      refine canon_of (by simp [inv.size]; omega) (fun i hi => ?_) (fun t ht ht' => ?_)
      · by_cases hin : n = i
        · subst hin
          exact set_self _ _
        · rw [getD_set_ne true hin]
          exact hall i (by omega)
      · rw [getD_set_ne true (by omega)]
        exact inv.tail t (by omega) (by omega)
    rw [Nat.zero_add, hcan]
    refine wpAny_of_seq tl (n + 1) _ _ _ htl ?_ (hQ w2 hc hr)
    rw [hlen]
    exact F.seq
  | succ f ih =>
    intro listed a w2 inv h hc hr
    rw [show f + 1 + tl.length = (f + tl.length) + 1 by omega]
    obtain ⟨⟨i0, hi0, hr0⟩, hall⟩ := h
    have hr0' := ready_mono (i := n) hr0 (by omega)
    refine ⟨fun h0 => absurd h0 (List.ne_nil_of_mem hr0'), fun i hi => ?_⟩
    have hin : i < n := by
      rcases Nat.lt_or_ge i (n + 1) with h1 | h1
      · by_cases h2 : i = n
        · subst h2
          have := (mem_ready.1 hi).1
          rw [set_self] at this
          cases this
        · omega
      · exact absurd hi (tail_waits F.sink F.chain F.lt (inv_more F inv) _ i0 rfl (by omega) (mem_ready.1 hr0').1 i h1)
    obtain ⟨oi, v, hoi, hy, hrest⟩ := hall i (ready_back F hin hi) hin
    obtain ⟨h1, h2, h3⟩ := Oper.apart_spec (F.free i oi hin hoi).2
    have hsel := Region.noSelect_spec F.sel
    rw [← F.dst]
    refine (hy.same (execOp_put oi (fun cs b => hsel i oi cs b hoi) a oa.dst p h1) (wanted_put oi a oa.dst p h1)).op hoi hc (hrefl _) (fun w' hw' => ?_)
    rw [Act.put_comm a p v h2, Array.setIfInBounds_comm _ _ (by omega : n ≠ i), F.dst]
    exact ih _ _ _ (inv.set (ready_back F hin hi) hin) hrest (hC _ _ hc hw') (htr _ _ _ hr hw')

/-- Ahead of it. -/
theorem F_before {n d : Nat} {oa : Oper} (F : Float md ops n d oa) {O : Obj} {A : Act} {w0 : World} {Q : Exit → Act → World → Prop} {tl : List Oper} (htl : ∀ j, tl[j]? = ops[n + 1 + j]?) (hlen : tl.length = ops.size - (n + 1))
    (hrefl : ∀ w, R w w) (htr : ∀ x y z, R x y → R y z → R x z) (hC : ∀ x y, C x → R x y → C y) (hCA : ∀ x, C x → C (x.alloc O))
    (hal : ∀ (a : Act) (w : World), (execOp a.eval oa).run P w = .ok (.value (.pointer (some ⟨w.heap.size, 0, none⟩))) (w.alloc O))
    (hQ : ∀ w1 w2, C w1 → R w0 w1 → C w2 → R (w1.alloc O) w2 → wpList P ops Q tl (A.put (some d) (.pointer (some ⟨w1.heap.size, 0, none⟩))) w2) (f : Nat) :
    ∀ (listed : Array Bool) (a : Act) (w1 : World), HeadInv md ops n listed → AnyF P md ops C R n A f listed a → C w1 → R w0 w1 →
      wpAny P md ops Q (f + tl.length + 1) listed a w1 := by
  have alloc : ∀ (f : Nat) (listed : Array Bool) (a : Act) (w1 : World), HeadInv md ops n listed → AnyF P md ops C R n A f listed a → C w1 → R w0 w1 →
      wpOp P ops Q n (wpAny P md ops Q (f + tl.length) (listed.setIfInBounds n true)) a w1 := by
    intro f listed a w1 inv h hc hr
    unfold wpOp
    simp only [F.at_]
    rw [if_pos (by unfold Region.wanted; rw [F.guard])]
    refine .inl ?_
    unfold Oper.wp
    rw [hal a w1]
    show wpAny P md ops Q (f + tl.length) (listed.setIfInBounds n true) (a.put oa.dst _) (w1.alloc O)
    rw [F.dst]
    exact F_after F htl hlen hrefl htr hC (fun w2 hc2 hr2 => hQ w1 w2 hc hr hc2 hr2) f listed a _ inv h (hCA _ hc) (hrefl _)
  induction f with
  | zero =>
    intro listed a w1 inv h hc hr
    have hn : n ∈ Region.ready md ops listed := mem_ready.2 ⟨inv.tail n (Nat.le_refl _) (by have := F.lt; omega), oa, F.at_, fun e he hb => (F.none e he hb).elim⟩
    refine ⟨fun h0 => absurd h0 (List.ne_nil_of_mem hn), fun i hi => ?_⟩
    have hin : i = n := by
      rcases Nat.lt_or_ge i (n + 1) with h1 | h1
      · by_cases h2 : i = n
        · exact h2
        · have h3 := h.2 i (by omega)
          rw [(mem_ready.1 hi).1] at h3
          cases h3
      · exact absurd hi (tail_waits F.sink F.chain F.lt (inv_less inv) _ n rfl (by omega) (mem_ready.1 hn).1 i h1)
    subst hin
    exact alloc 0 listed a w1 inv h hc hr
  | succ f ih =>
    intro listed a w1 inv h hc hr
    have hn : n ∈ Region.ready md ops listed := mem_ready.2 ⟨inv.tail n (Nat.le_refl _) (by have := F.lt; omega), oa, F.at_, fun e he hb => (F.none e he hb).elim⟩
    refine ⟨fun h0 => absurd h0 (List.ne_nil_of_mem hn), fun i hi => ?_⟩
    rcases Nat.lt_or_ge i (n + 1) with h1 | h1
    · by_cases h2 : i = n
      · subst h2
        exact alloc (f + 1) listed a w1 inv h hc hr
      · have hin : i < n := by omega
        obtain ⟨oi, v, hoi, hy, hrest⟩ := h.2 i hi hin
        refine hy.op hoi hc (hrefl _) (fun w' hw' => ?_)
        have := ih _ _ _ (inv.set hi hin) hrest (hC _ _ hc hw') (htr _ _ _ hr hw')
        rwa [show f + 1 + tl.length = f + tl.length + 1 by omega]
    · exact absurd hi (tail_waits F.sink F.chain F.lt (inv_less inv) _ n rfl (by omega) (mem_ready.1 hn).1 i h1)

/-- The region by one walk. -/
theorem region_float {id : Nat} {Q : Exit → Act → World → Prop} {a A : Act} {w : World} {l : List Oper} (n d : Nat) (oa : Oper) (O : Obj) (hm : P.follows .mixedOrders = true) (ha : l.toArray[n]? = some oa) (hd : oa.dst = some d) (hB : floatB .any l.toArray n oa = true)
    (hrefl : ∀ w, R w w) (htr : ∀ x y z, R x y → R y z → R x z) (hC : ∀ x y, C x → R x y → C y) (hCA : ∀ x, C x → C (x.alloc O)) (hc0 : C w.drew)
    (hal : ∀ (a : Act) (w : World), (execOp a.eval oa).run P w = .ok (.value (.pointer (some ⟨w.heap.size, 0, none⟩))) (w.alloc O))
    (hW : Walk P l.toArray C R (l.take n) a A)
    (hQ : ∀ w1 w2, C w1 → R w.drew w1 → C w2 → R (w1.alloc O) w2 → wpList P l.toArray Q (l.drop (n + 1)) (A.put (some d) (.pointer (some ⟨w1.heap.size, 0, none⟩))) w2) :
    (Code.region id l.toArray true).wp P Q a w := by
  have F := float_of hB ha hd
  have hn := F.lt
  have hn' : n + 1 < l.length := by simpa using hn
  have htl : (l.take n).length = n := by simp; omega
  have hdl : (l.drop (n + 1)).length = l.toArray.size - (n + 1) := by simp
  have inv0 : HeadInv .any l.toArray n (Array.replicate l.toArray.size false) :=
    ⟨by simp, fun j oj _ hl => (by rw [getD_replicate_false] at hl; cases hl), fun t _ ht => getD_in (by simpa using ht) (getD_replicate_false _ _)⟩
  have H := F_lex (md := .any) (n := n) F.sel (l.take n) 0 (Array.replicate l.toArray.size false) a (fun j hj => by
    have hj' : j < n := by rw [htl] at hj; exact hj
    simp [hj']) (by simpa using htl) (fun i hi => absurd hi (Nat.not_lt_zero _)) (by rw [htl]; exact F.head) hW
  refine wp_region_any hm ?_
  have := F_before F (tl := l.drop (n + 1)) (fun j => by simp [List.getElem?_drop]) hdl hrefl htr hC hCA hal hQ _ _ _ w.drew inv0 H hc0 (hrefl _)
  rw [htl, hdl, show n + (l.toArray.size - (n + 1)) + 1 = l.toArray.size by omega] at this
  exact this

theorem W_any {n : Nat} {A : Act} {w0 : World} {Q : Exit → Act → World → Prop} (hn : n = ops.size) (hrefl : ∀ w, R w w) (htr : ∀ x y z, R x y → R y z → R x z) (hC : ∀ x y, C x → R x y → C y) (hQ : ∀ w', C w' → R w0 w' → Q .normal A w') (f : Nat) :
    ∀ (listed : Array Bool) (a : Act) (w1 : World), AnyF P md ops C R n A f listed a → C w1 → R w0 w1 → wpAny P md ops Q f listed a w1 := by
  induction f with
  | zero =>
    intro listed a w1 h hc hr
    obtain ⟨rfl, hall⟩ := h
    refine ⟨List.eq_nil_iff_forall_not_mem.2 fun i hi => ?_, hQ _ hc hr⟩
    obtain ⟨h0, o, ho, _⟩ := mem_ready.1 hi
    rw [hall i (by rw [hn]; exact (Array.getElem?_eq_some_iff.1 ho).1)] at h0
    cases h0
  | succ f ih =>
    intro listed a w1 h hc hr
    obtain ⟨⟨i0, _, hr0⟩, hall⟩ := h
    refine ⟨fun h0 => absurd h0 (List.ne_nil_of_mem hr0), fun i hi => ?_⟩
    obtain ⟨_, o, ho, _⟩ := mem_ready.1 hi
    obtain ⟨oi, v, hoi, hy, hrest⟩ := hall i hi (by rw [hn]; exact (Array.getElem?_eq_some_iff.1 ho).1)
    exact hy.op hoi hc (hrefl _) (fun w' hw' => ih _ _ _ hrest (hC _ _ hc hw') (htr _ _ _ hr hw'))

/-- A region that has neither an allocation nor a forced end. -/
theorem region_walk {id : Nat} {Q : Exit → Act → World → Prop} {a : Act} {w : World} {l : List Oper} (C : World → Prop) (R : World → World → Prop) (hm : P.follows .mixedOrders = true) (hs : Region.noSelect l.toArray = true) (hB : headB .any l.toArray l.length 0 (Array.replicate l.length false) = true)
    (hrefl : ∀ w, R w w) (htr : ∀ x y z, R x y → R y z → R x z) (hC : ∀ x y, C x → R x y → C y) (hc0 : C w.drew)
    (hWQ : ∃ A, Walk P l.toArray C R l a A ∧ ∀ w', C w' → R w.drew w' → Q .normal A w') :
    (Code.region id l.toArray true).wp P Q a w := by
  obtain ⟨A, hW, hQ⟩ := hWQ
  have H := F_lex (md := .any) (n := l.length) hs l 0 (Array.replicate l.length false) a (fun j _ => by simp) (by simp) (fun i hi => absurd hi (Nat.not_lt_zero _)) hB hW
  refine wp_region_any hm ?_
  have := W_any (w0 := w.drew) (by simp) hrefl htr hC hQ _ _ _ w.drew H hc0 (hrefl _)
  simpa using this

/-- Do the operations write to slots of their own? -/
def dstsB (m : Nat) : List Oper → Bool
  | [] => true
  | o :: l => (match o.dst with
    | some d => decide (d < m) && l.all fun o' => o'.dst != some d
    | none => false) && dstsB m l

theorem put_tmps (a : Act) (x : Option Tmp) (v : Value) : (a.put x v).tmps.size = a.tmps.size := by
  cases x <;> simp [Act.put]
theorem put_other (a : Act) (x : Option Tmp) (v : Value) (d : Nat) (h : x ≠ some d) : (a.put x v).tmps[d]? = a.tmps[d]? := by
  cases x with
  | none => rfl
  | some e => simp [Act.put, Array.getElem?_setIfInBounds_ne (show e ≠ d from fun hh => h (hh ▸ rfl))]

theorem quiet_keep {A : Act} {D : World → Prop} {d : Nat} : ∀ (l : List Oper) (a : Act), wpQuiet P ops D (fun a' => a' = A) l a → (∀ o ∈ l, o.dst ≠ some d) → A.tmps[d]? = a.tmps[d]?
  | [], a, h, _ => by
    have : a = A := h
    rw [this]
  | o :: l, a, h, hd => by
    unfold wpQuiet at h
    by_cases hw : Region.wanted o (yielded ops a.tmps) = true
    · rw [if_pos hw] at h
      obtain ⟨v, _, h2⟩ := h
      rw [quiet_keep l _ h2 (fun o' ho' => hd o' (List.mem_cons_of_mem _ ho')), put_other _ _ _ _ (hd o List.mem_cons_self)]
    · rw [if_neg hw] at h
      rw [quiet_keep l _ h (fun o' ho' => hd o' (List.mem_cons_of_mem _ ho')), put_other _ _ _ _ (hd o List.mem_cons_self)]

/-- What a quiet walk ends in tells each value: so it is one value, whatever the world. -/
theorem walk_quiet {A : Act} (w0 : World) : ∀ (l : List Oper) (a : Act), dstsB a.tmps.size l = true → (∀ X : World, wpQuiet P ops (fun w' => ∃ k, w' = X.drewN k) (fun a' => a' = A) l a) →
    Walk P ops (fun _ => True) (fun w w' => ∃ k, w' = w.drewN k) l a A
  | [], a, _, h => h w0
  | o :: l, a, hB, h => by
    simp only [dstsB, Bool.and_eq_true] at hB
    obtain ⟨hB1, hB2⟩ := hB
    cases ho : o.dst with
    | none => rw [ho] at hB1; cases hB1
    | some d =>
      rw [ho] at hB1
      simp only [Bool.and_eq_true, decide_eq_true_eq] at hB1
      have hdl : ∀ o' ∈ l, o'.dst ≠ some d := fun o' ho' => by simpa using List.all_eq_true.1 hB1.2 o' ho'
      by_cases hw : Region.wanted o (yielded ops a.tmps) = true
      · have h' : ∀ X : World, ∃ v, (∀ w, (∃ k, w = X.drewN k) → o.quietAt P a (fun w' => ∃ k, w' = X.drewN k) w v) ∧ wpQuiet P ops (fun w' => ∃ k, w' = X.drewN k) (fun a' => a' = A) l (a.put (some d) v) := fun X => by
          have := h X
          unfold wpQuiet at this
          rw [if_pos hw] at this
          obtain ⟨v, h1, h2⟩ := this
          rw [ho] at h2
          exact ⟨v, h1, h2⟩
        have hv : ∀ (X : World) (v : Value), wpQuiet P ops (fun w' => ∃ k, w' = X.drewN k) (fun a' => a' = A) l (a.put (some d) v) → A.tmps[d]? = some v := fun X v h2 => by
          rw [quiet_keep l _ h2 hdl]
          simp [Act.put, hB1.1]
        obtain ⟨v0, h01, h02⟩ := h' w0
        have e0 := hv w0 v0 h02
        have same : ∀ X : World, (∀ w, (∃ k, w = X.drewN k) → o.quietAt P a (fun w' => ∃ k, w' = X.drewN k) w v0) ∧ wpQuiet P ops (fun w' => ∃ k, w' = X.drewN k) (fun a' => a' = A) l (a.put (some d) v0) := fun X => by
          obtain ⟨v, h1, h2⟩ := h' X
          have e := hv X v h2
          rw [e0] at e
          cases e
          exact ⟨h1, h2⟩
        refine ⟨v0, .inl ⟨hw, fun X _ => (same X).1 X ⟨0, rfl⟩⟩, ?_⟩
        rw [ho]
        exact walk_quiet w0 l _ (by rw [put_tmps]; exact hB2) (fun X => (same X).2)
      · refine ⟨undef, .inr ⟨by simpa using hw, rfl⟩, walk_quiet w0 l _ (by rw [put_tmps]; exact hB2) (fun X => ?_)⟩
        have := h X
        unfold wpQuiet at this
        rwa [if_neg hw] at this

theorem alloc_drewN' (w : World) (k : Nat) (X : Obj) : (w.drewN k).alloc X = (w.alloc X).drewN k := rfl

/-- The region by one walk, where it only reads and draws. -/
theorem region_float_quiet {id : Nat} {Q : Exit → Act → World → Prop} {a : Act} {w : World} {l : List Oper} (n d : Nat) (oa : Oper) (O : Obj) (hm : P.follows .mixedOrders = true) (ha : l.toArray[n]? = some oa) (hd : oa.dst = some d) (hB : floatB .any l.toArray n oa = true)
    (hal : ∀ (a : Act) (w : World), (execOp a.eval oa).run P w = .ok (.value (.pointer (some ⟨w.heap.size, 0, none⟩))) (w.alloc O))
    (hD : dstsB a.tmps.size (l.take n) = true)
    (hWQ : ∃ A, (∀ X : World, wpQuiet P l.toArray (fun w' => ∃ k, w' = X.drewN k) (fun a' => a' = A) (l.take n) a) ∧
      ∀ w3, (∃ k, w3 = w.drewN k) → wpList P l.toArray Q (l.drop (n + 1)) (A.put (some d) (.pointer (some ⟨w3.heap.size, 0, none⟩))) (w3.alloc O)) :
    (Code.region id l.toArray true).wp P Q a w := by
  obtain ⟨A, hW, hQ⟩ := hWQ
  refine region_float (C := fun _ => True) (R := fun w w' => ∃ k, w' = w.drewN k) n d oa O hm ha hd hB (fun w => ⟨0, rfl⟩) ?_ (fun _ _ _ _ => trivial) (fun _ _ => trivial) trivial hal (walk_quiet w _ _ hD hW) ?_
  · rintro x y z ⟨j, rfl⟩ ⟨k, rfl⟩
    exact ⟨j + k, by rw [World.drewN_drewN]⟩
  · rintro w1 w2 _ ⟨j, rfl⟩ _ ⟨k, rfl⟩
    have e : ((w.drew.drewN j).alloc O).drewN k = (w.drewN (1 + j + k)).alloc O := by
      show (((w.drewN 1).drewN j).alloc O).drewN k = _
      rw [World.drewN_drewN, alloc_drewN', World.drewN_drewN, alloc_drewN']
    rw [e]
    exact hQ (w.drewN (1 + j + k)) ⟨_, rfl⟩
end
#print axioms region_float_quiet
end Go.Proofs.Ytpepjmcglglepaa
