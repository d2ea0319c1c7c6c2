/- A region that draws nothing, walked by what holds of each operation's value, as one that draws: guards of unknown value make no ways. -/
import Derived.Test.YtagfcfkkjllfpaaQVal
namespace Go.Proofs.Ytagfcfkkjllfpaa
open Go Go.RowKit
set_option linter.unusedVariables false
section
variable {P : Program} {ops : Array Oper}

theorem canonN_get (n g i : Nat) (d : Bool) : (canonN n g).getD i d = if i < n then true else if i < n + g then false else d := by
  unfold canonN
  rw [Array.getD_eq_getD_getElem?, List.getElem?_toArray, List.getElem?_append]
  simp only [List.length_replicate]
  by_cases h : i < n
  · simp [h]
  · by_cases h2 : i < n + g
    · simp [h, h2, show i - n < g by omega]
    · rw [if_neg h, if_neg h, if_neg h2, List.getElem?_replicate, if_neg (by omega)]
      rfl
theorem canonN_set (n g : Nat) : (canonN n (g + 1)).setIfInBounds n true = canonN (n + 1) g := by
  have hz : (canonN n (g + 1)).size = n + (g + 1) := by simp [canonN]
  refine canonN_of (by simp [hz]; omega) (fun i hi => ?_) (fun t h1 h2 => ?_)
  · by_cases e : n = i
    · subst e
      simp [hz]
    · rw [getD_set_ne false e, canonN_get]
      rw [if_pos (by omega)]
  · rw [getD_set_ne true (by omega), canonN_get, if_neg (by omega), if_pos (by omega)]

theorem seq_gen {n : Nat} {V : Nat → Value → World → Prop} {S : Array Bool → Act → World → Prop} {Q : Exit → Act → World → Prop} {a0 : Act} (hB : genB .any ops n a0.tmps.size = true)
    (hstep : ∀ (i : Nat) o, i < n → ops[i]? = some o → ∀ listed a w, Seen .any ops V a0 listed a w → S listed a w → listed.getD i true = false → (∀ e ∈ o.after, Region.binds .any e = true → listed.getD e.on false = true) →
      (Region.wanted o (yielded ops a.tmps) = true ∧ planUpon P (fun v w' => V i v w' ∧ S (listed.setIfInBounds i true) (a.put o.dst v) w' ∧ ∀ j u, V j u w → V j u w') ((execOp a.eval o).run P w)) ∨ (Region.wanted o (yielded ops a.tmps) = false ∧ V i undef w ∧ S (listed.setIfInBounds i true) (a.put o.dst undef) w))
    (hfin : ∀ (vs : List Value) w, vs.length = n → (∀ (i : Nat) v, vs[i]? = some v → V i v w) → S (canonN n (ops.size - n)) (lays a0 (ops.toList.take n) vs) w → wpList P ops Q (ops.toList.drop n) (lays a0 (ops.toList.take n) vs) w) (f : Nat) :
    ∀ i a w, i + f = n → Seen .any ops V a0 (canonN i (ops.size - i)) a w → S (canonN i (ops.size - i)) a w → wpList P ops Q (ops.toList.drop i) a w := by
  simp only [genB, Bool.and_eq_true, decide_eq_true_eq] at hB
  obtain ⟨⟨hB1, hB2⟩, hn⟩ := hB
  have htl : (ops.toList.take n).length = n := by rw [List.length_take, Array.length_toList]; omega
  have hget : ∀ i, i < n → (ops.toList.take n)[i]? = ops[i]? := fun i hi => by rw [List.getElem?_take_of_lt hi]; simp
  have back : ∀ (i : Nat) o, i < n → ops[i]? = some o → ∀ e ∈ o.after, Region.binds .any e = true → e.on < i := fun i o hi ho e he hb => by
    have := List.all_eq_true.1 hB1 i (List.mem_range.2 hi)
    simp only [ho] at this
    have h1 := Array.all_eq_true_iff_forall_mem.1 this e he
    simpa [hb] using h1
  induction f with
  | zero =>
    intro i a w hi hs hS
    obtain rfl : i = n := by omega
    have he : a = lays a0 (ops.toList.take i) ((ops.toList.take i).map fun o => match o.dst with | some d => (a.tmps[d]?).getD undef | none => undef) := by
      refine lays_eq _ _ _ hB2 (by simp) hs.defs hs.tmps (fun t ht => hs.old t (fun j o ho hd => ?_)) (fun j o d ho hd => ?_)
      · rcases Nat.lt_or_ge j i with hj | hj
        · exact absurd hd (ht o (List.mem_of_getElem? ((hget j hj).trans ho)))
        · rw [canonN_get, if_neg (by omega)]
          split <;> rfl
      · have hj : j < i := by
          have := (List.getElem?_eq_some_iff.1 ho).1
          omega
        have ho' : ops[j]? = some o := (hget j hj).symm.trans ho
        obtain ⟨v, h1, _⟩ := hs.val j o d ho' (by rw [canonN_get, if_pos hj]) hd
        rw [h1, List.getElem?_map, ho]
        simp [hd, h1]
    rw [he] at hS ⊢
    refine hfin _ w (by rw [List.length_map, htl]) (fun j v hv => ?_) hS
    rw [List.getElem?_map] at hv
    cases ho : (ops.toList.take i)[j]? with
    | none => rw [ho] at hv; cases hv
    | some o =>
      have hj : j < i := by
        have := (List.getElem?_eq_some_iff.1 ho).1
        omega
      have ho' : ops[j]? = some o := (hget j hj).symm.trans ho
      obtain ⟨d, hd, _⟩ := dsts_some hB2 o (List.mem_of_getElem? ho)
      obtain ⟨u, h1, h2⟩ := hs.val j o d ho' (by rw [canonN_get, if_pos hj]) hd
      rw [ho] at hv
      simp only [Option.map_some, Option.some.injEq, hd, h1, Option.getD_some] at hv
      subst hv
      exact h2
  | succ f ih =>
    intro i a w hi hs hS
    have hin : i < n := by omega
    have hio : i < ops.size := by omega
    have ho : ops[i]? = some ops[i] := Array.getElem?_eq_getElem hio
    have hdrop : ops.toList.drop i = ops[i] :: ops.toList.drop (i + 1) := by
      rw [List.drop_eq_getElem_cons (by simpa using hio)]
      simp
    have hset : (canonN i (ops.size - i)).setIfInBounds i true = canonN (i + 1) (ops.size - (i + 1)) := by
      rw [show ops.size - i = ops.size - (i + 1) + 1 by omega]
      exact canonN_set _ _
    have hun : (canonN i (ops.size - i)).getD i true = false := by rw [canonN_get, if_neg (by omega), if_pos (by omega)]
    have hdep : ∀ e ∈ ops[i].after, Region.binds .any e = true → (canonN i (ops.size - i)).getD e.on false = true := fun e he hb => by
      rw [canonN_get, if_pos (back i _ hin ho e he hb)]
    obtain ⟨d, hd, hdm⟩ := dsts_some hB2 ops[i] (List.mem_of_getElem? ((hget i hin).trans ho))
    have key : ∀ v w', (V i v w' ∧ S ((canonN i (ops.size - i)).setIfInBounds i true) (a.put ops[i].dst v) w' ∧ ∀ j u, V j u w → V j u w') → wpList P ops Q (ops.toList.drop (i + 1)) (a.put ops[i].dst v) w' := fun v w' ⟨k1, k2, k3⟩ => by
      rw [hset] at k2
      refine ih (i + 1) _ _ (by omega) ⟨by simp [canonN]; omega, fun t ht => ?_, fun j oj dj hj hl hdj => ?_, by rw [put_tmps]; exact hs.tmps, ?_, fun j oj hj hl e he hb => ?_⟩ k2
      · have hit : ops[i].dst ≠ some t := fun hh => by
          have := ht i _ ho hh
          rw [canonN_get, if_pos (by omega)] at this
          cases this
        rw [put_other _ _ _ _ hit]
        refine hs.old t (fun j oj hj hd' => ?_)
        have := ht j oj hj hd'
        rw [canonN_get] at this ⊢
        by_cases h1 : j < i
        · rw [if_pos (by omega)] at this; cases this
        · rw [if_neg h1]; split <;> rfl
      · by_cases hij : i = j
        · subst hij
          have : oj = ops[i] := Option.some.inj (hj.symm.trans ho)
          subst this
          refine ⟨v, ?_, k1⟩
          rw [hdj]
          rw [hd] at hdj
          cases hdj
          simp [Act.put, hs.tmps, hdm]
        · have hjn : j < i := by
            rw [canonN_get] at hl
            by_cases h1 : j < i + 1
            · omega
            · rw [if_neg h1] at hl
              split at hl <;> cases hl
          obtain ⟨u, h1, h2⟩ := hs.val j oj dj hj (by rw [canonN_get, if_pos hjn]) hdj
          refine ⟨u, ?_, k3 j u h2⟩
          rw [put_other _ _ _ _ (fun hh => dsts_two hB2 i j _ oj ((hget i hin).trans ho) ((hget j (by omega)).trans hj) hij (hh.trans hdj.symm))]
          exact h1
      · rw [← hs.defs, hd]
        rfl
      · have hjn : j < i + 1 := by
          rw [canonN_get] at hl
          by_cases h1 : j < i + 1
          · exact h1
          · rw [if_neg h1] at hl
            split at hl <;> cases hl
        rw [canonN_get, if_pos (by have := back j oj (by omega) hj e he hb; omega)]
    rw [hdrop]
    unfold wpList
    rcases hstep i _ hin ho _ a w hs hS hun hdep with ⟨hw, h⟩ | ⟨hw, h⟩
    · rw [if_pos hw]
      refine .inl ?_
      unfold Oper.wp
      generalize (execOp a.eval ops[i]).run P w = r at *
      cases r with
      | halt x w' => exact h.elim
      | ok x w' =>
        cases x with
        | value u => exact key u w' h
        | enter g args => exact Calls.mono h fun e w'' ⟨v, he, hk⟩ => by subst he; exact key v w'' hk
        | _ => exact h.elim
    · rw [if_neg (by rw [hw]; exact Bool.false_ne_true)]
      exact key undef w ⟨h.1, h.2, fun _ _ hh => hh⟩

theorem canonN_zero (m : Nat) : canonN 0 m = Array.replicate m false := by simp [canonN]
/-- The first n operations of a region that draws nothing. -/
theorem region_seq {id : Nat} {Q : Exit → Act → World → Prop} {a : Act} {w : World} {l : List Oper} (n : Nat) (V : Nat → Value → World → Prop) (S : Array Bool → Act → World → Prop) (hB : genB .any l.toArray n a.tmps.size = true)
    (h0 : S (Array.replicate l.length false) a w) (hstep : GSteps (GStep P l V S a) 0 (l.take n))
    (hfin : ∀ (vs : List Value) w', vs.length = n → (∀ (i : Nat) v, vs[i]? = some v → V i v w') → S (canonN n (l.length - n)) (lays a (l.take n) vs) w' → wpList P l.toArray Q (l.drop n) (lays a (l.take n) vs) w') :
    (Code.region id l.toArray false).wp P Q a w := by
  refine wp_region_list ?_
  have hs : Seen .any l.toArray V a (canonN 0 l.length) a w := by
    rw [canonN_zero]
    exact ⟨by simp, fun t _ => rfl, fun i o d _ hl => (by rw [getD_replicate_false] at hl; cases hl), rfl, rfl, fun i o _ hl => (by rw [getD_replicate_false] at hl; cases hl)⟩
  have := seq_gen (P := P) (ops := l.toArray) (n := n) (Q := Q) hB
    (fun i o hi ho => by
      have := GSteps.get hstep i o (by rw [List.getElem?_take_of_lt hi]; simpa using ho)
      rw [Nat.zero_add] at this
      exact this)
    (fun vs w' h1 h2 hS => by
      have := hfin vs w' h1 h2 (by simpa using hS)
      simpa using this)
    n 0 a w (by omega) (by simpa using hs) (by simpa [canonN_zero] using h0)
  simpa using this
end
#print axioms region_seq
end Go.Proofs.Ytagfcfkkjllfpaa
