/- Steps of regions that make variables of their own: no two of them are one. -/
import Derived.Test.YtmaddfjgiflkbaaDoorCtGen
namespace Go.Proofs.YtmaddfjgiflkbaaDoor
set_option maxRecDepth 100000
open Go.RowKit
set_option maxRecDepth 100000
set_option linter.unusedVariables false

/-- What lay there lies there still; the variables that are made (places, slots) are no two one. -/
def AS (w0 : World) (al : List (Nat × Nat)) (listed : Array Bool) (a : Act) (w : World) : Prop :=
  Below w0.heap.size w0 w ∧ ∀ p ∈ al, ∀ q ∈ al, p.1 ≠ q.1 → listed.getD p.1 false = true → listed.getD q.1 false = true → a.eval (.tmp p.2) ≠ a.eval (.tmp q.2)

section
variable {P : Program} {l : List Oper} {B : Nat} {sp : List GV} {w0 : World} {al : List (Nat × Nat)} {a a' : Act} {i : Nat} {o : Oper} {listed : Array Bool} {w' w'' : World} {v : Value}
theorem eval_put_other (a : Act) (x : Option Tmp) (v : Value) (d : Nat) (h : x ≠ some d) : (a.put x v).eval (.tmp d) = a.eval (.tmp d) := by
  simp [Act.eval, put_other a x v d h]
theorem AS.keep (h : AS w0 al listed a' w') (hi : (al.all fun p => p.1 != i && o.dst != some p.2) = true) (hb : Below w'.heap.size w' w'') : AS w0 al (listed.setIfInBounds i true) (a'.put o.dst v) w'' := by
  refine ⟨h.1.trans (hb.mono h.1.size), fun p hp q hq hne h1 h2 => ?_⟩
  have hp' := List.all_eq_true.1 hi p hp
  have hq' := List.all_eq_true.1 hi q hq
  simp only [Bool.and_eq_true, bne_iff_ne, ne_eq] at hp' hq'
  rw [getD_set_ne false (fun e => hp'.1 e.symm)] at h1
  rw [getD_set_ne false (fun e => hq'.1 e.symm)] at h2
  rw [eval_put_other _ _ _ _ hp'.2, eval_put_other _ _ _ _ hq'.2]
  exact h.2 p hp q hq hne h1 h2
theorem AS.make {d : Nat} {O : Obj} (h : AS w0 al listed a' w') (hs : Seen .any l.toArray (VG B sp) a listed a' w') (hd : o.dst = some d) (hdm : d < a'.tmps.size)
    (hal : (al.all fun p => (p.1 == i && p.2 == d) || (p.1 != i && p.2 != d && (match sp[p.1]?, l[p.1]? with | some (.ptr _ _), some o' => o'.dst == some p.2 | _, _ => false))) = true) :
    AS w0 al (listed.setIfInBounds i true) (a'.put o.dst (.pointer (some ⟨w'.heap.size, 0, none⟩))) (w'.alloc O) := by
  have hnew : (a'.put o.dst (.pointer (some ⟨w'.heap.size, 0, none⟩))).eval (.tmp d) = .pointer (some ⟨w'.heap.size, 0, none⟩) := by
    rw [hd]; simp [Act.eval, Act.put, hdm]
  have hold : ∀ p ∈ al, p.1 ≠ i → (listed.setIfInBounds i true).getD p.1 false = true → p.2 ≠ d ∧ listed.getD p.1 false = true ∧ ∃ r, r < w'.heap.size ∧ a'.eval (.tmp p.2) = .pointer (some ⟨r, 0, none⟩) := fun p hp hne hl => by
    rw [getD_set_ne false (fun e => hne e.symm)] at hl
    have h1 := List.all_eq_true.1 hal p hp
    simp only [Bool.or_eq_true, Bool.and_eq_true, beq_iff_eq, bne_iff_ne, ne_eq] at h1
    rcases h1 with h1 | ⟨⟨_, h2⟩, h3⟩
    · exact absurd h1.1 hne
    · refine ⟨h2, hl, ?_⟩
      cases hsp : sp[p.1]? with
      | none => rw [hsp] at h3; cases h3
      | some g =>
        cases hop : l[p.1]? with
        | none => rw [hsp, hop] at h3; cases g <;> cases h3
        | some o' =>
          rw [hsp, hop] at h3
          cases g with
          | ptr X T =>
            have hd' : o'.dst = some p.2 := by simpa using h3
            have hv := hs.eval p.1 o' p.2 (by simpa using hop) hl hd'
            unfold VG at hv
            rw [hsp] at hv
            obtain ⟨r, _, hr, hk⟩ := hv
            exact ⟨r, heap_lt hk, hr⟩
          | val x => cases h3
          | row X T n => cases h3
          | ints l => cases h3
          | any => cases h3
  refine ⟨h.1.alloc h.1.size O, fun p hp q hq hne h1 h2 => ?_⟩
  by_cases hpi : p.1 = i
  · have hpd : p.2 = d := by
      have h3 := List.all_eq_true.1 hal p hp
      simp only [Bool.or_eq_true, Bool.and_eq_true, beq_iff_eq, bne_iff_ne, ne_eq] at h3
      rcases h3 with h3 | h3
      · exact h3.2
      · exact absurd hpi h3.1.1
    obtain ⟨hqd, _, r, hr, he⟩ := hold q hq (fun e => hne (hpi.trans e.symm)) h2
    rw [hpd, hnew, eval_put_other _ _ _ _ (by rw [hd]; intro e; injection e with e; exact hqd e.symm), he]
    intro e
    injection e with e; injection e with e; injection e with e
    omega
  · by_cases hqi : q.1 = i
    · have hqd : q.2 = d := by
        have h3 := List.all_eq_true.1 hal q hq
        simp only [Bool.or_eq_true, Bool.and_eq_true, beq_iff_eq, bne_iff_ne, ne_eq] at h3
        rcases h3 with h3 | h3
        · exact h3.2
        · exact absurd hqi h3.1.1
      obtain ⟨hpd, _, r, hr, he⟩ := hold p hp hpi h1
      rw [hqd, hnew, eval_put_other _ _ _ _ (by rw [hd]; intro e; injection e with e; exact hpd e.symm), he]
      intro e
      injection e with e; injection e with e; injection e with e
      omega
    · obtain ⟨hpd, hp2, _⟩ := hold p hp hpi h1
      obtain ⟨hqd, hq2, _⟩ := hold q hq hqi h2
      rw [eval_put_other _ _ _ _ (by rw [hd]; intro e; injection e with e; exact hpd e.symm), eval_put_other _ _ _ _ (by rw [hd]; intro e; injection e with e; exact hqd e.symm)]
      exact h.2 p hp q hq hne hp2 hq2

theorem gA_val (v : Value) (hS : AS w0 al listed a' w') (hw : Region.wanted o (yielded l.toArray a'.tmps) = true) (hr : (execOp a'.eval o).run P w' = .ok (.value v) w') (hV : VG B sp i v w') (hi : (al.all fun p => p.1 != i && o.dst != some p.2) = true) :
    (Region.wanted o (yielded l.toArray a'.tmps) = true ∧ planUpon P (fun v w'' => VG B sp i v w'' ∧ AS w0 al (listed.setIfInBounds i true) (a'.put o.dst v) w'' ∧ ∀ j u, VG B sp j u w' → VG B sp j u w'') ((execOp a'.eval o).run P w')) ∨ (Region.wanted o (yielded l.toArray a'.tmps) = false ∧ VG B sp i undef w' ∧ AS w0 al (listed.setIfInBounds i true) (a'.put o.dst undef) w') :=
  .inl ⟨hw, by rw [hr]; exact ⟨hV, hS.keep hi (Below.refl _ _), fun _ _ h => h⟩⟩
theorem gA_new (v : Value) (O : Obj) (hS : AS w0 al listed a' w') (hw : Region.wanted o (yielded l.toArray a'.tmps) = true) (hr : (execOp a'.eval o).run P w' = .ok (.value v) (w'.alloc O)) (hV : VG B sp i v (w'.alloc O)) (hi : (al.all fun p => p.1 != i && o.dst != some p.2) = true) :
    (Region.wanted o (yielded l.toArray a'.tmps) = true ∧ planUpon P (fun v w'' => VG B sp i v w'' ∧ AS w0 al (listed.setIfInBounds i true) (a'.put o.dst v) w'' ∧ ∀ j u, VG B sp j u w' → VG B sp j u w'') ((execOp a'.eval o).run P w')) ∨ (Region.wanted o (yielded l.toArray a'.tmps) = false ∧ VG B sp i undef w' ∧ AS w0 al (listed.setIfInBounds i true) (a'.put o.dst undef) w') :=
  have hb : Below w'.heap.size w' (w'.alloc O) := (Below.refl _ w').alloc (Nat.le_refl _) _
  .inl ⟨hw, by rw [hr]; exact ⟨hV, hS.keep hi hb, VG.keep hb⟩⟩
theorem gA_make {d : Nat} (O : Obj) (hS : AS w0 al listed a' w') (hs : Seen .any l.toArray (VG B sp) a listed a' w') (hw : Region.wanted o (yielded l.toArray a'.tmps) = true) (hr : (execOp a'.eval o).run P w' = .ok (.value (.pointer (some ⟨w'.heap.size, 0, none⟩))) (w'.alloc O)) (hV : VG B sp i (.pointer (some ⟨w'.heap.size, 0, none⟩)) (w'.alloc O)) (hd : o.dst = some d) (hdm : d < a.tmps.size)
    (hal : (al.all fun p => (p.1 == i && p.2 == d) || (p.1 != i && p.2 != d && (match sp[p.1]?, l[p.1]? with | some (.ptr _ _), some o' => o'.dst == some p.2 | _, _ => false))) = true) :
    (Region.wanted o (yielded l.toArray a'.tmps) = true ∧ planUpon P (fun v w'' => VG B sp i v w'' ∧ AS w0 al (listed.setIfInBounds i true) (a'.put o.dst v) w'' ∧ ∀ j u, VG B sp j u w' → VG B sp j u w'') ((execOp a'.eval o).run P w')) ∨ (Region.wanted o (yielded l.toArray a'.tmps) = false ∧ VG B sp i undef w' ∧ AS w0 al (listed.setIfInBounds i true) (a'.put o.dst undef) w') :=
  have hb : Below w'.heap.size w' (w'.alloc O) := (Below.refl _ w').alloc (Nat.le_refl _) _
  .inl ⟨hw, by rw [hr]; exact ⟨hV, hS.make hs hd (by rw [hs.tmps]; exact hdm) hal, VG.keep hb⟩⟩
theorem gA_call (f : FuncId) (args : Array Value) (hS : AS w0 al listed a' w') (hw : Region.wanted o (yielded l.toArray a'.tmps) = true) (hr : (execOp a'.eval o).run P w' = .ok (.enter f args) w') (hi : (al.all fun p => p.1 != i && o.dst != some p.2) = true) (hc : Calls P f args w' (fun e w'' => ∃ v, e = .returned v ∧ VG B sp i v w'' ∧ Below w'.heap.size w' w'')) :
    (Region.wanted o (yielded l.toArray a'.tmps) = true ∧ planUpon P (fun v w'' => VG B sp i v w'' ∧ AS w0 al (listed.setIfInBounds i true) (a'.put o.dst v) w'' ∧ ∀ j u, VG B sp j u w' → VG B sp j u w'') ((execOp a'.eval o).run P w')) ∨ (Region.wanted o (yielded l.toArray a'.tmps) = false ∧ VG B sp i undef w' ∧ AS w0 al (listed.setIfInBounds i true) (a'.put o.dst undef) w') :=
  .inl ⟨hw, by
    rw [hr]
    exact Calls.mono hc fun e w'' ⟨v, he, hV, hb⟩ => ⟨v, he, hV, hS.keep hi hb, VG.keep hb⟩⟩
end
#print axioms gA_make
end Go.Proofs.YtmaddfjgiflkbaaDoor
