/- A region that draws its order and only reads, beside one allocation that may come at any time, and ends in a forced tail: one walk, in whatever world of a class. -/
import Derived.Test.YtpepjmcglglepaaQFloat
import Derived.Below
namespace Go.Proofs.Ytpepjmcglglepaa
open Go
section
variable {P : Program} {ops : Array Oper} {C : World → Prop}

/-- What a quiet walk ends in tells each value: so it is one value, whatever the world of the class. -/
theorem walk_quiet_C {A : Act} (w0 : World) (h0 : C w0) : ∀ (l : List Oper) (a : Act), dstsB a.tmps.size l = true → (∀ X : World, C X → wpQuiet P ops (fun w' => ∃ k, w' = X.drewN k) (fun a' => a' = A) l a) →
    Walk P ops C (fun w w' => ∃ k, w' = w.drewN k) l a A
  | [], a, _, h => h w0 h0
  | o :: l, a, hB, h => by
    simp only [dstsB, Bool.and_eq_true] at hB
    obtain ⟨hB1, hB2⟩ := hB
    cases ho : o.dst with
    | none => rw [ho] at hB1; cases hB1
    | some d =>
      rw [ho] at hB1
      simp only [Bool.and_eq_true, decide_eq_true_eq] at hB1
      have hdl : ∀ o' ∈ l, o'.dst ≠ some d := fun o' ho' => by simpa using List.all_eq_true.1 hB1.2 o' ho'
      by_cases hw : Region.wanted o (yielded ops a.tmps) = true
      · have h' : ∀ X : World, C X → ∃ v, (∀ w, (∃ k, w = X.drewN k) → o.quietAt P a (fun w' => ∃ k, w' = X.drewN k) w v) ∧ wpQuiet P ops (fun w' => ∃ k, w' = X.drewN k) (fun a' => a' = A) l (a.put (some d) v) := fun X hX => by
          have := h X hX
          unfold wpQuiet at this
          rw [if_pos hw] at this
          obtain ⟨v, h1, h2⟩ := this
          rw [ho] at h2
          exact ⟨v, h1, h2⟩
        have hv : ∀ (X : World) (v : Value), wpQuiet P ops (fun w' => ∃ k, w' = X.drewN k) (fun a' => a' = A) l (a.put (some d) v) → A.tmps[d]? = some v := fun X v h2 => by
          rw [quiet_keep l _ h2 hdl]
          simp [Act.put, hB1.1]
        obtain ⟨v0, h01, h02⟩ := h' w0 h0
        have e0 := hv w0 v0 h02
        have same : ∀ X : World, C X → (∀ w, (∃ k, w = X.drewN k) → o.quietAt P a (fun w' => ∃ k, w' = X.drewN k) w v0) ∧ wpQuiet P ops (fun w' => ∃ k, w' = X.drewN k) (fun a' => a' = A) l (a.put (some d) v0) := fun X hX => by
          obtain ⟨v, h1, h2⟩ := h' X hX
          have e := hv X v h2
          rw [e0] at e
          cases e
          exact ⟨h1, h2⟩
        refine ⟨v0, .inl ⟨hw, fun X hX => (same X hX).1 X ⟨0, rfl⟩⟩, ?_⟩
        rw [ho]
        exact walk_quiet_C w0 h0 l _ (by rw [put_tmps]; exact hB2) (fun X hX => (same X hX).2)
      · refine ⟨undef, .inr ⟨by simpa using hw, rfl⟩, walk_quiet_C w0 h0 l _ (by rw [put_tmps]; exact hB2) (fun X hX => ?_)⟩
        have := h X hX
        unfold wpQuiet at this
        rwa [if_neg hw] at this

theorem region_float_quiet_C {id : Nat} {Q : Exit → Act → World → Prop} {a : Act} {w : World} {l : List Oper} (n d : Nat) (oa : Oper) (O : Obj) (hm : P.follows .mixedOrders = true) (ha : l.toArray[n]? = some oa) (hd : oa.dst = some d) (hB : floatB .any l.toArray n oa = true)
    (hal : ∀ (a : Act) (w : World), (execOp a.eval oa).run P w = .ok (.value (.pointer (some ⟨w.heap.size, 0, none⟩))) (w.alloc O))
    (hD : dstsB a.tmps.size (l.take n) = true) (hCd : ∀ x k, C x → C (x.drewN k)) (hCA : ∀ x, C x → C (x.alloc O)) (hc : C w)
    (hWQ : ∃ A, (∀ X : World, C X → wpQuiet P l.toArray (fun w' => ∃ k, w' = X.drewN k) (fun a' => a' = A) (l.take n) a) ∧
      ∀ w3, (∃ k, w3 = w.drewN k) → wpList P l.toArray Q (l.drop (n + 1)) (A.put (some d) (.pointer (some ⟨w3.heap.size, 0, none⟩))) (w3.alloc O)) :
    (Code.region id l.toArray true).wp P Q a w := by
  obtain ⟨A, hW, hQ⟩ := hWQ
  refine region_float (C := C) (R := fun w w' => ∃ k, w' = w.drewN k) n d oa O hm ha hd hB (fun w => ⟨0, rfl⟩) ?_ (fun x y hx ⟨k, hk⟩ => by rw [hk]; exact hCd x k hx) hCA (hCd w 1 hc) hal (walk_quiet_C w hc _ _ hD hW) ?_
  · rintro x y z ⟨j, rfl⟩ ⟨k, rfl⟩
    exact ⟨j + k, by rw [World.drewN_drewN]⟩
  · rintro w1 w2 _ ⟨j, rfl⟩ _ ⟨k, rfl⟩
    have e : ((w.drew.drewN j).alloc O).drewN k = (w.drewN (1 + j + k)).alloc O := by
      show (((w.drewN 1).drewN j).alloc O).drewN k = _
      rw [World.drewN_drewN, alloc_drewN', World.drewN_drewN, alloc_drewN']
    rw [e]
    exact hQ (w.drewN (1 + j + k)) ⟨_, rfl⟩
end
/-- The class of worlds in which what was there is as it was. -/
theorem old_drewN (w : World) (x : World) (k : Nat) (h : RowKit.Below w.heap.size w x) : RowKit.Below w.heap.size w (x.drewN k) := ⟨h.os, h.tape, h.output, h.size, h.block⟩
theorem old_alloc (w : World) (O : Obj) (x : World) (h : RowKit.Below w.heap.size w x) : RowKit.Below w.heap.size w (x.alloc O) := h.alloc h.size O
#print axioms region_float_quiet_C
end Go.Proofs.Ytpepjmcglglepaa
