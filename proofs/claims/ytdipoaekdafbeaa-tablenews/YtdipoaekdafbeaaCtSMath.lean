/- What is in a set with, and without, some; how many are in two. -/
import Derived.Test.YtdipoaekdafbeaaCtWithin
namespace Go.Proofs.Ytdipoaekdafbeaa
open Go.RowKit
set_option linter.unusedVariables false
namespace C
theorem has_oneI (z : Int) (k : Nat) (hk : k < 240) : hasN (oneI z) k = decide (z = (k : Int)) := by
  unfold oneI
  split
  · rename_i h
    unfold hasN one
    by_cases hz : z.toNat < 240
    · rw [if_pos hz, decide_eq_true hk, Bool.true_and, Nat.testBit_two_pow, decide_eq_decide]
      omega
    · rw [if_neg hz, Nat.zero_testBit, Bool.and_false]
      rw [decide_eq_false (by omega)]
  · rw [decide_eq_false (by omega)]
    unfold hasN
    simp
theorem has_plus (k : Nat) (hk : k < 240) : ∀ (l : List Int) (n : Nat), hasN (plus n l) k = (hasN n k || decide ((k : Int) ∈ l))
  | [], n => by simp [plus]
  | z :: l, n => by
    have ih := has_plus k hk l (n ||| oneI z)
    show hasN (plus (n ||| oneI z) l) k = _
    rw [ih, has_or, has_oneI z k hk, Bool.or_assoc]
    congr 1
    rw [Bool.eq_iff_iff]
    simp only [Bool.or_eq_true, decide_eq_true_eq, List.mem_cons]
    constructor
    · rintro (h | h)
      · exact .inl h.symm
      · exact .inr h
    · rintro (h | h)
      · exact .inl h.symm
      · exact .inr h
theorem has_xor (a b k : Nat) : hasN (a ^^^ b) k = (hasN a k ^^ hasN b k) := by
  unfold hasN
  rw [Nat.testBit_xor]
  cases decide (k < 240) <;> simp
theorem has_less (k : Nat) (hk : k < 240) : ∀ (l : List Int) (n : Nat), hasN (less n l) k = (hasN n k && !decide ((k : Int) ∈ l))
  | [], n => by simp [less]
  | z :: l, n => by
    have ih := has_less k hk l (less1 n z)
    show hasN (less (less1 n z) l) k = _
    rw [ih]
    unfold less1
    rw [has_xor, has_and, has_oneI z k hk]
    rw [Bool.eq_iff_iff]
    by_cases h1 : z = (k : Int)
    · cases hasN n k <;> simp [h1]
    · have h1' : ¬ (k : Int) = z := fun e => h1 e.symm
      cases hasN n k <;> simp [h1, h1']
theorem mem_list (n k : Nat) : (k : Int) ∈ list n ↔ hasN n k = true := by
  unfold list listTo
  rw [List.mem_map]
  constructor
  · rintro ⟨j, hj, he⟩
    have : j = k := by omega
    subst this
    exact (List.mem_filter.1 hj).2
  · intro h
    exact ⟨k, List.mem_filter.2 ⟨List.mem_range.2 (by unfold hasN at h; simp at h; exact h.1), h⟩, rfl⟩
theorem oneI_lt (z : Int) : oneI z < 2 ^ 240 := by
  unfold oneI
  split
  · exact one_lt _
  · exact Nat.pow_pos (by decide)
theorem plus_lt : ∀ (l : List Int) (n : Nat), n < 2 ^ 240 → plus n l < 2 ^ 240
  | [], n, h => h
  | z :: l, n, h => plus_lt l (n ||| oneI z) (or_lt h (oneI_lt z))
theorem less1_lt (n : Nat) (z : Int) (h : n < 2 ^ 240) : less1 n z < 2 ^ 240 := Nat.xor_lt_two_pow h (and_lt _ h)
theorem less_lt : ∀ (l : List Int) (n : Nat), n < 2 ^ 240 → less n l < 2 ^ 240
  | [], n, h => h
  | z :: l, n, h => less_lt l (less1 n z) (less1_lt n z h)

theorem cnt_sum (a b : Nat) : ∀ k, cnt (a ||| b) k + cnt (a &&& b) k = cnt a k + cnt b k
  | 0 => rfl
  | k + 1 => by
    have ih := cnt_sum a b k
    rw [cnt_succ, cnt_succ, cnt_succ, cnt_succ, has_or, has_and]
    cases hasN a k <;> cases hasN b k <;> simp <;> omega
theorem union_two (a b : Nat) : union [a, b] = a ||| b := by simp [union]
theorem meet_one (a b : Nat) : meet a [b] = a &&& b := rfl
theorem count_sum (a b : Nat) : (list (union [a, b])).length + (list (meet a [b])).length = (list a).length + (list b).length := by
  rw [union_two, meet_one]; exact cnt_sum a b 240
theorem back (a b : Nat) (ha : a < 2 ^ 240) : plus (less a (list b)) (list (meet a [b])) = a := by
  refine ext (plus_lt _ _ (less_lt _ _ ha)) ha fun k hk => ?_
  rw [has_plus k hk, has_less k hk, meet_one]
  rw [Bool.eq_iff_iff]
  simp only [mem_list, has_and]
  cases hasN a k <;> cases hasN b k <;> simp
theorem with_all (a b : Nat) (ha : a < 2 ^ 240) (hb : b < 2 ^ 240) : plus a (list b) = union [a, b] := by
  rw [union_two]
  refine ext (plus_lt _ _ ha) (or_lt ha hb) fun k hk => ?_
  rw [has_plus k hk, has_or]
  rw [Bool.eq_iff_iff]
  simp only [mem_list]
  cases hasN a k <;> cases hasN b k <;> simp
theorem apart (a b : Nat) (ha : a < 2 ^ 240) : meet (less a (list b)) [b] = 0 := by
  rw [meet_one]
  refine ext (and_lt _ (less_lt _ _ ha)) (Nat.pow_pos (by decide)) fun k hk => ?_
  rw [has_and, has_less k hk]
  have h0 : hasN 0 k = false := by unfold hasN; simp
  rw [h0, Bool.eq_iff_iff]
  simp only [mem_list]
  cases hasN a k <;> cases hasN b k <;> simp
end C
end Go.Proofs.Ytdipoaekdafbeaa
