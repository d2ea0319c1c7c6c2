/- The walks of whether all of a set is in another one. -/
import Derived.Test.YtmaddfjgiflkbaaCtGen
import Derived.BigFrame
import Derived.Deep.Light
namespace Go.Proofs.Ytmaddfjgiflkbaa
open Go.RowKit
set_option maxRecDepth 100000
set_option linter.unusedVariables false

theorem setNew (w : World) (n g : Nat) (h : g = w.heap.size) : SetAt (w.alloc (.cells (C.cv n) 23)) g n := by rw [h]; exact SetAt.new w n

namespace C
theorem bit_has (n j : Nat) (h : j < 240) : n.testBit j = hasN n (239 - j) := by
  unfold hasN
  rw [decide_eq_true (show 239 - j < 240 by omega), Bool.true_and, show 239 - (239 - j) = j by omega]
theorem has_and (a b k : Nat) : hasN (a &&& b) k = (hasN a k && hasN b k) := by
  unfold hasN
  rw [Nat.testBit_and]
  cases decide (k < 240) <;> simp
theorem has_or (a b k : Nat) : hasN (a ||| b) k = (hasN a k || hasN b k) := by
  unfold hasN
  rw [Nat.testBit_or]
  cases decide (k < 240) <;> simp
theorem ext {a b : Nat} (ha : a < 2 ^ 240) (hb : b < 2 ^ 240) (h : ∀ k, k < 240 → hasN a k = hasN b k) : a = b := by
  apply Nat.eq_of_testBit_eq
  intro j
  by_cases hj : j < 240
  · rw [bit_has a j hj, bit_has b j hj]; exact h _ (by omega)
  · have p : 2 ^ 240 ≤ 2 ^ j := Nat.pow_le_pow_right (by decide) (by omega)
    rw [Nat.testBit_lt_two_pow (by omega), Nat.testBit_lt_two_pow (by omega)]
theorem within_yes {a b : Nat} (ha : a < 2 ^ 240) (h : ∀ k, k < 240 → hasN a k = true → hasN b k = true) : C.meet a [b] = a := by
  show a &&& b = a
  refine ext (and_lt b ha) ha fun k hk => ?_
  rw [has_and]
  cases ha' : hasN a k
  · rfl
  · rw [h k hk ha']; rfl
theorem within_no {a b k : Nat} (h1 : hasN a k = true) (h2 : hasN b k = false) : ¬ C.meet a [b] = a := fun h => by
  have h' : a &&& b = a := h
  have := has_and a b k
  rw [h', h1, h2] at this
  cases this
end C

end Go.Proofs.Ytmaddfjgiflkbaa
