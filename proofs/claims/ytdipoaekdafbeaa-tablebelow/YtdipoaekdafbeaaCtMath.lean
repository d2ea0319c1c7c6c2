/- Sets of categories as numbers of 240 bits: the first category is the highest bit. No program is named here. -/
import Derived.WalkKit
import Derived.IntWalk
namespace Go.Proofs.Ytdipoaekdafbeaa
open Go.RowKit

namespace C
/-- Thirty bytes, by a function of their places. -/
def bv (f : Nat → Nat) : Array Value := (Array.range 30).map fun i => .int .u8 (f i)
/-- A number's byte at a place. -/
def byte (n i : Nat) : Nat := n / 2 ^ (8 * (29 - i)) % 2 ^ 8
/-- A set's bytes. -/
def cv (n : Nat) : Array Value := bv (byte n)
/-- Is a category in it? -/
def hasN (n k : Nat) : Bool := decide (k < 240) && n.testBit (239 - k)
def has (n : Nat) (k : Int) : Bool := decide (0 ≤ k) && hasN n k.toNat
/-- One category alone. -/
def one (k : Nat) : Nat := if k < 240 then 2 ^ (239 - k) else 0

theorem bv_size (f : Nat → Nat) : (bv f).size = 30 := by simp [bv]
theorem bv_get (f : Nat → Nat) (i : Nat) (h : i < 30) : (bv f)[i]? = some (.int .u8 (f i)) := by simp [bv, h]
theorem bv_ext {f g : Nat → Nat} (h : ∀ i, i < 30 → f i = g i) : bv f = bv g := by
  unfold bv
  apply Array.ext
  · simp
  · intro i h1 h2
    have hi : i < 30 := by simpa using h1
    simp [h i hi]
theorem bv_inj {f g : Nat → Nat} (h : bv f = bv g) (i : Nat) (hi : i < 30) : f i = g i := by
  have h1 := bv_get f i hi
  rw [h, bv_get g i hi] at h1
  injection h1 with h1
  injection h1 with _ h1
  omega
theorem bv_set (f : Nat → Nat) (i x : Nat) : (bv f).setIfInBounds i (.int .u8 x) = bv (fun j => if j = i then x else f j) := by
  apply Array.ext_getElem?
  intro j
  rw [Array.getElem?_setIfInBounds]
  by_cases hj : j < 30
  · rw [bv_get _ j hj, bv_get _ j hj]
    by_cases e : i = j
    · subst e; simp [bv_size, hj]
    · rw [if_neg e, if_neg (fun h => e h.symm)]
  · have h1 : (bv f)[j]? = none := Array.getElem?_eq_none (by rw [bv_size]; omega)
    have h2 : (bv fun j => if j = i then x else f j)[j]? = none := Array.getElem?_eq_none (by rw [bv_size]; omega)
    rw [h1, h2]
    by_cases e : i = j
    · subst e; simp [bv_size, hj]
    · rw [if_neg e]
theorem bv_one (f : Nat → Nat) : (bv f).all (·.oneCell') = true := by
  rw [Array.all_eq_true_iff_forall_mem]
  intro v hv
  unfold bv at hv
  obtain ⟨i, _, rfl⟩ := Array.mem_map.1 hv
  rfl

theorem byte_lt (n i : Nat) : byte n i < 256 := Nat.mod_lt _ (by decide)
theorem byte_bit (n i b : Nat) : (byte n i).testBit b = (decide (b < 8) && n.testBit (8 * (29 - i) + b)) := by
  unfold byte
  rw [Nat.testBit_mod_two_pow, Nat.testBit_div_two_pow, Nat.add_comm b]

/-- A set whose bytes are these. -/
def num (f : Nat → Nat) : Nat → Nat
  | 0 => 0
  | k + 1 => num f k * 256 + f k
theorem num_lt (f : Nat → Nat) (h : ∀ i, f i < 256) : ∀ k, num f k < 2 ^ (8 * k)
  | 0 => by simp [num]
  | k + 1 => by
    have ih := num_lt f h k
    have := h k
    have e : 2 ^ (8 * (k + 1)) = 2 ^ (8 * k) * 256 := by rw [show 8 * (k + 1) = 8 * k + 8 by omega, Nat.pow_add]
    rw [e]
    simp only [num]
    omega
theorem num_byte (f : Nat → Nat) (h : ∀ i, f i < 256) : ∀ k i, i < k → num f k / 2 ^ (8 * (k - 1 - i)) % 256 = f i
  | 0, i, hi => by omega
  | k + 1, i, hi => by
    have hk := h k
    simp only [num]
    by_cases e : i = k
    · subst e
      simp
      omega
    · have hi' : i < k := by omega
      have ih := num_byte f h k i hi'
      rw [show k + 1 - 1 - i = (k - 1 - i) + 1 by omega, show 8 * (k - 1 - i + 1) = 8 + 8 * (k - 1 - i) by omega, Nat.pow_add, ← Nat.div_div_eq_div_mul, show (num f k * 256 + f k) / 2 ^ 8 = num f k by omega]
      exact ih
theorem cv_of (f : Nat → Nat) (h : ∀ i, f i < 256) : ∃ n, n < 2 ^ 240 ∧ bv f = cv n := by
  refine ⟨num f 30, num_lt f h 30, bv_ext fun i hi => ?_⟩
  have := num_byte f h 30 i hi
  unfold byte
  rw [show 29 - i = 30 - 1 - i by omega]
  exact this.symm

theorem cv_inj {n m : Nat} (hn : n < 2 ^ 240) (hm : m < 2 ^ 240) (h : cv n = cv m) : n = m := by
  apply Nat.eq_of_testBit_eq
  intro j
  by_cases hj : j < 240
  · have h1 := bv_inj h (29 - j / 8) (by omega)
    have h2 := byte_bit n (29 - j / 8) (j % 8)
    have h3 := byte_bit m (29 - j / 8) (j % 8)
    rw [h1, h3, show 8 * (29 - (29 - j / 8)) + j % 8 = j by omega] at h2
    simpa [show j % 8 < 8 by omega] using h2.symm
  · have p : 2 ^ 240 ≤ 2 ^ j := Nat.pow_le_pow_right (by decide) (by omega)
    rw [Nat.testBit_lt_two_pow (by omega), Nat.testBit_lt_two_pow (by omega)]
theorem cv_eq {n m : Nat} (hn : n < 2 ^ 240) (hm : m < 2 ^ 240) : cv n = cv m ↔ n = m := ⟨cv_inj hn hm, fun h => by rw [h]⟩
theorem byte_ext {n : Nat} {f : Nat → Nat} (hf : ∀ i, i < 30 → f i < 256) (h : ∀ i b, i < 30 → b < 8 → (f i).testBit b = n.testBit (8 * (29 - i) + b)) : bv f = cv n := by
  apply bv_ext
  intro i hi
  apply Nat.eq_of_testBit_eq
  intro b
  rw [byte_bit]
  by_cases hb : b < 8
  · rw [h i b hi hb]; simp [hb]
  · have p : 2 ^ 8 ≤ 2 ^ b := Nat.pow_le_pow_right (by decide) (by omega)
    have := hf i hi
    rw [Nat.testBit_lt_two_pow (by omega)]
    simp [hb]

theorem or_lt {n m : Nat} (hn : n < 2 ^ 240) (hm : m < 2 ^ 240) : n ||| m < 2 ^ 240 := Nat.or_lt_two_pow hn hm
theorem and_lt {n : Nat} (m : Nat) (hn : n < 2 ^ 240) : n &&& m < 2 ^ 240 := Nat.lt_of_le_of_lt Nat.and_le_left hn
theorem one_lt (k : Nat) : one k < 2 ^ 240 := by
  unfold one
  split
  · exact Nat.pow_lt_pow_right (by decide) (by omega)
  · exact Nat.pow_pos (by decide)
theorem byte_or (n m i : Nat) : byte n i ||| byte m i = byte (n ||| m) i := by
  apply Nat.eq_of_testBit_eq
  intro b
  rw [Nat.testBit_or, byte_bit, byte_bit, byte_bit, Nat.testBit_or]
  cases decide (b < 8) <;> simp
theorem byte_and (n m i : Nat) : byte n i &&& byte m i = byte (n &&& m) i := by
  apply Nat.eq_of_testBit_eq
  intro b
  rw [Nat.testBit_and, byte_bit, byte_bit, byte_bit, Nat.testBit_and]
  cases decide (b < 8) <;> simp

theorem has_bit (n k : Nat) (h : k < 240) : (byte n (k / 8)).testBit (7 - k % 8) = hasN n k := by
  rw [byte_bit]
  unfold hasN
  rw [show 8 * (29 - k / 8) + (7 - k % 8) = 239 - k by omega]
  simp [h, show 7 - k % 8 < 8 by omega]

/-- Put a category in: the byte in which it stands. -/
theorem cv_with (n k : Nat) (h : k < 240) : (cv n).setIfInBounds (k / 8) (.int .u8 ((byte n (k / 8) ||| 2 ^ (7 - k % 8) : Nat))) = cv (n ||| one k) := by
  unfold cv
  rw [bv_set]
  apply byte_ext
  · intro i hi
    split
    · exact Nat.or_lt_two_pow (n := 8) (byte_lt _ _) (Nat.pow_lt_pow_right (by decide) (by omega))
    · exact byte_lt _ _
  · intro i b hi hb
    unfold one
    rw [if_pos h, Nat.testBit_or, Nat.testBit_two_pow]
    split
    · rename_i e
      subst e
      rw [Nat.testBit_or, byte_bit, Nat.testBit_two_pow]
      simp only [hb, decide_true, Bool.true_and]
      congr 1
      rw [decide_eq_decide]
      omega
    · rename_i e
      rw [byte_bit]
      simp only [hb, decide_true, Bool.true_and]
      rw [decide_eq_false (by omega)]
      simp
end C
end Go.Proofs.Ytdipoaekdafbeaa
