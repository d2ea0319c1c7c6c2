/- Plain arithmetic of addresses and prefixes. No program is named here. -/
import Derived.WalkKit
import Derived.WalkSmall
import Derived.Lib.Hide
namespace Go.Proofs.Ytpepjmcglglepaa.A

/-- Within 0 to 32. -/
def clamp (b : Int) : Nat := if b < 0 then 0 else if 32 < b then 32 else b.toNat

theorem clamp_le (b : Int) : clamp b ≤ 32 := by unfold clamp; split <;> (try split) <;> omega
theorem clamp_in (b : Nat) (h : b ≤ 32) : clamp (b : Int) = b := by unfold clamp; rw [if_neg (by omega), if_neg (by omega)]; omega
theorem clamp_eq (b : Int) : ((clamp b : Nat) : Int) = b ↔ 0 ≤ b ∧ b ≤ 32 := by unfold clamp; split <;> (try split) <;> omega

/-- So many highest bits. -/
def mask (n : Nat) : Nat := 4294967296 - 2 ^ (32 - n)

theorem pow_le (n : Nat) : 2 ^ (32 - n) ≤ 4294967296 := by
  have : (2 : Nat) ^ (32 - n) ≤ 2 ^ 32 := Nat.pow_le_pow_right (by decide) (by omega)
  simpa using this

/-- An address's first bits. -/
def top (a n : Nat) : Nat := a / 2 ^ (32 - n) * 2 ^ (32 - n)

theorem and_mask (a n : Nat) (ha : a < 4294967296) : a &&& mask n = top a n := by
  have hk : 1 ≤ 2 ^ (32 - n) := Nat.one_le_two_pow
  have hle := pow_le n
  have hm : mask n = 2 ^ 32 - ((2 ^ (32 - n) - 1) + 1) := by unfold mask; rw [Nat.sub_add_cancel hk]
  apply Nat.eq_of_testBit_eq
  intro i
  rw [Nat.testBit_and, hm, Nat.testBit_two_pow_sub_succ (by omega), Nat.testBit_two_pow_sub_one]
  unfold top
  rw [Nat.testBit_mul_two_pow, Nat.testBit_div_two_pow]
  by_cases h1 : 32 - n ≤ i
  · have e : i - (32 - n) + (32 - n) = i := by omega
    by_cases h2 : i < 32
    · simp [h1, h2, e, Nat.not_lt.2 h1]
    · have h3 : a.testBit i = false := Nat.testBit_lt_two_pow (Nat.lt_of_lt_of_le ha (by have : (2 : Nat) ^ 32 ≤ 2 ^ i := Nat.pow_le_pow_right (by decide) (by omega); simpa using this))
      simp [h1, e, h3]
  · simp [h1, Nat.lt_of_not_le h1]

theorem top_lt (a n : Nat) (ha : a < 4294967296) : top a n < 4294967296 := by
  unfold top
  have := Nat.div_mul_le_self a (2 ^ (32 - n))
  omega

/-- Is a prefix right? -/
def right (a : Nat) (b : Int) : Bool := decide (0 ≤ b ∧ b ≤ 32 ∧ a % 2 ^ (32 - b.toNat) = 0)
/-- Does it hold an address? -/
def holds (p : Nat) (b : Int) (a : Nat) : Bool := right p b && decide (p / 2 ^ (32 - b.toNat) = a / 2 ^ (32 - b.toNat))
/-- Does one lie within another one? -/
def within (p : Nat) (b : Int) (q : Nat) (c : Int) : Bool := right p b && right q c && decide (c ≤ b) && holds q c p

theorem top_iff (p a n : Nat) : top a n = p ↔ p % 2 ^ (32 - n) = 0 ∧ p / 2 ^ (32 - n) = a / 2 ^ (32 - n) := by
  have hp : 0 < 2 ^ (32 - n) := Nat.two_pow_pos _
  unfold top
  constructor
  · intro h
    subst h
    exact ⟨Nat.mul_mod_left _ _, Nat.mul_div_cancel _ hp⟩
  · rintro ⟨h1, h2⟩
    have := Nat.div_add_mod p (2 ^ (32 - n))
    rw [h1, h2] at this
    rw [Nat.mul_comm]
    omega

/-- Cut's answer is the prefix just where it holds the address. -/
theorem cut_holds (p : Nat) (b : Int) (a : Nat) : (decide (top a (clamp b) = p) && decide (((clamp b : Nat) : Int) = b)) = holds p b a := by
  unfold holds right
  rw [Bool.eq_iff_iff]
  simp only [Bool.and_eq_true, decide_eq_true_eq, clamp_eq]
  constructor
  · rintro ⟨h1, h2⟩
    have e : clamp b = b.toNat := by unfold clamp; rw [if_neg (by omega), if_neg (by omega)]
    rw [e, top_iff] at h1
    exact ⟨⟨h2.1, h2.2, h1.1⟩, h1.2⟩
  · rintro ⟨⟨h1, h2, h3⟩, h4⟩
    have e : clamp b = b.toNat := by unfold clamp; rw [if_neg (by omega), if_neg (by omega)]
    rw [e, top_iff]
    exact ⟨⟨h3, h4⟩, h1, h2⟩

theorem holds_self (p : Nat) (b : Int) : holds p b p = right p b := by unfold holds; simp

/-- The k-th bit, the highest first. -/
def bit (a k : Nat) : Nat := a / 2 ^ (31 - k) % 2

theorem bit_le (a k : Nat) : bit a k ≤ 1 := by unfold bit; omega

theorem two_pow_step (k : Nat) (h : k < 32) : 2 ^ (32 - k) = 2 * 2 ^ (31 - k) := by
  rw [show 32 - k = (31 - k) + 1 by omega, Nat.pow_succ, Nat.mul_comm]

/-- What is behind k bits, less one bit. -/
theorem low_step (a k : Nat) (h : k < 32) : a % 2 ^ (32 - k) = bit a k * 2 ^ (31 - k) + a % 2 ^ (31 - k) := by
  rw [two_pow_step k h, Nat.mul_comm 2, Nat.mod_mul]
  unfold bit
  rw [Nat.mul_comm, Nat.add_comm]

/-- What is ahead of k + 1 bits. -/
theorem high_step (a k : Nat) (h : k < 32) : a / 2 ^ (31 - k) = a / 2 ^ (32 - k) * 2 + bit a k := by
  rw [two_pow_step k h, Nat.mul_comm 2, ← Nat.div_div_eq_div_mul]
  unfold bit
  omega

theorem high_same (p a k : Nat) (h : k < 32) : p / 2 ^ (31 - k) = a / 2 ^ (31 - k) ↔ p / 2 ^ (32 - k) = a / 2 ^ (32 - k) ∧ bit p k = bit a k := by
  rw [high_step p k h, high_step a k h]
  have h1 := bit_le p k
  have h2 := bit_le a k
  constructor <;> omega

end Go.Proofs.Ytpepjmcglglepaa.A
