/- Bits of numbers that aren't below 0. No program is named here. -/
import Derived.WalkKit
import Derived.IntWalk
namespace Go.Proofs.Ytohemlejceiojaa
open Go.RowKit

theorem i64_bitnat (a : Nat) (ha : a < 4294967296) : (BitVec.ofInt 64 (a : Int)).toNat = a := by
  have e : (((2 : Nat) ^ 64 : Nat) : Int) = 18446744073709551616 := by decide
  rw [BitVec.toNat_ofInt, e]
  omega

theorem i64_and (a b : Nat) (ha : a < 4294967296) (hb : b < 4294967296) : bits .and .i64 (a : Int) (b : Int) = ((a &&& b : Nat) : Int) := by
  show IntKind.i64.wrap ((BitVec.ofInt 64 (a : Int) &&& BitVec.ofInt 64 (b : Int)).toNat : Int) = _
  have hle : a &&& b ≤ a := Nat.and_le_left
  rw [BitVec.toNat_and, i64_bitnat a ha, i64_bitnat b hb, IntWalk.i64_in _ (by omega)]

theorem i64_or (a b : Nat) (ha : a < 65536) (hb : b < 65536) : bits .or .i64 (a : Int) (b : Int) = ((a ||| b : Nat) : Int) := by
  show IntKind.i64.wrap ((BitVec.ofInt 64 (a : Int) ||| BitVec.ofInt 64 (b : Int)).toNat : Int) = _
  have hlt : a ||| b < 2 ^ 16 := Nat.or_lt_two_pow (by omega) (by omega)
  rw [BitVec.toNat_or, i64_bitnat a (by omega), i64_bitnat b (by omega), IntWalk.i64_in _ (by omega)]

theorem and_15 (a : Nat) (h : a < 65536) : bits .and .i64 (a : Int) 15 = ((a % 16 : Nat) : Int) := by
  rw [show (15 : Int) = ((15 : Nat) : Int) from rfl, i64_and a 15 (by omega) (by omega), show (15 : Nat) = 2 ^ 4 - 1 from rfl, Nat.and_two_pow_sub_one_eq_mod]
theorem and_8191 (a : Nat) (h : a < 65536) : bits .and .i64 (a : Int) 8191 = ((a % 8192 : Nat) : Int) := by
  rw [show (8191 : Int) = ((8191 : Nat) : Int) from rfl, i64_and a 8191 (by omega) (by omega), show (8191 : Nat) = 2 ^ 13 - 1 from rfl, Nat.and_two_pow_sub_one_eq_mod]

theorem nat_and_bit (a i : Nat) : a &&& 2 ^ i = a / 2 ^ i % 2 * 2 ^ i := by
  have ht : a.testBit i = decide (a / 2 ^ i % 2 = 1) := Nat.testBit_eq_decide_div_mod_eq
  rcases Nat.mod_two_eq_zero_or_one (a / 2 ^ i) with e | e
  · rw [e] at ht ⊢
    apply Nat.eq_of_testBit_eq
    intro j
    rw [Nat.testBit_and, Nat.testBit_two_pow]
    by_cases hj : i = j
    · subst hj; rw [ht]; simp
    · simp [hj]
  · rw [e] at ht ⊢
    rw [Nat.one_mul]
    apply Nat.eq_of_testBit_eq
    intro j
    rw [Nat.testBit_and, Nat.testBit_two_pow]
    by_cases hj : i = j
    · subst hj; rw [ht]; simp
    · simp [hj]

theorem and_bit (a i : Nat) (h : a < 65536) (hi : 2 ^ i < 65536) : bits .and .i64 (a : Int) ((2 ^ i : Nat) : Int) = ((a / 2 ^ i % 2 * 2 ^ i : Nat) : Int) := by
  rw [i64_and a (2 ^ i) (by omega) (by omega), nat_and_bit]
theorem and_16384 (a : Nat) (h : a < 65536) : bits .and .i64 (a : Int) 16384 = ((a / 16384 % 2 * 16384 : Nat) : Int) := and_bit a 14 h (by decide)
theorem and_8192 (a : Nat) (h : a < 65536) : bits .and .i64 (a : Int) 8192 = ((a / 8192 % 2 * 8192 : Nat) : Int) := and_bit a 13 h (by decide)
theorem and_32768 (a : Nat) (h : a < 65536) : bits .and .i64 (a : Int) 32768 = ((a / 32768 % 2 * 32768 : Nat) : Int) := and_bit a 15 h (by decide)
end Go.Proofs.Ytohemlejceiojaa
