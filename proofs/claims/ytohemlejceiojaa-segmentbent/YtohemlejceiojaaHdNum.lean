/- Texts as lists of bytes, and the numbers that a reader makes of them. -/
import Derived.Test.YtohemlejceiojaaReaderG
import Derived.IntWalk
namespace Go.Proofs.Ytohemlejceiojaa
open Go.RowKit

/-- A list's bytes as a text. -/
def ba (l : List UInt8) : ByteArray := ⟨l.toArray⟩
theorem ba_list (l : List UInt8) : (ba l).data.toList = l := rfl
theorem ba_size (l : List UInt8) : (ba l).size = l.length := rfl
theorem ba_of (s : ByteArray) : s = ba s.data.toList := by cases s; rfl
theorem ba_take (l : List UInt8) (n : Nat) : (ba l).extract 0 n = ba (l.take n) := by
  unfold ba
  have h : ((⟨l.toArray⟩ : ByteArray).extract 0 n).data.toList = l.take n := by simp [ByteArray.data_extract, List.extract_eq_take_drop]
  rw [ba_of ((⟨l.toArray⟩ : ByteArray).extract 0 n), h]
  rfl
theorem ba_drop (l : List UInt8) (n : Nat) : (ba l).extract n (ba l).size = ba (l.drop n) := by
  unfold ba
  have h : ((⟨l.toArray⟩ : ByteArray).extract n (⟨l.toArray⟩ : ByteArray).size).data.toList = l.drop n := by
    rw [ByteArray.data_extract, Array.toList_extract, List.extract_eq_take_drop]
    show (l.drop n).take (l.length - n) = l.drop n
    rw [List.take_of_length_le (by simp)]
  rw [ba_of ((⟨l.toArray⟩ : ByteArray).extract n (⟨l.toArray⟩ : ByteArray).size), h]
  rfl

theorem takeOf_in (l : List UInt8) (n : Nat) (h : n ≤ l.length) : takeOf (some (ba l)) (n : Int) = (ba (l.take n), some (ba (l.drop n))) := by
  unfold takeOf
  simp only []
  rw [if_pos ⟨by omega, by rw [ba_size]; omega⟩, Int.toNat_natCast, ba_take, ba_drop]
theorem takeOf_out (l : List UInt8) (n : Nat) (h : l.length < n) : takeOf (some (ba l)) (n : Int) = (nobytes, none) := by
  unfold takeOf
  simp only []
  rw [if_neg (by rw [ba_size]; omega)]

theorem ba_append (s t : List UInt8) : ba s ++ ba t = ba (s ++ t) := by
  apply ByteArray.ext
  rw [ByteArray.data_append]
  apply Array.toList_inj.1
  rw [Array.toList_append, ba_list, ba_list, ba_list]

namespace H
/-- A byte, a short, a word at a place. -/
def g (s : List UInt8) (i : Nat) : Nat := (s.getD i 0).toNat
def sh (s : List UInt8) (i : Nat) : Nat := 256 * g s i + g s (i + 1)
def wd (s : List UInt8) (i : Nat) : Nat := sh s i * 65536 + sh s (i + 2)
theorem g_lt (s : List UInt8) (i : Nat) : g s i < 256 := (s.getD i 0).toNat_lt
theorem sh_lt (s : List UInt8) (i : Nat) : sh s i < 65536 := by have := g_lt s i; have := g_lt s (i + 1); unfold sh; omega
theorem wd_lt (s : List UInt8) (i : Nat) : wd s i < 4294967296 := by have := sh_lt s i; have := sh_lt s (i + 2); unfold wd; omega

/-- What is left behind k bytes. -/
def rst (s : List UInt8) (k : Nat) : Option (List UInt8) := if k ≤ s.length then some (s.drop k) else none

/-- The number that the n bytes at k make, if they are there. -/
def val (s : List UInt8) (k n : Nat) : Nat := if k + n ≤ s.length then num ((s.drop k).take n) else 0

theorem getD_at (s : List UInt8) (k : Nat) (h : k < s.length) : s.drop k = s.getD k 0 :: s.drop (k + 1) := by
  rw [List.drop_eq_getElem_cons h, List.getD_eq_getElem?_getD, List.getElem?_eq_getElem h]; rfl

theorem val_1 (s : List UInt8) (k : Nat) (h : k + 1 ≤ s.length) : val s k 1 = g s k := by
  unfold val g
  rw [if_pos h, getD_at s k (by omega)]
  simp [num]
theorem val_2 (s : List UInt8) (k : Nat) (h : k + 2 ≤ s.length) : val s k 2 = sh s k := by
  unfold val sh g
  rw [if_pos h, getD_at s k (by omega), getD_at s (k + 1) (by omega)]
  simp [num]; omega
theorem val_4 (s : List UInt8) (k : Nat) (h : k + 4 ≤ s.length) : val s k 4 = wd s k := by
  unfold val wd sh g
  rw [if_pos h, getD_at s k (by omega), getD_at s (k + 1) (by omega), show k + 1 + 1 = k + 2 from rfl, getD_at s (k + 2) (by omega), show k + 2 + 1 = k + 3 from rfl, getD_at s (k + 3) (by omega)]
  simp [num]; omega

theorem val_lt (s : List UInt8) (k n : Nat) : val s k n < 256 ^ n := by
  unfold val
  split
  · have h1 := num_lt ((s.drop k).take n)
    have h2 : ((s.drop k).take n).length ≤ n := List.length_take_le _ _
    exact Nat.lt_of_lt_of_le h1 (Nat.pow_le_pow_right (by decide) h2)
  · exact Nat.pow_pos (by decide)
theorem val_lt1 (s : List UInt8) (k : Nat) : val s k 1 < 256 := val_lt s k 1
theorem val_lt2 (s : List UInt8) (k : Nat) : val s k 2 < 65536 := val_lt s k 2
theorem val_lt4 (s : List UInt8) (k : Nat) : val s k 4 < 4294967296 := val_lt s k 4

theorem take_rst (s : List UInt8) (k n : Nat) : takeOf ((rst s k).map ba) (n : Int) = (if k + n ≤ s.length then ba ((s.drop k).take n) else nobytes, (rst s (k + n)).map ba) := by
  unfold rst
  by_cases h : k ≤ s.length
  · rw [if_pos h]
    simp only [Option.map_some]
    by_cases hn : k + n ≤ s.length
    · rw [takeOf_in _ n (by rw [List.length_drop]; omega), if_pos hn, if_pos hn, List.drop_drop]
      rfl
    · rw [takeOf_out _ n (by rw [List.length_drop]; omega), if_neg hn, if_neg hn]
      rfl
  · rw [if_neg h, if_neg (by omega), if_neg (by omega)]
    rfl

theorem num_rst (s : List UInt8) (k n : Nat) : num (if k + n ≤ s.length then ba ((s.drop k).take n) else nobytes).data.toList = val s k n := by
  unfold val
  split
  · rfl
  · rfl
end H

theorem rst_size (s : List UInt8) (k : Nat) (hs : s.length ≤ 90000) : (((H.rst s k).map ba).getD nobytes).size ≤ 100000 := by
  unfold H.rst
  split
  · show (s.drop k).length ≤ 100000; rw [List.length_drop]; omega
  · show (0 : Nat) ≤ 100000; omega

end Go.Proofs.Ytohemlejceiojaa
