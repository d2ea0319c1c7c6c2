/- The law of all that is read: its walk. -/
import Derived.Test.YtcnojafpkkfabaaFailsWalk
namespace Go.Proofs.Ytcnojafpkkfabaa
open Go.RowKit

theorem extract_part (s : ByteArray) (j a b : Nat) (h : j + b ≤ s.size) : (s.extract j s.size).extract a b = s.extract (j + a) (j + b) := by
  apply ByteArray.ext
  simp only [ByteArray.data_extract, Array.extract_extract]
  have e : min (j + b) s.size = j + b := by omega
  rw [e]

theorem extract_size (s : ByteArray) (j : Nat) : (s.extract j s.size).size = s.size - j := by rw [ByteArray.size_extract]; omega

theorem part_size (s : ByteArray) (j n : Nat) (h : j + n ≤ s.size) : (s.extract j (j + n)).size = n := by rw [ByteArray.size_extract]; omega

theorem take_at (s : ByteArray) (j n : Nat) (h : j + n ≤ s.size) : takeOf (some (s.extract j s.size)) (n : Int) = (s.extract j (j + n), some (s.extract (j + n) s.size)) := by
  have hz := extract_size s j
  unfold takeOf
  simp only []
  rw [if_pos (by rw [hz]; omega), hz]
  simp only [Int.toNat_natCast]
  rw [extract_part s j 0 n h, extract_part s j n (s.size - j) (by omega)]
  have e : j + (s.size - j) = s.size := by omega
  rw [e, Nat.add_zero]

theorem take_over (s : ByteArray) (j : Nat) (n : Int) (hj : j ≤ s.size) (h : n < 0 ∨ (s.size : Int) - (j : Int) < n) : takeOf (some (s.extract j s.size)) n = (nobytes, none) := by
  have hz := extract_size s j
  unfold takeOf
  simp only []
  rw [if_neg (by rw [hz]; omega)]

/-- Where a reader stands behind j bytes of s, or that it has failed. -/
def cur (s : ByteArray) (j : Nat) (ok : Bool) : Option ByteArray := if ok then some (s.extract j s.size) else none

theorem cur_size (s : ByteArray) (j : Nat) (ok : Bool) (hs : s.size ≤ 200) : ((cur s j ok).getD nobytes).size ≤ 100000 := by
  cases ok
  · show nobytes.size ≤ 100000; rw [nobytes_size]; omega
  · show (s.extract j s.size).size ≤ 100000; rw [extract_size]; omega

theorem cur_left (s : ByteArray) (j : Nat) : ((cur s j true).getD nobytes).size = s.size - j := extract_size s j

theorem RByte_fit (base r : Nat) (s : ByteArray) (j : Nat) (w : World) (h : Rd base r (cur s j true) w) (hs : s.size ≤ 200) (hf : j + 1 ≤ s.size) :
    Calls Try.prog 10 #[.pointer (some ⟨r, 0, none⟩)] w fun e w' => e = .returned (.int .i64 (num (s.extract j (j + 1)).data.toList)) ∧ Rd base r (cur s (j + 1) true) w' ∧ Below base w w' := by
  have H := RByte_any base r _ w h (cur_size s j true hs)
  have e : takeOf (cur s j true) 1 = (s.extract j (j + 1), some (s.extract (j + 1) s.size)) := take_at s j 1 hf
  rw [e] at H
  exact H

theorem RByte_over (base r : Nat) (s : ByteArray) (j : Nat) (w : World) (h : Rd base r (cur s j true) w) (hs : s.size ≤ 200) (hj : j ≤ s.size) (hf : s.size < j + 1) :
    Calls Try.prog 10 #[.pointer (some ⟨r, 0, none⟩)] w fun e w' => e = .returned (.int .i64 0) ∧ Rd base r none w' ∧ Below base w w' := by
  have H := RByte_any base r _ w h (cur_size s j true hs)
  have e : takeOf (cur s j true) 1 = (nobytes, none) := take_over s j 1 hj (by omega)
  rw [e] at H
  exact H

theorem RShort_fit (base r : Nat) (s : ByteArray) (j : Nat) (w : World) (h : Rd base r (cur s j true) w) (hs : s.size ≤ 200) (hf : j + 2 ≤ s.size) :
    Calls Try.prog 12 #[.pointer (some ⟨r, 0, none⟩)] w fun e w' => e = .returned (.int .i64 (num (s.extract j (j + 2)).data.toList)) ∧ Rd base r (cur s (j + 2) true) w' ∧ Below base w w' := by
  have H := RShort_any base r _ w h (cur_size s j true hs)
  have e : takeOf (cur s j true) 2 = (s.extract j (j + 2), some (s.extract (j + 2) s.size)) := take_at s j 2 hf
  rw [e] at H
  exact H

theorem RShort_over (base r : Nat) (s : ByteArray) (j : Nat) (w : World) (h : Rd base r (cur s j true) w) (hs : s.size ≤ 200) (hj : j ≤ s.size) (hf : s.size < j + 2) :
    Calls Try.prog 12 #[.pointer (some ⟨r, 0, none⟩)] w fun e w' => e = .returned (.int .i64 0) ∧ Rd base r none w' ∧ Below base w w' := by
  have H := RShort_any base r _ w h (cur_size s j true hs)
  have e : takeOf (cur s j true) 2 = (nobytes, none) := take_over s j 2 hj (by omega)
  rw [e] at H
  exact H

theorem RWord_fit (base r : Nat) (s : ByteArray) (j : Nat) (w : World) (h : Rd base r (cur s j true) w) (hs : s.size ≤ 200) (hf : j + 4 ≤ s.size) :
    Calls Try.prog 13 #[.pointer (some ⟨r, 0, none⟩)] w fun e w' => e = .returned (.int .u32 (num (s.extract j (j + 4)).data.toList)) ∧ Rd base r (cur s (j + 4) true) w' ∧ Below base w w' := by
  have H := RWord_any base r _ w h (cur_size s j true hs)
  have e : takeOf (cur s j true) 4 = (s.extract j (j + 4), some (s.extract (j + 4) s.size)) := take_at s j 4 hf
  rw [e] at H
  exact H

theorem RWord_over (base r : Nat) (s : ByteArray) (j : Nat) (w : World) (h : Rd base r (cur s j true) w) (hs : s.size ≤ 200) (hj : j ≤ s.size) (hf : s.size < j + 4) :
    Calls Try.prog 13 #[.pointer (some ⟨r, 0, none⟩)] w fun e w' => e = .returned (.int .u32 0) ∧ Rd base r none w' ∧ Below base w w' := by
  have H := RWord_any base r _ w h (cur_size s j true hs)
  have e : takeOf (cur s j true) 4 = (nobytes, none) := take_over s j 4 hj (by omega)
  rw [e] at H
  exact H

theorem take_fit (base r : Nat) (s : ByteArray) (j n : Nat) (w : World) (h : Rd base r (cur s j true) w) (hs : s.size ≤ 200) (hf : j + n ≤ s.size) :
    Calls Try.prog 14 #[.pointer (some ⟨r, 0, none⟩), .int .i64 n] w fun e w' => e = .returned (.string (s.extract j (j + n))) ∧ Rd base r (cur s (j + n) true) w' ∧ Below base w w' := by
  have H := take_any base r _ n w h (cur_size s j true hs)
  have e : takeOf (cur s j true) n = (s.extract j (j + n), some (s.extract (j + n) s.size)) := take_at s j n hf
  rw [e] at H
  exact H

theorem take_nofit (base r : Nat) (s : ByteArray) (j : Nat) (n : Int) (w : World) (h : Rd base r (cur s j true) w) (hs : s.size ≤ 200) (hj : j ≤ s.size) (hf : n < 0 ∨ (s.size : Int) - (j : Int) < n) :
    Calls Try.prog 14 #[.pointer (some ⟨r, 0, none⟩), .int .i64 n] w fun e w' => e = .returned (.string ⟨#[]⟩) ∧ Rd base r none w' ∧ Below base w w' := by
  have H := take_any base r _ n w h (cur_size s j true hs)
  have e : takeOf (cur s j true) n = (nobytes, none) := take_over s j n hj hf
  rw [e] at H
  exact H

theorem Rest_fit (base r : Nat) (s : ByteArray) (j : Nat) (w : World) (h : Rd base r (cur s j true) w) (hs : s.size ≤ 200) (hj : j ≤ s.size) :
    Calls Try.prog 15 #[.pointer (some ⟨r, 0, none⟩)] w fun e w' => e = .returned (.string (s.extract j s.size)) ∧ Rd base r (cur s s.size true) w' ∧ Below base w w' := by
  have H := Rest_any base r _ w h (cur_size s j true hs)
  have hz : ((((cur s j true).getD nobytes).size : Nat) : Int) = ((s.size - j : Nat) : Int) := by rw [cur_left]
  have e : takeOf (cur s j true) (((cur s j true).getD nobytes).size : Int) = (s.extract j s.size, some (s.extract s.size s.size)) := by
    rw [hz]
    have := take_at s j (s.size - j) (by omega)
    rw [show j + (s.size - j) = s.size by omega] at this
    exact this
  rw [e] at H
  exact H

theorem refnum_empty (w : World) : Calls Try.prog 11 #[.string ⟨#[]⟩] w fun e w' => e = .returned (.int .u32 0) ∧ w = w' :=
  refnum_any ⟨#[]⟩ w (by decide)

theorem Left_cur (base r : Nat) (s : ByteArray) (j : Nat) (w : World) (h : Rd base r (cur s j true) w) (hj : j ≤ s.size) :
    Calls Try.prog 17 #[.pointer (some ⟨r, 0, none⟩)] w fun e w' => e = .returned (.int .i64 ((s.size : Int) - (j : Int))) ∧ w = w' := by
  have H := Left_any base r _ w h
  rw [cur_left, Int.ofNat_sub hj] at H
  exact H

theorem Left_is (base r : Nat) (s : ByteArray) (j : Nat) (x : Int) (w : World) (h : Rd base r (cur s j true) w) (hj : j ≤ s.size) (hx : (s.size : Int) - (j : Int) = x) :
    Calls Try.prog 17 #[.pointer (some ⟨r, 0, none⟩)] w fun e w' => e = .returned (.int .i64 x) ∧ w = w' := by
  subst hx
  exact Left_cur base r s j w h hj

theorem num_part (s : ByteArray) (j n : Nat) (h : j + n ≤ s.size) (hn : n ≤ 4) : num (s.extract j (j + n)).data.toList < 4294967296 := by
  have h1 := num_lt (s.extract j (j + n)).data.toList
  have h2 : (s.extract j (j + n)).data.toList.length = n := by rw [Array.length_toList]; exact part_size s j n h
  rw [h2] at h1
  have h3 : 256 ^ n ≤ 256 ^ 4 := Nat.pow_le_pow_right (by decide) hn
  have h4 : (256 : Nat) ^ 4 = 4294967296 := by decide
  omega

theorem Ok_cur (base r : Nat) (s : ByteArray) (j : Nat) (w : World) (h : Rd base r (cur s j true) w) :
    Calls Try.prog 16 #[.pointer (some ⟨r, 0, none⟩)] w fun e w' => e = .returned (.bool true) ∧ w = w' :=
  Ok_any base r _ w h

end Go.Proofs.Ytcnojafpkkfabaa
