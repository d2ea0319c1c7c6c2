/- The law that what is written is read as it was: its walk. -/
import Derived.Test.YtcnojafpkkfabaaText
import Derived.Test.YtcnojafpkkfabaaReader
import Derived.OpenShut
namespace Go.Proofs.Ytcnojafpkkfabaa
open Go.RowKit

theorem take_join (x y : List UInt8) (n : Nat) (hx : x.length = n) : takeOf (some ⟨(x ++ y).toArray⟩) (n : Int) = (⟨x.toArray⟩, some ⟨y.toArray⟩) := by
  have hz : (⟨(x ++ y).toArray⟩ : ByteArray).size = n + y.length := by show (x ++ y).toArray.size = _; simp [hx]
  unfold takeOf
  simp only []
  rw [if_pos (by rw [hz]; omega), hz]
  have e1 : ByteArray.extract ⟨(x ++ y).toArray⟩ 0 n = ⟨x.toArray⟩ := by
    apply ByteArray.ext
    rw [ByteArray.data_extract]
    apply Array.ext'
    rw [Array.toList_extract]
    simp [List.extract_eq_take_drop, ← hx]
  have e2 : ByteArray.extract ⟨(x ++ y).toArray⟩ n (n + y.length) = ⟨y.toArray⟩ := by
    apply ByteArray.ext
    rw [ByteArray.data_extract]
    apply Array.ext'
    rw [Array.toList_extract]
    simp [List.extract_eq_take_drop, ← hx]
  simp only [Int.toNat_natCast, e1, e2]

theorem take_all (s : ByteArray) : takeOf (some s) ((s.size : Nat) : Int) = (s, some nobytes) := by
  have h := take_join s.data.toList [] s.size (by rw [Array.length_toList]; rfl)
  rw [List.append_nil] at h
  exact h

theorem num_be1 (a : Nat) (h : a ≤ 255) : num (be1 a) = a := by simp [num, be1]; omega
theorem num_be2 (a : Nat) (h : a ≤ 65535) : num (be2 a) = a := by simp [num, be2]; omega
theorem num_word (a : Nat) (h : a < 4294967296) : num (word a) = a := by simp [num, word]; omega

theorem RByte_at (base r a : Nat) (y : List UInt8) (w : World) (h : Rd base r (some ⟨(be1 a ++ y).toArray⟩) w) (hy : y.length ≤ 10000) (ha : a ≤ 255) :
    Calls Try.prog 10 #[.pointer (some ⟨r, 0, none⟩)] w fun e w' => e = .returned (.int .i64 a) ∧ Rd base r (some ⟨y.toArray⟩) w' ∧ Below base w w' := by
  have e : takeOf (some ⟨(be1 a ++ y).toArray⟩) 1 = (⟨(be1 a).toArray⟩, some ⟨y.toArray⟩) := take_join (be1 a) y 1 rfl
  have H := RByte_any base r _ w h (by show (be1 a ++ y).toArray.size ≤ 100000; rw [List.size_toArray, List.length_append, show (be1 a).length = 1 from rfl]; omega)
  rw [e] at H
  have hn : num ((⟨(be1 a).toArray⟩ : ByteArray), (some ⟨y.toArray⟩ : Option ByteArray)).1.data.toList = a := num_be1 a ha
  rw [hn] at H
  exact H

theorem RShort_at (base r a : Nat) (y : List UInt8) (w : World) (h : Rd base r (some ⟨(be2 a ++ y).toArray⟩) w) (hy : y.length ≤ 10000) (ha : a ≤ 65535) :
    Calls Try.prog 12 #[.pointer (some ⟨r, 0, none⟩)] w fun e w' => e = .returned (.int .i64 a) ∧ Rd base r (some ⟨y.toArray⟩) w' ∧ Below base w w' := by
  have e : takeOf (some ⟨(be2 a ++ y).toArray⟩) 2 = (⟨(be2 a).toArray⟩, some ⟨y.toArray⟩) := take_join (be2 a) y 2 rfl
  have H := RShort_any base r _ w h (by show (be2 a ++ y).toArray.size ≤ 100000; rw [List.size_toArray, List.length_append, show (be2 a).length = 2 from rfl]; omega)
  rw [e] at H
  have hn : num ((⟨(be2 a).toArray⟩ : ByteArray), (some ⟨y.toArray⟩ : Option ByteArray)).1.data.toList = a := num_be2 a ha
  rw [hn] at H
  exact H

theorem RWord_at (base r a : Nat) (y : List UInt8) (w : World) (h : Rd base r (some ⟨(word a ++ y).toArray⟩) w) (hy : y.length ≤ 10000) (ha : a < 4294967296) :
    Calls Try.prog 13 #[.pointer (some ⟨r, 0, none⟩)] w fun e w' => e = .returned (.int .u32 a) ∧ Rd base r (some ⟨y.toArray⟩) w' ∧ Below base w w' := by
  have e : takeOf (some ⟨(word a ++ y).toArray⟩) 4 = (⟨(word a).toArray⟩, some ⟨y.toArray⟩) := take_join (word a) y 4 rfl
  have H := RWord_any base r _ w h (by show (word a ++ y).toArray.size ≤ 100000; rw [List.size_toArray, List.length_append, show (word a).length = 4 from rfl]; omega)
  rw [e] at H
  have hn : num ((⟨(word a).toArray⟩ : ByteArray), (some ⟨y.toArray⟩ : Option ByteArray)).1.data.toList = a := num_word a ha
  rw [hn] at H
  exact H

set_option maxHeartbeats 400000 in
theorem back_long (a b c : Int) (s : ByteArray) (w : World) (hs : s.size ≤ maxLen) (h : 1000 < s.size) :
    Calls Try.prog 5 #[.int .u8 a, .int .u16 b, .int .u32 c, .string s] w fun e w' => e = .returned (.bool true) ∧ Below w.heap.size w w' := by
  unfold maxLen at hs
  go_enter Try.func5, Try.ntmps5
  go_wp2_with fail
  refine (awake_any _).mono ?_
  rintro e w2 ⟨rfl, hb⟩
  go_wp2
  go_ret
  exact ⟨rfl, hb⟩

theorem text_eq (l : List UInt8) (s : ByteArray) (h : l.length + s.size ≤ 65536) : addTo l s.data.toList = l ++ s.data.toList :=
  addTo_small _ _ (by rw [Array.length_toList]; exact h)

set_option maxHeartbeats 2000000 in
theorem back_short (a b c : Nat) (s : ByteArray) (w : World) (ha : a ≤ 255) (hb : b ≤ 65535) (hc : c < 4294967296) (hs : s.size ≤ 1000) :
    Calls Try.prog 5 #[.int .u8 a, .int .u16 b, .int .u32 c, .string s] w fun e w' => e = .returned (.bool true) ∧ Below w.heap.size w w' := by
  have hsl : s.data.toList.length = s.size := by rw [Array.length_toList]; rfl
  have Hsl := Lib.hid hsl
  clear hsl
  go_enter Try.func5, Try.ntmps5
  go_wp2_with fail
  refine (Byte_one w.heap.size w.heap.size [] a _ (Wr.new w) (by simp) ha _ (by simp)).mono ?_
  rintro e w1 ⟨rfl, hw1, hb1⟩
  have k1 : Below w.heap.size w w1 := ((Below.refl _ w).alloc (Nat.le_refl _) _).trans hb1
  clear hb1
  go_wp2_with fail
  refine (Short_one w.heap.size w.heap.size _ b _ hw1 (by simp [be1]) hb _ rfl).mono ?_
  rintro e w2 ⟨rfl, hw2, hb2⟩
  have k2 := k1.trans hb2
  clear hb2 k1 hw1
  go_wp2_with fail
  refine (Word_one w.heap.size w.heap.size _ c _ hw2 (by simp [be1, be2]) hc _ rfl).mono ?_
  rintro e w3 ⟨rfl, hw3, hb3⟩
  have k3 := k2.trans hb3
  clear hb3 k2 hw2
  go_wp2_with fail
  refine (Text_one w.heap.size w.heap.size _ s _ hw3 (by simp [be1, be2, word]) (by omega) _ rfl).mono ?_
  rintro e w4 ⟨rfl, hw4, hb4⟩
  have k4 := k3.trans hb4
  clear hb4 k3 hw3
  rw [text_eq _ _ (by simp [be1, be2, word]; omega)] at hw4
  go_wp2_with fail
  refine (Done_any w.heap.size w.heap.size _ w4 hw4 (by simp [be1, be2, word]; omega)).mono ?_
  rintro e w5 ⟨rfl, rfl⟩
  have z4 := hw4.lt
  clear hw4
  rw [show [] ++ be1 a ++ be2 b ++ word c ++ s.data.toList = be1 a ++ (be2 b ++ (word c ++ s.data.toList)) from by simp]
  obtain ⟨t, ht⟩ : ∃ t : ByteArray, t = ⟨(be1 a ++ (be2 b ++ (word c ++ s.data.toList))).toArray⟩ := ⟨_, rfl⟩
  have hts : t.size ≤ 2000 := by rw [ht]; show (be1 a ++ (be2 b ++ (word c ++ s.data.toList))).toArray.size ≤ 2000; have := Hsl.out; simp [be1, be2, word]; omega
  rw [← ht]
  have Ht := Lib.hid ht
  clear ht
  go_wp2_with fail
  refine (Read_any t _).mono ?_
  rintro e w5 ⟨rfl, hr5, hb5⟩
  have k5 : Below w.heap.size w w5 ∧ w.heap.size ≤ w5.heap.size := below_then ⟨k4, by omega⟩ hb5
  have z5 : w4.heap.size ≤ w5.heap.size := hb5.size
  clear hb5 k4
  rw [Ht.out] at hr5
  go_wp2_with fail
  refine (RByte_at _ _ a _ w5 hr5 (by have := Hsl.out; simp [be2, word]; omega) ha).mono ?_
  rintro e w6 ⟨rfl, hr6, hb6⟩
  have k6 : Below w.heap.size w w6 := k5.1.trans (hb6.mono (by omega))
  clear hb6 k5 hr5
  go_wp2_with fail
  refine (RShort_at _ _ b _ w6 hr6 (by have := Hsl.out; simp [word]; omega) hb).mono ?_
  rintro e w7 ⟨rfl, hr7, hb7⟩
  have k7 : Below w.heap.size w w7 := k6.trans (hb7.mono (by omega))
  clear hb7 k6 hr6
  go_wp2_with fail
  refine (RWord_at _ _ c _ w7 hr7 (by have := Hsl.out; omega) hc).mono ?_
  rintro e w8 ⟨rfl, hr8, hb8⟩
  have k8 : Below w.heap.size w w8 := k7.trans (hb8.mono (by omega))
  clear hb8 k7 hr7
  have hr8' : Rd w4.heap.size w4.heap.size (some s) w8 := hr8
  clear hr8
  go_wp2_with fail
  refine (Rest_any _ _ _ w8 hr8' (by show s.size ≤ 100000; omega)).mono ?_
  rintro e w9 ⟨rfl, hr9, hb9⟩
  have e9 : takeOf (some s) (((some s).getD nobytes).size : Int) = (s, some nobytes) := take_all s
  rw [e9] at hr9 ⊢
  have k9 : Below w.heap.size w w9 := k8.trans (hb9.mono (by omega))
  have hr9' : Rd w4.heap.size w4.heap.size (some nobytes) w9 := hr9
  clear hb9 k8 hr8' hr9 e9
  go_wp2_with fail
  refine (Ok_any _ _ _ w9 hr9').mono ?_
  rintro e w10 ⟨rfl, rfl⟩
  rw [show (some nobytes).isSome = true from rfl]
  go_wp2_with fail
  refine (Left_any _ _ _ w9 hr9').mono ?_
  rintro e w10 ⟨rfl, rfl⟩
  rw [show ((some nobytes).getD nobytes).size = 0 from rfl]
  have z9 : w.heap.size ≤ w9.heap.size := k9.size
  go_wp2_with fail
  refine (awake_any _).mono ?_
  rintro e w10 ⟨rfl, hb10⟩
  have k10 := below_then ⟨k9, z9⟩ hb10
  go_wp2
  go_ret
  exact ⟨rfl, k10.1⟩

theorem back_all (a b c : Int) (s : ByteArray) (ha : (Lit.int .u8 a).wf = true) (hb : (Lit.int .u16 b).wf = true) (hc : (Lit.int .u32 c).wf = true) (hs : s.size ≤ maxLen) (w : World) :
    Calls Try.prog 5 #[.int .u8 a, .int .u16 b, .int .u32 c, .string s] w fun e w' => e = .returned (.bool true) ∧ Below w.heap.size w w' := by
  by_cases h : 1000 < s.size
  · exact back_long a b c s w hs h
  · have ba := bounds_u8 ha
    have bb := bounds_u16 hb
    have bc := bounds_u32 hc
    obtain ⟨a', rfl⟩ := Int.eq_ofNat_of_zero_le ba.1
    obtain ⟨b', rfl⟩ := Int.eq_ofNat_of_zero_le bb.1
    obtain ⟨c', rfl⟩ := Int.eq_ofNat_of_zero_le bc.1
    exact back_short a' b' c' s w (by omega) (by omega) (by omega) (by omega)
#print axioms back_all
end Go.Proofs.Ytcnojafpkkfabaa
