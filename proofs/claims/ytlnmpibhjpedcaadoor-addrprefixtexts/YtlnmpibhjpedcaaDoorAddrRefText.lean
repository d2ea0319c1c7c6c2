/- The walks of the document's texts and kinds. -/
import Derived.Test.YtlnmpibhjpedcaaDoorAddrTextMath
namespace Go.Proofs.YtlnmpibhjpedcaaDoor
open Go.RowKit

theorem told_dec (n : Nat) : (⟨(Lib.decDigits n).toArray⟩ : ByteArray) = A.told n := by
  unfold A.told Lib.itoa
  rw [if_neg (by omega)]
  rfl

theorem text_sum (a : Nat) : A.told (a / 16777216) ++ ⟨#[46]⟩ ++ A.told (a / 65536 % 256) ++ ⟨#[46]⟩ ++ A.told (a / 256 % 256) ++ ⟨#[46]⟩ ++ A.told (a % 256) = A.text a := by
  apply byte_list_inj
  unfold A.text
  rw [text_list]
  simp [ByteArray.data_append]

set_option maxHeartbeats 1000000 in
theorem refkind_a (z : Int) (w : World) (h0 : z < 16777216) :
    Calls Tryd.prog 13 #[.int .u32 z] w fun e w' => e = .returned (.int .i64 0) ∧ w = w' := by
  go_enter Tryd.func13, Tryd.ntmps13
  go_wp2
  go_ret
  exact ⟨rfl, rfl⟩

set_option maxHeartbeats 1000000 in
theorem refkind_b (z : Int) (w : World) (h0 : ¬ z < 16777216) (h1 : 2130706432 ≤ z) (h2 : z < 2147483648) :
    Calls Tryd.prog 13 #[.int .u32 z] w fun e w' => e = .returned (.int .i64 1) ∧ w = w' := by
  go_enter Tryd.func13, Tryd.ntmps13
  go_wp2
  go_ret
  exact ⟨rfl, rfl⟩

set_option maxHeartbeats 1000000 in
theorem refkind_c (z : Int) (w : World) (h0 : ¬ z < 16777216) (h1 : 2130706432 ≤ z) (h2 : ¬ z < 2147483648) (h3 : 3758096384 ≤ z) (h4 : z < 4026531840) :
    Calls Tryd.prog 13 #[.int .u32 z] w fun e w' => e = .returned (.int .i64 2) ∧ w = w' := by
  go_enter Tryd.func13, Tryd.ntmps13
  go_wp2
  go_ret
  exact ⟨rfl, rfl⟩

set_option maxHeartbeats 1000000 in
theorem refkind_d (z : Int) (w : World) (h0 : ¬ z < 16777216) (h1 : 2130706432 ≤ z) (h2 : ¬ z < 2147483648) (h3 : 3758096384 ≤ z) (h4 : ¬ z < 4026531840) (h5 : 4026531840 ≤ z) :
    Calls Tryd.prog 13 #[.int .u32 z] w fun e w' => e = .returned (.int .i64 3) ∧ w = w' := by
  go_enter Tryd.func13, Tryd.ntmps13
  go_wp2
  go_ret
  exact ⟨rfl, rfl⟩

set_option maxHeartbeats 1000000 in
theorem refkind_e (z : Int) (w : World) (h0 : ¬ z < 16777216) (h1 : ¬ 2130706432 ≤ z) (h3 : ¬ 3758096384 ≤ z) (h5 : ¬ 4026531840 ≤ z) :
    Calls Tryd.prog 13 #[.int .u32 z] w fun e w' => e = .returned (.int .i64 4) ∧ w = w' := by
  go_enter Tryd.func13, Tryd.ntmps13
  go_wp2
  go_ret
  exact ⟨rfl, rfl⟩

set_option maxHeartbeats 1000000 in
theorem refkind_f (z : Int) (w : World) (h0 : ¬ z < 16777216) (h1 : 2130706432 ≤ z) (h2 : ¬ z < 2147483648) (h3 : ¬ 3758096384 ≤ z) (h5 : ¬ 4026531840 ≤ z) :
    Calls Tryd.prog 13 #[.int .u32 z] w fun e w' => e = .returned (.int .i64 4) ∧ w = w' := by
  go_enter Tryd.func13, Tryd.ntmps13
  go_wp2
  go_ret
  exact ⟨rfl, rfl⟩

theorem refkind_any (a : Nat) (w : World) :
    Calls Tryd.prog 13 #[.int .u32 a] w fun e w' => e = .returned (.int .i64 (A.kind a)) ∧ w = w' := by
  unfold A.kind
  by_cases h0 : a < 16777216
  · rw [if_pos h0]; exact refkind_a a w (by omega)
  · rw [if_neg h0]
    by_cases h1 : 2130706432 ≤ a ∧ a < 2147483648
    · rw [if_pos h1]; exact refkind_b a w (by omega) (by omega) (by omega)
    · rw [if_neg h1]
      by_cases h2 : 3758096384 ≤ a ∧ a < 4026531840
      · rw [if_pos h2]; exact refkind_c a w (by omega) (by omega) (by omega) (by omega) (by omega)
      · rw [if_neg h2]
        by_cases h3 : 4026531840 ≤ a
        · rw [if_pos h3]; exact refkind_d a w (by omega) (by omega) (by omega) (by omega) (by omega) (by omega)
        · rw [if_neg h3]
          by_cases h4 : a < 2130706432
          · exact refkind_e a w (by omega) (by omega) (by omega) (by omega)
          · exact refkind_f a w (by omega) (by omega) (by omega) (by omega) (by omega)

set_option maxRecDepth 8000 in
set_option maxHeartbeats 1000000 in
theorem reftext_any (a : Nat) (w : World) (ha : a < 4294967296) :
    Calls Tryd.prog 11 #[.int .u32 a] w fun e w' => e = .returned (.string (A.text a)) ∧ Below w.heap.size w w' := by
  have HT := Lib.hid (text_sum a)
  have E0 := Lib.hid (show (a : Int) / 16777216 = ((a / 16777216 : Nat) : Int) by omega)
  have E1 := Lib.hid (show (a : Int) / 65536 % 256 = ((a / 65536 % 256 : Nat) : Int) by omega)
  have E2 := Lib.hid (show (a : Int) / 256 % 256 = ((a / 256 % 256 : Nat) : Int) by omega)
  have E3 := Lib.hid (show (a : Int) % 256 = ((a % 256 : Nat) : Int) by omega)
  have l0 : a / 16777216 ≤ 255 := by omega
  have l1 : a / 65536 % 256 ≤ 255 := by omega
  have l2 : a / 256 % 256 ≤ 255 := by omega
  have l3 : a % 256 ≤ 255 := by omega
  generalize a / 16777216 = n0 at *
  generalize a / 65536 % 256 = n1 at *
  generalize a / 256 % 256 = n2 at *
  generalize a % 256 = n3 at *
  have t0 := told_dec n0
  have t1 := told_dec n1
  have t2 := told_dec n2
  have t3 := told_dec n3
  have z0 : (A.told n0).size ≤ 3 := told_len n0 l0
  have z1 : (A.told n1).size ≤ 3 := told_len n1 l1
  have z2 : (A.told n2).size ≤ 3 := told_len n2 l2
  have z3 : (A.told n3).size ≤ 3 := told_len n3 l3
  generalize A.told n0 = T0 at *
  generalize A.told n1 = T1 at *
  generalize A.told n2 = T2 at *
  generalize A.told n3 = T3 at *
  have S0 := Lib.hid t0
  have S1 := Lib.hid t1
  have S2 := Lib.hid t2
  have S3 := Lib.hid t3
  clear t0 t1 t2 t3
  have y : ByteArray.size (⟨#[46]⟩ : ByteArray) = 1 := rfl
  go_enter Tryd.func11, Tryd.ntmps11
  go_wp2_with fail
  rw [E0.out]
  refine (number10_any n0 _ l0).mono ?_
  rintro e w1 ⟨rfl, hb⟩
  rw [S0.out]
  have K0 := Lib.hid hb
  clear hb
  go_wp2_with fail
  rw [E1.out]
  refine (number10_any n1 _ l1).mono ?_
  rintro e w2 ⟨rfl, hb⟩
  rw [S1.out]
  have K1 := Lib.hid (K0.out.trans (hb.mono K0.out.size))
  clear hb
  go_wp2_with fail
  rw [E2.out]
  refine (number10_any n2 _ l2).mono ?_
  rintro e w3 ⟨rfl, hb⟩
  rw [S2.out]
  have K2 := Lib.hid (K1.out.trans (hb.mono K1.out.size))
  clear hb
  go_wp2_with fail
  rw [E3.out]
  refine (number10_any n3 _ l3).mono ?_
  rintro e w4 ⟨rfl, hb⟩
  rw [S3.out]
  have K3 := Lib.hid (K2.out.trans (hb.mono K2.out.size))
  clear hb
  go_wp2
  go_ret
  exact ⟨by rw [← HT.out]; rfl, K3.out⟩
#print axioms reftext_any
end Go.Proofs.YtlnmpibhjpedcaaDoor
