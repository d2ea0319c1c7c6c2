/- The law that texts of even lengths have one check sum in any order: its walk. -/
import Derived.Test.YtlbgcjghimlmkaaFew
namespace Go.Proofs.Ytlbgcjghimlmkaa
open Go.RowKit

theorem flag_even (h : Bool) (n : Nat) (e : n % 2 = 0) : M.flag h n = h := by unfold M.flag; rw [if_pos e]

theorem ofs_two (A B : ByteArray) : M.ofs [A, B] = 65535 - M.fold (M.acc true (A.data.toList ++ B.data.toList)) := by
  simp [M.ofs, M.tot]

theorem turn_two (A B : ByteArray) (ha : A.size % 2 = 0) (hb : B.size % 2 = 0) : M.ofs [B, A] = M.ofs [A, B] := by
  have ha' : A.data.toList.length % 2 = 0 := by rw [Array.length_toList]; exact ha
  have hb' : B.data.toList.length % 2 = 0 := by rw [Array.length_toList]; exact hb
  rw [ofs_two, ofs_two, M.acc_append, M.acc_append, flag_even _ _ ha', flag_even _ _ hb', Nat.add_comm]

theorem turn_behind (A B : ByteArray) : M.ofs [A, B, ⟨#[0]⟩] = M.ofs [A, B] := by
  have e : M.ofs [A, B, ⟨#[0]⟩] = 65535 - M.fold (M.acc true ((A.data.toList ++ B.data.toList) ++ [0])) := by simp [M.ofs, M.tot]
  rw [e, ofs_two, M.acc_snoc]
  congr 2
  unfold M.half
  split <;> rfl

theorem turn_ahead (A B : ByteArray) : M.ofs [⟨#[0, 0]⟩, A, B] = M.ofs [A, B] := by
  have e : M.ofs [⟨#[0, 0]⟩, A, B] = 65535 - M.fold (M.acc true ([0, 0] ++ (A.data.toList ++ B.data.toList))) := by simp [M.ofs, M.tot]
  rw [e, ofs_two, M.acc_append]
  have f : M.acc true [0, 0] = 0 := by decide
  rw [f, flag_even _ _ (by simp)]
  simp

set_option maxHeartbeats 1000000 in
theorem turns_long (a0 a1 : ByteArray) (w : World) (w0 : a0.size ≤ maxLen) (w1 : a1.size ≤ maxLen) (h : 3000 < a0.size ∨ 3000 < a1.size) :
    Calls Try.prog 6 #[.string a0, .string a1] w fun e w' => e = .returned (.bool true) ∧ Below w.heap.size w w' := by
  unfold maxLen at w0 w1
  by_cases h1 : 3000 < a0.size
  · go_enter Try.func6, Try.ntmps6
    go_wp2_with fail
    refine (awake_any _).mono ?_
    rintro e w2 ⟨rfl, hb⟩
    go_wp2
    go_ret
    exact ⟨rfl, hb⟩
  · have h2 : 3000 < a1.size := by omega
    go_enter Try.func6, Try.ntmps6
    go_wp2_with fail
    refine (awake_any _).mono ?_
    rintro e w2 ⟨rfl, hb⟩
    go_wp2
    go_ret
    exact ⟨rfl, hb⟩

theorem more_size (a : ByteArray) : (a ++ (⟨#[0]⟩ : ByteArray)).size = a.size + 1 := by rw [ByteArray.size_append]; rfl

theorem less_size (a : ByteArray) : (a.extract 1 a.size).size = a.size - 1 := by rw [ByteArray.size_extract]; omega

set_option maxHeartbeats 2000000 in
theorem turns_short (a0 a1 : ByteArray) (w : World) (h0 : a0.size ≤ 3000) (h1 : a1.size ≤ 3000) :
    Calls Try.prog 6 #[.string a0, .string a1] w fun e w' => e = .returned (.bool true) ∧ Below w.heap.size w w' := by
  by_cases p0 : a0.size % 2 = 1
  · by_cases p1 : a1.size % 2 = 1
    · go_enter Try.func6, Try.ntmps6
      go_wp2_with fail
      obtain ⟨A, hA, pA, sA⟩ : ∃ A, a0 ++ (⟨#[0]⟩ : ByteArray) = A ∧ A.size % 2 = 0 ∧ A.size ≤ 3001 := ⟨_, rfl, by rw [more_size]; omega, by rw [more_size]; omega⟩
      obtain ⟨B, hB, pB, sB⟩ : ∃ B, a1.extract 1 a1.size = B ∧ B.size % 2 = 0 ∧ B.size ≤ 3001 := ⟨_, rfl, by rw [less_size]; omega, by rw [less_size]; omega⟩
      rw [hA, hB]
      clear hA hB p0 p1
      refine (of_two A B _ _ (by simp) (by simp) (by simp) (by omega)).mono ?_
      rintro e w2 ⟨rfl, hb2⟩
      have k2 := below_new (below_start w) hb2
      clear hb2
      go_wp2_with fail
      refine (of_two B A _ _ (by simp) (by simp) (by simp) (by omega)).mono ?_
      rintro e w3 ⟨rfl, hb3⟩
      have k3 := below_new k2 hb3
      clear hb3
      rw [turn_two A B pA pB]
      go_wp2_with fail
      refine (of_three A B ⟨#[0]⟩ _ _ (by simp) (by simp) (by simp) (by simp) (by show A.size + B.size + 1 ≤ 100000; omega)).mono ?_
      rintro e w4 ⟨rfl, hb4⟩
      have k4 := below_new k3 hb4
      clear hb4
      rw [turn_behind]
      go_wp2_with fail
      refine (of_two A B _ _ (by simp) (by simp) (by simp) (by omega)).mono ?_
      rintro e w5 ⟨rfl, hb5⟩
      have k5 := below_new k4 hb5
      clear hb5
      go_wp2_with fail
      refine (of_three ⟨#[0, 0]⟩ A B _ _ (by simp) (by simp) (by simp) (by simp) (by show 2 + A.size + B.size ≤ 100000; omega)).mono ?_
      rintro e w6 ⟨rfl, hb6⟩
      have k6 := below_new k5 hb6
      clear hb6
      rw [turn_ahead]
      go_wp2_with fail
      refine (of_two A B _ _ (by simp) (by simp) (by simp) (by omega)).mono ?_
      rintro e w7 ⟨rfl, hb7⟩
      have k7 := below_new k6 hb7
      clear hb7
      go_wp2_with fail
      refine (awake_any _).mono ?_
      rintro e w8 ⟨rfl, hb8⟩
      have k8 := below_then k7 hb8
      clear hb8
      go_wp2
      go_ret
      exact ⟨rfl, k8.1⟩
    · go_enter Try.func6, Try.ntmps6
      go_wp2_with fail
      obtain ⟨A, hA, pA, sA⟩ : ∃ A, a0 ++ (⟨#[0]⟩ : ByteArray) = A ∧ A.size % 2 = 0 ∧ A.size ≤ 3001 := ⟨_, rfl, by rw [more_size]; omega, by rw [more_size]; omega⟩
      obtain ⟨B, rfl, pB, sB⟩ : ∃ B, a1 = B ∧ B.size % 2 = 0 ∧ B.size ≤ 3001 := ⟨_, rfl, by omega, by omega⟩
      rw [hA]
      clear hA p0 p1
      refine (of_two A a1 _ _ (by simp) (by simp) (by simp) (by omega)).mono ?_
      rintro e w2 ⟨rfl, hb2⟩
      have k2 := below_new (below_start w) hb2
      clear hb2
      go_wp2_with fail
      refine (of_two a1 A _ _ (by simp) (by simp) (by simp) (by omega)).mono ?_
      rintro e w3 ⟨rfl, hb3⟩
      have k3 := below_new k2 hb3
      clear hb3
      rw [turn_two A a1 pA pB]
      go_wp2_with fail
      refine (of_three A a1 ⟨#[0]⟩ _ _ (by simp) (by simp) (by simp) (by simp) (by show A.size + a1.size + 1 ≤ 100000; omega)).mono ?_
      rintro e w4 ⟨rfl, hb4⟩
      have k4 := below_new k3 hb4
      clear hb4
      rw [turn_behind]
      go_wp2_with fail
      refine (of_two A a1 _ _ (by simp) (by simp) (by simp) (by omega)).mono ?_
      rintro e w5 ⟨rfl, hb5⟩
      have k5 := below_new k4 hb5
      clear hb5
      go_wp2_with fail
      refine (of_three ⟨#[0, 0]⟩ A a1 _ _ (by simp) (by simp) (by simp) (by simp) (by show 2 + A.size + a1.size ≤ 100000; omega)).mono ?_
      rintro e w6 ⟨rfl, hb6⟩
      have k6 := below_new k5 hb6
      clear hb6
      rw [turn_ahead]
      go_wp2_with fail
      refine (of_two A a1 _ _ (by simp) (by simp) (by simp) (by omega)).mono ?_
      rintro e w7 ⟨rfl, hb7⟩
      have k7 := below_new k6 hb7
      clear hb7
      go_wp2_with fail
      refine (awake_any _).mono ?_
      rintro e w8 ⟨rfl, hb8⟩
      have k8 := below_then k7 hb8
      clear hb8
      go_wp2
      go_ret
      exact ⟨rfl, k8.1⟩
  · by_cases p1 : a1.size % 2 = 1
    · go_enter Try.func6, Try.ntmps6
      go_wp2_with fail
      obtain ⟨A, rfl, pA, sA⟩ : ∃ A, a0 = A ∧ A.size % 2 = 0 ∧ A.size ≤ 3001 := ⟨_, rfl, by omega, by omega⟩
      obtain ⟨B, hB, pB, sB⟩ : ∃ B, a1.extract 1 a1.size = B ∧ B.size % 2 = 0 ∧ B.size ≤ 3001 := ⟨_, rfl, by rw [less_size]; omega, by rw [less_size]; omega⟩
      rw [hB]
      clear hB p0 p1
      refine (of_two a0 B _ _ (by simp) (by simp) (by simp) (by omega)).mono ?_
      rintro e w2 ⟨rfl, hb2⟩
      have k2 := below_new (below_start w) hb2
      clear hb2
      go_wp2_with fail
      refine (of_two B a0 _ _ (by simp) (by simp) (by simp) (by omega)).mono ?_
      rintro e w3 ⟨rfl, hb3⟩
      have k3 := below_new k2 hb3
      clear hb3
      rw [turn_two a0 B pA pB]
      go_wp2_with fail
      refine (of_three a0 B ⟨#[0]⟩ _ _ (by simp) (by simp) (by simp) (by simp) (by show a0.size + B.size + 1 ≤ 100000; omega)).mono ?_
      rintro e w4 ⟨rfl, hb4⟩
      have k4 := below_new k3 hb4
      clear hb4
      rw [turn_behind]
      go_wp2_with fail
      refine (of_two a0 B _ _ (by simp) (by simp) (by simp) (by omega)).mono ?_
      rintro e w5 ⟨rfl, hb5⟩
      have k5 := below_new k4 hb5
      clear hb5
      go_wp2_with fail
      refine (of_three ⟨#[0, 0]⟩ a0 B _ _ (by simp) (by simp) (by simp) (by simp) (by show 2 + a0.size + B.size ≤ 100000; omega)).mono ?_
      rintro e w6 ⟨rfl, hb6⟩
      have k6 := below_new k5 hb6
      clear hb6
      rw [turn_ahead]
      go_wp2_with fail
      refine (of_two a0 B _ _ (by simp) (by simp) (by simp) (by omega)).mono ?_
      rintro e w7 ⟨rfl, hb7⟩
      have k7 := below_new k6 hb7
      clear hb7
      go_wp2_with fail
      refine (awake_any _).mono ?_
      rintro e w8 ⟨rfl, hb8⟩
      have k8 := below_then k7 hb8
      clear hb8
      go_wp2
      go_ret
      exact ⟨rfl, k8.1⟩
    · go_enter Try.func6, Try.ntmps6
      go_wp2_with fail
      obtain ⟨A, rfl, pA, sA⟩ : ∃ A, a0 = A ∧ A.size % 2 = 0 ∧ A.size ≤ 3001 := ⟨_, rfl, by omega, by omega⟩
      obtain ⟨B, rfl, pB, sB⟩ : ∃ B, a1 = B ∧ B.size % 2 = 0 ∧ B.size ≤ 3001 := ⟨_, rfl, by omega, by omega⟩
      clear p0 p1
      refine (of_two a0 a1 _ _ (by simp) (by simp) (by simp) (by omega)).mono ?_
      rintro e w2 ⟨rfl, hb2⟩
      have k2 := below_new (below_start w) hb2
      clear hb2
      go_wp2_with fail
      refine (of_two a1 a0 _ _ (by simp) (by simp) (by simp) (by omega)).mono ?_
      rintro e w3 ⟨rfl, hb3⟩
      have k3 := below_new k2 hb3
      clear hb3
      rw [turn_two a0 a1 pA pB]
      go_wp2_with fail
      refine (of_three a0 a1 ⟨#[0]⟩ _ _ (by simp) (by simp) (by simp) (by simp) (by show a0.size + a1.size + 1 ≤ 100000; omega)).mono ?_
      rintro e w4 ⟨rfl, hb4⟩
      have k4 := below_new k3 hb4
      clear hb4
      rw [turn_behind]
      go_wp2_with fail
      refine (of_two a0 a1 _ _ (by simp) (by simp) (by simp) (by omega)).mono ?_
      rintro e w5 ⟨rfl, hb5⟩
      have k5 := below_new k4 hb5
      clear hb5
      go_wp2_with fail
      refine (of_three ⟨#[0, 0]⟩ a0 a1 _ _ (by simp) (by simp) (by simp) (by simp) (by show 2 + a0.size + a1.size ≤ 100000; omega)).mono ?_
      rintro e w6 ⟨rfl, hb6⟩
      have k6 := below_new k5 hb6
      clear hb6
      rw [turn_ahead]
      go_wp2_with fail
      refine (of_two a0 a1 _ _ (by simp) (by simp) (by simp) (by omega)).mono ?_
      rintro e w7 ⟨rfl, hb7⟩
      have k7 := below_new k6 hb7
      clear hb7
      go_wp2_with fail
      refine (awake_any _).mono ?_
      rintro e w8 ⟨rfl, hb8⟩
      have k8 := below_then k7 hb8
      clear hb8
      go_wp2
      go_ret
      exact ⟨rfl, k8.1⟩
#print axioms turns_short
end Go.Proofs.Ytlbgcjghimlmkaa
