/- The walks of what asks of one option: is it right, how many bytes has it. -/
import Derived.Test.YtncnildpbccpaaaDoorOptRow
import Derived.WalkSpells
import Derived.WalkSmall
import Derived.Lib.Hide
import Derived.Lib.Strings
namespace Go.Proofs.YtncnildpbccpaaaDoor
set_option maxRecDepth 100000
open Go.RowKit

theorem ret_bool {a b : Bool} (h : a = b) : Ending.returned (.bool a) = .returned (.bool b) := by rw [h]

theorem ret_i64 {a b : Int} (h : a = b) : Ending.returned (.int .i64 a) = .returned (.int .i64 b) := by rw [h]

theorem right_1 (d : ByteArray) : O.right ⟨1, d⟩ = decide (d.size = 0) := by unfold O.right; rw [if_pos rfl]
theorem right_n (k : Int) (d : ByteArray) (h : k ≠ 1) : O.right ⟨k, d⟩ = decide (2 ≤ k ∧ k ≤ 255 ∧ d.size ≤ 38) := by unfold O.right; rw [if_neg h]
theorem isEmpty_size (d : ByteArray) : d.toList.isEmpty = decide (d.size = 0) := by
  rw [Lib.toList_data, Bool.eq_iff_iff, List.isEmpty_iff, decide_eq_true_iff]
  exact (List.length_eq_zero_iff (l := d.data.toList)).symm

set_option maxHeartbeats 400000 in
theorem rightOne_any (k : Int) (d : ByteArray) (w : World) (hd : d.size ≤ maxLen) :
    Calls Tryd.prog 50 #[.agg #[.int .i64 k, .string d]] w fun e w' => e = .returned (.bool (O.right ⟨k, d⟩)) ∧ Below w.heap.size w w' := by
  unfold maxLen at hd
  obtain ⟨r, hr⟩ : ∃ r, O.right ⟨k, d⟩ = r := ⟨_, rfl⟩
  have Hr := Lib.hid hr
  rw [hr]
  clear hr
  by_cases hk : k = 1
  · subst hk
    go_enter Tryd.func50, Tryd.ntmps50
    go_wp2
    go_ret
    exact ⟨ret_bool (by rw [← Hr.out, right_1, isEmpty_size]), (Below.refl _ _).alloc (Nat.le_refl _) _⟩
  · go_enter Tryd.func50, Tryd.ntmps50
    go_wp2
    all_goals go_ret
    all_goals exact ⟨ret_bool (by rw [← Hr.out, right_n _ _ hk]; first | (rw [decide_eq_decide]; omega) | (symm; rw [decide_eq_false_iff_not]; omega)), (Below.refl _ _).alloc (Nat.le_refl _) _⟩

set_option maxHeartbeats 400000 in
theorem sizeOne_any (k : Int) (d : ByteArray) (w : World) (hd : d.size ≤ 100000) :
    Calls Tryd.prog 51 #[.agg #[.int .i64 k, .string d]] w fun e w' => e = .returned (.int .i64 (O.sizeOne ⟨k, d⟩)) ∧ Below w.heap.size w w' := by
  by_cases hk : k = 1
  · subst hk
    go_enter Tryd.func51, Tryd.ntmps51
    go_wp2
    go_ret
    exact ⟨rfl, (Below.refl _ _).alloc (Nat.le_refl _) _⟩
  · have h : O.sizeOne ⟨k, d⟩ = 2 + d.size := by unfold O.sizeOne; rw [if_neg hk]
    rw [h]
    clear h
    go_enter Tryd.func51, Tryd.ntmps51
    go_wp2
    go_ret
    exact ⟨by go_num, (Below.refl _ _).alloc (Nat.le_refl _) _⟩

set_option maxHeartbeats 400000 in
theorem padding_any (n : Nat) (w : World) (hd : n ≤ 1000000) :
    Calls Tryd.prog 24 #[.int .i64 n] w fun e w' => e = .returned (.int .i64 (O.pad n)) ∧ w = w' := by
  have h : ((O.pad n : Nat) : Int) = (4 - (n : Int) % 4) % 4 := by unfold O.pad; omega
  have H := Lib.hid h
  clear h
  go_enter Tryd.func24, Tryd.ntmps24
  go_wp2
  go_ret
  exact ⟨ret_i64 H.out.symm, rfl⟩
end Go.Proofs.YtncnildpbccpaaaDoor
