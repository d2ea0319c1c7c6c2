/- The walk of sum.Of over texts that lie in a row of cells. -/
import Derived.Test.YtohemlejceiojaaSAdder
namespace Go.Proofs.Ytohemlejceiojaa
open Go.RowKit

set_option maxHeartbeats 400000 in
theorem made_any (w : World) :
    Calls Try.prog 34 #[] w fun e w' =>
      e = .returned (.func (.func 43) #[] #[.pointer (some ⟨w.heap.size + 1, 0, none⟩), .pointer (some ⟨w.heap.size, 0, none⟩)]) ∧ Kept (w.heap.size + 1) w.heap.size true 0 w' ∧ Below w.heap.size w w' := by
  go_enter Try.func34, Try.ntmps34
  go_wp2
  go_ret
  refine ⟨rfl, ⟨by omega, ?_, ?_⟩, ((Below.refl _ _).alloc (Nat.le_refl _) _).alloc (by simp) _⟩
  · simpa using heap_alloc_new (w.alloc (.cells #[.int .u64 0] 78)) (.cells #[.bool true] 4)
  · rw [Below.heap_alloc _ _ _ (by simp)]; exact heap_alloc_new w _

/-- Texts in a row of cells. -/
def Row (l : List ByteArray) (b : Nat) (w : World) : Prop := b < w.heap.size ∧ ∀ i, i < l.length → w.cell? ⟨b, i, none⟩ = some (.string (l.getD i ByteArray.empty))

set_option maxHeartbeats 400000 in
theorem of_any (l : List ByteArray) (b cap : Nat) (w : World) (hrow : Row l b w) (hl : l.length ≤ 1000) (hT : (M.tot l l.length).length ≤ 1000000) :
    Calls Try.prog 27 #[.slice (some ⟨b, 0, none⟩) l.length cap] w fun e w' => e = .returned (.int .i64 (M.ofs l)) ∧ Below w.heap.size w w' := by
  have Hrow := Lib.hid hrow.2
  have hb := hrow.1
  clear hrow
  go_enter Try.func27, Try.ntmps27
  go_wp2_with fail
  refine (made_any w).mono ?_
  rintro e w1 ⟨rfl, hk1, hb1⟩
  go_wp2
  go_loopw [4, 10] (fun n i wr => ∃ k : Nat, k ≤ l.length ∧ i = .int .i64 k ∧ n = .int .i64 (M.fold (M.acc true (M.tot l k))) ∧ Kept (w.heap.size + 1) w.heap.size (M.flag true (M.tot l k).length) (M.acc true (M.tot l k)) wr ∧ Below w.heap.size w wr)
    (fun _ i _ => l.length - (intOf i).toNat)
  case atStart => exact ⟨0, Nat.zero_le _, rfl, by simp [M.tot_zero, M.acc, M.fold], by simpa [M.tot_zero, M.acc, M.flag] using hk1, hb1⟩
  case round =>
    obtain ⟨k, hk, rfl, rfl, hkept, hbel⟩ := hrel
    by_cases hlt : k < l.length
    · have hc : wr.cell? ⟨b, k, none⟩ = some (.string (l.getD k ByteArray.empty)) := by rw [hbel.cell (p := ⟨b, k, none⟩) hb]; exact Hrow.out k hlt
      have Hs := Lib.hid (M.tot_succ l k hlt)
      have hs1 := M.tot_len_succ_le l k hlt
      have hs2 := M.acc_le true (M.tot l k)
      generalize l.getD k ByteArray.empty = s at *
      go_wp2_with fail
      refine (adder_any s w.heap.size (w.heap.size + 1) w.heap.size _ _ wr (by omega) (by omega) (by omega) hkept).mono ?_
      rintro e w2 ⟨rfl, hk2, hb2⟩
      have e1 : M.acc true (M.tot l k) + M.acc (M.flag true (M.tot l k).length) s.data.toList = M.acc true (M.tot l (k + 1)) := by rw [Hs.out, M.acc_append]
      have e2 : M.flag (M.flag true (M.tot l k).length) s.size = M.flag true (M.tot l (k + 1)).length := by rw [Hs.out, M.flag_flag, List.length_append, Array.length_toList]; rfl
      rw [e1] at hk2 ⊢
      rw [e2] at hk2
      clear e1 e2
      go_wp2
      go_roundw
      case rel => exact ⟨k + 1, by omega, by go_num, rfl, hk2, hbel.trans hb2⟩
      case measure => simp [intOf]; omega
    · have hf := M.fold_le (M.acc true (M.tot l k))
      have Hk := Lib.hid (show k = l.length by omega)
      go_wp2
      go_ret
      exact ⟨ret_int (by rw [Hk.out] at hf ⊢; unfold M.ofs; omega), hbel⟩

set_option maxHeartbeats 400000 in
theorem of_nil (w : World) :
    Calls Try.prog 27 #[.slice none 0 0] w fun e w' => e = .returned (.int .i64 65535) ∧ Below w.heap.size w w' := by
  go_enter Try.func27, Try.ntmps27
  go_wp2_with fail
  refine (made_any w).mono ?_
  rintro e w1 ⟨rfl, hk1, hb1⟩
  go_wp2
  refine wp_loop_rounds 1 ?_
  rw [rounds_succ]
  go_wp2
  go_ret
  exact ⟨rfl, hb1⟩

#print axioms of_any
#print axioms of_nil

end Go.Proofs.Ytohemlejceiojaa
