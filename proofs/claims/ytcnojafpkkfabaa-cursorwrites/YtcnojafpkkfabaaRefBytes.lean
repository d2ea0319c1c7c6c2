/- The walk of the document's own bytes of a number. -/
import Derived.Test.YtcnojafpkkfabaaText
import Derived.Deep.OwnRows
namespace Go.Proofs.Ytcnojafpkkfabaa
open Go.RowKit Go.Deep

theorem make_1 (w : World) : (Instr.makeSlice 39 (.int .i64 1) (.int .i64 1)).run Try.prog w = .ok (.slice (some ⟨w.heap.size, 0, none⟩) 1 1) (w.alloc (.cells #[.int .u8 0] 5)) := by
  have h := run_make_row' (P := Try.prog) 39 5 (.int .u8 0) 1 Try.underlying39 Try.info5 rfl .i64 .i64 1 (by omega) (by omega) w
  have e : madeCells #[Value.int .u8 0] 1 = #[.int .u8 0] := by kernel_rfl
  rw [e] at h
  exact h

set_option maxHeartbeats 1000000 in
theorem refbytes_1 (n : Nat) (w : World) (hn : n < 4294967296) :
    Calls Try.prog 19 #[.int .u32 n, .int .i64 1] w fun e w' => e = .returned (.string ⟨(be1 n).toArray⟩) ∧ Below w.heap.size w w' := by
  have hmk := make_1
  have hcells : ∀ j (hj : j < (be1 n).length), (w.alloc (.cells #[.int .u8 ((n : Int) % 256)] 5)).cell? ((⟨w.heap.size, 0, none⟩ : Addr).add j) = some (.int .u8 ((be1 n)[j].toNat : Int)) := by
    intro j hj
    rw [Addr.add_lit, Nat.zero_add, World.cell?_alloc_new]
    match j, hj with
    | 0, _ => simp [be1]
  have hcv : (convert 39 9 (.slice (some ⟨w.heap.size, 0, none⟩) 1 1)).run Try.prog _ = .ok (.string ⟨(be1 n).toArray⟩) _ := run_convert_bytes_back (P := Try.prog) _ 39 9 5 ⟨w.heap.size, 0, none⟩ 1 _ Try.underlying39 Try.underlying5 Try.underlying9 hcells
  clear hcells
  obtain ⟨s, hs⟩ : ∃ s : ByteArray, s = ⟨(be1 n).toArray⟩ := ⟨_, rfl⟩
  rw [← hs] at hcv ⊢
  clear hs
  go_enter Try.func19, Try.ntmps19
  go_wp2
  refine wp_loop_rounds 2 ?_
  rw [rounds_succ]
  go_wp2
  rw [rounds_succ]
  go_wp2
  go_ret
  exact ⟨rfl, (Below.refl _ _).alloc (Nat.le_refl _) _⟩

theorem make_2 (w : World) : (Instr.makeSlice 39 (.int .i64 2) (.int .i64 2)).run Try.prog w = .ok (.slice (some ⟨w.heap.size, 0, none⟩) 2 2) (w.alloc (.cells #[.int .u8 0, .int .u8 0] 5)) := by
  have h := run_make_row' (P := Try.prog) 39 5 (.int .u8 0) 1 Try.underlying39 Try.info5 rfl .i64 .i64 2 (by omega) (by omega) w
  have e : madeCells #[Value.int .u8 0] 2 = #[.int .u8 0, .int .u8 0] := by kernel_rfl
  rw [e] at h
  exact h

set_option maxHeartbeats 1000000 in
theorem refbytes_2 (n : Nat) (w : World) (hn : n < 4294967296) :
    Calls Try.prog 19 #[.int .u32 n, .int .i64 2] w fun e w' => e = .returned (.string ⟨(be2 n).toArray⟩) ∧ Below w.heap.size w w' := by
  have hmk := make_2
  have hcells : ∀ j (hj : j < (be2 n).length), (w.alloc (.cells #[.int .u8 ((n : Int) / 256 % 256), .int .u8 ((n : Int) % 256)] 5)).cell? ((⟨w.heap.size, 0, none⟩ : Addr).add j) = some (.int .u8 ((be2 n)[j].toNat : Int)) := by
    intro j hj
    rw [Addr.add_lit, Nat.zero_add, World.cell?_alloc_new]
    match j, hj with
    | 0, _ => simp [be2]
    | 1, _ => simp [be2]
  have hcv : (convert 39 9 (.slice (some ⟨w.heap.size, 0, none⟩) 2 2)).run Try.prog _ = .ok (.string ⟨(be2 n).toArray⟩) _ := run_convert_bytes_back (P := Try.prog) _ 39 9 5 ⟨w.heap.size, 0, none⟩ 2 _ Try.underlying39 Try.underlying5 Try.underlying9 hcells
  clear hcells
  obtain ⟨s, hs⟩ : ∃ s : ByteArray, s = ⟨(be2 n).toArray⟩ := ⟨_, rfl⟩
  rw [← hs] at hcv ⊢
  clear hs
  go_enter Try.func19, Try.ntmps19
  go_wp2
  refine wp_loop_rounds 3 ?_
  rw [rounds_succ]
  go_wp2
  rw [rounds_succ]
  go_wp2
  rw [rounds_succ]
  go_wp2
  go_ret
  exact ⟨rfl, (Below.refl _ _).alloc (Nat.le_refl _) _⟩

theorem make_4 (w : World) : (Instr.makeSlice 39 (.int .i64 4) (.int .i64 4)).run Try.prog w = .ok (.slice (some ⟨w.heap.size, 0, none⟩) 4 4) (w.alloc (.cells #[.int .u8 0, .int .u8 0, .int .u8 0, .int .u8 0] 5)) := by
  have h := run_make_row' (P := Try.prog) 39 5 (.int .u8 0) 1 Try.underlying39 Try.info5 rfl .i64 .i64 4 (by omega) (by omega) w
  have e : madeCells #[Value.int .u8 0] 4 = #[.int .u8 0, .int .u8 0, .int .u8 0, .int .u8 0] := by kernel_rfl
  rw [e] at h
  exact h

set_option maxHeartbeats 1000000 in
theorem refbytes_4 (n : Nat) (w : World) (hn : n < 4294967296) :
    Calls Try.prog 19 #[.int .u32 n, .int .i64 4] w fun e w' => e = .returned (.string ⟨(word n).toArray⟩) ∧ Below w.heap.size w w' := by
  have hmk := make_4
  have hcells : ∀ j (hj : j < (word n).length), (w.alloc (.cells #[.int .u8 ((n : Int) / 256 / 256 / 256 % 256), .int .u8 ((n : Int) / 256 / 256 % 256), .int .u8 ((n : Int) / 256 % 256), .int .u8 ((n : Int) % 256)] 5)).cell? ((⟨w.heap.size, 0, none⟩ : Addr).add j) = some (.int .u8 ((word n)[j].toNat : Int)) := by
    intro j hj
    rw [Addr.add_lit, Nat.zero_add, World.cell?_alloc_new]
    match j, hj with
    | 0, _ => simp [word]; omega
    | 1, _ => simp [word]; omega
    | 2, _ => simp [word]
    | 3, _ => simp [word]
  have hcv : (convert 39 9 (.slice (some ⟨w.heap.size, 0, none⟩) 4 4)).run Try.prog _ = .ok (.string ⟨(word n).toArray⟩) _ := run_convert_bytes_back (P := Try.prog) _ 39 9 5 ⟨w.heap.size, 0, none⟩ 4 _ Try.underlying39 Try.underlying5 Try.underlying9 hcells
  clear hcells
  obtain ⟨s, hs⟩ : ∃ s : ByteArray, s = ⟨(word n).toArray⟩ := ⟨_, rfl⟩
  rw [← hs] at hcv ⊢
  clear hs
  go_enter Try.func19, Try.ntmps19
  go_wp2
  refine wp_loop_rounds 5 ?_
  rw [rounds_succ]
  go_wp2
  rw [rounds_succ]
  go_wp2
  rw [rounds_succ]
  go_wp2
  rw [rounds_succ]
  go_wp2
  rw [rounds_succ]
  go_wp2
  go_ret
  exact ⟨rfl, (Below.refl _ _).alloc (Nat.le_refl _) _⟩

end Go.Proofs.Ytcnojafpkkfabaa
