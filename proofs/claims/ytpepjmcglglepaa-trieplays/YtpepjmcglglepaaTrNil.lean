/- Of no trie nothing comes; what a trie lets go, whatever it is. -/
import Derived.Test.YtpepjmcglglepaaTrDrop
import Derived.Test.YtpepjmcglglepaaTrEq
namespace Go.Proofs.Ytpepjmcglglepaa
open Go.RowKit
set_option maxRecDepth 100000
set_option linter.unusedVariables false
open R

theorem eq_node (N : Nd) (w : World) : (binOp .eql 59 (.agg #[.int .i64 N.c0, .int .i64 N.c1, .bool N.has, .int .u32 N.r.a, .int .i64 N.r.b, .int .i64 N.r.o]) (.agg #[.int .i64 0, .int .i64 0, .bool false, .int .u32 0, .int .i64 0, .int .i64 0])).run Try.prog w = .ok (.bool (decide (N = zN))) w := by
  rw [run_eq_node]
  have : R.isZ N = decide (N = zN) := by
    rw [Bool.eq_iff_iff, R.isZ_iff, decide_eq_true_eq]
  rw [this]
theorem Drop_nil (a : Nat) (b : Int) (w : World) :
    Calls Try.prog 10 #[.pointer none, .agg #[.int .u32 a, .int .i64 b]] w fun e w' => e = .returned (.int .i64 1) ∧ Below w.heap.size w w' := by
  have hb0 : Below w.heap.size w (w.alloc (.cells #[.int .u32 a, .int .i64 b] 29)) := (Below.refl _ w).alloc (Nat.le_refl _) _
  go_enter Try.func10, Try.ntmps10
  go_wp2_with fail
  refine (made_nil _).mono ?_
  rintro e w1 ⟨rfl, rfl⟩
  go_wp2
  go_ret
  exact ⟨rfl, hb0⟩
theorem All_nil (w : World) :
    Calls Try.prog 18 #[.pointer none] w fun e w' => e = .returned (.slice none 0 0) ∧ Below w.heap.size w w' := by
  go_enter Try.func18, Try.ntmps18
  go_wp2_with fail
  refine (made_nil _).mono ?_
  rintro e w1 ⟨rfl, rfl⟩
  go_wp2
  go_ret
  exact ⟨rfl, Below.refl _ _⟩
theorem Find_nil (a : Nat) (w : World) :
    Calls Try.prog 12 #[.pointer none, .int .u32 a] w fun e w' => e = .returned (.tuple #[Rt.agg zR, .bool false]) ∧ Below w.heap.size w w' := by
  have HB := Lib.hid (RBlk.new w zR)
  have hb0 : Below w.heap.size w (w.alloc (.cells #[.int .u32 0, .int .i64 0, .int .i64 0] 31)) := (Below.refl _ w).alloc (Nat.le_refl _) _
  go_enter Try.func12, Try.ntmps12
  go_wp2_with fail
  refine (made_nil _).mono ?_
  rintro e w1 ⟨rfl, rfl⟩
  go_upto_region 2 with fail
  have HB : Hid (RBlk (w.alloc (.cells #[.int .u32 0, .int .i64 0, .int .i64 0] 31)) w.heap.size zR) := HB
  generalize w.alloc (.cells #[.int .u32 0, .int .i64 0, .int .i64 0] 31) = w1 at *
  obtain ⟨c0, c1, c2⟩ := HB.out.cells
  have f0 := HB.out.free 0
  have f1 := HB.out.free 1
  have f2 := HB.out.free 2
  have hlt := heap_lt HB.out
  go_wp2
  exact bodyPost_ret (v := .tuple #[Rt.agg zR, .bool false]) (by simp [results, Try.results12, go_sem, c0, c1, c2, Rt.agg, zR]) rfl ⟨rfl, ((hb0.setCell (Nat.le_refl _) _).setCell (Nat.le_refl _) _).setCell (Nat.le_refl _) _⟩
theorem Get_nil (a : Nat) (b : Int) (w : World) :
    Calls Try.prog 14 #[.pointer none, .agg #[.int .u32 a, .int .i64 b]] w fun e w' => e = .returned (.tuple #[Rt.agg zR, .bool false]) ∧ Below w.heap.size w w' := by
  have hb0 : Below w.heap.size w ((w.alloc (.cells #[.int .u32 a, .int .i64 b] 29)).alloc (.cells #[.int .u32 0, .int .i64 0, .int .i64 0] 31)) := ((Below.refl _ w).alloc (Nat.le_refl _) _).alloc (by simp) _
  have HB : Hid (RBlk ((w.alloc (.cells #[.int .u32 a, .int .i64 b] 29)).alloc (.cells #[.int .u32 0, .int .i64 0, .int .i64 0] 31)) (w.heap.size + 1) zR) := Lib.hid (by
    have := RBlk.new (w.alloc (.cells #[.int .u32 a, .int .i64 b] 29)) zR
    rwa [show (w.alloc (.cells #[.int .u32 a, .int .i64 b] 29)).heap.size = w.heap.size + 1 from by simp] at this)
  go_enter Try.func14, Try.ntmps14
  go_wp2_with fail
  refine (made_nil _).mono ?_
  rintro e w1 ⟨rfl, rfl⟩
  go_upto_region 2 with fail
  generalize (w.alloc (.cells #[.int .u32 a, .int .i64 b] 29)).alloc (.cells #[.int .u32 0, .int .i64 0, .int .i64 0] 31) = w1 at *
  obtain ⟨c0, c1, c2⟩ := HB.out.cells
  have f0 := HB.out.free 0
  have f1 := HB.out.free 1
  have f2 := HB.out.free 2
  have hlt := heap_lt HB.out
  go_wp2
  exact bodyPost_ret (v := .tuple #[Rt.agg zR, .bool false]) (by simp [results, Try.results14, go_sem, c0, c1, c2, Rt.agg, zR]) rfl ⟨rfl, ((hb0.setCell (by show w.heap.size ≤ w.heap.size + 1; omega) _).setCell (by show w.heap.size ≤ w.heap.size + 1; omega) _).setCell (by show w.heap.size ≤ w.heap.size + 1; omega) _⟩
#print axioms eq_node
#print axioms Get_nil
end Go.Proofs.Ytpepjmcglglepaa
