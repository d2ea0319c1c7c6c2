/- The walk of the document's own packet of bytes. -/
import Derived.Test.YtncnildpbccpaaaGreatDoorKl
import Derived.Test.YtncnildpbccpaaaGreatDoorKk
import Derived.Deep.RegionHeld3
set_option maxRecDepth 100000
namespace Go.Proofs.YtncnildpbccpaaaGreatDoor
open Go.RowKit
set_option linter.unusedVariables false

/-- The block of a packet that is answered, as it is made. -/
abbrev zeroO : Obj := .cells #[.int .i64 0, .int .i64 0, .bool false, .bool false, .int .i64 0, .int .i64 0, .int .i64 0, .int .u32 0, .int .u32 0, .slice none 0 0, .string ⟨#[]⟩] 25

theorem zero_below (w : World) (n : Nat) : Below w.heap.size w ((w.alloc zeroO).drewN n) := belowN ((Below.refl _ w).alloc (Nat.le_refl _) _) n

theorem sets_below {w w1 : World} {N : Nat} (h : Below N w w1) (v0 v1 v2 v3 v4 v5 v6 v7 v8 v9 v10 : Value) :
    Below N w (((((((((((w1.setCell ⟨N, 0, none⟩ v0).setCell ⟨N, 1, none⟩ v1).setCell ⟨N, 2, none⟩ v2).setCell ⟨N, 3, none⟩ v3).setCell ⟨N, 4, none⟩ v4).setCell ⟨N, 5, none⟩ v5).setCell ⟨N, 6, none⟩ v6).setCell ⟨N, 7, none⟩ v7).setCell ⟨N, 8, none⟩ v8).setCell ⟨N, 9, none⟩ v9).setCell ⟨N, 10, none⟩ v10) :=
  ((((((((((h.setCell (Nat.le_refl _) _).setCell (Nat.le_refl _) _).setCell (Nat.le_refl _) _).setCell (Nat.le_refl _) _).setCell (Nat.le_refl _) _).setCell (Nat.le_refl _) _).setCell (Nat.le_refl _) _).setCell (Nat.le_refl _) _).setCell (Nat.le_refl _) _).setCell (Nat.le_refl _) _).setCell (Nat.le_refl _) _

/-- The block in which the answer will lie, as it was made, in a later world. -/
structure Ans (N : Nat) (w1 : World) : Prop where
  blk : w1.heap[N]? = some zeroO

theorem Ans.cell {N : Nat} {w1 : World} (h : Ans N w1) (w : World) (hN : N = w.heap.size) (i : Nat) : w1.cell? ⟨N, i, none⟩ = (w.alloc zeroO).cell? ⟨N, i, none⟩ := by
  subst hN
  exact World.cell?_of_block (h.blk.trans (heap_alloc_new w zeroO).symm)
theorem Ans.fz {N : Nat} {w1 : World} (h : Ans N w1) (w : World) (hN : N = w.heap.size) (i : Nat) : w1.frozen? ⟨N, i, none⟩ = (w.alloc zeroO).frozen? ⟨N, i, none⟩ := by
  subst hN
  exact World.frozen?_of_block (h.blk.trans (heap_alloc_new w zeroO).symm)
theorem Ans.lt {N : Nat} {w1 : World} (h : Ans N w1) : N < w1.heap.size := lt_of_block h.blk
theorem Ans.new (w : World) (n : Nat) : Ans w.heap.size ((w.alloc zeroO).drewN n) := ⟨heap_alloc_new w zeroO⟩
theorem Ans.carry {N : Nat} {w w' : World} (h : Ans N w) (hb : Below w.heap.size w w') : Ans N w' := ⟨(hb.block N (lt_of_block h.blk)).trans h.blk⟩

end Go.Proofs.YtncnildpbccpaaaGreatDoor

