/- The walk of the document's own question whether two packets are the same. -/
import Derived.Test.YtncnildpbccpaaaGreatDoorKc
import Derived.Test.YtncnildpbccpaaaGreatDoorKk
set_option maxRecDepth 100000
namespace Go.Proofs.YtncnildpbccpaaaGreatDoor
open Go.RowKit
set_option linter.unusedVariables false

theorem int_ne {x y : Int} (h : ¬ x = y) : (x == y) = false := by simp [h]
theorem bool_ne {x y : Bool} (h : ¬ x = y) : (x == y) = false := by simp [h]
theorem text_no {x y : ByteArray} (h : ¬ x = y) : (x.toList == y.toList) = false := by
  rw [Lib.toList_data, Lib.toList_data, beq_eq_false_iff_ne]
  intro e
  apply h
  cases x; cases y; simp at e; simp [e]

end Go.Proofs.YtncnildpbccpaaaGreatDoor

