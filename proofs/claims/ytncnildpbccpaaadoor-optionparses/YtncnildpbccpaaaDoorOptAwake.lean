/- The walk of the document's example of options. -/
import Derived.Test.YtncnildpbccpaaaDoorOptEnc
namespace Go.Proofs.YtncnildpbccpaaaDoor
set_option maxRecDepth 100000
open Go.RowKit

/-- The example's options. -/
def exOpts : List Opt := [⟨1, ⟨#[]⟩⟩, ⟨134, ⟨#[55, 55]⟩⟩]

theorem exOpts_enc : O.encoded exOpts = (⟨#[1, 134, 4, 55, 55, 0, 0, 0]⟩, 0) := by decide +kernel

theorem cell_new (w : World) (cs : Array Value) (t : TypeId) (i : Nat) (v : Value) (h : cs[i]? = some v) : (w.alloc (.cells cs t)).cell? ⟨w.heap.size, i, none⟩ = some v := by
  have e : (w.alloc (.cells cs t)).heap[w.heap.size]? = some (.cells cs t) := heap_alloc_new w _
  simp only [World.cell?, e]
  exact h

theorem exOpts_row (w : World) : OptRow (w.alloc (.cells #[.int .i64 1, .string ⟨#[]⟩, .int .i64 134, .string ⟨#[55, 55]⟩] 48)) (some ⟨w.heap.size, 0, none⟩) exOpts := by
  refine .inr ⟨w.heap.size, 0, rfl, by simp, fun i hi => ?_⟩
  match i, hi with
  | 0, _ => exact ⟨cell_new w _ _ 0 _ rfl, cell_new w _ _ 1 _ rfl⟩
  | 1, _ => exact ⟨cell_new w _ _ 2 _ rfl, cell_new w _ _ 3 _ rfl⟩

theorem exOpts_small : ∀ o ∈ exOpts, o.data.size ≤ 100 := by
  intro o ho
  simp [exOpts] at ho
  rcases ho with rfl | rfl <;> decide

set_option maxHeartbeats 400000 in
theorem awake4_any (w : World) :
    Calls Tryd.prog 9 #[] w fun e w' => e = .returned (.bool true) ∧ Below w.heap.size w w' := by
  go_enter Tryd.func9, Tryd.ntmps9
  go_wp2_with fail
  refine (optEnc_any _ 2 exOpts _ (exOpts_row w) (by decide) exOpts_small).mono ?_
  rintro e w1 ⟨rfl, hb1⟩
  rw [exOpts_enc]
  have hb : Below w.heap.size w w1 := ((Below.refl _ w).alloc (Nat.le_refl _) _).trans (hb1.mono (by simp))
  clear hb1
  go_wp2
  go_ret
  exact ⟨rfl, hb⟩
#print axioms awake4_any
end Go.Proofs.YtncnildpbccpaaaDoor
