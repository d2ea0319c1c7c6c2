/- The walk of the document's example. -/
import Derived.Test.YtmaddfjgiflkbaaDoorCtText
import Derived.Test.YtmaddfjgiflkbaaDoorCtGen2
namespace Go.Proofs.YtmaddfjgiflkbaaDoor
set_option maxRecDepth 100000
open Go.RowKit
set_option maxRecDepth 100000
set_option linter.unusedVariables false

namespace C
def ex : Nat := plus 0 [5, 3, 1, 2]
theorem ex_of : (if right [5, 3, 1, 2] then plus 0 [5, 3, 1, 2] else 0) = ex := by kernel_rfl
theorem ex_right : right [5, 3, 1, 2] = true := by kernel_rfl
theorem ex_text : text ex = [49, 45, 51, 44, 53] := by kernel_rfl
theorem ex_len : (list ex).length = 4 := by kernel_rfl
end C

theorem Of_ex (r : Nat) (w : World) (h : IRow w (some ⟨r, 0, none⟩) [5, 3, 1, 2]) :
    Calls Tryd.prog 14 #[.slice (some ⟨r, 0, none⟩) 4 4] w fun e w' => e = .returned (.tuple #[.agg (C.cv C.ex), .bool true]) ∧ Below w.heap.size w w' := by
  have := Of_any (some ⟨r, 0, none⟩) 4 [5, 3, 1, 2] w h (by unfold maxLen; simp)
  rw [C.ex_of, C.ex_right] at this
  exact this
theorem irow_four (w : World) : IRow (w.alloc (.cells #[.int .i64 5, .int .i64 3, .int .i64 1, .int .i64 2] 3)) (some ⟨w.heap.size, 0, none⟩) [5, 3, 1, 2] := fun _ => by
  refine ⟨w.heap.size, 0, rfl, by simp, fun k hk => ?_⟩
  match k, hk with
  | 0, _ => simp
  | 1, _ => simp
  | 2, _ => simp
  | 3, _ => simp
  | k + 4, hk => simp at hk; omega

theorem TabL.only {w w' : World} {g : Nat} (h : TabL w) (ho : Only g w w') (hg : 4 ≤ g) : TabL w' := by
  have hb : Below 4 w w' := ho.below hg
  obtain ⟨h0, h4⟩ := h
  refine ⟨by have := hb.size; omega, ?_⟩
  unfold Lib.TabIs World.var? at *
  rw [gPow] at *
  have := hb.block 3 (by omega)
  simp only [Option.bind_some] at *
  rw [this]; exact h4

set_option maxHeartbeats 4000000 in
theorem cats_awake (w : World) (L : TabL w) :
    Calls Tryd.prog 12 #[] w fun e w' => e = .returned (.bool true) ∧ Below w.heap.size w w' := by
  have hw4 := L.size
  have hb0 : Below w.heap.size w (w.alloc (.cells #[.int .i64 5, .int .i64 3, .int .i64 1, .int .i64 2] 3)) := (Below.refl _ w).alloc (Nat.le_refl _) _
  have HL0 := Lib.hid (L.below hb0)
  have HI := Lib.hid (irow_four w)
  have hx := C.ex_text
  have hy := C.ex_len
  clear L
  go_enter Tryd.func12, Tryd.ntmps12
  go_wp2_with fail
  refine (Of_ex w.heap.size _ HI.out).mono ?_
  rintro e w1 ⟨rfl, hb1⟩
  have hbw1 := hb0.trans (hb1.mono hb0.size)
  have HL1 := Lib.hid ((HL0.out.below hb1).alloc (.cells (C.cv 0) 23))
  have hb2 := hbw1.alloc hbw1.size (.cells (C.cv 0) 23)
  have HN := Lib.hid (SetAt.new w1 0)
  have hsz := hbw1.size
  clear hb1 hb0 HL0 HI hbw1
  have HT := Lib.hid (fun w L => (by have := Text_any C.ex w L; rw [hx] at this; exact this : Calls Tryd.prog 24 #[.agg (C.cv C.ex)] w fun e w' => e = .returned (.string ⟨#[49, 45, 51, 44, 53]⟩) ∧ Below w.heap.size w w'))
  have HC := Lib.hid (fun w => (by have := Count_any C.ex w; rw [hy] at this; exact this : Calls Tryd.prog 22 #[.agg (C.cv C.ex)] w fun e w' => e = .returned (.int .i64 (4 : Nat)) ∧ Below w.heap.size w w'))
  clear hx hy
  generalize C.ex = x at *
  go_wp2_with ((try rw [C.zero30]); first | (refine store_set rfl rfl rfl rfl HN.out ?_; intro w2 hs2 ho2; have HS2 := Lib.hid hs2; have HL2 := Lib.hid (HL1.out.only ho2 (by omega)); have hb3 := hb2.trans (ho2.below (by omega)); clear hs2 ho2) | (refine load_set rfl rfl rfl HS2.out ?_))
  refine (HT.out _ HL2.out).mono ?_
  rintro e w3 ⟨rfl, hb4⟩
  have hbw3 := hb3.trans (hb4.mono hb3.size)
  have HS3 := Lib.hid (HS2.out.below hb4 HS2.out.lt)
  clear hb4 HT HL1 HL2 HS2 HN hb2 hb3
  go_wp2_with (refine load_set rfl rfl rfl HS3.out ?_)
  refine (HC.out _).mono ?_
  rintro e w4 ⟨rfl, hb5⟩
  have hbw4 := hbw3.trans (hb5.mono hbw3.size)
  clear hb5 HC HS3 hbw3
  go_wp2
  go_ret
  exact ⟨rfl, hbw4⟩
#print axioms cats_awake
end Go.Proofs.YtmaddfjgiflkbaaDoor
