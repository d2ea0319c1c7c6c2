/- A square of bools, row by row, each in a block of its own; the square that has each number itself. -/
import Derived.Test.YtagfcfkkjllfpaaGuFirst
import Derived.Deep.OwnRows
import Derived.Laws.NewBlocks
namespace Go.Proofs.Ytagfcfkkjllfpaa
open Go.RowKit
set_option maxRecDepth 100000
set_option linter.unusedVariables false
open Gd

namespace Gd
def bools (h : Nat → Bool) (n : Nat) : Array Value := ((List.range n).map fun j => Value.bool (h j)).toArray
def rowsP (rb : Nat → Nat) (k n : Nat) : Array Value := ((List.range n).map fun i => if i < k then Value.slice (some ⟨rb i, 0, none⟩) n n else .slice none 0 0).toArray
theorem bools_size (h : Nat → Bool) (n : Nat) : (bools h n).size = n := by simp [bools]
theorem rowsP_size (rb : Nat → Nat) (k n : Nat) : (rowsP rb k n).size = n := by simp [rowsP]
theorem bools_get (h : Nat → Bool) (n j : Nat) (hj : j < n) : (bools h n)[j]? = some (.bool (h j)) := by
  unfold bools
  rw [List.getElem?_toArray, List.getElem?_map, List.getElem?_range hj]
  rfl
theorem rowsP_get (rb : Nat → Nat) (k n i : Nat) (hi : i < n) : (rowsP rb k n)[i]? = some (if i < k then Value.slice (some ⟨rb i, 0, none⟩) n n else .slice none 0 0) := by
  unfold rowsP
  rw [List.getElem?_toArray, List.getElem?_map, List.getElem?_range hi]
  rfl
theorem bools_set (h : Nat → Bool) (n j : Nat) (b : Bool) : (bools h n).setIfInBounds j (.bool b) = bools (fun i => if i = j then b else h i) n := by
  apply Array.ext_getElem?
  intro i
  by_cases hi : i < n
  · rw [bools_get _ _ _ hi]
    by_cases e : j = i
    · subst e
      rw [Array.getElem?_setIfInBounds_self_of_lt (by rw [bools_size]; exact hi)]
      simp
    · rw [Array.getElem?_setIfInBounds_ne e, bools_get _ _ _ hi, if_neg (fun h => e h.symm)]
  · rw [Array.getElem?_eq_none (by simp [bools_size]; omega), Array.getElem?_eq_none (by rw [bools_size]; omega)]
theorem rowsP_set (rb : Nat → Nat) (k n h : Nat) (hk : k < n) : (rowsP rb k n).setIfInBounds k (.slice (some ⟨h, 0, none⟩) n n) = rowsP (fun i => if i = k then h else rb i) (k + 1) n := by
  apply Array.ext_getElem?
  intro i
  by_cases hi : i < n
  · rw [rowsP_get _ _ _ _ hi]
    by_cases e : k = i
    · subst e
      rw [Array.getElem?_setIfInBounds_self_of_lt (by rw [rowsP_size]; exact hi)]
      simp
    · rw [Array.getElem?_setIfInBounds_ne e, rowsP_get _ _ _ _ hi]
      have e2 : ¬ i = k := fun h => e h.symm
      by_cases h1 : i < k
      · have h2 : i < k + 1 := by omega
        simp [h1, h2, e2]
      · have h2 : ¬ i < k + 1 := by omega
        simp [h1, h2]
  · rw [Array.getElem?_eq_none (by simp [rowsP_size]; omega), Array.getElem?_eq_none (by rw [rowsP_size]; omega)]
theorem made_one (z : Value) (n : Nat) : madeCells #[z] n = ((List.range n).map fun _ => z).toArray := by
  apply Array.ext_getElem?
  intro i
  by_cases hi : i < n
  · simp [madeCells, hi, Nat.mod_one]
  · rw [Array.getElem?_eq_none (by rw [size_madeCells]; omega), Array.getElem?_eq_none (by simp; omega)]
theorem bools_false (n : Nat) : madeCells #[Value.bool false] n = bools (fun _ => false) n := made_one _ _
theorem rows_none (rb : Nat → Nat) (n : Nat) : madeCells #[Value.slice none 0 0] n = rowsP rb 0 n := by
  rw [made_one]
  unfold rowsP
  congr 1
end Gd

/-- The first k rows of a square of n, each in a block of its own. -/
structure Mat (base : Nat) (w : World) (g n k : Nat) (rb : Nat → Nat) (f : Nat → Nat → Bool) : Prop where
  top : w.heap[g]? = some (.cells (rowsP rb k n) 57 (0, 0))
  row : ∀ i, i < k → w.heap[rb i]? = some (.cells (bools (f i) n) 4 (0, 0))
  ge : base ≤ g
  gr : ∀ i, i < k → g < rb i
  inj : ∀ i j, i < k → j < k → rb i = rb j → i = j
section
variable {base g n k : Nat} {w w' : World} {rb : Nat → Nat} {f : Nat → Nat → Bool}
theorem Mat.below (h : Mat base w g n k rb f) (hb : Below w.heap.size w w') : Mat base w' g n k rb f :=
  ⟨(hb.block g (heap_lt h.top)).trans h.top, fun i hi => (hb.block _ (heap_lt (h.row i hi))).trans (h.row i hi), h.ge, h.gr, h.inj⟩
theorem Mat.rowAt (h : Mat base w g n k rb f) (i : Nat) (hi : i < n) : w.cell? ⟨g, i, none⟩ = some (if i < k then .slice (some ⟨rb i, 0, none⟩) n n else .slice none 0 0) := by
  rw [cell_of_row w g i _ _ (0, 0) h.top, rowsP_get _ _ _ _ hi]
theorem Mat.cellAt (h : Mat base w g n k rb f) (i j : Nat) (hi : i < k) (hj : j < n) : w.cell? ⟨rb i, j, none⟩ = some (.bool (f i j)) := by
  rw [cell_of_row w (rb i) j _ _ (0, 0) (h.row i hi), bools_get _ _ _ hj]
theorem Mat.rowLies (h : Mat base w g n k rb f) (i : Nat) (hi : i < n) (hk : i < k) : Lies w g (0 + i * 1) [.slice (some ⟨rb i, 0, none⟩) n n] := by
  refine ⟨heap_lt h.top, fun q v hv => ?_⟩
  match q, hv with
  | 0, hv =>
    have := h.rowAt i hi
    rw [if_pos hk] at this
    rw [show 0 + i * 1 + 0 = i by omega, this]
    exact hv
  | q + 1, hv => cases hv
theorem Mat.frozenTop (h : Mat base w g n k rb f) (j : Nat) : w.frozen? ⟨g, j, none⟩ = false := frozen_of_row w g j _ _ h.top
theorem Mat.frozenRow (h : Mat base w g n k rb f) (i j : Nat) (hi : i < k) : w.frozen? ⟨rb i, j, none⟩ = false := frozen_of_row w (rb i) j _ _ (h.row i hi)
/-- One cell more that is true. -/
theorem Mat.put (h : Mat base w g n k rb f) (i j : Nat) (hi : i < k) (b : Bool) : Mat base (w.setCell ⟨rb i, j, none⟩ (.bool b)) g n k rb (fun x y => if x = i ∧ y = j then b else f x y) := by
  have hg := h.gr i hi
  refine ⟨?_, fun x hx => ?_, h.ge, h.gr, h.inj⟩
  · rw [heap_setCell_other _ _ _ _ (by show g ≠ rb i; omega)]
    exact h.top
  · by_cases e : x = i
    · subst e
      rw [heap_setCell_same _ _ _ _ _ _ (h.row x hx), bools_set]
      congr 2
      congr 1
      funext y
      by_cases e : y = j
      · simp [e]
      · simp [e]
    · rw [heap_setCell_other _ _ _ _ (by show rb x ≠ rb i; exact fun e2 => e (h.inj x i hx hi e2)), h.row x hx]
      congr 2
      congr 1
      funext y
      simp [e]
/-- One row more. -/
theorem Mat.more (h : Mat base w g n k rb f) (hk : k < n) : Mat base ((w.alloc (.cells (bools (fun _ => false) n) 4)).setCell ⟨g, k, none⟩ (.slice (some ⟨w.heap.size, 0, none⟩) n n)) g n (k + 1) (fun i => if i = k then w.heap.size else rb i) (fun i j => if i = k then false else f i j) := by
  have hgl := heap_lt h.top
  have hh : ∀ i, i < k → rb i < w.heap.size := fun i hi => heap_lt (h.row i hi)
  refine ⟨?_, fun i hi => ?_, h.ge, fun i hi => ?_, fun i j hi hj e => ?_⟩
  · have := heap_setCell_same (w.alloc (.cells (bools (fun _ => false) n) 4)) g k _ _ (.slice (some ⟨w.heap.size, 0, none⟩) n n) ((Below.heap_alloc _ _ _ hgl).trans h.top)
    rw [this, rowsP_set _ _ _ _ hk]
  · by_cases e : i = k
    · subst e
      simp only [if_true]
      rw [heap_setCell_other _ _ _ _ (by show w.heap.size ≠ g; omega), heap_alloc_new]
    · simp only [if_neg e]
      have := hh i (by omega)
      rw [heap_setCell_other _ _ _ _ (by show rb i ≠ g; have := h.gr i (by omega); omega), Below.heap_alloc _ _ _ this]
      exact h.row i (by omega)
  · by_cases e : i = k
    · simp only [if_pos e]; exact hgl
    · simp only [if_neg e]; exact h.gr i (by omega)
  · by_cases e1 : i = k <;> by_cases e2 : j = k <;> simp only [e1, e2, if_true, if_false] at e
    · omega
    · have := hh j (by omega); omega
    · have := hh i (by omega); omega
    · exact h.inj i j (by omega) (by omega) e
end
theorem Try.infoBools : (Try.prog.info? 57).map (fun i => (i.zero, i.size, i.bytes)) = some (some (.slice none 0 0), 1, 24) := by kernel_rfl
theorem Try.infoBool : (Try.prog.info? 4).map (fun i => (i.zero, i.size, i.bytes)) = some (some (.bool false), 1, 1) := by kernel_rfl

set_option maxHeartbeats 8000000 in
theorem itself_any (n : Nat) (w : World) (hn : n ≤ 16) : Calls Try.prog 45 #[.int .i64 n] w fun e w' => e = .returned (.slice (some ⟨w.heap.size, 0, none⟩) n n) ∧ (∃ rb, Mat w.heap.size w' w.heap.size n n rb (fun x y => x == y)) ∧ Below w.heap.size w w' := by
  have hmk := run_make_row' (P := Try.prog) 55 57 _ 24 Try.underlying55 Try.infoBools rfl .i64 .i64 n (by omega) (by omega)
  have hmk2 := run_make_row' (P := Try.prog) 57 4 _ 1 Try.underlying57 Try.infoBool rfl .i64 .i64 n (by omega) (by omega)
  rw [rows_none (fun _ => 0)] at hmk
  rw [bools_false] at hmk2
  have HM0 : Hid (Mat w.heap.size (w.alloc (.cells (rowsP (fun _ => 0) 0 n) 57)) w.heap.size n 0 (fun _ => 0) (fun x y => x == y)) := Lib.hid ⟨heap_alloc_new w _, fun i hi => by omega, Nat.le_refl _, fun i hi => by omega, fun i j hi => by omega⟩
  have hb0 := (Below.refl _ w).alloc (Nat.le_refl _) (.cells (rowsP (fun _ => 0) 0 n) 57)
  go_enter Try.func45, Try.ntmps45
  go_wp2
  go_loopw [9] (fun i wr => ∃ (k : Nat) (rb : Nat → Nat), k ≤ n ∧ i = .int .i64 k ∧ Mat w.heap.size wr w.heap.size n k rb (fun x y => x == y) ∧ Below w.heap.size w wr) (fun i _ => n - (intOf i).toNat)
  case atStart => exact ⟨0, _, Nat.zero_le _, rfl, HM0.out, hb0⟩
  case round =>
    obtain ⟨k, rb, hk, rfl, hM, hb⟩ := hrel
    by_cases hkn : k < n
    · have hkn2 : (k : Int) < (n : Int) := by omega
      have hbs := hb.size
      have hgl := heap_lt hM.top
      have k0 : (wr.alloc (.cells (bools (fun _ => false) n) 4)).cell? ⟨w.heap.size, k, none⟩ = some (.slice none 0 0) := by
        have := hM.rowAt k hkn
        rw [if_neg (by omega)] at this
        rw [← this]
        simp [World.cell?, Below.heap_alloc _ _ _ hgl]
      have z0 : (wr.alloc (.cells (bools (fun _ => false) n) 4)).frozen? ⟨w.heap.size, k, none⟩ = false := frozen_of_row _ _ _ _ _ ((Below.heap_alloc _ _ _ hgl).trans hM.top)
      have hM2 := hM.more hkn
      have hb2 : Below w.heap.size w ((wr.alloc (.cells (bools (fun _ => false) n) 4)).setCell ⟨w.heap.size, k, none⟩ (.slice (some ⟨wr.heap.size, 0, none⟩) n n)) := (hb.alloc hbs _).setCell (p := ⟨w.heap.size, k, none⟩) (Nat.le_refl _) _
      rw [World.setCell_alloc_past _ _ _ _ hgl] at hM2 hb2
      go_upto_region 6 with fail
      generalize hh : wr.heap.size = h at *
      generalize ((wr.setCell ⟨w.heap.size, k, none⟩ (.slice (some ⟨h, 0, none⟩) n n)).alloc (.cells (bools (fun _ => false) n) 4)) = W2 at *
      have r0 := hM2.rowAt k hkn
      rw [if_pos (by omega), if_pos rfl] at r0
      have r1 := hM2.cellAt k k (by omega) hkn
      have z1 := hM2.frozenRow k k (by omega)
      simp only [if_pos] at r1 z1
      have hM3 := hM2.put k k (by omega) true
      simp only [if_pos] at hM3
      have hb3 : Below w.heap.size w (W2.setCell ⟨h, k, none⟩ (.bool true)) := hb2.setCell (p := ⟨h, k, none⟩) (by show w.heap.size ≤ h; omega) _
      have hM4 : Hid (Mat w.heap.size (W2.setCell ⟨h, k, none⟩ (.bool true)) w.heap.size n (k + 1) (fun i => if i = k then h else rb i) (fun x y => x == y)) := Lib.hid ⟨hM3.top, fun i hi => by
        rw [hM3.row i hi]
        congr 2
        congr 1
        funext y
        by_cases e : i = k
        · subst e
          by_cases e2 : y = i
          · simp [e2]
          · simp [e2]; exact fun h => e2 h.symm
        · simp [e], hM3.ge, hM3.gr, hM3.inj⟩
      clear hM hM2 hM3 hb hb2 k0 z0
      go_wp2
      go_roundw
      case rel => exact ⟨k + 1, _, by omega, by go_num, hM4.out, hb3⟩
      case measure => simp [intOf]; omega
    · obtain rfl : k = n := by omega
      have hge : ¬ (k : Int) < (k : Int) := by omega
      have HM := Lib.hid hM
      clear hM
      go_wp2
      go_ret
      exact ⟨rfl, ⟨_, HM.out⟩, hb⟩
end Go.Proofs.Ytagfcfkkjllfpaa
