/- The walks of what asks of one level, of one category's place, of one label. -/
import Derived.Test.YtmaddfjgiflkbaaBsMath
namespace Go.Proofs.Ytmaddfjgiflkbaa
open Go.RowKit
set_option maxRecDepth 100000
set_option linter.unusedVariables false

def lvls : Array Value := #[.int .u8 171, .int .u8 150, .int .u8 90, .int .u8 61]
theorem levels_any (w : World) :
    Calls Try.prog 16 #[] w fun e w' => e = .returned (.agg lvls) ∧ Below w.heap.size w w' := by
  go_enter Try.func16, Try.ntmps16
  go_wp2
  exact bodyPost_ret (v := .agg #[.int .u8 171, .int .u8 150, .int .u8 90, .int .u8 61]) (by simp [results, Try.results16, go_sem]) rfl ⟨rfl, (Below.refl _ _).alloc (Nat.le_refl _) _⟩

theorem refByte_any (z : Int) (w : World) :
    Calls Try.prog 13 #[.int .i64 z] w fun e w' => e = .returned (.int .u8 (B.lb z : Nat)) ∧ w = w' := by
  by_cases h0 : z = 0
  · subst h0
    go_enter Try.func13, Try.ntmps13
    go_wp2
    go_ret
    exact ⟨rfl, rfl⟩
  by_cases h1 : z = 1
  · subst h1
    go_enter Try.func13, Try.ntmps13
    go_wp2
    go_ret
    exact ⟨rfl, rfl⟩
  by_cases h2 : z = 2
  · subst h2
    go_enter Try.func13, Try.ntmps13
    go_wp2
    go_ret
    exact ⟨rfl, rfl⟩
  by_cases h3 : z = 3
  · subst h3
    go_enter Try.func13, Try.ntmps13
    go_wp2
    go_ret
    exact ⟨rfl, rfl⟩
  · have hb : Hid (B.lb z = 0) := Lib.hid (by unfold B.lb; rw [if_neg h0, if_neg h1, if_neg h2, if_neg h3])
    go_enter Try.func13, Try.ntmps13
    go_wp2
    go_ret
    exact ⟨by rw [hb.out]; rfl, rfl⟩

theorem bplace_any (k : Nat) (w : World) (h : k < 240) :
    Calls Try.prog 22 #[.int .i64 k] w fun e w' => e = .returned (.tuple #[.int .i64 (k / 7 : Nat), .int .u8 (2 ^ (7 - k % 7) : Nat)]) ∧ Below w.heap.size w w' := by
  have Hb := Lib.hid (bit_of (k % 7) (by omega))
  go_enter Try.func22, Try.ntmps22
  go_wp2
  go_quiet (fail)
  go_wp2
  go_ret2
  exact ⟨ret_pair (by omega) Hb.out, below_drewN (Below.refl _ _) _⟩

namespace B
/-- The level of a byte, and whether there is one. -/
def lev (b : Nat) : Nat × Bool := if b = 171 then (0, true) else if b = 150 then (1, true) else if b = 90 then (2, true) else if b = 61 then (3, true) else (0, false)
end B
theorem level_any (b : Nat) (w : World) (hb : b < 256) :
    Calls Try.prog 12 #[.int .u8 b] w fun e w' => e = .returned (.tuple #[.int .i64 ((B.lev b).1 : Nat), .bool (B.lev b).2]) ∧ Below w.heap.size w w' := by
  obtain ⟨q, hq⟩ : ∃ q, B.lev b = q := ⟨_, rfl⟩
  have Hq := Lib.hid hq
  rw [hq]
  clear hq
  have x0 : ∀ w : World, (Instr.index 45 (.agg lvls) (.int .i64 0)).run Try.prog w = .ok (.int .u8 171) w := fun w => by kernel_rfl
  have x1 : ∀ w : World, (Instr.index 45 (.agg lvls) (.int .i64 1)).run Try.prog w = .ok (.int .u8 150) w := fun w => by kernel_rfl
  have x2 : ∀ w : World, (Instr.index 45 (.agg lvls) (.int .i64 2)).run Try.prog w = .ok (.int .u8 90) w := fun w => by kernel_rfl
  have x3 : ∀ w : World, (Instr.index 45 (.agg lvls) (.int .i64 3)).run Try.prog w = .ok (.int .u8 61) w := fun w => by kernel_rfl
  go_enter Try.func12, Try.ntmps12
  go_wp2_with fail
  refine (levels_any _).mono ?_
  rintro e w1 ⟨rfl, hb1⟩
  go_wp2
  go_loopw [7] (fun i wr => ∃ k : Nat, k ≤ 4 ∧ i = .int .i64 k ∧ Below w.heap.size w wr ∧ (0 < k → b ≠ 171) ∧ (1 < k → b ≠ 150) ∧ (2 < k → b ≠ 90) ∧ (3 < k → b ≠ 61)) (fun i _ => 4 - (intOf i).toNat)
  case atStart => exact ⟨0, by omega, rfl, hb1, by omega, by omega, by omega, by omega⟩
  case round =>
    obtain ⟨k, hk, rfl, hb1, g0, g1, g2, g3⟩ := hrel
    match k, hk with
    | 0, _ =>
      by_cases h : b = 171
      · subst h
        go_wp2
        go_ret2
        exact ⟨by rw [← Hq.out]; rfl, hb1⟩
      · have h' : ¬ (171 : Int) = (b : Int) := by omega
        go_wp2
        go_roundw
        case rel => exact ⟨1, by omega, by go_num, hb1, fun _ => h, by omega, by omega, by omega⟩
        case measure => simp [intOf]
    | 1, _ =>
      by_cases h : b = 150
      · subst h
        go_wp2
        go_ret2
        exact ⟨by rw [← Hq.out]; rfl, hb1⟩
      · have h' : ¬ (150 : Int) = (b : Int) := by omega
        go_wp2
        go_roundw
        case rel => exact ⟨2, by omega, by go_num, hb1, fun _ => g0 (by omega), fun _ => h, by omega, by omega⟩
        case measure => simp [intOf]
    | 2, _ =>
      by_cases h : b = 90
      · subst h
        go_wp2
        go_ret2
        exact ⟨by rw [← Hq.out]; rfl, hb1⟩
      · have h' : ¬ (90 : Int) = (b : Int) := by omega
        go_wp2
        go_roundw
        case rel => exact ⟨3, by omega, by go_num, hb1, fun _ => g0 (by omega), fun _ => g1 (by omega), fun _ => h, by omega⟩
        case measure => simp [intOf]
    | 3, _ =>
      by_cases h : b = 61
      · subst h
        go_wp2
        go_ret2
        exact ⟨by rw [← Hq.out]; rfl, hb1⟩
      · have h' : ¬ (61 : Int) = (b : Int) := by omega
        go_wp2
        go_roundw
        case rel => exact ⟨4, by omega, by go_num, hb1, fun _ => g0 (by omega), fun _ => g1 (by omega), fun _ => g2 (by omega), fun _ => h⟩
        case measure => simp [intOf]
    | 4, _ =>
      have G := Lib.hid (show B.lev b = (0, false) by unfold B.lev; rw [if_neg (g0 (by omega)), if_neg (g1 (by omega)), if_neg (g2 (by omega)), if_neg (g3 (by omega))])
      clear g0 g1 g2 g3
      go_wp2
      go_ret2
      exact ⟨by rw [← Hq.out, G.out]; rfl, hb1⟩

/-- One label is right. -/
theorem right_one (z : Int) (n : Nat) (r : Nat) (w : World) (h : w.heap[r]? = some (.cells (L.lv z n) 25 (0, 0))) :
    Calls Try.prog 15 #[.slice (some ⟨r, 0, none⟩) 1 1] w fun e w' => e = .returned (.bool (decide (0 ≤ z) && decide (z ≤ 255))) ∧ Below w.heap.size w w' := by
  have HR : Hid (w.rangeAt r 0 (L.lv z n).toList) := Lib.hid (fun j v hv => by rw [cell_of_row w r (0 + j) _ _ (0, 0) h, Nat.zero_add]; simpa using hv)
  obtain ⟨q, hq⟩ : ∃ q, (decide (0 ≤ z) && decide (z ≤ 255)) = q := ⟨_, rfl⟩
  have Hq := Lib.hid hq
  rw [hq]
  clear hq h
  have HR1 := Lib.hid (World.rangeAt_alloc HR.out (.cells (L.lv 0 0) 25))
  have HN := Lib.hid (LabAt.new w 0 0)
  have hb0 : Below w.heap.size w (w.alloc (.cells (L.lv 0 0) 25)) := (Below.refl _ w).alloc (Nat.le_refl _) _
  go_enter Try.func15, Try.ntmps15
  go_wp2
  go_loopw [7] (fun i wr => ∃ k : Nat, k ≤ 1 ∧ i = .int .i64 k ∧ (k = 0 → wr = w) ∧ Below w.heap.size w wr ∧ (k = 1 → 0 ≤ z ∧ z ≤ 255)) (fun i _ => 1 - (intOf i).toNat)
  case atStart => exact ⟨0, by omega, rfl, fun _ => rfl, Below.refl _ _, by omega⟩
  case round =>
    obtain ⟨k, hk, rfl, hw, hb, hz⟩ := hrel
    match k, hk with
    | 0, _ =>
      obtain rfl := hw rfl
      clear hw hz hb
      by_cases h0 : z < 0
      · have G := Lib.hid (show (decide (0 ≤ z) && decide (z ≤ 255)) = false by rw [decide_eq_false (by omega)]; rfl)
        go_wp2_with (first | (refine load_mid_lab rfl rfl rfl HR.out ?_) | (rw [L.zero31]; refine store_lab rfl rfl rfl rfl HN.out ?_; intro w2 hs2 ho2; have hlv := hs2.level; have HO2 := Lib.hid ho2; clear hs2 ho2))
        go_ret
        exact ⟨by rw [← Hq.out, G.out]; rfl, hb0.trans (HO2.out.below (Nat.le_refl _))⟩
      by_cases h1 : 255 < z
      · have G := Lib.hid (show (decide (0 ≤ z) && decide (z ≤ 255)) = false by rw [decide_eq_false (show ¬ z ≤ 255 by omega), Bool.and_false])
        go_wp2_with (first | (refine load_mid_lab rfl rfl rfl HR.out ?_) | (rw [L.zero31]; refine store_lab rfl rfl rfl rfl HN.out ?_; intro w2 hs2 ho2; have hlv := hs2.level; have HO2 := Lib.hid ho2; clear hs2 ho2))
        go_ret
        exact ⟨by rw [← Hq.out, G.out]; rfl, hb0.trans (HO2.out.below (Nat.le_refl _))⟩
      · go_wp2_with (first | (refine load_mid_lab rfl rfl rfl HR.out ?_) | (rw [L.zero31]; refine store_lab rfl rfl rfl rfl HN.out ?_; intro w2 hs2 ho2; have hlv := hs2.level; have HO2 := Lib.hid ho2; clear hs2 ho2))
        go_roundw
        case rel => exact ⟨1, by omega, by go_num, by omega, hb0.trans (HO2.out.below (Nat.le_refl _)), by omega⟩
        case measure => simp [intOf]
    | 1, _ =>
      have hz := hz rfl
      have G := Lib.hid (show (decide (0 ≤ z) && decide (z ≤ 255)) = true by rw [decide_eq_true hz.1, decide_eq_true hz.2]; rfl)
      clear hz hw
      go_wp2
      go_ret
      exact ⟨by rw [← Hq.out, G.out]; rfl, hb⟩

namespace B
def fits (z : Int) (n : Nat) : Bool := decide (0 ≤ z) && (decide (z < 4) && decide (C.mostTo n 240 ≤ 27))
end B
theorem run_op_labcats {o : Oper} {ev : Operand → Value} {w : World} {x : Operand} {g n : Nat} {z : Int} (ho : o.op = .load 23 x) (hx : ev x = .pointer (some ⟨g, 1, none⟩)) (h : LabAt w g z n) : (execOp ev o).run Try.prog w = .ok (.value (.agg (C.cv n))) w := by
  unfold execOp
  have := run_loadAt_mid (P := Try.prog) w g 1 23 (C.cv n).toList _ h.range Try.underlying23 rfl (by rw [Array.length_toList, cv_size]; exact Try.info_cats)
  rw [Array.toArray_toList] at this
  simp only [ho, hx, Sem.run_bind, Result.andThen_ok, this, Sem.run_pure]
#print axioms run_op_labcats
end Go.Proofs.Ytmaddfjgiflkbaa
