/- The walks of masks, prefixes, and whether they hold addresses. -/
import Derived.Test.YtpepjmcglglepaaRows
import Derived.Test.YtpepjmcglglepaaAddrMath
import Derived.WalkKit
import Derived.WalkSpells
import Derived.WalkSmall
import Derived.Lib.Hide
import Derived.Deep.RegionHeld3
import Derived.Deep.DeepCutAuto
namespace Go.Proofs.Ytpepjmcglglepaa
open Go.RowKit

theorem ret_int {k : IntKind} {a b : Int} (h : a = b) : Ending.returned (.int k a) = .returned (.int k b) := by rw [h]
theorem ret_bool {a b : Bool} (h : a = b) : Ending.returned (.bool a) = .returned (.bool b) := by rw [h]

set_option maxHeartbeats 400000 in
theorem within32_any (b : Int) (w : World) :
    Calls Try.prog 30 #[.int .i64 b] w fun e w' => e = .returned (.int .i64 (A.clamp b)) ∧ w = w' := by
  by_cases h0 : b < 0
  · have H := Lib.hid (show ((A.clamp b : Nat) : Int) = 0 by unfold A.clamp; rw [if_pos h0]; rfl)
    go_enter Try.func30, Try.ntmps30
    go_wp2
    go_ret
    exact ⟨ret_int H.out.symm, rfl⟩
  · by_cases h1 : 32 < b
    · have H := Lib.hid (show ((A.clamp b : Nat) : Int) = 32 by unfold A.clamp; rw [if_neg h0, if_pos h1]; rfl)
      go_enter Try.func30, Try.ntmps30
      go_wp2
      go_ret
      exact ⟨ret_int H.out.symm, rfl⟩
    · have H := Lib.hid (show ((A.clamp b : Nat) : Int) = b by rw [A.clamp_eq]; omega)
      have h2 : ¬ b < 0 := h0
      by_cases h3 : b = 0
      · have H0 := Lib.hid h3
        subst h3
        go_enter Try.func30, Try.ntmps30
        go_wp2
        go_ret
        exact ⟨ret_int H.out.symm, rfl⟩
      · have h4 : 0 < b := by omega
        clear h3
        go_enter Try.func30, Try.ntmps30
        go_wp2
        go_ret
        exact ⟨ret_int (by rw [H.out]), rfl⟩

theorem mask_eq (n : Nat) : (4294967295 * 2 ^ (32 - n) % 4294967296 : Int) = ((A.mask n : Nat) : Int) := by
  have h1 := A.pow_le n
  have h2 : 1 ≤ 2 ^ (32 - n) := Nat.one_le_two_pow
  have e : (2 : Int) ^ (32 - n) = ((2 ^ (32 - n) : Nat) : Int) := by simp
  unfold A.mask
  rw [e]
  generalize 2 ^ (32 - n) = p at *
  omega

theorem mask_lt (n : Nat) : A.mask n < 4294967296 := by
  have h2 : 1 ≤ 2 ^ (32 - n) := Nat.one_le_two_pow
  unfold A.mask
  omega

set_option maxHeartbeats 400000 in
theorem mask_any (b : Int) (w : World) :
    Calls Try.prog 29 #[.int .i64 b] w fun e w' => e = .returned (.int .u32 (A.mask (A.clamp b))) ∧ w = w' := by
  have hc := A.clamp_le b
  have H := Lib.hid (mask_eq (A.clamp b))
  go_enter Try.func29, Try.ntmps29
  go_wp2_with fail
  refine (within32_any b w).mono ?_
  rintro e w1 ⟨rfl, rfl⟩
  go_wp2
  go_ret
  exact ⟨ret_int H.out, rfl⟩

theorem and_u32 (a b : Nat) (ha : a < 4294967296) (hb : b < 4294967296) : bits BinOp.and IntKind.u32 (a : Int) (b : Int) = ((a &&& b : Nat) : Int) :=
  (bits_nat .u32 32 (by decide) (fun m h0 h1 => IntWalk.u32_in m (by omega)) a b ha hb).1

set_option maxHeartbeats 400000 in
theorem cut_any (a : Nat) (b : Int) (w : World) (ha : a < 4294967296) :
    Calls Try.prog 25 #[.int .u32 a, .int .i64 b] w fun e w' => e = .returned (.agg #[.int .u32 (A.top a (A.clamp b)), .int .i64 (A.clamp b)]) ∧ Below w.heap.size w w' := by
  have hand : bits BinOp.and IntKind.u32 (a : Int) (A.mask (A.clamp b) : Int) = ((A.top a (A.clamp b) : Nat) : Int) := by rw [and_u32 a _ ha (mask_lt _), A.and_mask a _ ha]
  go_enter Try.func25, Try.ntmps25
  go_wp2_with fail
  refine (mask_any b _).mono ?_
  rintro e w1 ⟨rfl, rfl⟩
  go_wp2_with fail
  refine (within32_any b _).mono ?_
  rintro e w1 ⟨rfl, rfl⟩
  go_wp2
  exact bodyPost_ret (v := .agg #[.int .u32 (A.top a (A.clamp b)), .int .i64 (A.clamp b)]) (by simp [results, Try.results25, go_sem]) rfl ⟨rfl, (Below.refl _ _).alloc (Nat.le_refl _) _⟩

theorem cell_kept {W w1 : World} {b o : Nat} {v : Value} (hb : Below W.heap.size W w1) (hlt : b < W.heap.size) (hc : W.cell? ⟨b, o, none⟩ = some v) : w1.cell? ⟨b, o, none⟩ = some v :=
  (hb.cell (p := ⟨b, o, none⟩) hlt).trans hc

set_option maxHeartbeats 1000000 in
theorem holds_tt (p : Nat) (b : Int) (a : Nat) (w : World) (ha : a < 4294967296) (g1 : (((A.top a (A.clamp b) : Nat) : Int) == (p : Int)) = true) (g2 : (((A.clamp b : Nat) : Int) == b) = true) :
    Calls Try.prog 28 #[.agg #[.int .u32 p, .int .i64 b], .int .u32 a] w fun e w' => e = .returned (.bool (true && true)) ∧ Below w.heap.size w w' := by
  go_enter Try.func28, Try.ntmps28
  go_wp2
  go_region_held3 (fun w' => w'.cell? ⟨w.heap.size, 0, none⟩ = some (.int .u32 p) ∧ w'.cell? ⟨w.heap.size, 1, none⟩ = some (.int .i64 b)) (first | go_keep | (refine ⟨?_, ?_⟩ <;> assumption))
    ((go_at_call 25; (with_reducible refine (cut_any a b _ ha).mono ?_); rintro e w1 ⟨rfl, hb1⟩; have q0 := cell_kept (b := w.heap.size) (o := 0) (v := .int .u32 p) hb1 (by simp) (by simp); have q1 := cell_kept (b := w.heap.size) (o := 1) (v := .int .i64 b) hb1 (by simp) (by simp)))
  go_wp2
  go_ret
  exact ⟨rfl, (((Below.refl _ w).alloc (Nat.le_refl _) _).drew).trans (Below.mono (by assumption) (by simp))⟩

set_option maxHeartbeats 1000000 in
theorem holds_tf (p : Nat) (b : Int) (a : Nat) (w : World) (ha : a < 4294967296) (g1 : (((A.top a (A.clamp b) : Nat) : Int) == (p : Int)) = true) (g2 : (((A.clamp b : Nat) : Int) == b) = false) :
    Calls Try.prog 28 #[.agg #[.int .u32 p, .int .i64 b], .int .u32 a] w fun e w' => e = .returned (.bool (true && false)) ∧ Below w.heap.size w w' := by
  go_enter Try.func28, Try.ntmps28
  go_wp2
  go_region_held3 (fun w' => w'.cell? ⟨w.heap.size, 0, none⟩ = some (.int .u32 p) ∧ w'.cell? ⟨w.heap.size, 1, none⟩ = some (.int .i64 b)) (first | go_keep | (refine ⟨?_, ?_⟩ <;> assumption))
    ((go_at_call 25; (with_reducible refine (cut_any a b _ ha).mono ?_); rintro e w1 ⟨rfl, hb1⟩; have q0 := cell_kept (b := w.heap.size) (o := 0) (v := .int .u32 p) hb1 (by simp) (by simp); have q1 := cell_kept (b := w.heap.size) (o := 1) (v := .int .i64 b) hb1 (by simp) (by simp)))
  go_wp2
  go_ret
  exact ⟨rfl, (((Below.refl _ w).alloc (Nat.le_refl _) _).drew).trans (Below.mono (by assumption) (by simp))⟩

set_option maxHeartbeats 1000000 in
theorem holds_ft (p : Nat) (b : Int) (a : Nat) (w : World) (ha : a < 4294967296) (g1 : (((A.top a (A.clamp b) : Nat) : Int) == (p : Int)) = false) (g2 : (((A.clamp b : Nat) : Int) == b) = true) :
    Calls Try.prog 28 #[.agg #[.int .u32 p, .int .i64 b], .int .u32 a] w fun e w' => e = .returned (.bool (false && true)) ∧ Below w.heap.size w w' := by
  go_enter Try.func28, Try.ntmps28
  go_wp2
  go_region_held3 (fun w' => w'.cell? ⟨w.heap.size, 0, none⟩ = some (.int .u32 p) ∧ w'.cell? ⟨w.heap.size, 1, none⟩ = some (.int .i64 b)) (first | go_keep | (refine ⟨?_, ?_⟩ <;> assumption))
    ((go_at_call 25; (with_reducible refine (cut_any a b _ ha).mono ?_); rintro e w1 ⟨rfl, hb1⟩; have q0 := cell_kept (b := w.heap.size) (o := 0) (v := .int .u32 p) hb1 (by simp) (by simp); have q1 := cell_kept (b := w.heap.size) (o := 1) (v := .int .i64 b) hb1 (by simp) (by simp)))
  go_wp2
  go_ret
  exact ⟨rfl, (((Below.refl _ w).alloc (Nat.le_refl _) _).drew).trans (Below.mono (by assumption) (by simp))⟩

set_option maxHeartbeats 1000000 in
theorem holds_ff (p : Nat) (b : Int) (a : Nat) (w : World) (ha : a < 4294967296) (g1 : (((A.top a (A.clamp b) : Nat) : Int) == (p : Int)) = false) (g2 : (((A.clamp b : Nat) : Int) == b) = false) :
    Calls Try.prog 28 #[.agg #[.int .u32 p, .int .i64 b], .int .u32 a] w fun e w' => e = .returned (.bool (false && false)) ∧ Below w.heap.size w w' := by
  go_enter Try.func28, Try.ntmps28
  go_wp2
  go_region_held3 (fun w' => w'.cell? ⟨w.heap.size, 0, none⟩ = some (.int .u32 p) ∧ w'.cell? ⟨w.heap.size, 1, none⟩ = some (.int .i64 b)) (first | go_keep | (refine ⟨?_, ?_⟩ <;> assumption))
    ((go_at_call 25; (with_reducible refine (cut_any a b _ ha).mono ?_); rintro e w1 ⟨rfl, hb1⟩; have q0 := cell_kept (b := w.heap.size) (o := 0) (v := .int .u32 p) hb1 (by simp) (by simp); have q1 := cell_kept (b := w.heap.size) (o := 1) (v := .int .i64 b) hb1 (by simp) (by simp)))
  go_wp2
  go_ret
  exact ⟨rfl, (((Below.refl _ w).alloc (Nat.le_refl _) _).drew).trans (Below.mono (by assumption) (by simp))⟩

theorem holds_any (p : Nat) (b : Int) (a : Nat) (w : World) (ha : a < 4294967296) :
    Calls Try.prog 28 #[.agg #[.int .u32 p, .int .i64 b], .int .u32 a] w fun e w' => e = .returned (.bool (A.holds p b a)) ∧ Below w.heap.size w w' := by
  have H := A.cut_holds p b a
  have e1 : (((A.top a (A.clamp b) : Nat) : Int) == (p : Int)) = decide (A.top a (A.clamp b) = p) := by rw [Bool.eq_iff_iff]; simp; omega
  have e2 : (((A.clamp b : Nat) : Int) == b) = decide (((A.clamp b : Nat) : Int) = b) := by rw [Bool.eq_iff_iff]; simp
  rw [← e1, ← e2] at H
  rw [← H]
  cases g1 : (((A.top a (A.clamp b) : Nat) : Int) == (p : Int)) <;> cases g2 : (((A.clamp b : Nat) : Int) == b)
  · exact holds_ff p b a w ha g1 g2
  · exact holds_ft p b a w ha g1 g2
  · exact holds_tf p b a w ha g1 g2
  · exact holds_tt p b a w ha g1 g2

set_option maxHeartbeats 400000 in
theorem right_any (p : Nat) (b : Int) (w : World) (hp : p < 4294967296) :
    Calls Try.prog 20 #[.agg #[.int .u32 p, .int .i64 b]] w fun e w' => e = .returned (.bool (A.right p b)) ∧ Below w.heap.size w w' := by
  have H := Lib.hid (A.holds_self p b)
  go_enter Try.func20, Try.ntmps20
  go_wp2_with fail
  refine (holds_any p b p _ hp).mono ?_
  rintro e w1 ⟨rfl, hb1⟩
  rw [H.out]
  go_wp2
  go_ret
  exact ⟨rfl, ((Below.refl _ w).alloc (Nat.le_refl _) _).trans (hb1.mono (by simp))⟩

theorem within_of_not (p : Nat) (b : Int) (q : Nat) (c : Int) (h : A.right p b = false) : A.within p b q c = false := by unfold A.within; rw [h]; rfl
theorem within_of_bits (p : Nat) (b : Int) (q : Nat) (c : Int) (h : ¬ c ≤ b) : A.within p b q c = false := by unfold A.within; simp [h]
theorem within_of (p : Nat) (b : Int) (q : Nat) (c : Int) (h1 : A.right p b = true) (h2 : c ≤ b) : A.within p b q c = A.holds q c p := by
  unfold A.within
  rw [h1, decide_eq_true h2]
  cases h : A.holds q c p
  · simp
  · have : A.right q c = true := by unfold A.holds at h; simp only [Bool.and_eq_true] at h; exact h.1
    rw [this]; rfl

end Go.Proofs.Ytpepjmcglglepaa
