/- The walks of what counts a set, and asks for its greatest one. -/
import Derived.Test.YtdipoaekdafbeaaCtList
namespace Go.Proofs.Ytdipoaekdafbeaa
open Go.RowKit
set_option maxRecDepth 100000
set_option linter.unusedVariables false

namespace C
/-- How many bits a byte has. -/
def pop (x : Nat) : Nat := (x.testBit 7).toNat + (x.testBit 6).toNat + (x.testBit 5).toNat + (x.testBit 4).toNat + (x.testBit 3).toNat + (x.testBit 2).toNat + (x.testBit 1).toNat + (x.testBit 0).toNat
theorem pop_le (x : Nat) : pop x ≤ 8 := by
  have h (b : Bool) : b.toNat ≤ 1 := by cases b <;> simp
  have h0 := h (x.testBit 0); have h1 := h (x.testBit 1); have h2 := h (x.testBit 2); have h3 := h (x.testBit 3); have h4 := h (x.testBit 4); have h5 := h (x.testBit 5); have h6 := h (x.testBit 6); have h7 := h (x.testBit 7)
  unfold pop
  omega
def cnt (n k : Nat) : Nat := (listTo n k).length
theorem cnt_succ (n k : Nat) : cnt n (k + 1) = cnt n k + (hasN n k).toNat := by
  unfold cnt
  rw [listTo_succ, List.length_append]
  cases hasN n k <;> rfl
theorem cnt_byte (n i : Nat) (hi : i < 30) : cnt n (8 * (i + 1)) = cnt n (8 * i) + pop (byte n i) := by
  have h (r : Nat) (hr : r < 8) : hasN n (8 * i + r) = (byte n i).testBit (7 - r) := by
    rw [← has_bit n (8 * i + r) (by omega), show (8 * i + r) / 8 = i by omega, show 7 - (8 * i + r) % 8 = 7 - r by omega]
  rw [show 8 * (i + 1) = 8 * i + 7 + 1 by omega, cnt_succ, cnt_succ, cnt_succ, cnt_succ, cnt_succ, cnt_succ, cnt_succ, cnt_succ, h 7 (by omega), h 6 (by omega), h 5 (by omega), h 4 (by omega), h 3 (by omega), h 2 (by omega), h 1 (by omega), show hasN n (8 * i) = hasN n (8 * i + 0) from rfl, h 0 (by omega)]
  unfold pop
  simp only [Nat.sub_zero, Nat.reduceSub]
  omega
theorem cnt_le (n : Nat) : ∀ k, cnt n k ≤ k
  | 0 => by simp [cnt, listTo]
  | k + 1 => by
    have := cnt_le n k
    rw [cnt_succ]
    cases hasN n k <;> simp <;> omega
/-- The greatest category below k. -/
def mostTo (n : Nat) : Nat → Int
  | 0 => -1
  | k + 1 => if hasN n k then k else mostTo n k
theorem mostTo_ge (n : Nat) : ∀ k, -1 ≤ mostTo n k ∧ mostTo n k < k
  | 0 => by simp [mostTo]
  | k + 1 => by
    have := mostTo_ge n k
    simp only [mostTo]
    split <;> omega
theorem mostTo_list (n : Nat) : ∀ k, mostTo n k = (listTo n k).getLastD (-1)
  | 0 => by simp [mostTo, listTo]
  | k + 1 => by
    have := mostTo_list n k
    rw [listTo_succ]
    simp only [mostTo]
    cases hasN n k
    · simpa using this
    · simp
end C

theorem ret_i64 {a b : Int} (h : a = b) : Ending.returned (.int .i64 a) = .returned (.int .i64 b) := by rw [h]
theorem tab_all (T : ByteArray) (hT : T.size = 256) (f : Nat → Nat) (hk : (List.range 256).all (fun x => (T.data.toList.getD x 0).toNat == f x) = true) (x : Nat) (hx : x < 256) (h : x < T.size) : (T[x]'h).toNat = f x := by
  have h1 := eq_of_beq (List.all_eq_true.1 hk x (List.mem_range.2 hx))
  rw [← h1, List.getD_eq_getElem?_getD, List.getElem?_eq_getElem (by rw [Array.length_toList]; exact h)]
  rfl
theorem run_index_set (n i : Nat) (w : World) (hi : i < 30) : (Instr.index 27 (.agg (C.cv n)) (.int .i64 i)).run Try.prog w = .ok (.int .u8 (C.byte n i)) w := by
  have hg : (C.cv n)[i]? = some (.int .u8 (C.byte n i)) := C.bv_get _ i hi
  have h0 : (0 : Int) ≤ i ∧ (i : Int) < 30 := by omega
  simp [Instr.index, run_underlying Try.underlying27, asIntOf, h0, go_sem, hg]
  intro h
  omega

end Go.Proofs.Ytdipoaekdafbeaa
