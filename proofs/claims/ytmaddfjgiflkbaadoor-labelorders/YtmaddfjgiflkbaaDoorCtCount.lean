/- The walks of what counts a set, and asks for its greatest one. -/
import Derived.Test.YtmaddfjgiflkbaaDoorCtList
namespace Go.Proofs.YtmaddfjgiflkbaaDoor
set_option maxRecDepth 100000
open Go.RowKit
set_option maxRecDepth 100000
set_option linter.unusedVariables false

namespace C
/-- How many bits a byte has. -/
def pop (x : Nat) : Nat := (x.testBit 7).toNat + (x.testBit 6).toNat + (x.testBit 5).toNat + (x.testBit 4).toNat + (x.testBit 3).toNat + (x.testBit 2).toNat + (x.testBit 1).toNat + (x.testBit 0).toNat
theorem pop_le (x : Nat) : pop x ≤ 8 := by
  have h (b : Bool) : b.toNat ≤ 1 := by cases b <;> simp
  have h0 := h (x.testBit 0); have h1 := h (x.testBit 1); have h2 := h (x.testBit 2); have h3 := h (x.testBit 3); have h4 := h (x.testBit 4); have h5 := h (x.testBit 5); have h6 := h (x.testBit 6); have h7 := h (x.testBit 7)
  unfold pop
  omega
def cnt (n k : Nat) : Nat := (listTo n k).length
theorem cnt_succ (n k : Nat) : cnt n (k + 1) = cnt n k + (hasN n k).toNat := by
  unfold cnt
  rw [listTo_succ, List.length_append]
  cases hasN n k <;> rfl
theorem cnt_byte (n i : Nat) (hi : i < 30) : cnt n (8 * (i + 1)) = cnt n (8 * i) + pop (byte n i) := by
  have h (r : Nat) (hr : r < 8) : hasN n (8 * i + r) = (byte n i).testBit (7 - r) := by
    rw [← has_bit n (8 * i + r) (by omega), show (8 * i + r) / 8 = i by omega, show 7 - (8 * i + r) % 8 = 7 - r by omega]
  rw [show 8 * (i + 1) = 8 * i + 7 + 1 by omega, cnt_succ, cnt_succ, cnt_succ, cnt_succ, cnt_succ, cnt_succ, cnt_succ, cnt_succ, h 7 (by omega), h 6 (by omega), h 5 (by omega), h 4 (by omega), h 3 (by omega), h 2 (by omega), h 1 (by omega), show hasN n (8 * i) = hasN n (8 * i + 0) from rfl, h 0 (by omega)]
  unfold pop
  simp only [Nat.sub_zero, Nat.reduceSub]
  omega
theorem cnt_le (n : Nat) : ∀ k, cnt n k ≤ k
  | 0 => by simp [cnt, listTo]
  | k + 1 => by
    have := cnt_le n k
    rw [cnt_succ]
    cases hasN n k <;> simp <;> omega
/-- The greatest category below k. -/
def mostTo (n : Nat) : Nat → Int
  | 0 => -1
  | k + 1 => if hasN n k then k else mostTo n k
theorem mostTo_ge (n : Nat) : ∀ k, -1 ≤ mostTo n k ∧ mostTo n k < k
  | 0 => by simp [mostTo]
  | k + 1 => by
    have := mostTo_ge n k
    simp only [mostTo]
    split <;> omega
theorem mostTo_list (n : Nat) : ∀ k, mostTo n k = (listTo n k).getLastD (-1)
  | 0 => by simp [mostTo, listTo]
  | k + 1 => by
    have := mostTo_list n k
    rw [listTo_succ]
    simp only [mostTo]
    cases hasN n k
    · simpa using this
    · simp
end C

theorem ret_i64 {a b : Int} (h : a = b) : Ending.returned (.int .i64 a) = .returned (.int .i64 b) := by rw [h]
theorem tab_all (T : ByteArray) (hT : T.size = 256) (f : Nat → Nat) (hk : (List.range 256).all (fun x => (T.data.toList.getD x 0).toNat == f x) = true) (x : Nat) (hx : x < 256) (h : x < T.size) : (T[x]'h).toNat = f x := by
  have h1 := eq_of_beq (List.all_eq_true.1 hk x (List.mem_range.2 hx))
  rw [← h1, List.getD_eq_getElem?_getD, List.getElem?_eq_getElem (by rw [Array.length_toList]; exact h)]
  rfl
theorem ones_any (x : Nat) (w : World) (h : x < 256) :
    Calls Tryd.prog 50 #[.int .u8 x] w fun e w' => e = .returned (.int .i64 (C.pop x)) ∧ w = w' := by
  go_enter Tryd.func50, Tryd.ntmps50
  go_wp2
  go_ret
  refine ⟨ret_i64 ?_, rfl⟩
  have hp := C.pop_le x
  exact (congrArg (fun m : Nat => wrap64 (m : Int)) (tab_all _ rfl C.pop (by kernel_rfl) x h _)).trans (IntWalk.wrap64_in _ (by omega))

theorem run_index_set (n i : Nat) (w : World) (hi : i < 30) : (Instr.index 23 (.agg (C.cv n)) (.int .i64 i)).run Tryd.prog w = .ok (.int .u8 (C.byte n i)) w := by
  have hg : (C.cv n)[i]? = some (.int .u8 (C.byte n i)) := C.bv_get _ i hi
  have h0 : (0 : Int) ≤ i ∧ (i : Int) < 30 := by omega
  simp [Instr.index, run_underlying Tryd.underlying23, asIntOf, h0, go_sem, hg]
  intro h
  omega

set_option maxHeartbeats 4000000 in
theorem Count_any (n : Nat) (w : World) :
    Calls Tryd.prog 22 #[.agg (C.cv n)] w fun e w' => e = .returned (.int .i64 (C.list n).length) ∧ Below w.heap.size w w' := by
  have H0 := Lib.hid (SetAt.new w n)
  have hb : Below w.heap.size w (w.alloc (.cells (C.cv n) 23)) := (Below.refl _ w).alloc (Nat.le_refl _) _
  go_enter Tryd.func22, Tryd.ntmps22
  go_wp2_with (refine load_set rfl rfl rfl H0.out ?_)
  clear H0
  go_loopw [3, 7] (fun c i wr => ∃ k : Nat, k ≤ 30 ∧ i = .int .i64 k ∧ c = .int .i64 (C.cnt n (8 * k)) ∧ Below w.heap.size w wr) (fun _ i _ => 30 - (intOf i).toNat)
  case atStart => exact ⟨0, by omega, rfl, rfl, hb⟩
  case round =>
    obtain ⟨k, hk, rfl, rfl, hbw⟩ := hrel
    clear hb
    by_cases hlt : k < 30
    · have hix := fun w => run_index_set n k w hlt
      have Hc := Lib.hid (C.cnt_byte n k hlt)
      have hc := C.cnt_le n (8 * k)
      have hx := C.byte_lt n k
      have hp := C.pop_le (C.byte n k)
      have hk' : (k : Int) < 30 := by omega
      generalize C.byte n k = x at *
      generalize C.cnt n (8 * k) = c at *
      go_wp2_with fail
      refine (ones_any x _ hx).mono ?_
      rintro e w1 ⟨rfl, rfl⟩
      clear hix
      generalize C.pop x = p at *
      go_wp2
      go_roundw
      case rel => exact ⟨k + 1, by omega, by go_num, by rw [Hc.out]; go_num, hbw⟩
      case measure => simp [intOf]; omega
    · obtain rfl : k = 30 := by omega
      go_wp2
      go_ret
      exact ⟨rfl, hbw⟩

set_option maxHeartbeats 4000000 in
theorem Most_any (n : Nat) (w : World) :
    Calls Tryd.prog 23 #[.agg (C.cv n)] w fun e w' => e = .returned (.int .i64 (C.mostTo n 240)) ∧ Below w.heap.size w w' := by
  have H0 := Lib.hid (SetAt.new w n)
  go_enter Tryd.func23, Tryd.ntmps23
  go_wp2
  go_loopw [3, 5] (fun c i wr => ∃ k : Nat, k ≤ 240 ∧ i = .int .i64 k ∧ c = .int .i64 (C.mostTo n k) ∧ SetAt wr w.heap.size n ∧ Below w.heap.size w wr) (fun _ i _ => 240 - (intOf i).toNat)
  case atStart => exact ⟨0, by omega, rfl, rfl, H0.out, (Below.refl _ w).alloc (Nat.le_refl _) _⟩
  case round =>
    obtain ⟨k, hk, rfl, rfl, hs, hb⟩ := hrel
    clear H0
    have hbs := hb.size
    by_cases hlt : k < 240
    · have hk' : (k : Int) < 240 := by omega
      have Hm := Lib.hid (show C.mostTo n (k + 1) = if C.hasN n k then (k : Int) else C.mostTo n k from rfl)
      generalize C.mostTo n k = c at *
      have HS := Lib.hid hs
      have hsl := hs.lt
      clear hs
      cases hq : C.hasN n k
      all_goals
        have Hq := Lib.hid hq
        go_wp2_with (refine load_set rfl rfl rfl HS.out ?_)
        refine (Has_in n k _ hlt _ hq).mono ?_
        rintro e w2 ⟨rfl, hb2⟩
        have hbw := hb.trans (hb2.mono hbs)
        have HS2 := Lib.hid (HS.out.below hb2 hsl)
        clear hb2 hq hb
        go_wp2
        go_roundw
        case rel => exact ⟨k + 1, by omega, by go_num, by rw [Hm.out, Hq.out]; rfl, HS2.out, hbw⟩
        case measure => simp [intOf]; omega
    · obtain rfl : k = 240 := by omega
      clear hs
      go_wp2
      go_ret
      exact ⟨rfl, hb⟩
#print axioms Count_any
#print axioms Most_any
end Go.Proofs.YtmaddfjgiflkbaaDoor
