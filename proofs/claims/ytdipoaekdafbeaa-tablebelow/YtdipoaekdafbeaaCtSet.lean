/- The walks of what puts categories into a set, and takes them out. -/
import Derived.Test.YtdipoaekdafbeaaCtMem
namespace Go.Proofs.Ytdipoaekdafbeaa
open Go.RowKit
set_option maxRecDepth 100000
set_option linter.unusedVariables false

/-- A row of integers that a slice leads to. -/
def IRow (w : World) (a : Option Addr) (l : List Int) : Prop := 0 < l.length → ∃ b off, a = some ⟨b, off, none⟩ ∧ b < w.heap.size ∧ ∀ k, k < l.length → w.cell? ⟨b, off + k, none⟩ = some (.int .i64 (l.getD k 0))
theorem IRow.then {W wr : World} {a : Option Addr} {l : List Int} (h : IRow W a l) (hb : Below W.heap.size W wr) (k : Nat) (hk : k < l.length) : ∃ b off, a = some ⟨b, off, none⟩ ∧ b < W.heap.size ∧ wr.cell? ⟨b, off + k, none⟩ = some (.int .i64 (l.getD k 0)) := by
  obtain ⟨b, off, ha, hlt, hc⟩ := h (by omega)
  exact ⟨b, off, ha, hlt, (hb.cell (p := ⟨b, off + k, none⟩) hlt).trans (hc k hk)⟩

namespace C
/-- A category of any number. -/
def oneI (k : Int) : Nat := if 0 ≤ k then one k.toNat else 0
def plus (n : Nat) (l : List Int) : Nat := l.foldl (fun m k => m ||| oneI k) n
def less1 (n : Nat) (k : Int) : Nat := n ^^^ (n &&& oneI k)
def less (n : Nat) (l : List Int) : Nat := l.foldl less1 n
theorem getD_take (l : List Int) (k : Nat) (h : k < l.length) : l.take (k + 1) = l.take k ++ [l.getD k 0] := by
  rw [List.take_succ_eq_append_getElem h, List.getD_eq_getElem?_getD, List.getElem?_eq_getElem h]; rfl
theorem plus_take (n : Nat) (l : List Int) (k : Nat) (h : k < l.length) : plus n (l.take (k + 1)) = plus n (l.take k) ||| oneI (l.getD k 0) := by
  rw [getD_take l k h]; unfold plus; rw [List.foldl_append]; rfl
theorem less_take (n : Nat) (l : List Int) (k : Nat) (h : k < l.length) : less n (l.take (k + 1)) = less1 (less n (l.take k)) (l.getD k 0) := by
  rw [getD_take l k h]; unfold less; rw [List.foldl_append]; rfl
theorem oneI_in (k : Nat) : oneI k = one k := by unfold oneI; rw [if_pos (by omega)]; rfl
theorem oneI_out (k : Int) (h : k < 0 ∨ 239 < k) : oneI k = 0 := by
  unfold oneI
  split
  · unfold one; rw [if_neg (by omega)]
  · rfl
theorem less1_in (n k : Nat) : less1 n k = n ^^^ (n &&& one k) := by unfold less1; rw [oneI_in]
theorem cv_less (n k : Nat) (h : k < 240) : (cv n).setIfInBounds (k / 8) (.int .u8 ((byte n (k / 8) ^^^ (byte n (k / 8) &&& 2 ^ (7 - k % 8)) : Nat))) = cv (n ^^^ (n &&& one k)) := by
  unfold cv
  rw [bv_set]
  apply byte_ext
  · intro i hi
    split
    · exact Nat.xor_lt_two_pow (n := 8) (byte_lt _ _) (Nat.lt_of_le_of_lt Nat.and_le_left (byte_lt _ _))
    · exact byte_lt _ _
  · intro i b hi hb
    unfold one
    rw [if_pos h, Nat.testBit_xor, Nat.testBit_and, Nat.testBit_two_pow]
    split
    · rename_i e
      subst e
      rw [Nat.testBit_xor, Nat.testBit_and, byte_bit, Nat.testBit_two_pow]
      simp only [hb, decide_true, Bool.true_and]
      rw [show decide (7 - k % 8 = b) = decide (239 - k = 8 * (29 - k / 8) + b) by rw [decide_eq_decide]; omega]
    · rename_i e
      rw [byte_bit]
      simp only [hb, decide_true, Bool.true_and]
      rw [decide_eq_false (by omega)]
      simp
theorem less1_out (n : Nat) (k : Int) (h : k < 0 ∨ 239 < k) : less1 n k = n := by unfold less1; rw [oneI_out k h]; simp
theorem zero30 : (#[Value.int .u8 0, Value.int .u8 0, Value.int .u8 0, Value.int .u8 0, Value.int .u8 0, Value.int .u8 0, Value.int .u8 0, Value.int .u8 0, Value.int .u8 0, Value.int .u8 0, Value.int .u8 0, Value.int .u8 0, Value.int .u8 0, Value.int .u8 0, Value.int .u8 0, Value.int .u8 0, Value.int .u8 0, Value.int .u8 0, Value.int .u8 0, Value.int .u8 0, Value.int .u8 0, Value.int .u8 0, Value.int .u8 0, Value.int .u8 0, Value.int .u8 0, Value.int .u8 0, Value.int .u8 0, Value.int .u8 0, Value.int .u8 0, Value.int .u8 0] : Array Value) = cv 0 := by kernel_rfl
end C

theorem u8_andNot (x r : Nat) (hx : x < 256) (hr : r < 8) : bits .andNot .u8 (x : Int) ((2 ^ r : Nat) : Int) = ((x ^^^ (x &&& 2 ^ r) : Nat) : Int) := by
  have h : (List.range 256).all (fun x => (List.range 8).all fun r => bits .andNot .u8 (x : Int) ((2 ^ r : Nat) : Int) == ((x ^^^ (x &&& 2 ^ r) : Nat) : Int)) = true := by kernel_rfl
  exact eq_of_beq (List.all_eq_true.1 (List.all_eq_true.1 h x (List.mem_range.2 hx)) r (List.mem_range.2 hr))

set_option maxHeartbeats 4000000 in
theorem With_any (n : Nat) (a : Option Addr) (cap : Nat) (l : List Int) (w : World) (h : IRow w a l) (hl : l.length ≤ maxLen) :
    Calls Try.prog 55 #[.agg (C.cv n), .slice a l.length cap] w fun e w' => e = .returned (.agg (C.cv (C.plus n l))) ∧ Below w.heap.size w w' := by
  unfold maxLen at hl
  have Hrow := Lib.hid h
  clear h
  have H0 := Lib.hid ((SetAt.new w n).alloc (.cells (C.cv 0) 27))
  have H1 := Lib.hid (SetAt.new (w.alloc (.cells (C.cv n) 27)) 0)
  generalize hX : C.cv n = X at *
  have HX := Lib.hid hX
  clear hX
  go_enter Try.func55, Try.ntmps55
  go_wp2
  rw [C.zero30]
  go_loopw [11] (fun i wr => ∃ k : Nat, k ≤ l.length ∧ i = .int .i64 k ∧ Below w.heap.size w wr ∧ SetAt wr w.heap.size (C.plus n (l.take k)) ∧ SetAt wr (w.heap.size + 1) 0) (fun i _ => l.length - (intOf i).toNat)
  case atStart => exact ⟨0, Nat.zero_le _, rfl, ((Below.refl _ w).alloc (Nat.le_refl _) _).alloc (by simp) _, H0.out, by simpa using H1.out⟩
  case round =>
    obtain ⟨k, hk, rfl, hb, hs, hz⟩ := hrel
    by_cases hlt : k < l.length
    · obtain ⟨b, off, rfl, hbl, c0⟩ := Hrow.out.then hb k hlt
      have Ht := Lib.hid (C.plus_take n l k hlt)
      generalize l.getD k 0 = z at *
      generalize C.plus n (l.take k) = m at *
      have HS := Lib.hid hs
      have HZ := Lib.hid hz
      clear H0 H1
      rcases has_cases m z with ⟨hc, _⟩ | ⟨j, hj, rfl, _⟩
      · have Ho := Lib.hid (C.oneI_out z hc)
        clear hs hz
        go_wp2_with fail
        refine (isCat_no z _ hc).mono ?_
        rintro e w1 ⟨rfl, rfl⟩
        go_wp2
        go_roundw
        case rel => exact ⟨k + 1, by omega, by go_num, hb, by rw [Ht.out, Ho.out]; simpa using HS.out, HZ.out⟩
        case measure => simp [intOf]; omega
      · have hce := hs.cell (j / 8) (by omega)
        have hfr := hs.frozen (j / 8)
        have hu := u8_or (C.byte m (j / 8)) (2 ^ (7 - j % 8)) (C.byte_lt _ _) (pow_lt8 _ (by omega))
        have Hc := Lib.hid (C.cv_with m j hj)
        have Hp := Lib.hid (fun w => place_is j _ _ w hj rfl rfl)
        have Hcell := Lib.hid (fun v => heap_setCell_same wr w.heap.size (j / 8) _ _ v hs)
        have hi : j / 8 < 30 := by omega
        clear hs hz
        generalize C.byte m (j / 8) = x at *
        generalize 2 ^ (7 - j % 8) = y at *
        generalize j / 8 = i at *
        generalize x ||| y = v at *
        go_wp2_with fail
        refine (isCat_yes j _ hj).mono ?_
        rintro e w1 ⟨rfl, rfl⟩
        go_wp2_with fail
        refine (Hp.out _).mono ?_
        rintro e w1 ⟨rfl, q, rfl⟩
        go_wp2
        go_roundw
        case rel => exact ⟨k + 1, by omega, by go_num, ((below_drewN hb q).setCell (Nat.le_refl _) _), by rw [Ht.out, C.oneI_in]; unfold SetAt; rw [← Hc.out]; exact Hcell.out _, (HZ.out.drewN q).only (only_cell _ _ _ _) (by omega)⟩
        case measure => simp [intOf]; omega
    · have e : l.take k = l := List.take_of_length_le (by omega)
      rw [e] at hs
      have HS := Lib.hid hs
      have HZ := Lib.hid hz
      clear hs hz e H0 H1
      go_wp2_with (first | (refine load_set rfl rfl rfl HS.out ?_) | (refine store_set rfl rfl rfl rfl HZ.out ?_; intro w2 hs2 ho2; have HS2 := Lib.hid hs2; have HO2 := Lib.hid ho2; clear hs2 ho2))
      exact ret_set rfl rfl rfl HS2.out ⟨rfl, hb.trans (HO2.out.below (by omega))⟩

#print axioms With_any
end Go.Proofs.Ytdipoaekdafbeaa
