/- The walks of the set of some, of the document's Put, and of two lists held against one another. -/
import Derived.Test.YtdipoaekdafbeaaCtUnion
import Derived.Test.YtdipoaekdafbeaaQTail
namespace Go.Proofs.Ytdipoaekdafbeaa
open Go.RowKit
set_option maxRecDepth 100000
set_option linter.unusedVariables false

namespace C
def right (l : List Int) : Bool := l.all fun k => decide (0 ≤ k ∧ k ≤ 239)
theorem right_take (l : List Int) (k : Nat) (h : k < l.length) (ha : right (l.take k) = true) : right (l.take (k + 1)) = decide (0 ≤ l.getD k 0 ∧ l.getD k 0 ≤ 239) := by
  rw [getD_take l k h]
  unfold right at *
  rw [List.all_append, ha]
  simp
theorem right_false (l : List Int) (k : Nat) (h : k < l.length) (hc : l.getD k 0 < 0 ∨ 239 < l.getD k 0) : right l = false := by
  unfold right
  rw [List.all_eq_false]
  refine ⟨l.getD k 0, ?_, ?_⟩
  · rw [List.getD_eq_getElem?_getD, List.getElem?_eq_getElem h]; exact List.getElem_mem h
  · rw [decide_eq_false (by omega)]; simp
end C

namespace C
def put (n : Nat) (k : Int) (b : Bool) : Nat := if b then n ||| oneI k else less1 n k
theorem put_out (n : Nat) (k : Int) (b : Bool) (h : k < 0 ∨ 239 < k) : put n k b = n := by
  unfold put
  cases b
  · exact less1_out n k h
  · simp [oneI_out k h]
theorem one_bit (k j : Nat) (h : k < 240) : (one k).testBit j = decide (239 - k = j) := by
  unfold one; rw [if_pos h, Nat.testBit_two_pow]
theorem put_same (n k : Nat) (b : Bool) (h : k < 240) (hb : hasN n k = b) : put n k b = n := by
  have ht : n.testBit (239 - k) = b := by unfold hasN at hb; simpa [h] using hb
  unfold put
  cases b
  · apply Nat.eq_of_testBit_eq
    intro j
    rw [if_neg (by simp), less1_in, Nat.testBit_xor, Nat.testBit_and, one_bit k j h]
    by_cases e : 239 - k = j
    · subst e; simp [ht]
    · simp [e]
  · apply Nat.eq_of_testBit_eq
    intro j
    rw [if_pos rfl, oneI_in, Nat.testBit_or, one_bit k j h]
    by_cases e : 239 - k = j
    · subst e; simp [ht]
    · simp [e]
theorem add_bit (x r : Nat) (hx : x < 256) (hr : r < 8) (hb : x.testBit r = false) : x + 2 ^ r = x ||| 2 ^ r := by
  have : (List.range 256).all (fun x => (List.range 8).all fun r => x.testBit r || x + 2 ^ r == x ||| 2 ^ r) = true := by kernel_rfl
  have h := List.all_eq_true.1 (List.all_eq_true.1 this x (List.mem_range.2 hx)) r (List.mem_range.2 hr)
  rw [hb] at h
  simpa using h
theorem sub_bit (x r : Nat) (hx : x < 256) (hr : r < 8) (hb : x.testBit r = true) : 2 ^ r ≤ x ∧ x - 2 ^ r = x ^^^ (x &&& 2 ^ r) := by
  have : (List.range 256).all (fun x => (List.range 8).all fun r => !x.testBit r || (decide (2 ^ r ≤ x) && x - 2 ^ r == x ^^^ (x &&& 2 ^ r))) = true := by kernel_rfl
  have h := List.all_eq_true.1 (List.all_eq_true.1 this x (List.mem_range.2 hx)) r (List.mem_range.2 hr)
  rw [hb] at h
  simpa using h
end C

set_option maxHeartbeats 4000000 in
theorem Put_yes (n k : Nat) (w : World) (h : k < 240) (hh : C.hasN n k = false) :
    Calls Try.prog 32 #[.agg (C.cv n), .int .i64 k, .bool true] w fun e w' => e = .returned (.agg (C.cv (C.put n k true))) ∧ Below w.heap.size w w' := by
  have h0 := (SetAt.new w n).alloc (.cells (C.cv 0) 27)
  have h1 : SetAt ((w.alloc (.cells (C.cv n) 27)).alloc (.cells (C.cv 0) 27)) (w.heap.size + 1) 0 := by simpa using SetAt.new (w.alloc (.cells (C.cv n) 27)) 0
  have H0 := Lib.hid h0
  have hb0 : Below w.heap.size w ((w.alloc (.cells (C.cv n) 27)).alloc (.cells (C.cv 0) 27)) := ((Below.refl _ w).alloc (Nat.le_refl _) _).alloc (by simp) _
  have HH := Lib.hid hh
  have hk1 : ¬ (239 : Int) < k := by omega
  have hk0 : decide ((k : Int) < 0) = false := by simp
  have HC := Lib.hid (C.cv_with n k h)
  have HP : Hid (C.put n k true = n ||| C.one k) := Lib.hid (by unfold C.put; rw [if_pos rfl, C.oneI_in])
  have HV : Hid (((C.byte n (k / 8) : Nat) + (2 : Int) ^ (7 - k % 8) % 256) % 256 = ((C.byte n (k / 8) ||| 2 ^ (7 - k % 8) : Nat) : Int)) := by
    have hx := C.byte_lt n (k / 8)
    have hp := pow_lt8 (7 - k % 8) (by omega)
    have e2 : (2 : Int) ^ (7 - k % 8) = ((2 ^ (7 - k % 8) : Nat) : Int) := by simp
    have hbit : (C.byte n (k / 8)).testBit (7 - k % 8) = false := (C.has_bit n k h).trans hh
    have ha := C.add_bit _ _ hx (by omega) hbit
    have hlt : C.byte n (k / 8) ||| 2 ^ (7 - k % 8) < 2 ^ 8 := Nat.or_lt_two_pow hx hp
    rw [e2, ← ha]
    rw [← ha] at hlt
    generalize 2 ^ (7 - k % 8) = t at *
    exact Lib.hid (by omega)
  go_enter Try.func32, Try.ntmps32
  go_wp2_with (rw [C.zero30]; refine load_set rfl rfl rfl H0.out ?_)
  refine (RHas_in n k _ h false HH.out).mono ?_
  rintro e w1 ⟨rfl, hb1⟩
  have hs1 := h0.below hb1 (by simp; omega)
  have hz1 := h1.below hb1 (by simp)
  have hb := hb0.trans (hb1.mono hb0.size)
  clear hb1 hb0 H0 h0 h1 hh
  have hce := hs1.cell (k / 8) (by omega)
  have hfr := hs1.frozen (k / 8)
  have hi : k / 8 < 30 := by omega
  go_wp2
  refine region_quiet_tail 11 (by kernel_rfl) (by kernel_rfl) ?_
  simp only [List.take_succ_cons, List.take_zero, List.drop_succ_cons, List.drop_zero]
  repeat (go_big_quiet_step (fail))
  refine wpQuiet_nil ?_
  rintro _ ⟨nr, rfl⟩
  have hb2 := below_drewN hb nr
  have hs2 := hs1.drewN nr
  have hz2 := hz1.drewN nr
  clear hce hfr hs1 hz1 hb
  generalize w1.drewN nr = w2 at *
  have hce := hs2.cell (k / 8) (by omega)
  have hfr := hs2.frozen (k / 8)
  have HS3 : Hid (∀ v, w2.heap.size = w2.heap.size → v = Value.int .u8 ((C.byte n (k / 8) ||| 2 ^ (7 - k % 8) : Nat) : Int) → SetAt (w2.setCell ⟨w.heap.size, k / 8, none⟩ v) w.heap.size (C.put n k true)) := Lib.hid (fun v _ hv => by
    rw [HP.out]; unfold SetAt; rw [← HC.out, hv]; exact heap_setCell_same w2 w.heap.size (k / 8) _ _ _ hs2)
  have HZ3 := Lib.hid (fun v => hz2.only (only_cell w2 w.heap.size (k / 8) v) (by omega))
  rw [HV.out]
  have HB3 := Lib.hid (fun v => hb2.setCell (p := ⟨w.heap.size, k / 8, none⟩) (Nat.le_refl _) v)
  clear hs2 hz2 HC HP HV
  generalize C.byte n (k / 8) ||| 2 ^ (7 - k % 8) = v at *
  go_wp2_with (first | (refine load_set rfl rfl rfl (HS3.out _ rfl rfl) ?_) | (refine store_set rfl rfl rfl rfl (HZ3.out _) ?_; intro w3 hs3 ho3; have HS4 := Lib.hid hs3; have HO4 := Lib.hid ho3; clear hs3 ho3))
  exact ret_set rfl rfl rfl HS4.out ⟨rfl, (HB3.out _).trans (HO4.out.below (by omega))⟩

set_option maxHeartbeats 4000000 in
theorem Put_no (n k : Nat) (w : World) (h : k < 240) (hh : C.hasN n k = true) :
    Calls Try.prog 32 #[.agg (C.cv n), .int .i64 k, .bool false] w fun e w' => e = .returned (.agg (C.cv (C.put n k false))) ∧ Below w.heap.size w w' := by
  have h0 := (SetAt.new w n).alloc (.cells (C.cv 0) 27)
  have h1 : SetAt ((w.alloc (.cells (C.cv n) 27)).alloc (.cells (C.cv 0) 27)) (w.heap.size + 1) 0 := by simpa using SetAt.new (w.alloc (.cells (C.cv n) 27)) 0
  have H0 := Lib.hid h0
  have hb0 : Below w.heap.size w ((w.alloc (.cells (C.cv n) 27)).alloc (.cells (C.cv 0) 27)) := ((Below.refl _ w).alloc (Nat.le_refl _) _).alloc (by simp) _
  have HH := Lib.hid hh
  have hk1 : ¬ (239 : Int) < k := by omega
  have hk0 : decide ((k : Int) < 0) = false := by simp
  have HC := Lib.hid (C.cv_less n k h)
  have HP : Hid (C.put n k false = n ^^^ (n &&& C.one k)) := Lib.hid (by unfold C.put; rw [if_neg (by simp), C.less1_in])
  have HV : Hid (((C.byte n (k / 8) : Nat) - (2 : Int) ^ (7 - k % 8) % 256) % 256 = ((C.byte n (k / 8) ^^^ (C.byte n (k / 8) &&& 2 ^ (7 - k % 8)) : Nat) : Int)) := by
    have hx := C.byte_lt n (k / 8)
    have hp := pow_lt8 (7 - k % 8) (by omega)
    have e2 : (2 : Int) ^ (7 - k % 8) = ((2 ^ (7 - k % 8) : Nat) : Int) := by simp
    have hbit : (C.byte n (k / 8)).testBit (7 - k % 8) = true := (C.has_bit n k h).trans hh
    have ha := C.sub_bit _ _ hx (by omega) hbit
    have hlt := ha.1
    rw [e2, ← ha.2]
    skip
    generalize 2 ^ (7 - k % 8) = t at *
    exact Lib.hid (by omega)
  go_enter Try.func32, Try.ntmps32
  go_wp2_with (rw [C.zero30]; refine load_set rfl rfl rfl H0.out ?_)
  refine (RHas_in n k _ h true HH.out).mono ?_
  rintro e w1 ⟨rfl, hb1⟩
  have hs1 := h0.below hb1 (by simp; omega)
  have hz1 := h1.below hb1 (by simp)
  have hb := hb0.trans (hb1.mono hb0.size)
  clear hb1 hb0 H0 h0 h1 hh
  have hce := hs1.cell (k / 8) (by omega)
  have hfr := hs1.frozen (k / 8)
  have hi : k / 8 < 30 := by omega
  go_wp2
  refine region_quiet_tail 11 (by kernel_rfl) (by kernel_rfl) ?_
  simp only [List.take_succ_cons, List.take_zero, List.drop_succ_cons, List.drop_zero]
  repeat (go_big_quiet_step (fail))
  refine wpQuiet_nil ?_
  rintro _ ⟨nr, rfl⟩
  have hb2 := below_drewN hb nr
  have hs2 := hs1.drewN nr
  have hz2 := hz1.drewN nr
  clear hce hfr hs1 hz1 hb
  generalize w1.drewN nr = w2 at *
  have hce := hs2.cell (k / 8) (by omega)
  have hfr := hs2.frozen (k / 8)
  have HS3 : Hid (∀ v, w2.heap.size = w2.heap.size → v = Value.int .u8 ((C.byte n (k / 8) ^^^ (C.byte n (k / 8) &&& 2 ^ (7 - k % 8)) : Nat) : Int) → SetAt (w2.setCell ⟨w.heap.size, k / 8, none⟩ v) w.heap.size (C.put n k false)) := Lib.hid (fun v _ hv => by
    rw [HP.out]; unfold SetAt; rw [← HC.out, hv]; exact heap_setCell_same w2 w.heap.size (k / 8) _ _ _ hs2)
  have HZ3 := Lib.hid (fun v => hz2.only (only_cell w2 w.heap.size (k / 8) v) (by omega))
  rw [HV.out]
  have HB3 := Lib.hid (fun v => hb2.setCell (p := ⟨w.heap.size, k / 8, none⟩) (Nat.le_refl _) v)
  clear hs2 hz2 HC HP HV
  generalize C.byte n (k / 8) ^^^ (C.byte n (k / 8) &&& 2 ^ (7 - k % 8)) = v at *
  go_wp2_with (first | (refine load_set rfl rfl rfl (HS3.out _ rfl rfl) ?_) | (refine store_set rfl rfl rfl rfl (HZ3.out _) ?_; intro w3 hs3 ho3; have HS4 := Lib.hid hs3; have HO4 := Lib.hid ho3; clear hs3 ho3))
  exact ret_set rfl rfl rfl HS4.out ⟨rfl, (HB3.out _).trans (HO4.out.below (by omega))⟩

set_option maxHeartbeats 4000000 in
theorem Put_same (n k : Nat) (b : Bool) (w : World) (h : k < 240) (hh : C.hasN n k = b) :
    Calls Try.prog 32 #[.agg (C.cv n), .int .i64 k, .bool b] w fun e w' => e = .returned (.agg (C.cv n)) ∧ Below w.heap.size w w' := by
  have h0 := (SetAt.new w n).alloc (.cells (C.cv 0) 27)
  have h1 : SetAt ((w.alloc (.cells (C.cv n) 27)).alloc (.cells (C.cv 0) 27)) (w.heap.size + 1) 0 := by simpa using SetAt.new (w.alloc (.cells (C.cv n) 27)) 0
  have H0 := Lib.hid h0
  have hb0 : Below w.heap.size w ((w.alloc (.cells (C.cv n) 27)).alloc (.cells (C.cv 0) 27)) := ((Below.refl _ w).alloc (Nat.le_refl _) _).alloc (by simp) _
  have HH := Lib.hid hh
  have hk1 : ¬ (239 : Int) < k := by omega
  have hk0 : decide ((k : Int) < 0) = false := by simp
  clear hh
  go_enter Try.func32, Try.ntmps32
  go_wp2_with (rw [C.zero30]; refine load_set rfl rfl rfl H0.out ?_)
  refine (RHas_in n k _ h b HH.out).mono ?_
  rintro e w1 ⟨rfl, hb1⟩
  have H1 := Lib.hid (h0.below hb1 (by simp; omega))
  have Z1 := Lib.hid (h1.below hb1 (by simp))
  have hb := hb0.trans (hb1.mono hb0.size)
  clear hb1 hb0 H0 h0 h1
  go_wp2_with (first | (refine load_set rfl rfl rfl H1.out ?_) | (refine store_set rfl rfl rfl rfl Z1.out ?_; intro w3 hs3 ho3; have HS4 := Lib.hid hs3; have HO4 := Lib.hid ho3; clear hs3 ho3))
  exact ret_set rfl rfl rfl HS4.out ⟨rfl, hb.trans (HO4.out.below (by omega))⟩

set_option maxHeartbeats 4000000 in
theorem Put_out (n : Nat) (k : Int) (b : Bool) (w : World) (h : k < 0 ∨ 239 < k) :
    Calls Try.prog 32 #[.agg (C.cv n), .int .i64 k, .bool b] w fun e w' => e = .returned (.agg (C.cv n)) ∧ Below w.heap.size w w' := by
  have H1 := Lib.hid ((SetAt.new w n).alloc (.cells (C.cv 0) 27))
  have Z1 : Hid (SetAt ((w.alloc (.cells (C.cv n) 27)).alloc (.cells (C.cv 0) 27)) (w.heap.size + 1) 0) := Lib.hid (by simpa using SetAt.new (w.alloc (.cells (C.cv n) 27)) 0)
  have hb : Below w.heap.size w ((w.alloc (.cells (C.cv n) 27)).alloc (.cells (C.cv 0) 27)) := ((Below.refl _ w).alloc (Nat.le_refl _) _).alloc (by simp) _
  rcases h with h | h
  · have hk0 : decide (k < 0) = true := by simpa using h
    go_enter Try.func32, Try.ntmps32
    go_wp2_with ((try rw [C.zero30]); first | (refine load_set rfl rfl rfl H1.out ?_) | (refine store_set rfl rfl rfl rfl Z1.out ?_; intro w3 hs3 ho3; have HS4 := Lib.hid hs3; have HO4 := Lib.hid ho3; clear hs3 ho3))
    exact ret_set rfl rfl rfl HS4.out ⟨rfl, hb.trans (HO4.out.below (by omega))⟩
  · have hk0 : decide (k < 0) = false := by simp; omega
    have hk1 : decide (239 < k) = true := by simpa using h
    go_enter Try.func32, Try.ntmps32
    go_wp2_with ((try rw [C.zero30]); first | (refine load_set rfl rfl rfl H1.out ?_) | (refine store_set rfl rfl rfl rfl Z1.out ?_; intro w3 hs3 ho3; have HS4 := Lib.hid hs3; have HO4 := Lib.hid ho3; clear hs3 ho3))
    exact ret_set rfl rfl rfl HS4.out ⟨rfl, hb.trans (HO4.out.below (by omega))⟩

theorem Put_any (n : Nat) (k : Int) (b : Bool) (w : World) :
    Calls Try.prog 32 #[.agg (C.cv n), .int .i64 k, .bool b] w fun e w' => e = .returned (.agg (C.cv (C.put n k b))) ∧ Below w.heap.size w w' := by
  rcases has_cases n k with ⟨h, _⟩ | ⟨j, h, rfl, _⟩
  · rw [C.put_out n k b h]; exact Put_out n k b w h
  · by_cases hh : C.hasN n j = b
    · rw [C.put_same n j b h hh]; exact Put_same n j b w h hh
    · cases b
      · exact Put_no n j w h (by simpa using hh)
      · exact Put_yes n j w h (by simpa using hh)
#print axioms Put_any
end Go.Proofs.Ytdipoaekdafbeaa
