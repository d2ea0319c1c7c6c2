/- The walks of what asks of labels: are they right, does one dominate another one; of what tells one. -/
import Derived.Test.YtdipoaekdafbeaaLbJoin
import Derived.Test.YtdipoaekdafbeaaCtWithin
import Derived.WalkSpells
import Derived.WalkSmall
namespace Go.Proofs.Ytdipoaekdafbeaa
open Go.RowKit
set_option maxRecDepth 100000
set_option linter.unusedVariables false
namespace L
def dom (z : Int) (n : Nat) (y : Int) (m : Nat) : Bool := decide (y ≤ z) && decide (m &&& n = m)
theorem and_or (n m : Nat) : n ||| m = n ↔ m &&& n = m := by
  constructor
  · intro h
    apply Nat.eq_of_testBit_eq
    intro j
    have := congrArg (fun x => x.testBit j) h
    simp only [Nat.testBit_or] at this
    rw [Nat.testBit_and]
    cases h1 : n.testBit j <;> cases h2 : m.testBit j <;> simp_all
  · intro h
    apply Nat.eq_of_testBit_eq
    intro j
    have := congrArg (fun x => x.testBit j) h
    simp only [Nat.testBit_and] at this
    rw [Nat.testBit_or]
    cases h1 : n.testBit j <;> cases h2 : m.testBit j <;> simp_all
theorem dom_join (z : Int) (n : Nat) (y : Int) (m : Nat) : (decide (max z y = z) && decide (n ||| m = n)) = dom z n y m := by
  unfold dom
  congr 1
  · rw [decide_eq_decide]; omega
  · rw [decide_eq_decide]; exact and_or n m
def rightL (l : List (Int × Nat)) : Bool := l.all fun p => decide (0 ≤ p.1) && decide (p.1 ≤ 255)
theorem right_take (l : List (Int × Nat)) (k : Nat) (h : k < l.length) : rightL (l.take (k + 1)) = (rightL (l.take k) && (decide (0 ≤ (l.getD k (0, 0)).1) && decide ((l.getD k (0, 0)).1 ≤ 255))) := by
  rw [take_succ l k h]
  unfold rightL
  rw [List.all_append]
  simp
theorem right_no (l : List (Int × Nat)) (k : Nat) (h : k < l.length) (hn : (l.getD k (0, 0)).1 < 0 ∨ 255 < (l.getD k (0, 0)).1) : rightL l = false := by
  unfold rightL
  rw [List.all_eq_false]
  refine ⟨l.getD k (0, 0), ?_, ?_⟩
  · rw [List.getD_eq_getElem?_getD, List.getElem?_eq_getElem h]; exact List.getElem_mem h
  · rcases hn with h1 | h1
    · rw [decide_eq_false (by omega)]; simp
    · rw [decide_eq_false (show ¬ (l.getD k (0, 0)).1 ≤ 255 by omega)]; simp
end L

set_option maxHeartbeats 4000000 in
theorem Right_any (a : Option Addr) (cap : Nat) (l : List (Int × Nat)) (w : World) (h : LRow w a l) (hl : l.length ≤ 1000) :
    Calls Try.prog 52 #[.slice a l.length cap] w fun e w' => e = .returned (.bool (L.rightL l)) ∧ Below w.heap.size w w' := by
  have Hrow := Lib.hid h
  clear h
  obtain ⟨R, hR⟩ : ∃ R, L.rightL l = R := ⟨_, rfl⟩
  have HR := Lib.hid hR
  rw [hR]
  clear hR
  go_enter Try.func52, Try.ntmps52
  go_wp2
  go_loopw [7] (fun i wr => ∃ k : Nat, k ≤ l.length ∧ i = .int .i64 k ∧ L.rightL (l.take k) = true ∧ Below w.heap.size w wr) (fun i _ => l.length - (intOf i).toNat)
  case atStart => exact ⟨0, Nat.zero_le _, rfl, rfl, Below.refl _ _⟩
  case round =>
    obtain ⟨k, hk, rfl, hyes, hb⟩ := hrel
    have hbs := hb.size
    by_cases hlt : k < l.length
    · obtain ⟨b, off, rfl, hbl, hr⟩ := Hrow.out.then hb k hlt
      have Ht := Lib.hid (L.right_take l k hlt)
      have Hn := Lib.hid (L.right_no l k hlt)
      have Hy := Lib.hid hyes
      have hlt' : (k : Int) < (l.length : Int) := by omega
      generalize (l.getD k (0, 0)).1 = z at *
      generalize (l.getD k (0, 0)).2 = n at *
      have HRo := Lib.hid hr
      have HN := Lib.hid (LabAt.new wr 0 0)
      have hb1 := hb.alloc hbs (.cells (L.lv 0 0) 29)
      clear hr hb hyes
      by_cases h0 : z < 0
      · have G : Hid (R = false) := Lib.hid (by rw [← HR.out, Hn.out (.inl h0)])
        go_wp2_with (first | (refine load_mid_lab rfl rfl rfl HRo.out ?_) | (rw [L.zero31]; refine store_lab rfl rfl rfl rfl HN.out ?_; intro w2 hs2 ho2; have hlv := hs2.level; have HO2 := Lib.hid ho2; clear hs2 ho2))
        go_ret
        exact ⟨by rw [G.out]; rfl, hb1.trans (HO2.out.below hbs)⟩
      by_cases h1 : 255 < z
      · have G : Hid (R = false) := Lib.hid (by rw [← HR.out, Hn.out (.inr h1)])
        go_wp2_with (first | (refine load_mid_lab rfl rfl rfl HRo.out ?_) | (rw [L.zero31]; refine store_lab rfl rfl rfl rfl HN.out ?_; intro w2 hs2 ho2; have hlv := hs2.level; have HO2 := Lib.hid ho2; clear hs2 ho2))
        go_ret
        exact ⟨by rw [G.out]; rfl, hb1.trans (HO2.out.below hbs)⟩
      · go_wp2_with (first | (refine load_mid_lab rfl rfl rfl HRo.out ?_) | (rw [L.zero31]; refine store_lab rfl rfl rfl rfl HN.out ?_; intro w2 hs2 ho2; have hlv := hs2.level; have HO2 := Lib.hid ho2; clear hs2 ho2))
        go_roundw
        case rel => exact ⟨k + 1, by omega, by go_num, by rw [Ht.out, Hy.out, decide_eq_true (by omega), decide_eq_true (show z ≤ 255 by omega)]; rfl, hb1.trans (HO2.out.below hbs)⟩
        case measure => simp [intOf]; omega
    · obtain rfl : k = l.length := by omega
      rw [List.take_length] at hyes
      have G : Hid (R = true) := Lib.hid (by rw [← HR.out, hyes])
      have hlt' : ¬ (l.length : Int) < (l.length : Int) := by omega
      clear hyes
      go_wp2
      go_ret
      exact ⟨by rw [G.out]; rfl, hb⟩

namespace LbLow
theorem vs_cons {n : Nat} (vs : List Value) (h : vs.length = n + 1) : ∃ v r, vs = v :: r ∧ r.length = n := by
  cases vs with
  | nil => simp at h
  | cons v r => exact ⟨v, r, rfl, by simpa using h⟩
theorem vs_7 (vs : List Value) (h : vs.length = 7) : ∃ v0 v1 v2 v3 v4 v5 v6, vs = [v0, v1, v2, v3, v4, v5, v6] := by
  obtain ⟨v0, r0, rfl, h0⟩ := vs_cons vs h
  obtain ⟨v1, r1, rfl, h1⟩ := vs_cons r0 h0
  obtain ⟨v2, r2, rfl, h2⟩ := vs_cons r1 h1
  obtain ⟨v3, r3, rfl, h3⟩ := vs_cons r2 h2
  obtain ⟨v4, r4, rfl, h4⟩ := vs_cons r3 h3
  obtain ⟨v5, r5, rfl, h5⟩ := vs_cons r4 h4
  obtain ⟨v6, r6, rfl, h6⟩ := vs_cons r5 h5
  obtain rfl := List.eq_nil_of_length_eq_zero h6
  exact ⟨v0, v1, v2, v3, v4, v5, v6, rfl⟩
theorem vs_9 (vs : List Value) (h : vs.length = 9) : ∃ v0 v1 v2 v3 v4 v5 v6 v7 v8, vs = [v0, v1, v2, v3, v4, v5, v6, v7, v8] := by
  obtain ⟨v0, r0, rfl, h0⟩ := vs_cons vs h
  obtain ⟨v1, r1, rfl, h1⟩ := vs_cons r0 h0
  obtain ⟨v2, r2, rfl, h2⟩ := vs_cons r1 h1
  obtain ⟨v3, r3, rfl, h3⟩ := vs_cons r2 h2
  obtain ⟨v4, r4, rfl, h4⟩ := vs_cons r3 h3
  obtain ⟨v5, r5, rfl, h5⟩ := vs_cons r4 h4
  obtain ⟨v6, r6, rfl, h6⟩ := vs_cons r5 h5
  obtain ⟨v7, r7, rfl, h7⟩ := vs_cons r6 h6
  obtain ⟨v8, r8, rfl, h8⟩ := vs_cons r7 h7
  obtain rfl := List.eq_nil_of_length_eq_zero h8
  exact ⟨v0, v1, v2, v3, v4, v5, v6, v7, v8, rfl⟩

set_option maxHeartbeats 4000000 in
theorem _root_.Go.Proofs.Ytdipoaekdafbeaa.Dom_any (z : Int) (n : Nat) (y : Int) (m : Nat) (w : World) (hn : n < 2 ^ 240) (hm : m < 2 ^ 240) :
    Calls Try.prog 51 #[.agg (L.lv z n), .agg (L.lv y m)] w fun e w' => e = .returned (.bool (L.dom z n y m)) ∧ Below w.heap.size w w' := by
  have HA := Lib.hid ((LabAt.new w z n).alloc (.cells (L.lv y m) 29))
  have HB : Hid (LabAt ((w.alloc (.cells (L.lv z n) 29)).alloc (.cells (L.lv y m) 29)) (w.heap.size + 1) y m) := Lib.hid (by have := LabAt.new (w.alloc (.cells (L.lv z n) 29)) y m; simpa using this)
  have hb0 : Below w.heap.size w ((w.alloc (.cells (L.lv z n) 29)).alloc (.cells (L.lv y m) 29)) := ((Below.refl _ w).alloc (Nat.le_refl _) _).alloc (by simp) _
  have hj : n ||| m < 2 ^ 240 := C.or_lt hn hm
  have HJ := Lib.hid (fun (r : Nat) (w' : World) (h : w'.heap[r]? = some (.cells (labsX [(y, m)]) 29 (0, 0))) => LJoin_any z n (some ⟨r, 0, none⟩) 1 [(y, m)] w' (LRow.of_block h) (by simp))
  simp only [L.joinZ, L.joinN, List.foldl_cons, List.foldl_nil] at HJ
  have HD := Lib.hid (L.dom_join z n y m)
  obtain ⟨D, hD⟩ : ∃ D, L.dom z n y m = D := ⟨_, rfl⟩
  have HR := Lib.hid hD
  rw [hD]
  clear hD
  go_enter Try.func51, Try.ntmps51
  go_wp2
  generalize hW0 : (w.alloc (.cells (L.lv z n) 29)).alloc (.cells (L.lv y m) 29) = W0 at *
  clear hW0
  refine region_gen (VG W0.heap.size [.val (.agg (L.lv (z) (n))), .val (.agg (L.lv (y) (m))), .row (labsX [(y, m)]) 29 1, .val (.agg (L.lv (max z y) (n ||| m))), .val (.agg (L.lv (z) (n))), .val (.bool (decide (max z y = z) && decide (n ||| m = n))), .val (.bool (decide (max z y = z) && decide (n ||| m = n)))]) (BS W0) (by kernel_rfl) (by kernel_rfl) (Below.refl _ _).drew ⟨?_, ?_, ?_, ?_, ?_, ?_, ?_, trivial⟩ ?_
  · go_light; intro listed a' w' hs hS hun hdep
    have e2 : a'.eval (.tmp 2) = .pointer (some ⟨w.heap.size, 0, none⟩) := (hs.out 2 (by kernel_rfl)).trans (rfl)
    exact g_val (.agg (L.lv (z) (n))) hS rfl (run_op_load_lab rfl e2 (HA.out.below hS HA.out.lt)) rfl
  · go_light; intro listed a' w' hs hS hun hdep
    have e3 : a'.eval (.tmp 3) = .pointer (some ⟨(w.heap.size + 1), 0, none⟩) := (hs.out 3 (by kernel_rfl)).trans (rfl)
    exact g_val (.agg (L.lv (y) (m))) hS rfl (run_op_load_lab rfl e3 (HB.out.below hS HB.out.lt)) rfl
  · go_light; intro listed a' w' hs hS hun hdep
    have e6 : a'.eval (.tmp 6) = .agg (L.lv (y) (m)) := hs.eval 1 _ 6 rfl (hdep ⟨1, .data⟩ (by simp) rfl) rfl
    exact g_new (.slice (some ⟨w'.heap.size, 0, none⟩) 1 1) _ hS rfl (run_op_labs [(y, m)] rfl (by simp [e6, labV]) rfl (by simp) (by simp)) ⟨w'.heap.size, Below.size hS, rfl, heap_alloc_new w' _⟩
  · go_light; intro listed a' w' hs hS hun hdep
    have e5 : a'.eval (.tmp 5) = .agg (L.lv (z) (n)) := hs.eval 0 _ 5 rfl (hdep ⟨0, .data⟩ (by simp) rfl) rfl
    have r7 : (.row (labsX [(y, m)]) 29 1 : GV).ok W0.heap.size (a'.eval (.tmp 7)) w' := hs.eval 2 _ 7 rfl (hdep ⟨2, .data⟩ (by simp) rfl)  rfl
    obtain ⟨b7, _, e7, k7⟩ := r7
    refine g_call 57 #[.agg (L.lv (z) (n)), .slice (some ⟨b7, 0, none⟩) 1 1] hS rfl ?_ ?_
    · have hcn := BigFrame.eval_const a'; have hfn := BigFrame.eval_func a'; clear hs hdep; generalize a'.eval = ev at *; go_simp
    · exact c_val (HJ.out b7 w' k7) rfl
  · go_light; intro listed a' w' hs hS hun hdep
    have e2 : a'.eval (.tmp 2) = .pointer (some ⟨w.heap.size, 0, none⟩) := (hs.out 2 (by kernel_rfl)).trans (rfl)
    exact g_val (.agg (L.lv (z) (n))) hS rfl (run_op_load_lab rfl e2 (HA.out.below hS HA.out.lt)) rfl
  · go_light; intro listed a' w' hs hS hun hdep
    have e8 : a'.eval (.tmp 8) = .agg (L.lv (max z y) (n ||| m)) := hs.eval 3 _ 8 rfl (hdep ⟨3, .data⟩ (by simp) rfl) rfl
    have e9 : a'.eval (.tmp 9) = .agg (L.lv (z) (n)) := hs.eval 4 _ 9 rfl (hdep ⟨4, .data⟩ (by simp) rfl) rfl
    exact g_val (.bool (decide (max z y = z) && decide (n ||| m = n))) hS rfl (run_op_eql_lab rfl e8 e9 hj hn) rfl
  · go_light; intro listed a' w' hs hS hun hdep
    have e10 : a'.eval (.tmp 10) = .bool (decide (max z y = z) && decide (n ||| m = n)) := hs.eval 5 _ 10 rfl (hdep ⟨5, .data⟩ (by simp) rfl) rfl
    refine g_val (.bool (decide (max z y = z) && decide (n ||| m = n))) hS rfl ?_ rfl
    have hcn := BigFrame.eval_const a'
    have hfn := BigFrame.eval_func a'
    clear hs hdep
    generalize a'.eval = ev at *
    go_simp
  · intro vs w3 hlen hV listed hall hS
    obtain ⟨v0, v1, v2, v3, v4, v5, v6, rfl⟩ := vs_7 vs (hlen.trans rfl)
    have q0 : v0 = .agg (L.lv (z) (n)) := hV 0 _ rfl
    have q1 : v1 = .agg (L.lv (y) (m)) := hV 1 _ rfl
    obtain ⟨b2, hge2, q2, hbk2⟩ : (.row (labsX [(y, m)]) 29 1 : GV).ok W0.heap.size v2 w3 := hV 2 _ rfl
    have q3 : v3 = .agg (L.lv (max z y) (n ||| m)) := hV 3 _ rfl
    have q4 : v4 = .agg (L.lv (z) (n)) := hV 4 _ rfl
    have q5 : v5 = .bool (decide (max z y = z) && decide (n ||| m = n)) := hV 5 _ rfl
    have q6 : v6 = .bool (decide (max z y = z) && decide (n ||| m = n)) := hV 6 _ rfl
    have hbel : Below W0.heap.size W0 w3 := hS
    subst q0 q1 q2 q3 q4 q5 q6
    clear hV hS hall
    simp only [lays, Act.put, List.setIfInBounds_toArray, List.set_cons_zero, List.set_cons_succ]
    go_wp2
    go_ret
    exact ⟨by rw [← HR.out, ← HD.out]; rfl, hb0.trans (hbel.mono hb0.size)⟩
end LbLow
#print axioms Dom_any
end Go.Proofs.Ytdipoaekdafbeaa
