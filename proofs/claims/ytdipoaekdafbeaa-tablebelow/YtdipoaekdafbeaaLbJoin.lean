/- The walks of what joins labels, and meets them. -/
import Derived.Test.YtdipoaekdafbeaaLbRow
import Derived.Test.YtdipoaekdafbeaaCtSMath
namespace Go.Proofs.Ytdipoaekdafbeaa
open Go.RowKit
set_option maxRecDepth 100000
set_option linter.unusedVariables false

namespace L
def joinZ (z : Int) (l : List (Int × Nat)) : Int := l.foldl (fun m p => max m p.1) z
def joinN (n : Nat) (l : List (Int × Nat)) : Nat := l.foldl (fun m p => m ||| p.2) n
def meetZ (z : Int) (l : List (Int × Nat)) : Int := l.foldl (fun m p => min m p.1) z
def meetN (n : Nat) (l : List (Int × Nat)) : Nat := l.foldl (fun m p => m &&& p.2) n
theorem take_succ (l : List (Int × Nat)) (k : Nat) (h : k < l.length) : l.take (k + 1) = l.take k ++ [l.getD k (0, 0)] := by
  rw [List.take_succ_eq_append_getElem h, List.getD_eq_getElem?_getD, List.getElem?_eq_getElem h]; rfl
theorem joinZ_take (z : Int) (l : List (Int × Nat)) (k : Nat) (h : k < l.length) : joinZ z (l.take (k + 1)) = max (joinZ z (l.take k)) (l.getD k (0, 0)).1 := by
  rw [take_succ l k h]; unfold joinZ; rw [List.foldl_append]; rfl
theorem joinN_take (n : Nat) (l : List (Int × Nat)) (k : Nat) (h : k < l.length) : joinN n (l.take (k + 1)) = joinN n (l.take k) ||| (l.getD k (0, 0)).2 := by
  rw [take_succ l k h]; unfold joinN; rw [List.foldl_append]; rfl
theorem meetZ_take (z : Int) (l : List (Int × Nat)) (k : Nat) (h : k < l.length) : meetZ z (l.take (k + 1)) = min (meetZ z (l.take k)) (l.getD k (0, 0)).1 := by
  rw [take_succ l k h]; unfold meetZ; rw [List.foldl_append]; rfl
theorem meetN_take (n : Nat) (l : List (Int × Nat)) (k : Nat) (h : k < l.length) : meetN n (l.take (k + 1)) = meetN n (l.take k) &&& (l.getD k (0, 0)).2 := by
  rw [take_succ l k h]; unfold meetN; rw [List.foldl_append]; rfl
end L

set_option maxHeartbeats 8000000 in
theorem LJoin_any (z : Int) (n : Nat) (a : Option Addr) (cap : Nat) (l : List (Int × Nat)) (w : World) (h : LRow w a l) (hl : l.length ≤ 1000) :
    Calls Try.prog 57 #[.agg (L.lv z n), .slice a l.length cap] w fun e w' => e = .returned (.agg (L.lv (L.joinZ z l) (L.joinN n l))) ∧ Below w.heap.size w w' := by
  have Hrow := Lib.hid h
  clear h
  have HA := Lib.hid ((LabAt.new w z n).alloc (.cells (L.lv 0 0) 29))
  have HO : Hid (LabAt ((w.alloc (.cells (L.lv z n) 29)).alloc (.cells (L.lv 0 0) 29)) (w.heap.size + 1) 0 0) := Lib.hid (by have := LabAt.new (w.alloc (.cells (L.lv z n) 29)) 0 0; simpa using this)
  have hb0 : Below w.heap.size w ((w.alloc (.cells (L.lv z n) 29)).alloc (.cells (L.lv 0 0) 29)) := ((Below.refl _ w).alloc (Nat.le_refl _) _).alloc (by simp) _
  go_enter Try.func57, Try.ntmps57
  go_wp2
  rw [L.zero31]
  go_loopw [9] (fun i wr => ∃ k : Nat, k ≤ l.length ∧ i = .int .i64 k ∧ LabAt wr w.heap.size (L.joinZ z (l.take k)) (L.joinN n (l.take k)) ∧ LabAt wr (w.heap.size + 1) 0 0 ∧ Below w.heap.size w wr) (fun i _ => l.length - (intOf i).toNat)
  case atStart => exact ⟨0, Nat.zero_le _, rfl, HA.out, HO.out, hb0⟩
  case round =>
    obtain ⟨k, hk, rfl, hA, hO, hb⟩ := hrel
    clear HA HO hb0
    have hbs := hb.size
    by_cases hlt : k < l.length
    · obtain ⟨b, off, rfl, hbl, hr⟩ := Hrow.out.then hb k hlt
      have EZ := Lib.hid (L.joinZ_take z l k hlt)
      have EN := Lib.hid (L.joinN_take n l k hlt)
      have hlt' : (k : Int) < (l.length : Int) := by omega
      generalize (l.getD k (0, 0)).1 = y at *
      generalize (l.getD k (0, 0)).2 = m at *
      generalize L.joinZ z (l.take k) = x at *
      generalize L.joinN n (l.take k) = q at *
      have HR := Lib.hid hr
      have HR1 := Lib.hid (World.rangeAt_alloc hr (.cells (L.lv 0 0) 29))
      have HN := Lib.hid (LabAt.new wr 0 0)
      have hA1 := Lib.hid (hA.alloc (.cells (L.lv 0 0) 29))
      have hO1 := Lib.hid (hO.alloc (.cells (L.lv 0 0) 29))
      have hb1 := hb.alloc hbs (.cells (L.lv 0 0) 29)
      have zA := hA.lt
      have zO := hO.lt
      have HU := Lib.hid (fun (r : Nat) (w' : World) (h : w'.heap[r]? = some (.cells (setsX [q, m]) 27 (0, 0))) => Union_any (some ⟨r, 0, none⟩) 2 [q, m] w' (SRow.of_block h) (by unfold maxLen; simp))
      rw [C.union_two] at HU
      clear hr hA hO hb
      rcases Int.lt_or_le x y with hxy | hxy
      · have hmx : max x y = y := by omega
        go_wp2_with (first | (refine load_mid_lab rfl rfl rfl HR.out ?_) | (rw [L.zero31]; refine store_lab rfl rfl rfl rfl HN.out ?_; intro w2 hs ho; have HT := Lib.hid hs; have hA2 := hA1.out.only ho (by omega); have HA2 := Lib.hid hA2; have HO2 := Lib.hid (hO1.out.only ho (by omega)); have hlv1 := hs.level; have hlv2 := hA2.level; have hfz := hA2.frozen 0; have HJ := Lib.hid (hA2.setLevel y); have HT2 := Lib.hid (hs.only (only_cell w2 w.heap.size 0 (.int .i64 y)) (by omega)); have ho2 := Lib.hid ho; clear hs ho hA2) | (refine load_labcats rfl rfl rfl HJ.out ?_) | (refine load_labcats rfl rfl rfl HT2.out ?_) | (refine step_op rfl (run_op_sets [q, m] rfl (by simp [Act.eval, Act.put]) rfl (by simp) (by simp)) ?_))
        have hW3 : Below w.heap.size w (w2.setCell ⟨w.heap.size, 0, none⟩ (.int .i64 y)) := (hb1.trans (ho2.out.below (by omega))).trans ((only_cell w2 w.heap.size 0 (.int .i64 y)).below (Nat.le_refl _))
        have HO3 := Lib.hid (HO2.out.only (only_cell w2 w.heap.size 0 (.int .i64 y)) (by omega))
        clear hlv1 hlv2 hfz HO2 HA2 HT HT2 ho2 hb1 HR HR1 HN hA1 hO1
        have hsz3 : w2.heap.size = (w2.setCell ⟨w.heap.size, 0, none⟩ (.int .i64 y)).heap.size := (only_cell w2 w.heap.size 0 (.int .i64 y)).size.symm
        generalize hW : w2.setCell ⟨w.heap.size, 0, none⟩ (.int .i64 y) = w3 at *
        clear hW
        have zJ := HJ.out.lt
        have zO3 := HO3.out.lt
        refine (HU.out _ _ (by first | exact heap_alloc_new w3 _ | (rw [hsz3]; exact heap_alloc_new w3 _))).mono ?_
        rintro e w4 ⟨rfl, hb4⟩
        have hb34 : Below w3.heap.size w3 w4 := ((Below.refl _ w3).alloc (Nat.le_refl _) _).trans (hb4.mono (by simp))
        have HJ4 := Lib.hid (HJ.out.below hb34 zJ)
        have HO4 := Lib.hid (HO3.out.below hb34 zO3)
        have hbw4 := hW3.trans (hb34.mono hW3.size)
        clear hb4 hb34 HJ HO3 hW3 HU
        go_wp2_with (refine store_labcats rfl rfl rfl rfl HJ4.out ?_; intro w5 hs ho; have HJ5 := Lib.hid hs; have ho5 := Lib.hid ho; clear hs ho)
        go_roundw
        case rel => exact ⟨k + 1, by omega, by go_num, by rw [EZ.out, EN.out, hmx]; exact HJ5.out, HO4.out.only ho5.out (by omega), hbw4.trans (ho5.out.below (Nat.le_refl _))⟩
        case measure => simp [intOf]; omega
      · have hmx : max x y = x := by omega
        go_wp2_with (first | (refine load_mid_lab rfl rfl rfl HR.out ?_) | (rw [L.zero31]; refine store_lab rfl rfl rfl rfl HN.out ?_; intro w2 hs ho; have HT := Lib.hid hs; have hA2 := hA1.out.only ho (by omega); have HA2 := Lib.hid hA2; have HO2 := Lib.hid (hO1.out.only ho (by omega)); have hlv1 := hs.level; have hlv2 := hA2.level; have hfz := hA2.frozen 0; have HJ := Lib.hid (hA2.setLevel x); have HT2 := Lib.hid (hs.only (only_cell w2 w.heap.size 0 (.int .i64 x)) (by omega)); have ho2 := Lib.hid ho; clear hs ho hA2) | (refine load_labcats rfl rfl rfl HJ.out ?_) | (refine load_labcats rfl rfl rfl HT2.out ?_) | (refine step_op rfl (run_op_sets [q, m] rfl (by simp [Act.eval, Act.put]) rfl (by simp) (by simp)) ?_))
        have hW3 : Below w.heap.size w (w2.setCell ⟨w.heap.size, 0, none⟩ (.int .i64 x)) := (hb1.trans (ho2.out.below (by omega))).trans ((only_cell w2 w.heap.size 0 (.int .i64 x)).below (Nat.le_refl _))
        have HO3 := Lib.hid (HO2.out.only (only_cell w2 w.heap.size 0 (.int .i64 x)) (by omega))
        clear hlv1 hlv2 hfz HO2 HA2 HT HT2 ho2 hb1 HR HR1 HN hA1 hO1
        have hsz3 : w2.heap.size = (w2.setCell ⟨w.heap.size, 0, none⟩ (.int .i64 x)).heap.size := (only_cell w2 w.heap.size 0 (.int .i64 x)).size.symm
        generalize hW : w2.setCell ⟨w.heap.size, 0, none⟩ (.int .i64 x) = w3 at *
        clear hW
        have zJ := HJ.out.lt
        have zO3 := HO3.out.lt
        refine (HU.out _ _ (by first | exact heap_alloc_new w3 _ | (rw [hsz3]; exact heap_alloc_new w3 _))).mono ?_
        rintro e w4 ⟨rfl, hb4⟩
        have hb34 : Below w3.heap.size w3 w4 := ((Below.refl _ w3).alloc (Nat.le_refl _) _).trans (hb4.mono (by simp))
        have HJ4 := Lib.hid (HJ.out.below hb34 zJ)
        have HO4 := Lib.hid (HO3.out.below hb34 zO3)
        have hbw4 := hW3.trans (hb34.mono hW3.size)
        clear hb4 hb34 HJ HO3 hW3 HU
        go_wp2_with (refine store_labcats rfl rfl rfl rfl HJ4.out ?_; intro w5 hs ho; have HJ5 := Lib.hid hs; have ho5 := Lib.hid ho; clear hs ho)
        go_roundw
        case rel => exact ⟨k + 1, by omega, by go_num, by rw [EZ.out, EN.out, hmx]; exact HJ5.out, HO4.out.only ho5.out (by omega), hbw4.trans (ho5.out.below (Nat.le_refl _))⟩
        case measure => simp [intOf]; omega
    · obtain rfl : k = l.length := by omega
      rw [List.take_length] at hA
      have HA := Lib.hid hA
      have HO := Lib.hid hO
      have hlt' : ¬ (l.length : Int) < (l.length : Int) := by omega
      clear hA hO
      go_wp2_with (first | (refine load_lab rfl rfl rfl HA.out ?_) | (refine store_lab rfl rfl rfl rfl HO.out ?_; intro w2 hs ho; have HO2 := Lib.hid hs; have ho2 := Lib.hid ho; clear hs ho))
      exact ret_lab rfl rfl rfl HO2.out ⟨rfl, hb.trans (ho2.out.below (by omega))⟩
#print axioms LJoin_any
end Go.Proofs.Ytdipoaekdafbeaa
