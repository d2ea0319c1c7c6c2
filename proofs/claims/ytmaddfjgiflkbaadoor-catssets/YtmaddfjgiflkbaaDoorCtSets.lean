/- The walk of CatsSets. -/
import Derived.Test.YtmaddfjgiflkbaaDoorCtAwake
import Derived.Test.YtmaddfjgiflkbaaDoorCtSMath
import Derived.Test.YtmaddfjgiflkbaaDoorCtGen3
namespace Go.Proofs.YtmaddfjgiflkbaaDoor
set_option maxRecDepth 100000
open Go.RowKit
set_option maxRecDepth 100000
set_option linter.unusedVariables false

namespace CsSets
theorem vs_cons {n : Nat} (vs : List Value) (h : vs.length = n + 1) : ∃ v r, vs = v :: r ∧ r.length = n := by
  cases vs with
  | nil => simp at h
  | cons v r => exact ⟨v, r, rfl, by simpa using h⟩
theorem vs_6 (vs : List Value) (h : vs.length = 6) : ∃ v0 v1 v2 v3 v4 v5, vs = [v0, v1, v2, v3, v4, v5] := by
  obtain ⟨v0, r0, rfl, h0⟩ := vs_cons vs h
  obtain ⟨v1, r1, rfl, h1⟩ := vs_cons r0 h0
  obtain ⟨v2, r2, rfl, h2⟩ := vs_cons r1 h1
  obtain ⟨v3, r3, rfl, h3⟩ := vs_cons r2 h2
  obtain ⟨v4, r4, rfl, h4⟩ := vs_cons r3 h3
  obtain ⟨v5, r5, rfl, h5⟩ := vs_cons r4 h4
  obtain rfl := List.eq_nil_of_length_eq_zero h5
  exact ⟨v0, v1, v2, v3, v4, v5, rfl⟩
theorem vs_9 (vs : List Value) (h : vs.length = 9) : ∃ v0 v1 v2 v3 v4 v5 v6 v7 v8, vs = [v0, v1, v2, v3, v4, v5, v6, v7, v8] := by
  obtain ⟨v0, r0, rfl, h0⟩ := vs_cons vs h
  obtain ⟨v1, r1, rfl, h1⟩ := vs_cons r0 h0
  obtain ⟨v2, r2, rfl, h2⟩ := vs_cons r1 h1
  obtain ⟨v3, r3, rfl, h3⟩ := vs_cons r2 h2
  obtain ⟨v4, r4, rfl, h4⟩ := vs_cons r3 h3
  obtain ⟨v5, r5, rfl, h5⟩ := vs_cons r4 h4
  obtain ⟨v6, r6, rfl, h6⟩ := vs_cons r5 h5
  obtain ⟨v7, r7, rfl, h7⟩ := vs_cons r6 h6
  obtain ⟨v8, r8, rfl, h8⟩ := vs_cons r7 h7
  obtain rfl := List.eq_nil_of_length_eq_zero h8
  exact ⟨v0, v1, v2, v3, v4, v5, v6, v7, v8, rfl⟩
theorem vs_54 (vs : List Value) (h : vs.length = 54) : ∃ v0 v1 v2 v3 v4 v5 v6 v7 v8 v9 v10 v11 v12 v13 v14 v15 v16 v17 v18 v19 v20 v21 v22 v23 v24 v25 v26 v27 v28 v29 v30 v31 v32 v33 v34 v35 v36 v37 v38 v39 v40 v41 v42 v43 v44 v45 v46 v47 v48 v49 v50 v51 v52 v53, vs = [v0, v1, v2, v3, v4, v5, v6, v7, v8, v9, v10, v11, v12, v13, v14, v15, v16, v17, v18, v19, v20, v21, v22, v23, v24, v25, v26, v27, v28, v29, v30, v31, v32, v33, v34, v35, v36, v37, v38, v39, v40, v41, v42, v43, v44, v45, v46, v47, v48, v49, v50, v51, v52, v53] := by
  obtain ⟨v0, r0, rfl, h0⟩ := vs_cons vs h
  obtain ⟨v1, r1, rfl, h1⟩ := vs_cons r0 h0
  obtain ⟨v2, r2, rfl, h2⟩ := vs_cons r1 h1
  obtain ⟨v3, r3, rfl, h3⟩ := vs_cons r2 h2
  obtain ⟨v4, r4, rfl, h4⟩ := vs_cons r3 h3
  obtain ⟨v5, r5, rfl, h5⟩ := vs_cons r4 h4
  obtain ⟨v6, r6, rfl, h6⟩ := vs_cons r5 h5
  obtain ⟨v7, r7, rfl, h7⟩ := vs_cons r6 h6
  obtain ⟨v8, r8, rfl, h8⟩ := vs_cons r7 h7
  obtain ⟨v9, r9, rfl, h9⟩ := vs_cons r8 h8
  obtain ⟨v10, r10, rfl, h10⟩ := vs_cons r9 h9
  obtain ⟨v11, r11, rfl, h11⟩ := vs_cons r10 h10
  obtain ⟨v12, r12, rfl, h12⟩ := vs_cons r11 h11
  obtain ⟨v13, r13, rfl, h13⟩ := vs_cons r12 h12
  obtain ⟨v14, r14, rfl, h14⟩ := vs_cons r13 h13
  obtain ⟨v15, r15, rfl, h15⟩ := vs_cons r14 h14
  obtain ⟨v16, r16, rfl, h16⟩ := vs_cons r15 h15
  obtain ⟨v17, r17, rfl, h17⟩ := vs_cons r16 h16
  obtain ⟨v18, r18, rfl, h18⟩ := vs_cons r17 h17
  obtain ⟨v19, r19, rfl, h19⟩ := vs_cons r18 h18
  obtain ⟨v20, r20, rfl, h20⟩ := vs_cons r19 h19
  obtain ⟨v21, r21, rfl, h21⟩ := vs_cons r20 h20
  obtain ⟨v22, r22, rfl, h22⟩ := vs_cons r21 h21
  obtain ⟨v23, r23, rfl, h23⟩ := vs_cons r22 h22
  obtain ⟨v24, r24, rfl, h24⟩ := vs_cons r23 h23
  obtain ⟨v25, r25, rfl, h25⟩ := vs_cons r24 h24
  obtain ⟨v26, r26, rfl, h26⟩ := vs_cons r25 h25
  obtain ⟨v27, r27, rfl, h27⟩ := vs_cons r26 h26
  obtain ⟨v28, r28, rfl, h28⟩ := vs_cons r27 h27
  obtain ⟨v29, r29, rfl, h29⟩ := vs_cons r28 h28
  obtain ⟨v30, r30, rfl, h30⟩ := vs_cons r29 h29
  obtain ⟨v31, r31, rfl, h31⟩ := vs_cons r30 h30
  obtain ⟨v32, r32, rfl, h32⟩ := vs_cons r31 h31
  obtain ⟨v33, r33, rfl, h33⟩ := vs_cons r32 h32
  obtain ⟨v34, r34, rfl, h34⟩ := vs_cons r33 h33
  obtain ⟨v35, r35, rfl, h35⟩ := vs_cons r34 h34
  obtain ⟨v36, r36, rfl, h36⟩ := vs_cons r35 h35
  obtain ⟨v37, r37, rfl, h37⟩ := vs_cons r36 h36
  obtain ⟨v38, r38, rfl, h38⟩ := vs_cons r37 h37
  obtain ⟨v39, r39, rfl, h39⟩ := vs_cons r38 h38
  obtain ⟨v40, r40, rfl, h40⟩ := vs_cons r39 h39
  obtain ⟨v41, r41, rfl, h41⟩ := vs_cons r40 h40
  obtain ⟨v42, r42, rfl, h42⟩ := vs_cons r41 h41
  obtain ⟨v43, r43, rfl, h43⟩ := vs_cons r42 h42
  obtain ⟨v44, r44, rfl, h44⟩ := vs_cons r43 h43
  obtain ⟨v45, r45, rfl, h45⟩ := vs_cons r44 h44
  obtain ⟨v46, r46, rfl, h46⟩ := vs_cons r45 h45
  obtain ⟨v47, r47, rfl, h47⟩ := vs_cons r46 h46
  obtain ⟨v48, r48, rfl, h48⟩ := vs_cons r47 h47
  obtain ⟨v49, r49, rfl, h49⟩ := vs_cons r48 h48
  obtain ⟨v50, r50, rfl, h50⟩ := vs_cons r49 h49
  obtain ⟨v51, r51, rfl, h51⟩ := vs_cons r50 h50
  obtain ⟨v52, r52, rfl, h52⟩ := vs_cons r51 h51
  obtain ⟨v53, r53, rfl, h53⟩ := vs_cons r52 h52
  obtain rfl := List.eq_nil_of_length_eq_zero h53
  exact ⟨v0, v1, v2, v3, v4, v5, v6, v7, v8, v9, v10, v11, v12, v13, v14, v15, v16, v17, v18, v19, v20, v21, v22, v23, v24, v25, v26, v27, v28, v29, v30, v31, v32, v33, v34, v35, v36, v37, v38, v39, v40, v41, v42, v43, v44, v45, v46, v47, v48, v49, v50, v51, v52, v53, rfl⟩

theorem list_len1000 (n : Nat) : (C.list n).length ≤ 1000 := by have := C.list_len n; omega
theorem _root_.Go.Proofs.YtmaddfjgiflkbaaDoor.IRow.below2 {w w' : World} {B : Nat} {a : Option Addr} {l : List Int} (h : IRow w a l) (hb : Below B w w') (hB : B = w.heap.size := by rfl) : IRow w' a l := by subst hB; exact h.below hb
theorem right_all (l : List Int) (j : Nat) (h : j < l.length) : C.right (l.take (j + 1)) = (C.right (l.take j) && (decide (0 ≤ l.getD j 0) && decide (l.getD j 0 < 240))) := by
  rw [C.getD_take l j h]
  unfold C.right
  rw [List.all_append]
  congr 1
  simp only [List.all_cons, List.all_nil, Bool.and_true]
  by_cases h0 : 0 ≤ l.getD j 0 <;> by_cases h1 : l.getD j 0 < 240
  · rw [decide_eq_true (by omega), decide_eq_true h0, decide_eq_true h1]; rfl
  · rw [decide_eq_false (by omega), decide_eq_false h1]; simp
  · rw [decide_eq_false (by omega), decide_eq_false h0]; rfl
  · rw [decide_eq_false (by omega), decide_eq_false h0]; rfl
theorem most_none (n : Nat) (h : (C.list n).length = 0) : C.mostTo n 240 = -1 := by
  rw [C.mostTo_list]
  have : C.listTo n 240 = [] := List.eq_nil_of_length_eq_zero h
  rw [this]; rfl
theorem most_some (n : Nat) (h : 0 < (C.list n).length) : (C.list n).getD ((C.list n).length - 1) 0 = C.mostTo n 240 := by
  rw [C.mostTo_list]
  show (C.listTo n 240).getD ((C.listTo n 240).length - 1) 0 = _
  have h' : 0 < (C.listTo n 240).length := h
  generalize C.listTo n 240 = L at *
  rw [List.getLastD_eq_getLast?, List.getLast?_eq_getElem?, List.getD_eq_getElem?_getD, List.getElem?_eq_getElem (show L.length - 1 < L.length by omega)]
  rfl

set_option maxHeartbeats 8000000 in
theorem sets_all (c : Nat) (ao : Option Addr) (cap : Nat) (l : List Int) (k : Int) (w : World) (hc : c < 2 ^ 240) (hrow : IRow w ao l) (L : TabL w) :
    Calls Tryd.prog 3 #[.agg (C.cv c), .slice ao l.length cap, .int .i64 k] w fun e w' => e = .returned (.bool true) ∧ Below w.heap.size w w' := by
  have HA := Lib.hid (SetAt.new w c)
  have hb0 : Below w.heap.size w (w.alloc (.cells (C.cv c) 23)) := (Below.refl _ w).alloc (Nat.le_refl _) _
  have HL0 := Lib.hid (L.below hb0)
  have HR := Lib.hid hrow
  clear L hrow
  by_cases hlen : 300 < l.length
  · have hlen' : (300 : Int) < (l.length : Int) := by omega
    go_enter Tryd.func3, Tryd.ntmps3
    go_wp2_with fail
    refine (cats_awake _ HL0.out).mono ?_
    rintro e w1 ⟨rfl, hb1⟩
    have hbw := hb0.trans (hb1.mono hb0.size)
    go_wp2
    go_ret
    exact ⟨rfl, hbw⟩
  have hlen' : ¬ (300 : Int) < (l.length : Int) := by omega
  have hrw : w.heap.size < (w.alloc (.cells (C.cv c) 23)).heap.size := HA.out.lt
  go_enter Tryd.func3, Tryd.ntmps3
  go_wp2
  generalize hW0 : (w.alloc (.cells (C.cv c) 23)) = W0 at *
  clear hW0
  refine region_gen2 (VG W0.heap.size [.val (.agg (C.cv 0)), .val (.agg (C.cv (c))), .val (.agg (C.cv (c))), .any, .any, .any, .any, .any, .any]) (MS W0 [⟨3, 8, 6, .cells (C.cv 0) 23, .cells (C.cv (0)) 23⟩, ⟨4, 9, 7, .cells (C.cv 0) 23, .cells (C.cv (c)) 23⟩, ⟨5, 10, 8, .cells (C.cv 0) 23, .cells (C.cv (c)) 23⟩]) (by kernel_rfl) (by kernel_rfl) (VG.none_of (by kernel_rfl)) ⟨(Below.refl _ _).drew, fun p _ h => (by rw [getD_replicate_false] at h; cases h), fun p _ q _ _ h => (by rw [getD_replicate_false] at h; cases h)⟩ ⟨?_, ?_, ?_, ?_, ?_, ?_, ?_, ?_, ?_, trivial⟩ ?_
  · go_light; intro listed a' w' hs hS hun hdep
    refine gM_val (.agg (C.cv 0)) hS rfl ?_ rfl (by kernel_rfl)
    have hcn := BigFrame.eval_const a'
    have hfn := BigFrame.eval_func a'
    clear hs hdep
    generalize a'.eval = ev at *
    rw [← C.zero30]
    go_simp
  · go_light; intro listed a' w' hs hS hun hdep
    have e3 : a'.eval (.tmp 3) = .pointer (some ⟨w.heap.size, 0, none⟩) := (hs.out 3 (by kernel_rfl)).trans (rfl)
    exact gM_val (.agg (C.cv (c))) hS rfl (run_op_load rfl e3 (HA.out.below hS.below HA.out.lt)) rfl (by kernel_rfl)
  · go_light; intro listed a' w' hs hS hun hdep
    have e3 : a'.eval (.tmp 3) = .pointer (some ⟨w.heap.size, 0, none⟩) := (hs.out 3 (by kernel_rfl)).trans (rfl)
    exact gM_val (.agg (C.cv (c))) hS rfl (run_op_load rfl e3 (HA.out.below hS.below HA.out.lt)) rfl (by kernel_rfl)
  · go_light; intro listed a' w' hs hS hun hdep
    refine gM_make ⟨3, 8, 6, .cells (C.cv 0) 23, .cells (C.cv (0)) 23⟩ (by simp) hS hs hun rfl ?_ trivial rfl (of_decide_eq_true (by kernel_rfl)) (by kernel_rfl) rfl (by kernel_rfl) (show (6 : Nat) ≠ 3 by decide) (by kernel_rfl) (by intro q hq h; simp only [List.mem_cons, List.not_mem_nil, or_false] at hq; rcases hq with rfl | rfl | rfl <;> first | rfl | (simp at h))
    have hcn := BigFrame.eval_const a'
    have hfn := BigFrame.eval_func a'
    clear hs hdep
    generalize a'.eval = ev at *
    rw [← C.zero30]
    go_simp
  · go_light; intro listed a' w' hs hS hun hdep
    refine gM_make ⟨4, 9, 7, .cells (C.cv 0) 23, .cells (C.cv (c)) 23⟩ (by simp) hS hs hun rfl ?_ trivial rfl (of_decide_eq_true (by kernel_rfl)) (by kernel_rfl) rfl (by kernel_rfl) (show (7 : Nat) ≠ 4 by decide) (by kernel_rfl) (by intro q hq h; simp only [List.mem_cons, List.not_mem_nil, or_false] at hq; rcases hq with rfl | rfl | rfl <;> first | rfl | (simp at h))
    have hcn := BigFrame.eval_const a'
    have hfn := BigFrame.eval_func a'
    clear hs hdep
    generalize a'.eval = ev at *
    rw [← C.zero30]
    go_simp
  · go_light; intro listed a' w' hs hS hun hdep
    refine gM_make ⟨5, 10, 8, .cells (C.cv 0) 23, .cells (C.cv (c)) 23⟩ (by simp) hS hs hun rfl ?_ trivial rfl (of_decide_eq_true (by kernel_rfl)) (by kernel_rfl) rfl (by kernel_rfl) (show (8 : Nat) ≠ 5 by decide) (by kernel_rfl) (by intro q hq h; simp only [List.mem_cons, List.not_mem_nil, or_false] at hq; rcases hq with rfl | rfl | rfl <;> first | rfl | (simp at h))
    have hcn := BigFrame.eval_const a'
    have hfn := BigFrame.eval_func a'
    clear hs hdep
    generalize a'.eval = ev at *
    rw [← C.zero30]
    go_simp
  · go_light; intro listed a' w' hs hS hun hdep
    have r8 : (.any : GV).ok W0.heap.size (a'.eval (.tmp 8)) w' := hs.eval 3 _ 8 rfl (hdep ⟨3, .data⟩ (by simp) rfl)  rfl
    have e20 : a'.eval (.tmp 20) = .agg (C.cv 0) := hs.eval 0 _ 20 rfl (hdep ⟨0, .data⟩ (by simp) rfl) rfl
    refine gM_store ⟨3, 8, 6, .cells (C.cv 0) 23, .cells (C.cv (0)) 23⟩ (by simp) hS hun rfl (hdep ⟨3, .data⟩ (by simp) rfl) ?_ rfl rfl (by kernel_rfl) rfl (by kernel_rfl) (by kernel_rfl) (by intro q hq h; simp only [List.mem_cons, List.not_mem_nil, or_false] at hq; rcases hq with rfl | rfl | rfl <;> first | rfl | (simp at h)) (by rw [hs.size]; exact of_decide_eq_true (by kernel_rfl))
    intro r hr hk; exact run_op_store rfl hr e20 hk
  · go_light; intro listed a' w' hs hS hun hdep
    have r9 : (.any : GV).ok W0.heap.size (a'.eval (.tmp 9)) w' := hs.eval 4 _ 9 rfl (hdep ⟨4, .data⟩ (by simp) rfl)  rfl
    have e21 : a'.eval (.tmp 21) = .agg (C.cv (c)) := hs.eval 1 _ 21 rfl (hdep ⟨1, .data⟩ (by simp) rfl) rfl
    refine gM_store ⟨4, 9, 7, .cells (C.cv 0) 23, .cells (C.cv (c)) 23⟩ (by simp) hS hun rfl (hdep ⟨4, .data⟩ (by simp) rfl) ?_ rfl rfl (by kernel_rfl) rfl (by kernel_rfl) (by kernel_rfl) (by intro q hq h; simp only [List.mem_cons, List.not_mem_nil, or_false] at hq; rcases hq with rfl | rfl | rfl <;> first | rfl | (simp at h)) (by rw [hs.size]; exact of_decide_eq_true (by kernel_rfl))
    intro r hr hk; exact run_op_store rfl hr e21 hk
  · go_light; intro listed a' w' hs hS hun hdep
    have r10 : (.any : GV).ok W0.heap.size (a'.eval (.tmp 10)) w' := hs.eval 5 _ 10 rfl (hdep ⟨5, .data⟩ (by simp) rfl)  rfl
    have e22 : a'.eval (.tmp 22) = .agg (C.cv (c)) := hs.eval 2 _ 22 rfl (hdep ⟨2, .data⟩ (by simp) rfl) rfl
    refine gM_store ⟨5, 10, 8, .cells (C.cv 0) 23, .cells (C.cv (c)) 23⟩ (by simp) hS hun rfl (hdep ⟨5, .data⟩ (by simp) rfl) ?_ rfl rfl (by kernel_rfl) rfl (by kernel_rfl) (by kernel_rfl) (by intro q hq h; simp only [List.mem_cons, List.not_mem_nil, or_false] at hq; rcases hq with rfl | rfl | rfl <;> first | rfl | (simp at h)) (by rw [hs.size]; exact of_decide_eq_true (by kernel_rfl))
    intro r hr hk; exact run_op_store rfl hr e22 hk
  · intro vs w6 hlen hV listed hall hS
    obtain ⟨v0, v1, v2, v3, v4, v5, v6, v7, v8, rfl⟩ := vs_9 vs (hlen.trans rfl)
    have q0 : v0 = .agg (C.cv 0) := hV 0 _ rfl
    have q1 : v1 = .agg (C.cv (c)) := hV 1 _ rfl
    have q2 : v2 = .agg (C.cv (c)) := hV 2 _ rfl
    have hbel : Below W0.heap.size W0 w6 := hS.below
    obtain ⟨g8, hge8, eg8, hk8⟩ := hS.at_ ⟨3, 8, 6, .cells (C.cv 0) 23, .cells (C.cv (0)) 23⟩ (by simp) (hall 3 (of_decide_eq_true (by kernel_rfl)))
    rw [(hall 6 (of_decide_eq_true (by kernel_rfl))), if_pos rfl] at hk8
    obtain ⟨g9, hge9, eg9, hk9⟩ := hS.at_ ⟨4, 9, 7, .cells (C.cv 0) 23, .cells (C.cv (c)) 23⟩ (by simp) (hall 4 (of_decide_eq_true (by kernel_rfl)))
    rw [(hall 7 (of_decide_eq_true (by kernel_rfl))), if_pos rfl] at hk9
    obtain ⟨g10, hge10, eg10, hk10⟩ := hS.at_ ⟨5, 10, 8, .cells (C.cv 0) 23, .cells (C.cv (c)) 23⟩ (by simp) (hall 5 (of_decide_eq_true (by kernel_rfl)))
    rw [(hall 8 (of_decide_eq_true (by kernel_rfl))), if_pos rfl] at hk10
    have n8_9 : g8 ≠ g9 := fun e => hS.apart ⟨3, 8, 6, .cells (C.cv 0) 23, .cells (C.cv (0)) 23⟩ (by simp) ⟨4, 9, 7, .cells (C.cv 0) 23, .cells (C.cv (c)) 23⟩ (by simp) (show (3 : Nat) ≠ 4 by decide) (hall 3 (of_decide_eq_true (by kernel_rfl))) (hall 4 (of_decide_eq_true (by kernel_rfl))) (by rw [eg8, eg9, e])
    have n8_10 : g8 ≠ g10 := fun e => hS.apart ⟨3, 8, 6, .cells (C.cv 0) 23, .cells (C.cv (0)) 23⟩ (by simp) ⟨5, 10, 8, .cells (C.cv 0) 23, .cells (C.cv (c)) 23⟩ (by simp) (show (3 : Nat) ≠ 5 by decide) (hall 3 (of_decide_eq_true (by kernel_rfl))) (hall 5 (of_decide_eq_true (by kernel_rfl))) (by rw [eg8, eg10, e])
    have n9_10 : g9 ≠ g10 := fun e => hS.apart ⟨4, 9, 7, .cells (C.cv 0) 23, .cells (C.cv (c)) 23⟩ (by simp) ⟨5, 10, 8, .cells (C.cv 0) 23, .cells (C.cv (c)) 23⟩ (by simp) (show (4 : Nat) ≠ 5 by decide) (hall 4 (of_decide_eq_true (by kernel_rfl))) (hall 5 (of_decide_eq_true (by kernel_rfl))) (by rw [eg9, eg10, e])
    replace eg8 : v3 = .pointer (some ⟨g8, 0, none⟩) := by simpa [lays, Act.put, Act.eval] using eg8
    replace eg9 : v4 = .pointer (some ⟨g9, 0, none⟩) := by simpa [lays, Act.put, Act.eval] using eg9
    replace eg10 : v5 = .pointer (some ⟨g10, 0, none⟩) := by simpa [lays, Act.put, Act.eval] using eg10
    subst q0 q1 q2 eg8 eg9 eg10
    clear hV hS hall
    simp only [lays, Act.put, List.setIfInBounds_toArray, List.set_cons_zero, List.set_cons_succ]
    have H8x : Hid (SetAt w6 g8 0) := Lib.hid hk8
    have H9x : Hid (SetAt w6 g9 c) := Lib.hid hk9
    have H10' : Hid (SetAt w6 g10 c) := Lib.hid hk10
    have n34 := n8_9
    have n35 := n8_10
    have n45 := n9_10
    have HA6 := Lib.hid (HA.out.below hbel HA.out.lt)
    have HL6 := Lib.hid (HL0.out.below hbel)
    have hb6 := hb0.trans (hbel.mono hb0.size)
    have hw4 := HL0.out.size
    clear hk8 hk9 hk10 n8_9 n8_10 n9_10 HA HL0 hbel hb0
    go_wp2
    go_loopw [7, 11] (fun r i wr => ∃ j : Nat, j ≤ l.length ∧ i = .int .i64 j ∧ r = .bool (C.right (l.take j)) ∧ Below w.heap.size w wr ∧ SetAt wr w.heap.size c ∧ SetAt wr g8 (C.plus 0 (l.take j)) ∧ SetAt wr g9 (C.plus c (l.take j)) ∧ SetAt wr g10 (C.less c (l.take j)) ∧ TabL wr) (fun _ i _ => l.length - (intOf i).toNat)
    case atStart => exact ⟨0, Nat.zero_le _, rfl, rfl, hb6, HA6.out, H8x.out, H9x.out, H10'.out, HL6.out⟩
    case round =>
      obtain ⟨j, hj, rfl, rfl, hbw, hA, h8, h9, h10, hL⟩ := hrel
      clear hb6 HA6 HL6 H8x H9x H10'
      by_cases hlt : j < l.length
      · obtain ⟨b, off, rfl, hbl, hcell⟩ := HR.out.then hbw j hlt
        have HC0 := Lib.hid hcell
        have hlt' : (j : Int) < (l.length : Int) := by omega
        have hj0 : (0 : Int) ≤ (j : Int) := by omega
        have E8 := Lib.hid (C.plus_take 0 l j hlt)
        have E9 := Lib.hid (C.plus_take c l j hlt)
        have E10 := Lib.hid (C.less_take c l j hlt)
        have ER := Lib.hid (right_all l j hlt)
        have HA := Lib.hid hA
        have H8 := Lib.hid h8
        have H9 := Lib.hid h9
        have H10 := Lib.hid h10
        have HL := Lib.hid hL
        have hbz := hbw.size
        have z8 := h8.lt
        have z9 := h9.lt
        have z10 := h10.lt
        have zA := hA.lt
        have zL := hL.size
        clear hA h8 h9 h10 hL hcell
        generalize l.getD j 0 = x at *
        generalize C.plus 0 (l.take j) = m0 at *
        generalize C.plus c (l.take j) = m1 at *
        generalize C.less c (l.take j) = m2 at *
        generalize C.right (l.take j) = r at *
        obtain ⟨r', hr'⟩ : ∃ r', (r && (decide (0 ≤ x) && decide (x < 240))) = r' := ⟨_, rfl⟩
        rw [hr'] at ER
        have H4 : (r = false ∧ r' = false) ∨ (r = true ∧ ¬ 0 ≤ x ∧ r' = false) ∨ (r = true ∧ 0 ≤ x ∧ ¬ x < 240 ∧ r' = false) ∨ (r = true ∧ 0 ≤ x ∧ x < 240 ∧ r' = true) := by
          cases r
          · exact .inl ⟨rfl, by rw [← hr']; rfl⟩
          · by_cases h0 : 0 ≤ x
            · by_cases h1 : x < 240
              · exact .inr (.inr (.inr ⟨rfl, h0, h1, by rw [← hr', decide_eq_true h0, decide_eq_true h1]; rfl⟩))
              · exact .inr (.inr (.inl ⟨rfl, h0, h1, by rw [← hr', decide_eq_false h1, Bool.and_false, Bool.and_false]⟩))
            · exact .inr (.inl ⟨rfl, h0, by rw [← hr', decide_eq_false h0]; rfl⟩)
        clear hr'
        have hcell := HC0.out
        rcases H4 with ⟨rfl, rfl⟩ | ⟨rfl, h0, rfl⟩ | ⟨rfl, h0, h1, rfl⟩ | ⟨rfl, h0, h1, rfl⟩
        all_goals
          go_wp2
          clear hcell
          have HC := Lib.hid HC0.out
          refine region_gen_tail 6 (VG wr.heap.size [.val (.agg (C.cv (m0))), .val (.slice (some ⟨b, off, none⟩) l.length cap), .val (.int .i64 (j : Nat)), .val (.pointer (some ⟨b, off + j, none⟩)), .val (.int .i64 x), .val (.agg (C.cv (C.put m0 x true)))]) (BS wr) (by kernel_rfl) (by kernel_rfl) (by kernel_rfl) (Below.refl _ _).drew ⟨?_, ?_, ?_, ?_, ?_, ?_, trivial⟩ ?_
          · go_light; intro listed a' w' hs hS hun hdep
            have e8 : a'.eval (.tmp 8) = .pointer (some ⟨g8, 0, none⟩) := (hs.out 8 (by kernel_rfl)).trans (rfl)
            exact g_val (.agg (C.cv (m0))) hS rfl (run_op_load rfl e8 (H8.out.below hS H8.out.lt)) rfl
          · go_light; intro listed a' w' hs hS hun hdep
            have e1 : a'.eval (.tmp 1) = .slice (some ⟨b, off, none⟩) l.length cap := (hs.out 1 (by kernel_rfl)).trans (rfl)
            refine g_val (.slice (some ⟨b, off, none⟩) l.length cap) hS rfl ?_ rfl
            have hcn := BigFrame.eval_const a'
            have hfn := BigFrame.eval_func a'
            clear hs hdep
            generalize a'.eval = ev at *
            go_simp
          · go_light; intro listed a' w' hs hS hun hdep
            have e11 : a'.eval (.tmp 11) = .int .i64 (j : Nat) := (hs.out 11 (by kernel_rfl)).trans (rfl)
            refine g_val (.int .i64 (j : Nat)) hS rfl ?_ rfl
            have hcn := BigFrame.eval_const a'
            have hfn := BigFrame.eval_func a'
            clear hs hdep
            generalize a'.eval = ev at *
            go_simp
          · go_light; intro listed a' w' hs hS hun hdep
            have e45 : a'.eval (.tmp 45) = .slice (some ⟨b, off, none⟩) l.length cap := hs.eval 1 _ 45 rfl (hdep ⟨1, .data⟩ (by simp) rfl) rfl
            have e46 : a'.eval (.tmp 46) = .int .i64 (j : Nat) := hs.eval 2 _ 46 rfl (hdep ⟨2, .data⟩ (by simp) rfl) rfl
            refine g_val (.pointer (some ⟨b, off + j, none⟩)) hS rfl ?_ rfl
            have hcn := BigFrame.eval_const a'
            have hfn := BigFrame.eval_func a'
            clear hs hdep
            generalize a'.eval = ev at *
            go_simp
          · go_light; intro listed a' w' hs hS hun hdep
            have e47 : a'.eval (.tmp 47) = .pointer (some ⟨b, off + j, none⟩) := hs.eval 3 _ 47 rfl (hdep ⟨3, .data⟩ (by simp) rfl) rfl
            have hc := (hS.cell (p := ⟨b, off + j, none⟩) (by show b < _; omega)).trans HC.out
            refine g_val (.int .i64 x) hS rfl ?_ rfl
            have hcn := BigFrame.eval_const a'
            have hfn := BigFrame.eval_func a'
            clear hs hdep
            generalize a'.eval = ev at *
            go_simp
          · go_light; intro listed a' w' hs hS hun hdep
            have e44 : a'.eval (.tmp 44) = .agg (C.cv (m0)) := hs.eval 0 _ 44 rfl (hdep ⟨0, .data⟩ (by simp) rfl) rfl
            have e48 : a'.eval (.tmp 48) = .int .i64 x := hs.eval 4 _ 48 rfl (hdep ⟨4, .data⟩ (by simp) rfl) rfl
            refine g_call 13 #[.agg (C.cv (m0)), .int .i64 x, Value.bool true] hS rfl ?_ ?_
            · have hcn := BigFrame.eval_const a'; have hfn := BigFrame.eval_func a'; clear hs hdep; generalize a'.eval = ev at *; go_simp
            · exact c_val (Put_any m0 x true w') rfl
          · intro vs u1 hlen hV hS
            obtain ⟨v0, v1, v2, v3, v4, v5, rfl⟩ := vs_6 vs (hlen.trans rfl)
            have q0 : v0 = .agg (C.cv (m0)) := hV 0 _ rfl
            have q1 : v1 = .slice (some ⟨b, off, none⟩) l.length cap := hV 1 _ rfl
            have q2 : v2 = .int .i64 (j : Nat) := hV 2 _ rfl
            have q3 : v3 = .pointer (some ⟨b, off + j, none⟩) := hV 3 _ rfl
            have q4 : v4 = .int .i64 x := hV 4 _ rfl
            have q5 : v5 = .agg (C.cv (C.put m0 x true)) := hV 5 _ rfl
            have hbel : Below wr.heap.size wr u1 := hS
            subst q0 q1 q2 q3 q4 q5
            clear hV hS
            simp only [lays, Act.put, List.setIfInBounds_toArray, List.set_cons_zero, List.set_cons_succ, List.drop_succ_cons, List.drop_zero, List.take_succ_cons, List.take_zero]
            have HX := Lib.hid (H8.out.below hbel H8.out.lt)
            go_wp2_with (refine store_set rfl rfl rfl rfl HX.out ?_; intro u2 hs ho; have HS := Lib.hid hs; have HO := Lib.hid ho; clear hs ho HX)
            have hm0 : Below w.heap.size wr u2 := (hbel.mono hbz).trans (HO.out.below (by omega))
            have HC' := Lib.hid ((hm0.cell (p := ⟨b, off + j, none⟩) hbl).trans HC.out)
            have HA' := Lib.hid ((HA.out.below hbel HA.out.lt).only HO.out (by omega))
            have H9' := Lib.hid ((H9.out.below hbel H9.out.lt).only HO.out (Ne.symm n34))
            have H10' := Lib.hid ((H10.out.below hbel H10.out.lt).only HO.out (Ne.symm n35))
            have HL' := Lib.hid ((HL.out.below hbel).only HO.out (by omega))
            have hbw' := hbw.trans hm0
            have hbz' := hbw'.size
            clear HA H9 H10 H8 HL HC HO hbw hbz hbel hm0
            have H8 := HS
            have HA := HA'
            have H9 := H9'
            have H10 := H10'
            have HL := HL'
            have HC := HC'
            have hbw := hbw'
            have hbz := hbz'
            clear HS HA' H9' H10' HL' HC' hbw' hbz'
            refine region_gen_tail 6 (VG u2.heap.size [.val (.agg (C.cv (m1))), .val (.slice (some ⟨b, off, none⟩) l.length cap), .val (.int .i64 (j : Nat)), .val (.pointer (some ⟨b, off + j, none⟩)), .val (.int .i64 x), .val (.agg (C.cv (C.put m1 x true)))]) (BS u2) (by kernel_rfl) (by kernel_rfl) (by kernel_rfl) (Below.refl _ _).drew ⟨?_, ?_, ?_, ?_, ?_, ?_, trivial⟩ ?_
            · go_light; intro listed a' w' hs hS hun hdep
              have e9 : a'.eval (.tmp 9) = .pointer (some ⟨g9, 0, none⟩) := (hs.out 9 (by kernel_rfl)).trans (rfl)
              exact g_val (.agg (C.cv (m1))) hS rfl (run_op_load rfl e9 (H9.out.below hS H9.out.lt)) rfl
            · go_light; intro listed a' w' hs hS hun hdep
              have e1 : a'.eval (.tmp 1) = .slice (some ⟨b, off, none⟩) l.length cap := (hs.out 1 (by kernel_rfl)).trans (rfl)
              refine g_val (.slice (some ⟨b, off, none⟩) l.length cap) hS rfl ?_ rfl
              have hcn := BigFrame.eval_const a'
              have hfn := BigFrame.eval_func a'
              clear hs hdep
              generalize a'.eval = ev at *
              go_simp
            · go_light; intro listed a' w' hs hS hun hdep
              have e11 : a'.eval (.tmp 11) = .int .i64 (j : Nat) := (hs.out 11 (by kernel_rfl)).trans (rfl)
              refine g_val (.int .i64 (j : Nat)) hS rfl ?_ rfl
              have hcn := BigFrame.eval_const a'
              have hfn := BigFrame.eval_func a'
              clear hs hdep
              generalize a'.eval = ev at *
              go_simp
            · go_light; intro listed a' w' hs hS hun hdep
              have e51 : a'.eval (.tmp 51) = .slice (some ⟨b, off, none⟩) l.length cap := hs.eval 1 _ 51 rfl (hdep ⟨1, .data⟩ (by simp) rfl) rfl
              have e52 : a'.eval (.tmp 52) = .int .i64 (j : Nat) := hs.eval 2 _ 52 rfl (hdep ⟨2, .data⟩ (by simp) rfl) rfl
              refine g_val (.pointer (some ⟨b, off + j, none⟩)) hS rfl ?_ rfl
              have hcn := BigFrame.eval_const a'
              have hfn := BigFrame.eval_func a'
              clear hs hdep
              generalize a'.eval = ev at *
              go_simp
            · go_light; intro listed a' w' hs hS hun hdep
              have e53 : a'.eval (.tmp 53) = .pointer (some ⟨b, off + j, none⟩) := hs.eval 3 _ 53 rfl (hdep ⟨3, .data⟩ (by simp) rfl) rfl
              have hc := (hS.cell (p := ⟨b, off + j, none⟩) (by show b < _; omega)).trans HC.out
              refine g_val (.int .i64 x) hS rfl ?_ rfl
              have hcn := BigFrame.eval_const a'
              have hfn := BigFrame.eval_func a'
              clear hs hdep
              generalize a'.eval = ev at *
              go_simp
            · go_light; intro listed a' w' hs hS hun hdep
              have e50 : a'.eval (.tmp 50) = .agg (C.cv (m1)) := hs.eval 0 _ 50 rfl (hdep ⟨0, .data⟩ (by simp) rfl) rfl
              have e54 : a'.eval (.tmp 54) = .int .i64 x := hs.eval 4 _ 54 rfl (hdep ⟨4, .data⟩ (by simp) rfl) rfl
              refine g_call 13 #[.agg (C.cv (m1)), .int .i64 x, Value.bool true] hS rfl ?_ ?_
              · have hcn := BigFrame.eval_const a'; have hfn := BigFrame.eval_func a'; clear hs hdep; generalize a'.eval = ev at *; go_simp
              · exact c_val (Put_any m1 x true w') rfl
            · intro vs u3 hlen hV hS
              obtain ⟨v0, v1, v2, v3, v4, v5, rfl⟩ := vs_6 vs (hlen.trans rfl)
              have q0 : v0 = .agg (C.cv (m1)) := hV 0 _ rfl
              have q1 : v1 = .slice (some ⟨b, off, none⟩) l.length cap := hV 1 _ rfl
              have q2 : v2 = .int .i64 (j : Nat) := hV 2 _ rfl
              have q3 : v3 = .pointer (some ⟨b, off + j, none⟩) := hV 3 _ rfl
              have q4 : v4 = .int .i64 x := hV 4 _ rfl
              have q5 : v5 = .agg (C.cv (C.put m1 x true)) := hV 5 _ rfl
              have hbel : Below u2.heap.size u2 u3 := hS
              subst q0 q1 q2 q3 q4 q5
              clear hV hS
              simp only [lays, Act.put, List.setIfInBounds_toArray, List.set_cons_zero, List.set_cons_succ, List.drop_succ_cons, List.drop_zero, List.take_succ_cons, List.take_zero]
              have HX := Lib.hid (H9.out.below hbel H9.out.lt)
              go_wp2_with (refine store_set rfl rfl rfl rfl HX.out ?_; intro u4 hs ho; have HS := Lib.hid hs; have HO := Lib.hid ho; clear hs ho HX)
              have hm1 : Below w.heap.size u2 u4 := (hbel.mono hbz).trans (HO.out.below (by omega))
              have HC' := Lib.hid ((hm1.cell (p := ⟨b, off + j, none⟩) hbl).trans HC.out)
              have HA' := Lib.hid ((HA.out.below hbel HA.out.lt).only HO.out (by omega))
              have H8' := Lib.hid ((H8.out.below hbel H8.out.lt).only HO.out n34)
              have H10' := Lib.hid ((H10.out.below hbel H10.out.lt).only HO.out (Ne.symm n45))
              have HL' := Lib.hid ((HL.out.below hbel).only HO.out (by omega))
              have hbw' := hbw.trans hm1
              have hbz' := hbw'.size
              clear HA H8 H10 H9 HL HC HO hbw hbz hbel hm1
              have H9 := HS
              have HA := HA'
              have H8 := H8'
              have H10 := H10'
              have HL := HL'
              have HC := HC'
              have hbw := hbw'
              have hbz := hbz'
              clear HS HA' H8' H10' HL' HC' hbw' hbz'
              refine region_gen_tail 6 (VG u4.heap.size [.val (.agg (C.cv (m2))), .val (.slice (some ⟨b, off, none⟩) l.length cap), .val (.int .i64 (j : Nat)), .val (.pointer (some ⟨b, off + j, none⟩)), .val (.int .i64 x), .val (.agg (C.cv (C.put m2 x false)))]) (BS u4) (by kernel_rfl) (by kernel_rfl) (by kernel_rfl) (Below.refl _ _).drew ⟨?_, ?_, ?_, ?_, ?_, ?_, trivial⟩ ?_
              · go_light; intro listed a' w' hs hS hun hdep
                have e10 : a'.eval (.tmp 10) = .pointer (some ⟨g10, 0, none⟩) := (hs.out 10 (by kernel_rfl)).trans (rfl)
                exact g_val (.agg (C.cv (m2))) hS rfl (run_op_load rfl e10 (H10.out.below hS H10.out.lt)) rfl
              · go_light; intro listed a' w' hs hS hun hdep
                have e1 : a'.eval (.tmp 1) = .slice (some ⟨b, off, none⟩) l.length cap := (hs.out 1 (by kernel_rfl)).trans (rfl)
                refine g_val (.slice (some ⟨b, off, none⟩) l.length cap) hS rfl ?_ rfl
                have hcn := BigFrame.eval_const a'
                have hfn := BigFrame.eval_func a'
                clear hs hdep
                generalize a'.eval = ev at *
                go_simp
              · go_light; intro listed a' w' hs hS hun hdep
                have e11 : a'.eval (.tmp 11) = .int .i64 (j : Nat) := (hs.out 11 (by kernel_rfl)).trans (rfl)
                refine g_val (.int .i64 (j : Nat)) hS rfl ?_ rfl
                have hcn := BigFrame.eval_const a'
                have hfn := BigFrame.eval_func a'
                clear hs hdep
                generalize a'.eval = ev at *
                go_simp
              · go_light; intro listed a' w' hs hS hun hdep
                have e57 : a'.eval (.tmp 57) = .slice (some ⟨b, off, none⟩) l.length cap := hs.eval 1 _ 57 rfl (hdep ⟨1, .data⟩ (by simp) rfl) rfl
                have e58 : a'.eval (.tmp 58) = .int .i64 (j : Nat) := hs.eval 2 _ 58 rfl (hdep ⟨2, .data⟩ (by simp) rfl) rfl
                refine g_val (.pointer (some ⟨b, off + j, none⟩)) hS rfl ?_ rfl
                have hcn := BigFrame.eval_const a'
                have hfn := BigFrame.eval_func a'
                clear hs hdep
                generalize a'.eval = ev at *
                go_simp
              · go_light; intro listed a' w' hs hS hun hdep
                have e59 : a'.eval (.tmp 59) = .pointer (some ⟨b, off + j, none⟩) := hs.eval 3 _ 59 rfl (hdep ⟨3, .data⟩ (by simp) rfl) rfl
                have hc := (hS.cell (p := ⟨b, off + j, none⟩) (by show b < _; omega)).trans HC.out
                refine g_val (.int .i64 x) hS rfl ?_ rfl
                have hcn := BigFrame.eval_const a'
                have hfn := BigFrame.eval_func a'
                clear hs hdep
                generalize a'.eval = ev at *
                go_simp
              · go_light; intro listed a' w' hs hS hun hdep
                have e56 : a'.eval (.tmp 56) = .agg (C.cv (m2)) := hs.eval 0 _ 56 rfl (hdep ⟨0, .data⟩ (by simp) rfl) rfl
                have e60 : a'.eval (.tmp 60) = .int .i64 x := hs.eval 4 _ 60 rfl (hdep ⟨4, .data⟩ (by simp) rfl) rfl
                refine g_call 13 #[.agg (C.cv (m2)), .int .i64 x, Value.bool false] hS rfl ?_ ?_
                · have hcn := BigFrame.eval_const a'; have hfn := BigFrame.eval_func a'; clear hs hdep; generalize a'.eval = ev at *; go_simp
                · exact c_val (Put_any m2 x false w') rfl
              · intro vs u5 hlen hV hS
                obtain ⟨v0, v1, v2, v3, v4, v5, rfl⟩ := vs_6 vs (hlen.trans rfl)
                have q0 : v0 = .agg (C.cv (m2)) := hV 0 _ rfl
                have q1 : v1 = .slice (some ⟨b, off, none⟩) l.length cap := hV 1 _ rfl
                have q2 : v2 = .int .i64 (j : Nat) := hV 2 _ rfl
                have q3 : v3 = .pointer (some ⟨b, off + j, none⟩) := hV 3 _ rfl
                have q4 : v4 = .int .i64 x := hV 4 _ rfl
                have q5 : v5 = .agg (C.cv (C.put m2 x false)) := hV 5 _ rfl
                have hbel : Below u4.heap.size u4 u5 := hS
                subst q0 q1 q2 q3 q4 q5
                clear hV hS
                simp only [lays, Act.put, List.setIfInBounds_toArray, List.set_cons_zero, List.set_cons_succ, List.drop_succ_cons, List.drop_zero, List.take_succ_cons, List.take_zero]
                have HX := Lib.hid (H10.out.below hbel H10.out.lt)
                go_wp2_with (refine store_set rfl rfl rfl rfl HX.out ?_; intro u6 hs ho; have HS := Lib.hid hs; have HO := Lib.hid ho; clear hs ho HX)
                have hm2 : Below w.heap.size u4 u6 := (hbel.mono hbz).trans (HO.out.below (by omega))
                have HC' := Lib.hid ((hm2.cell (p := ⟨b, off + j, none⟩) hbl).trans HC.out)
                have HA' := Lib.hid ((HA.out.below hbel HA.out.lt).only HO.out (by omega))
                have H8' := Lib.hid ((H8.out.below hbel H8.out.lt).only HO.out n35)
                have H9' := Lib.hid ((H9.out.below hbel H9.out.lt).only HO.out n45)
                have HL' := Lib.hid ((HL.out.below hbel).only HO.out (by omega))
                have hbw' := hbw.trans hm2
                have hbz' := hbw'.size
                clear HA H8 H9 H10 HL HC HO hbw hbz hbel hm2
                have H10 := HS
                have HA := HA'
                have H8 := H8'
                have H9 := H9'
                have HL := HL'
                have HC := HC'
                have hbw := hbw'
                have hbz := hbz'
                clear HS HA' H8' H9' HL' HC' hbw' hbz'
                go_roundw
                case rel => exact ⟨j + 1, by omega, by go_num, by rw [ER.out], hbw, HA.out, by rw [E8.out]; exact H8.out, by rw [E9.out]; exact H9.out, by rw [E10.out]; exact H10.out, HL.out⟩
                case measure => simp [intOf]; omega
      · have e : l.take j = l := List.take_of_length_le (by omega)
        obtain rfl : j = l.length := by omega
        have hlt' : ¬ (l.length : Int) < (l.length : Int) := by omega
        rw [e] at h8 h9 h10 ⊢
        clear e
        have HOf := Lib.hid (fun w' h => Of_any ao cap l w' h (by unfold maxLen; omega))
        have HC1 := Lib.hid (fun w' h => With_any c ao cap l w' h (by unfold maxLen; omega))
        have HC2 := Lib.hid (fun w' h => Without_any c ao cap l w' h (by unfold maxLen; omega))
        have HK1 := Lib.hid (fun w' => Has_any c k w')
        have HK2 := Lib.hid (fun w' => RHas_any c k w')
        have HM := Lib.hid (fun w' => Most_any c w')
        have hp1 : C.plus c l < 2 ^ 240 := C.plus_lt l c hc
        have hp2 : C.less c l < 2 ^ 240 := C.less_lt l c hc
        have HA := Lib.hid hA
        have H9 := Lib.hid h9
        have H10 := Lib.hid h10
        have HL := Lib.hid hL
        have hbz := hbw.size
        have hq0 : (if C.right l then C.plus 0 l else 0) < 2 ^ 240 := by split; exact C.plus_lt l 0 (Nat.pow_pos (by decide)); exact Nat.pow_pos (by decide)
        have HQ : Hid (C.right l = true → SetAt wr g8 (if C.right l then C.plus 0 l else 0)) := Lib.hid (fun h => by rw [h]; exact h8)
        have HZ : Hid (C.right l = false → (if C.right l then C.plus 0 l else 0) = 0) := Lib.hid (fun h => by rw [h]; rfl)
        have h8' : Hid (SetAt wr g8 (C.plus 0 l)) := Lib.hid h8
        clear hA h8 h9 h10 hL
        have HN := Lib.hid (most_none c)
        have HS := Lib.hid (most_some c)
        have h300 := C.list_len c
        generalize (if C.right l then C.plus 0 l else 0) = q at *
        have hq := hq0
        clear hq0
        generalize C.right l = rt at *
        generalize C.plus 0 l = p0 at *
        generalize C.plus c l = p1 at *
        generalize C.less c l = p2 at *
        generalize C.has c k = hk at *
        generalize C.mostTo c 240 = ms at *
        cases rt
        · have hz := HZ.out rfl
          go_wp2_with (rw [C.zero30]; refine store_set rfl rfl rfl rfl h8'.out ?_; intro y1 hs ho; have HQ' := Lib.hid hs; have HO := Lib.hid ho; clear hs ho)
          have hby : Below w.heap.size w y1 := hbw.trans (HO.out.below (by omega))
          have H8 : Hid (SetAt y1 g8 q) := Lib.hid (by rw [hz]; exact HQ'.out)
          have HA' := Lib.hid (HA.out.only HO.out (by omega))
          have H9' := Lib.hid (H9.out.only HO.out (Ne.symm n34))
          have H10' := Lib.hid (H10.out.only HO.out (Ne.symm n35))
          have HL' := Lib.hid (HL.out.only HO.out (by omega))
          have hbz' := hby.size
          clear HA H9 H10 HL HQ HQ' h8' HO hbw hbz hz HZ
          have HA := HA'
          have H9 := H9'
          have H10 := H10'
          have HL := HL'
          have hbw := hby
          have hbz := hbz'
          clear HA' H9' H10' HL' hby hbz'
          generalize y1 = y0 at *
          have HRy := Lib.hid (HR.out.below2 hbw)
          refine (HOf.out y0 HRy.out).mono ?_
          rintro e y2 ⟨rfl, hb2⟩
          have zA := HA.out.lt
          have z8 := H8.out.lt
          have z9 := H9.out.lt
          have z10 := H10.out.lt
          have hz2 := hb2.size
          have HN2 := Lib.hid (SetAt.new y2 0)
          have HA2 := Lib.hid ((HA.out.below hb2 zA).alloc (.cells (C.cv 0) 23))
          go_wp2_with (first | (rw [C.zero30]; refine store_set rfl rfl rfl rfl HN2.out ?_; intro y3 hs ho; have H12' := Lib.hid hs; have HO := Lib.hid ho; clear hs ho HN2) | (refine load_set rfl rfl rfl (HA2.out.only HO.out (by omega)) ?_))
          have hb23 : Below y2.heap.size y2 y3 := ((Below.refl _ y2).alloc (Nat.le_refl _) _).trans (HO.out.below (Nat.le_refl _))
          have hb03 : Below y0.heap.size y0 y3 := hb2.trans (hb23.mono hz2)
          clear HO HA2 hb23
          refine (RList_any c y3).mono ?_
          rintro e y4 ⟨ro, rc, rfl, hro, hb4⟩
          have hb04 : Below y0.heap.size y0 y4 := hb03.trans (hb4.mono hb03.size)
          have H12 := Lib.hid (H12'.out.below hb4 H12'.out.lt)
          have HA' := Lib.hid (HA.out.below hb04 zA)
          have H8' := Lib.hid (H8.out.below hb04 z8)
          have H9' := Lib.hid (H9.out.below hb04 z9)
          have H10' := Lib.hid (H10.out.below hb04 z10)
          have HL' := Lib.hid (HL.out.below hb04)
          have HRo := Lib.hid hro
          have hbw4 : Below w.heap.size w y4 := hbw.trans (hb04.mono hbz)
          have HRow := Lib.hid (HR.out.below2 hbw4)
          clear HA H8 H9 H10 HL HRy hro hb04 hb03 hb2 hb4 H12' zA z8 z9 z10 hz2 hbw hbz HOf
          have HA := HA'
          have H8 := H8'
          have H9 := H9'
          have H10 := H10'
          have HL := HL'
          clear HA' H8' H9' H10' HL'
          generalize y2.heap.size = g12 at *
          generalize hW0 : y4 = W0' at *
          clear hW0
          by_cases h0 : (C.list c).length = 0
          · have hms := HN.out h0
            have hl0 : ¬ (0 : Int) < ((C.list c).length : Int) := by omega
            subst hms
            clear h0
            go_wp2
            clear hl0
            refine region_gen (VG W0'.heap.size [.val (.agg (C.cv (q))), .val (.agg (C.cv (q))), .val (.bool true), .val (.bool true), .val (.bool false), .val (.bool false), .val (.bool true), .val (.bool true), .val (.bool true), .val (.agg (C.cv (c))), .val (.slice ao l.length cap), .val (.agg (C.cv (p1))), .val (.agg (C.cv (p1))), .val (.bool true), .val (.bool true), .val (.bool true), .val (.agg (C.cv (c))), .val (.slice ao l.length cap), .val (.agg (C.cv (p2))), .val (.agg (C.cv (p2))), .val (.bool true), .val (.bool true), .val (.bool true), .val (.agg (C.cv (c))), .val (.int .i64 k), .val (.bool hk), .val (.agg (C.cv (c))), .val (.int .i64 k), .val (.bool hk), .val (.bool true), .val (.bool true), .val (.bool true), .val (.agg (C.cv (c))), .ints (C.list c), .val (.slice ro (C.list c).length rc), .val (.bool true), .val (.bool true), .val (.bool true), .val (.agg (C.cv (c))), .val (.int .i64 (C.list c).length), .val (.slice ro (C.list c).length rc), .val (.int .i64 (C.list c).length), .val (.bool true), .val (.bool true), .val (.bool true), .val (.agg (C.cv (c))), .val (.int .i64 (-1)), .val (.int .i64 (-1)), .val (.bool true), .val (.bool true), .val (.bool true), .val (.bool true), .val (.bool true), .val (.bool true)]) (BS W0') (by kernel_rfl) (by kernel_rfl) (Below.refl _ _).drew ⟨?_, ?_, ?_, ?_, ?_, ?_, ?_, ?_, ?_, ?_, ?_, ?_, ?_, ?_, ?_, ?_, ?_, ?_, ?_, ?_, ?_, ?_, ?_, ?_, ?_, ?_, ?_, ?_, ?_, ?_, ?_, ?_, ?_, ?_, ?_, ?_, ?_, ?_, ?_, ?_, ?_, ?_, ?_, ?_, ?_, ?_, ?_, ?_, ?_, ?_, ?_, ?_, ?_, ?_, trivial⟩ ?_
            · go_light; intro listed a' w' hs hS hun hdep
              have e12 : a'.eval (.tmp 12) = .pointer (some ⟨g12, 0, none⟩) := (hs.out 12 (by kernel_rfl)).trans (rfl)
              exact g_val (.agg (C.cv (q))) hS rfl (run_op_load rfl e12 (H12.out.below hS H12.out.lt)) rfl
            · go_light; intro listed a' w' hs hS hun hdep
              have e8 : a'.eval (.tmp 8) = .pointer (some ⟨g8, 0, none⟩) := (hs.out 8 (by kernel_rfl)).trans (rfl)
              exact g_val (.agg (C.cv (q))) hS rfl (run_op_load rfl e8 (H8.out.below hS H8.out.lt)) rfl
            · go_light; intro listed a' w' hs hS hun hdep
              have e81 : a'.eval (.tmp 81) = .agg (C.cv (q)) := hs.eval 0 _ 81 rfl (hdep ⟨0, .data⟩ (by simp) rfl) rfl
              have e82 : a'.eval (.tmp 82) = .agg (C.cv (q)) := hs.eval 1 _ 82 rfl (hdep ⟨1, .data⟩ (by simp) rfl) rfl
              exact g_val (.bool true) hS rfl (run_op_same rfl e81 e82 hq) rfl
            · go_light; intro listed a' w' hs hS hun hdep
              have e83 : a'.eval (.tmp 83) = .bool true := hs.eval 2 _ 83 rfl (hdep ⟨2, .data⟩ (by simp) rfl) rfl
              refine g_val (.bool true) hS rfl ?_ rfl
              have hcn := BigFrame.eval_const a'
              have hfn := BigFrame.eval_func a'
              clear hs hdep
              generalize a'.eval = ev at *
              go_simp
            · go_light; intro listed a' w' hs hS hun hdep
              have eg : a'.eval (.tmp 84) = .bool true := hs.eval 3 _ 84 rfl (hdep ⟨3, .guard⟩ (by simp) rfl) rfl
              have e13 : a'.eval (.tmp 13) = .bool false := (hs.out 13 (by kernel_rfl)).trans (rfl)
              refine g_val (.bool false) hS (wanted_yes rfl rfl rfl eg) ?_ rfl
              have hcn := BigFrame.eval_const a'
              have hfn := BigFrame.eval_func a'
              clear hs hdep
              generalize a'.eval = ev at *
              go_simp
            · go_light; intro listed a' w' hs hS hun hdep
              have eg : a'.eval (.tmp 84) = .bool true := hs.eval 3 _ 84 rfl (hdep ⟨3, .guard⟩ (by simp) rfl) rfl
              have e7 : a'.eval (.tmp 7) = .bool false := (hs.out 7 (by kernel_rfl)).trans (rfl)
              refine g_val (.bool false) hS (wanted_yes rfl rfl rfl eg) ?_ rfl
              have hcn := BigFrame.eval_const a'
              have hfn := BigFrame.eval_func a'
              clear hs hdep
              generalize a'.eval = ev at *
              go_simp
            · go_light; intro listed a' w' hs hS hun hdep
              have eg : a'.eval (.tmp 84) = .bool true := hs.eval 3 _ 84 rfl (hdep ⟨3, .guard⟩ (by simp) rfl) rfl
              have e85 : a'.eval (.tmp 85) = .bool false := hs.eval 4 _ 85 rfl (hdep ⟨4, .data⟩ (by simp) rfl) rfl
              have e86 : a'.eval (.tmp 86) = .bool false := hs.eval 5 _ 86 rfl (hdep ⟨5, .data⟩ (by simp) rfl) rfl
              refine g_val (.bool true) hS (wanted_yes rfl rfl rfl eg) ?_ rfl
              have hcn := BigFrame.eval_const a'
              have hfn := BigFrame.eval_func a'
              clear hs hdep
              generalize a'.eval = ev at *
              go_simp
            · go_light; intro listed a' w' hs hS hun hdep
              have e84 : a'.eval (.tmp 84) = .bool true := hs.eval 3 _ 84 rfl (hdep ⟨3, .data⟩ (by simp) rfl) rfl
              have e87 : a'.eval (.tmp 87) = .bool true := hs.eval 6 _ 87 rfl (hdep ⟨6, .data⟩ (by simp) rfl) rfl
              refine g_val (.bool true) hS rfl ?_ rfl
              have hcn := BigFrame.eval_const a'
              have hfn := BigFrame.eval_func a'
              clear hs hdep
              generalize a'.eval = ev at *
              go_simp
            · go_light; intro listed a' w' hs hS hun hdep
              have e88 : a'.eval (.tmp 88) = .bool true := hs.eval 7 _ 88 rfl (hdep ⟨7, .data⟩ (by simp) rfl) rfl
              refine g_val (.bool true) hS rfl ?_ rfl
              have hcn := BigFrame.eval_const a'
              have hfn := BigFrame.eval_func a'
              clear hs hdep
              generalize a'.eval = ev at *
              go_simp
            · go_light; intro listed a' w' hs hS hun hdep
              have eg : a'.eval (.tmp 89) = .bool true := hs.eval 8 _ 89 rfl (hdep ⟨8, .guard⟩ (by simp) rfl) rfl
              have e3 : a'.eval (.tmp 3) = .pointer (some ⟨w.heap.size, 0, none⟩) := (hs.out 3 (by kernel_rfl)).trans (rfl)
              exact g_val (.agg (C.cv (c))) hS (wanted_yes rfl rfl rfl eg) (run_op_load rfl e3 (HA.out.below hS HA.out.lt)) rfl
            · go_light; intro listed a' w' hs hS hun hdep
              have eg : a'.eval (.tmp 89) = .bool true := hs.eval 8 _ 89 rfl (hdep ⟨8, .guard⟩ (by simp) rfl) rfl
              have e1 : a'.eval (.tmp 1) = .slice ao l.length cap := (hs.out 1 (by kernel_rfl)).trans (rfl)
              refine g_val (.slice ao l.length cap) hS (wanted_yes rfl rfl rfl eg) ?_ rfl
              have hcn := BigFrame.eval_const a'
              have hfn := BigFrame.eval_func a'
              clear hs hdep
              generalize a'.eval = ev at *
              go_simp
            · go_light; intro listed a' w' hs hS hun hdep
              have eg : a'.eval (.tmp 89) = .bool true := hs.eval 8 _ 89 rfl (hdep ⟨8, .guard⟩ (by simp) rfl) rfl
              have e90 : a'.eval (.tmp 90) = .agg (C.cv (c)) := hs.eval 9 _ 90 rfl (hdep ⟨9, .data⟩ (by simp) rfl) rfl
              have e91 : a'.eval (.tmp 91) = .slice ao l.length cap := hs.eval 10 _ 91 rfl (hdep ⟨10, .data⟩ (by simp) rfl) rfl
              refine g_call 16 #[.agg (C.cv (c)), .slice ao l.length cap] hS (wanted_yes rfl rfl rfl eg) ?_ ?_
              · have hcn := BigFrame.eval_const a'; have hfn := BigFrame.eval_func a'; clear hs hdep; generalize a'.eval = ev at *; go_simp
              · exact c_val (HC1.out w' (HRow.out.below2 hS)) rfl
            · go_light; intro listed a' w' hs hS hun hdep
              have eg : a'.eval (.tmp 89) = .bool true := hs.eval 8 _ 89 rfl (hdep ⟨8, .guard⟩ (by simp) rfl) rfl
              have e9 : a'.eval (.tmp 9) = .pointer (some ⟨g9, 0, none⟩) := (hs.out 9 (by kernel_rfl)).trans (rfl)
              exact g_val (.agg (C.cv (p1))) hS (wanted_yes rfl rfl rfl eg) (run_op_load rfl e9 (H9.out.below hS H9.out.lt)) rfl
            · go_light; intro listed a' w' hs hS hun hdep
              have eg : a'.eval (.tmp 89) = .bool true := hs.eval 8 _ 89 rfl (hdep ⟨8, .guard⟩ (by simp) rfl) rfl
              have e92 : a'.eval (.tmp 92) = .agg (C.cv (p1)) := hs.eval 11 _ 92 rfl (hdep ⟨11, .data⟩ (by simp) rfl) rfl
              have e93 : a'.eval (.tmp 93) = .agg (C.cv (p1)) := hs.eval 12 _ 93 rfl (hdep ⟨12, .data⟩ (by simp) rfl) rfl
              exact g_val (.bool true) hS (wanted_yes rfl rfl rfl eg) (run_op_same rfl e92 e93 hp1) rfl
            · go_light; intro listed a' w' hs hS hun hdep
              have e89 : a'.eval (.tmp 89) = .bool true := hs.eval 8 _ 89 rfl (hdep ⟨8, .data⟩ (by simp) rfl) rfl
              have e94 : a'.eval (.tmp 94) = .bool true := hs.eval 13 _ 94 rfl (hdep ⟨13, .data⟩ (by simp) rfl) rfl
              refine g_val (.bool true) hS rfl ?_ rfl
              have hcn := BigFrame.eval_const a'
              have hfn := BigFrame.eval_func a'
              clear hs hdep
              generalize a'.eval = ev at *
              go_simp
            · go_light; intro listed a' w' hs hS hun hdep
              have e95 : a'.eval (.tmp 95) = .bool true := hs.eval 14 _ 95 rfl (hdep ⟨14, .data⟩ (by simp) rfl) rfl
              refine g_val (.bool true) hS rfl ?_ rfl
              have hcn := BigFrame.eval_const a'
              have hfn := BigFrame.eval_func a'
              clear hs hdep
              generalize a'.eval = ev at *
              go_simp
            · go_light; intro listed a' w' hs hS hun hdep
              have eg : a'.eval (.tmp 96) = .bool true := hs.eval 15 _ 96 rfl (hdep ⟨15, .guard⟩ (by simp) rfl) rfl
              have e3 : a'.eval (.tmp 3) = .pointer (some ⟨w.heap.size, 0, none⟩) := (hs.out 3 (by kernel_rfl)).trans (rfl)
              exact g_val (.agg (C.cv (c))) hS (wanted_yes rfl rfl rfl eg) (run_op_load rfl e3 (HA.out.below hS HA.out.lt)) rfl
            · go_light; intro listed a' w' hs hS hun hdep
              have eg : a'.eval (.tmp 96) = .bool true := hs.eval 15 _ 96 rfl (hdep ⟨15, .guard⟩ (by simp) rfl) rfl
              have e1 : a'.eval (.tmp 1) = .slice ao l.length cap := (hs.out 1 (by kernel_rfl)).trans (rfl)
              refine g_val (.slice ao l.length cap) hS (wanted_yes rfl rfl rfl eg) ?_ rfl
              have hcn := BigFrame.eval_const a'
              have hfn := BigFrame.eval_func a'
              clear hs hdep
              generalize a'.eval = ev at *
              go_simp
            · go_light; intro listed a' w' hs hS hun hdep
              have eg : a'.eval (.tmp 96) = .bool true := hs.eval 15 _ 96 rfl (hdep ⟨15, .guard⟩ (by simp) rfl) rfl
              have e97 : a'.eval (.tmp 97) = .agg (C.cv (c)) := hs.eval 16 _ 97 rfl (hdep ⟨16, .data⟩ (by simp) rfl) rfl
              have e98 : a'.eval (.tmp 98) = .slice ao l.length cap := hs.eval 17 _ 98 rfl (hdep ⟨17, .data⟩ (by simp) rfl) rfl
              refine g_call 17 #[.agg (C.cv (c)), .slice ao l.length cap] hS (wanted_yes rfl rfl rfl eg) ?_ ?_
              · have hcn := BigFrame.eval_const a'; have hfn := BigFrame.eval_func a'; clear hs hdep; generalize a'.eval = ev at *; go_simp
              · exact c_val (HC2.out w' (HRow.out.below2 hS)) rfl
            · go_light; intro listed a' w' hs hS hun hdep
              have eg : a'.eval (.tmp 96) = .bool true := hs.eval 15 _ 96 rfl (hdep ⟨15, .guard⟩ (by simp) rfl) rfl
              have e10 : a'.eval (.tmp 10) = .pointer (some ⟨g10, 0, none⟩) := (hs.out 10 (by kernel_rfl)).trans (rfl)
              exact g_val (.agg (C.cv (p2))) hS (wanted_yes rfl rfl rfl eg) (run_op_load rfl e10 (H10.out.below hS H10.out.lt)) rfl
            · go_light; intro listed a' w' hs hS hun hdep
              have eg : a'.eval (.tmp 96) = .bool true := hs.eval 15 _ 96 rfl (hdep ⟨15, .guard⟩ (by simp) rfl) rfl
              have e99 : a'.eval (.tmp 99) = .agg (C.cv (p2)) := hs.eval 18 _ 99 rfl (hdep ⟨18, .data⟩ (by simp) rfl) rfl
              have e100 : a'.eval (.tmp 100) = .agg (C.cv (p2)) := hs.eval 19 _ 100 rfl (hdep ⟨19, .data⟩ (by simp) rfl) rfl
              exact g_val (.bool true) hS (wanted_yes rfl rfl rfl eg) (run_op_same rfl e99 e100 hp2) rfl
            · go_light; intro listed a' w' hs hS hun hdep
              have e96 : a'.eval (.tmp 96) = .bool true := hs.eval 15 _ 96 rfl (hdep ⟨15, .data⟩ (by simp) rfl) rfl
              have e101 : a'.eval (.tmp 101) = .bool true := hs.eval 20 _ 101 rfl (hdep ⟨20, .data⟩ (by simp) rfl) rfl
              refine g_val (.bool true) hS rfl ?_ rfl
              have hcn := BigFrame.eval_const a'
              have hfn := BigFrame.eval_func a'
              clear hs hdep
              generalize a'.eval = ev at *
              go_simp
            · go_light; intro listed a' w' hs hS hun hdep
              have e102 : a'.eval (.tmp 102) = .bool true := hs.eval 21 _ 102 rfl (hdep ⟨21, .data⟩ (by simp) rfl) rfl
              refine g_val (.bool true) hS rfl ?_ rfl
              have hcn := BigFrame.eval_const a'
              have hfn := BigFrame.eval_func a'
              clear hs hdep
              generalize a'.eval = ev at *
              go_simp
            · go_light; intro listed a' w' hs hS hun hdep
              have eg : a'.eval (.tmp 103) = .bool true := hs.eval 22 _ 103 rfl (hdep ⟨22, .guard⟩ (by simp) rfl) rfl
              have e3 : a'.eval (.tmp 3) = .pointer (some ⟨w.heap.size, 0, none⟩) := (hs.out 3 (by kernel_rfl)).trans (rfl)
              exact g_val (.agg (C.cv (c))) hS (wanted_yes rfl rfl rfl eg) (run_op_load rfl e3 (HA.out.below hS HA.out.lt)) rfl
            · go_light; intro listed a' w' hs hS hun hdep
              have eg : a'.eval (.tmp 103) = .bool true := hs.eval 22 _ 103 rfl (hdep ⟨22, .guard⟩ (by simp) rfl) rfl
              have e2 : a'.eval (.tmp 2) = .int .i64 k := (hs.out 2 (by kernel_rfl)).trans (rfl)
              refine g_val (.int .i64 k) hS (wanted_yes rfl rfl rfl eg) ?_ rfl
              have hcn := BigFrame.eval_const a'
              have hfn := BigFrame.eval_func a'
              clear hs hdep
              generalize a'.eval = ev at *
              go_simp
            · go_light; intro listed a' w' hs hS hun hdep
              have eg : a'.eval (.tmp 103) = .bool true := hs.eval 22 _ 103 rfl (hdep ⟨22, .guard⟩ (by simp) rfl) rfl
              have e104 : a'.eval (.tmp 104) = .agg (C.cv (c)) := hs.eval 23 _ 104 rfl (hdep ⟨23, .data⟩ (by simp) rfl) rfl
              have e105 : a'.eval (.tmp 105) = .int .i64 k := hs.eval 24 _ 105 rfl (hdep ⟨24, .data⟩ (by simp) rfl) rfl
              refine g_call 18 #[.agg (C.cv (c)), .int .i64 k] hS (wanted_yes rfl rfl rfl eg) ?_ ?_
              · have hcn := BigFrame.eval_const a'; have hfn := BigFrame.eval_func a'; clear hs hdep; generalize a'.eval = ev at *; go_simp
              · exact c_val (HK1.out w') rfl
            · go_light; intro listed a' w' hs hS hun hdep
              have eg : a'.eval (.tmp 103) = .bool true := hs.eval 22 _ 103 rfl (hdep ⟨22, .guard⟩ (by simp) rfl) rfl
              have e3 : a'.eval (.tmp 3) = .pointer (some ⟨w.heap.size, 0, none⟩) := (hs.out 3 (by kernel_rfl)).trans (rfl)
              exact g_val (.agg (C.cv (c))) hS (wanted_yes rfl rfl rfl eg) (run_op_load rfl e3 (HA.out.below hS HA.out.lt)) rfl
            · go_light; intro listed a' w' hs hS hun hdep
              have eg : a'.eval (.tmp 103) = .bool true := hs.eval 22 _ 103 rfl (hdep ⟨22, .guard⟩ (by simp) rfl) rfl
              have e2 : a'.eval (.tmp 2) = .int .i64 k := (hs.out 2 (by kernel_rfl)).trans (rfl)
              refine g_val (.int .i64 k) hS (wanted_yes rfl rfl rfl eg) ?_ rfl
              have hcn := BigFrame.eval_const a'
              have hfn := BigFrame.eval_func a'
              clear hs hdep
              generalize a'.eval = ev at *
              go_simp
            · go_light; intro listed a' w' hs hS hun hdep
              have eg : a'.eval (.tmp 103) = .bool true := hs.eval 22 _ 103 rfl (hdep ⟨22, .guard⟩ (by simp) rfl) rfl
              have e107 : a'.eval (.tmp 107) = .agg (C.cv (c)) := hs.eval 26 _ 107 rfl (hdep ⟨26, .data⟩ (by simp) rfl) rfl
              have e108 : a'.eval (.tmp 108) = .int .i64 k := hs.eval 27 _ 108 rfl (hdep ⟨27, .data⟩ (by simp) rfl) rfl
              refine g_call 19 #[.agg (C.cv (c)), .int .i64 k] hS (wanted_yes rfl rfl rfl eg) ?_ ?_
              · have hcn := BigFrame.eval_const a'; have hfn := BigFrame.eval_func a'; clear hs hdep; generalize a'.eval = ev at *; go_simp
              · exact c_val (HK2.out w') rfl
            · go_light; intro listed a' w' hs hS hun hdep
              have eg : a'.eval (.tmp 103) = .bool true := hs.eval 22 _ 103 rfl (hdep ⟨22, .guard⟩ (by simp) rfl) rfl
              have e106 : a'.eval (.tmp 106) = .bool hk := hs.eval 25 _ 106 rfl (hdep ⟨25, .data⟩ (by simp) rfl) rfl
              have e109 : a'.eval (.tmp 109) = .bool hk := hs.eval 28 _ 109 rfl (hdep ⟨28, .data⟩ (by simp) rfl) rfl
              refine g_val (.bool true) hS (wanted_yes rfl rfl rfl eg) ?_ rfl
              have hcn := BigFrame.eval_const a'
              have hfn := BigFrame.eval_func a'
              clear hs hdep
              generalize a'.eval = ev at *
              go_simp
            · go_light; intro listed a' w' hs hS hun hdep
              have e103 : a'.eval (.tmp 103) = .bool true := hs.eval 22 _ 103 rfl (hdep ⟨22, .data⟩ (by simp) rfl) rfl
              have e110 : a'.eval (.tmp 110) = .bool true := hs.eval 29 _ 110 rfl (hdep ⟨29, .data⟩ (by simp) rfl) rfl
              refine g_val (.bool true) hS rfl ?_ rfl
              have hcn := BigFrame.eval_const a'
              have hfn := BigFrame.eval_func a'
              clear hs hdep
              generalize a'.eval = ev at *
              go_simp
            · go_light; intro listed a' w' hs hS hun hdep
              have e111 : a'.eval (.tmp 111) = .bool true := hs.eval 30 _ 111 rfl (hdep ⟨30, .data⟩ (by simp) rfl) rfl
              refine g_val (.bool true) hS rfl ?_ rfl
              have hcn := BigFrame.eval_const a'
              have hfn := BigFrame.eval_func a'
              clear hs hdep
              generalize a'.eval = ev at *
              go_simp
            · go_light; intro listed a' w' hs hS hun hdep
              have eg : a'.eval (.tmp 112) = .bool true := hs.eval 31 _ 112 rfl (hdep ⟨31, .guard⟩ (by simp) rfl) rfl
              have e3 : a'.eval (.tmp 3) = .pointer (some ⟨w.heap.size, 0, none⟩) := (hs.out 3 (by kernel_rfl)).trans (rfl)
              exact g_val (.agg (C.cv (c))) hS (wanted_yes rfl rfl rfl eg) (run_op_load rfl e3 (HA.out.below hS HA.out.lt)) rfl
            · go_light; intro listed a' w' hs hS hun hdep
              have eg : a'.eval (.tmp 112) = .bool true := hs.eval 31 _ 112 rfl (hdep ⟨31, .guard⟩ (by simp) rfl) rfl
              have e113 : a'.eval (.tmp 113) = .agg (C.cv (c)) := hs.eval 32 _ 113 rfl (hdep ⟨32, .data⟩ (by simp) rfl) rfl
              refine g_call 21 #[.agg (C.cv (c))] hS (wanted_yes rfl rfl rfl eg) ?_ ?_
              · have hcn := BigFrame.eval_const a'; have hfn := BigFrame.eval_func a'; clear hs hdep; generalize a'.eval = ev at *; go_simp
              · exact Calls.mono (List_any c w') fun e w'' ⟨ao, cp, he, hr, hb⟩ => ⟨_, he, ⟨ao, cp, rfl, hr⟩, hb⟩
            · go_light; intro listed a' w' hs hS hun hdep
              have eg : a'.eval (.tmp 112) = .bool true := hs.eval 31 _ 112 rfl (hdep ⟨31, .guard⟩ (by simp) rfl) rfl
              have e14 : a'.eval (.tmp 14) = .slice ro (C.list c).length rc := (hs.out 14 (by kernel_rfl)).trans (rfl)
              refine g_val (.slice ro (C.list c).length rc) hS (wanted_yes rfl rfl rfl eg) ?_ rfl
              have hcn := BigFrame.eval_const a'
              have hfn := BigFrame.eval_func a'
              clear hs hdep
              generalize a'.eval = ev at *
              go_simp
            · go_light; intro listed a' w' hs hS hun hdep
              have eg : a'.eval (.tmp 112) = .bool true := hs.eval 31 _ 112 rfl (hdep ⟨31, .guard⟩ (by simp) rfl) rfl
              have r114 : (.ints (C.list c) : GV).ok W0'.heap.size (a'.eval (.tmp 114)) w' := hs.eval 33 _ 114 rfl (hdep ⟨33, .data⟩ (by simp) rfl)  rfl
              obtain ⟨ao114, cp114, e114, k114⟩ := r114
              have e115 : a'.eval (.tmp 115) = .slice ro (C.list c).length rc := hs.eval 34 _ 115 rfl (hdep ⟨34, .data⟩ (by simp) rfl) rfl
              refine g_call 20 #[.slice ao114 (C.list c).length cp114, .slice ro (C.list c).length rc] hS (wanted_yes rfl rfl rfl eg) ?_ ?_
              · have hcn := BigFrame.eval_const a'; have hfn := BigFrame.eval_func a'; clear hs hdep; generalize a'.eval = ev at *; go_simp
              · exact c_val (ints_same ao114 ro cp114 rc (C.list c) w' k114 (HRo.out.below hS) (list_len1000 c)) rfl
            · go_light; intro listed a' w' hs hS hun hdep
              have e112 : a'.eval (.tmp 112) = .bool true := hs.eval 31 _ 112 rfl (hdep ⟨31, .data⟩ (by simp) rfl) rfl
              have e116 : a'.eval (.tmp 116) = .bool true := hs.eval 35 _ 116 rfl (hdep ⟨35, .data⟩ (by simp) rfl) rfl
              refine g_val (.bool true) hS rfl ?_ rfl
              have hcn := BigFrame.eval_const a'
              have hfn := BigFrame.eval_func a'
              clear hs hdep
              generalize a'.eval = ev at *
              go_simp
            · go_light; intro listed a' w' hs hS hun hdep
              have e117 : a'.eval (.tmp 117) = .bool true := hs.eval 36 _ 117 rfl (hdep ⟨36, .data⟩ (by simp) rfl) rfl
              refine g_val (.bool true) hS rfl ?_ rfl
              have hcn := BigFrame.eval_const a'
              have hfn := BigFrame.eval_func a'
              clear hs hdep
              generalize a'.eval = ev at *
              go_simp
            · go_light; intro listed a' w' hs hS hun hdep
              have eg : a'.eval (.tmp 118) = .bool true := hs.eval 37 _ 118 rfl (hdep ⟨37, .guard⟩ (by simp) rfl) rfl
              have e3 : a'.eval (.tmp 3) = .pointer (some ⟨w.heap.size, 0, none⟩) := (hs.out 3 (by kernel_rfl)).trans (rfl)
              exact g_val (.agg (C.cv (c))) hS (wanted_yes rfl rfl rfl eg) (run_op_load rfl e3 (HA.out.below hS HA.out.lt)) rfl
            · go_light; intro listed a' w' hs hS hun hdep
              have eg : a'.eval (.tmp 118) = .bool true := hs.eval 37 _ 118 rfl (hdep ⟨37, .guard⟩ (by simp) rfl) rfl
              have e119 : a'.eval (.tmp 119) = .agg (C.cv (c)) := hs.eval 38 _ 119 rfl (hdep ⟨38, .data⟩ (by simp) rfl) rfl
              refine g_call 22 #[.agg (C.cv (c))] hS (wanted_yes rfl rfl rfl eg) ?_ ?_
              · have hcn := BigFrame.eval_const a'; have hfn := BigFrame.eval_func a'; clear hs hdep; generalize a'.eval = ev at *; go_simp
              · exact c_val (Count_any c w') rfl
            · go_light; intro listed a' w' hs hS hun hdep
              have eg : a'.eval (.tmp 118) = .bool true := hs.eval 37 _ 118 rfl (hdep ⟨37, .guard⟩ (by simp) rfl) rfl
              have e14 : a'.eval (.tmp 14) = .slice ro (C.list c).length rc := (hs.out 14 (by kernel_rfl)).trans (rfl)
              refine g_val (.slice ro (C.list c).length rc) hS (wanted_yes rfl rfl rfl eg) ?_ rfl
              have hcn := BigFrame.eval_const a'
              have hfn := BigFrame.eval_func a'
              clear hs hdep
              generalize a'.eval = ev at *
              go_simp
            · go_light; intro listed a' w' hs hS hun hdep
              have eg : a'.eval (.tmp 118) = .bool true := hs.eval 37 _ 118 rfl (hdep ⟨37, .guard⟩ (by simp) rfl) rfl
              have e121 : a'.eval (.tmp 121) = .slice ro (C.list c).length rc := hs.eval 40 _ 121 rfl (hdep ⟨40, .data⟩ (by simp) rfl) rfl
              refine g_val (.int .i64 (C.list c).length) hS (wanted_yes rfl rfl rfl eg) ?_ rfl
              have hcn := BigFrame.eval_const a'
              have hfn := BigFrame.eval_func a'
              clear hs hdep
              generalize a'.eval = ev at *
              go_simp
            · go_light; intro listed a' w' hs hS hun hdep
              have eg : a'.eval (.tmp 118) = .bool true := hs.eval 37 _ 118 rfl (hdep ⟨37, .guard⟩ (by simp) rfl) rfl
              have e120 : a'.eval (.tmp 120) = .int .i64 (C.list c).length := hs.eval 39 _ 120 rfl (hdep ⟨39, .data⟩ (by simp) rfl) rfl
              have e122 : a'.eval (.tmp 122) = .int .i64 (C.list c).length := hs.eval 41 _ 122 rfl (hdep ⟨41, .data⟩ (by simp) rfl) rfl
              refine g_val (.bool true) hS (wanted_yes rfl rfl rfl eg) ?_ rfl
              have hcn := BigFrame.eval_const a'
              have hfn := BigFrame.eval_func a'
              clear hs hdep
              generalize a'.eval = ev at *
              go_simp
            · go_light; intro listed a' w' hs hS hun hdep
              have e118 : a'.eval (.tmp 118) = .bool true := hs.eval 37 _ 118 rfl (hdep ⟨37, .data⟩ (by simp) rfl) rfl
              have e123 : a'.eval (.tmp 123) = .bool true := hs.eval 42 _ 123 rfl (hdep ⟨42, .data⟩ (by simp) rfl) rfl
              refine g_val (.bool true) hS rfl ?_ rfl
              have hcn := BigFrame.eval_const a'
              have hfn := BigFrame.eval_func a'
              clear hs hdep
              generalize a'.eval = ev at *
              go_simp
            · go_light; intro listed a' w' hs hS hun hdep
              have e124 : a'.eval (.tmp 124) = .bool true := hs.eval 43 _ 124 rfl (hdep ⟨43, .data⟩ (by simp) rfl) rfl
              refine g_val (.bool true) hS rfl ?_ rfl
              have hcn := BigFrame.eval_const a'
              have hfn := BigFrame.eval_func a'
              clear hs hdep
              generalize a'.eval = ev at *
              go_simp
            · go_light; intro listed a' w' hs hS hun hdep
              have eg : a'.eval (.tmp 125) = .bool true := hs.eval 44 _ 125 rfl (hdep ⟨44, .guard⟩ (by simp) rfl) rfl
              have e3 : a'.eval (.tmp 3) = .pointer (some ⟨w.heap.size, 0, none⟩) := (hs.out 3 (by kernel_rfl)).trans (rfl)
              exact g_val (.agg (C.cv (c))) hS (wanted_yes rfl rfl rfl eg) (run_op_load rfl e3 (HA.out.below hS HA.out.lt)) rfl
            · go_light; intro listed a' w' hs hS hun hdep
              have eg : a'.eval (.tmp 125) = .bool true := hs.eval 44 _ 125 rfl (hdep ⟨44, .guard⟩ (by simp) rfl) rfl
              have e126 : a'.eval (.tmp 126) = .agg (C.cv (c)) := hs.eval 45 _ 126 rfl (hdep ⟨45, .data⟩ (by simp) rfl) rfl
              refine g_call 23 #[.agg (C.cv (c))] hS (wanted_yes rfl rfl rfl eg) ?_ ?_
              · have hcn := BigFrame.eval_const a'; have hfn := BigFrame.eval_func a'; clear hs hdep; generalize a'.eval = ev at *; go_simp
              · exact c_val (HM.out w') rfl
            · go_light; intro listed a' w' hs hS hun hdep
              have eg : a'.eval (.tmp 125) = .bool true := hs.eval 44 _ 125 rfl (hdep ⟨44, .guard⟩ (by simp) rfl) rfl
              have e15 : a'.eval (.tmp 15) = .int .i64 (-1) := (hs.out 15 (by kernel_rfl)).trans (rfl)
              refine g_val (.int .i64 (-1)) hS (wanted_yes rfl rfl rfl eg) ?_ rfl
              have hcn := BigFrame.eval_const a'
              have hfn := BigFrame.eval_func a'
              clear hs hdep
              generalize a'.eval = ev at *
              go_simp
            · go_light; intro listed a' w' hs hS hun hdep
              have eg : a'.eval (.tmp 125) = .bool true := hs.eval 44 _ 125 rfl (hdep ⟨44, .guard⟩ (by simp) rfl) rfl
              have e127 : a'.eval (.tmp 127) = .int .i64 (-1) := hs.eval 46 _ 127 rfl (hdep ⟨46, .data⟩ (by simp) rfl) rfl
              have e128 : a'.eval (.tmp 128) = .int .i64 (-1) := hs.eval 47 _ 128 rfl (hdep ⟨47, .data⟩ (by simp) rfl) rfl
              refine g_val (.bool true) hS (wanted_yes rfl rfl rfl eg) ?_ rfl
              have hcn := BigFrame.eval_const a'
              have hfn := BigFrame.eval_func a'
              clear hs hdep
              generalize a'.eval = ev at *
              go_simp
            · go_light; intro listed a' w' hs hS hun hdep
              have e125 : a'.eval (.tmp 125) = .bool true := hs.eval 44 _ 125 rfl (hdep ⟨44, .data⟩ (by simp) rfl) rfl
              have e129 : a'.eval (.tmp 129) = .bool true := hs.eval 48 _ 129 rfl (hdep ⟨48, .data⟩ (by simp) rfl) rfl
              refine g_val (.bool true) hS rfl ?_ rfl
              have hcn := BigFrame.eval_const a'
              have hfn := BigFrame.eval_func a'
              clear hs hdep
              generalize a'.eval = ev at *
              go_simp
            · go_light; intro listed a' w' hs hS hun hdep
              have e130 : a'.eval (.tmp 130) = .bool true := hs.eval 49 _ 130 rfl (hdep ⟨49, .data⟩ (by simp) rfl) rfl
              refine g_val (.bool true) hS rfl ?_ rfl
              have hcn := BigFrame.eval_const a'
              have hfn := BigFrame.eval_func a'
              clear hs hdep
              generalize a'.eval = ev at *
              go_simp
            · go_light; intro listed a' w' hs hS hun hdep
              have eg : a'.eval (.tmp 131) = .bool true := hs.eval 50 _ 131 rfl (hdep ⟨50, .guard⟩ (by simp) rfl) rfl
              refine g_call 12 #[] hS (wanted_yes rfl rfl rfl eg) ?_ ?_
              · have hcn := BigFrame.eval_const a'; have hfn := BigFrame.eval_func a'; clear hs hdep; generalize a'.eval = ev at *; go_simp
              · exact c_val (cats_awake w' (HL.out.below hS)) rfl
            · go_light; intro listed a' w' hs hS hun hdep
              have e131 : a'.eval (.tmp 131) = .bool true := hs.eval 50 _ 131 rfl (hdep ⟨50, .data⟩ (by simp) rfl) rfl
              have e132 : a'.eval (.tmp 132) = .bool true := hs.eval 51 _ 132 rfl (hdep ⟨51, .data⟩ (by simp) rfl) rfl
              refine g_val (.bool true) hS rfl ?_ rfl
              have hcn := BigFrame.eval_const a'
              have hfn := BigFrame.eval_func a'
              clear hs hdep
              generalize a'.eval = ev at *
              go_simp
            · go_light; intro listed a' w' hs hS hun hdep
              have e133 : a'.eval (.tmp 133) = .bool true := hs.eval 52 _ 133 rfl (hdep ⟨52, .data⟩ (by simp) rfl) rfl
              refine g_val (.bool true) hS rfl ?_ rfl
              have hcn := BigFrame.eval_const a'
              have hfn := BigFrame.eval_func a'
              clear hs hdep
              generalize a'.eval = ev at *
              go_simp
            · intro vs w19 hlen hV listed hall hS
              obtain ⟨v0, v1, v2, v3, v4, v5, v6, v7, v8, v9, v10, v11, v12, v13, v14, v15, v16, v17, v18, v19, v20, v21, v22, v23, v24, v25, v26, v27, v28, v29, v30, v31, v32, v33, v34, v35, v36, v37, v38, v39, v40, v41, v42, v43, v44, v45, v46, v47, v48, v49, v50, v51, v52, v53, rfl⟩ := vs_54 vs (hlen.trans rfl)
              have q0 : v0 = .agg (C.cv (q)) := hV 0 _ rfl
              have q1 : v1 = .agg (C.cv (q)) := hV 1 _ rfl
              have q2 : v2 = .bool true := hV 2 _ rfl
              have q3 : v3 = .bool true := hV 3 _ rfl
              have q4 : v4 = .bool false := hV 4 _ rfl
              have q5 : v5 = .bool false := hV 5 _ rfl
              have q6 : v6 = .bool true := hV 6 _ rfl
              have q7 : v7 = .bool true := hV 7 _ rfl
              have q8 : v8 = .bool true := hV 8 _ rfl
              have q9 : v9 = .agg (C.cv (c)) := hV 9 _ rfl
              have q10 : v10 = .slice ao l.length cap := hV 10 _ rfl
              have q11 : v11 = .agg (C.cv (p1)) := hV 11 _ rfl
              have q12 : v12 = .agg (C.cv (p1)) := hV 12 _ rfl
              have q13 : v13 = .bool true := hV 13 _ rfl
              have q14 : v14 = .bool true := hV 14 _ rfl
              have q15 : v15 = .bool true := hV 15 _ rfl
              have q16 : v16 = .agg (C.cv (c)) := hV 16 _ rfl
              have q17 : v17 = .slice ao l.length cap := hV 17 _ rfl
              have q18 : v18 = .agg (C.cv (p2)) := hV 18 _ rfl
              have q19 : v19 = .agg (C.cv (p2)) := hV 19 _ rfl
              have q20 : v20 = .bool true := hV 20 _ rfl
              have q21 : v21 = .bool true := hV 21 _ rfl
              have q22 : v22 = .bool true := hV 22 _ rfl
              have q23 : v23 = .agg (C.cv (c)) := hV 23 _ rfl
              have q24 : v24 = .int .i64 k := hV 24 _ rfl
              have q25 : v25 = .bool hk := hV 25 _ rfl
              have q26 : v26 = .agg (C.cv (c)) := hV 26 _ rfl
              have q27 : v27 = .int .i64 k := hV 27 _ rfl
              have q28 : v28 = .bool hk := hV 28 _ rfl
              have q29 : v29 = .bool true := hV 29 _ rfl
              have q30 : v30 = .bool true := hV 30 _ rfl
              have q31 : v31 = .bool true := hV 31 _ rfl
              have q32 : v32 = .agg (C.cv (c)) := hV 32 _ rfl
              obtain ⟨ao33, cp33, q33, hro33⟩ : (.ints (C.list c) : GV).ok W0'.heap.size v33 w19 := hV 33 _ rfl
              have q34 : v34 = .slice ro (C.list c).length rc := hV 34 _ rfl
              have q35 : v35 = .bool true := hV 35 _ rfl
              have q36 : v36 = .bool true := hV 36 _ rfl
              have q37 : v37 = .bool true := hV 37 _ rfl
              have q38 : v38 = .agg (C.cv (c)) := hV 38 _ rfl
              have q39 : v39 = .int .i64 (C.list c).length := hV 39 _ rfl
              have q40 : v40 = .slice ro (C.list c).length rc := hV 40 _ rfl
              have q41 : v41 = .int .i64 (C.list c).length := hV 41 _ rfl
              have q42 : v42 = .bool true := hV 42 _ rfl
              have q43 : v43 = .bool true := hV 43 _ rfl
              have q44 : v44 = .bool true := hV 44 _ rfl
              have q45 : v45 = .agg (C.cv (c)) := hV 45 _ rfl
              have q46 : v46 = .int .i64 (-1) := hV 46 _ rfl
              have q47 : v47 = .int .i64 (-1) := hV 47 _ rfl
              have q48 : v48 = .bool true := hV 48 _ rfl
              have q49 : v49 = .bool true := hV 49 _ rfl
              have q50 : v50 = .bool true := hV 50 _ rfl
              have q51 : v51 = .bool true := hV 51 _ rfl
              have q52 : v52 = .bool true := hV 52 _ rfl
              have q53 : v53 = .bool true := hV 53 _ rfl
              have hbel : Below W0'.heap.size W0' w19 := hS
              subst q0 q1 q2 q3 q4 q5 q6 q7 q8 q9 q10 q11 q12 q13 q14 q15 q16 q17 q18 q19 q20 q21 q22 q23 q24 q25 q26 q27 q28 q29 q30 q31 q32 q33 q34 q35 q36 q37 q38 q39 q40 q41 q42 q43 q44 q45 q46 q47 q48 q49 q50 q51 q52 q53
              clear hV hS hall
              simp only [lays, Act.put, List.setIfInBounds_toArray, List.set_cons_zero, List.set_cons_succ]
              go_wp2
              go_ret
              exact ⟨rfl, hbw4.trans (hbel.mono hbw4.size)⟩
          · have hms := HS.out (by omega)
            obtain ⟨b2, off2, rfl, hbl2, hcell2⟩ := HRo.out.then (Below.refl _ _) ((C.list c).length - 1) (by omega)
            rw [hms] at hcell2
            have hl0 : (0 : Int) < ((C.list c).length : Int) := by omega
            have hi0 : (((C.list c).length : Int) - 1) = (((C.list c).length - 1 : Nat) : Int) := by omega
            go_wp2
            clear hl0 hcell2
            refine region_gen (VG W0'.heap.size [.val (.agg (C.cv (q))), .val (.agg (C.cv (q))), .val (.bool true), .val (.bool true), .val (.bool false), .val (.bool false), .val (.bool true), .val (.bool true), .val (.bool true), .val (.agg (C.cv (c))), .val (.slice ao l.length cap), .val (.agg (C.cv (p1))), .val (.agg (C.cv (p1))), .val (.bool true), .val (.bool true), .val (.bool true), .val (.agg (C.cv (c))), .val (.slice ao l.length cap), .val (.agg (C.cv (p2))), .val (.agg (C.cv (p2))), .val (.bool true), .val (.bool true), .val (.bool true), .val (.agg (C.cv (c))), .val (.int .i64 k), .val (.bool hk), .val (.agg (C.cv (c))), .val (.int .i64 k), .val (.bool hk), .val (.bool true), .val (.bool true), .val (.bool true), .val (.agg (C.cv (c))), .ints (C.list c), .val (.slice (some ⟨b2, off2, none⟩) (C.list c).length rc), .val (.bool true), .val (.bool true), .val (.bool true), .val (.agg (C.cv (c))), .val (.int .i64 (C.list c).length), .val (.slice (some ⟨b2, off2, none⟩) (C.list c).length rc), .val (.int .i64 (C.list c).length), .val (.bool true), .val (.bool true), .val (.bool true), .val (.agg (C.cv (c))), .val (.int .i64 ms), .val (.int .i64 ms), .val (.bool true), .val (.bool true), .val (.bool true), .val (.bool true), .val (.bool true), .val (.bool true)]) (BS W0') (by kernel_rfl) (by kernel_rfl) (Below.refl _ _).drew ⟨?_, ?_, ?_, ?_, ?_, ?_, ?_, ?_, ?_, ?_, ?_, ?_, ?_, ?_, ?_, ?_, ?_, ?_, ?_, ?_, ?_, ?_, ?_, ?_, ?_, ?_, ?_, ?_, ?_, ?_, ?_, ?_, ?_, ?_, ?_, ?_, ?_, ?_, ?_, ?_, ?_, ?_, ?_, ?_, ?_, ?_, ?_, ?_, ?_, ?_, ?_, ?_, ?_, ?_, trivial⟩ ?_
            · go_light; intro listed a' w' hs hS hun hdep
              have e12 : a'.eval (.tmp 12) = .pointer (some ⟨g12, 0, none⟩) := (hs.out 12 (by kernel_rfl)).trans (rfl)
              exact g_val (.agg (C.cv (q))) hS rfl (run_op_load rfl e12 (H12.out.below hS H12.out.lt)) rfl
            · go_light; intro listed a' w' hs hS hun hdep
              have e8 : a'.eval (.tmp 8) = .pointer (some ⟨g8, 0, none⟩) := (hs.out 8 (by kernel_rfl)).trans (rfl)
              exact g_val (.agg (C.cv (q))) hS rfl (run_op_load rfl e8 (H8.out.below hS H8.out.lt)) rfl
            · go_light; intro listed a' w' hs hS hun hdep
              have e81 : a'.eval (.tmp 81) = .agg (C.cv (q)) := hs.eval 0 _ 81 rfl (hdep ⟨0, .data⟩ (by simp) rfl) rfl
              have e82 : a'.eval (.tmp 82) = .agg (C.cv (q)) := hs.eval 1 _ 82 rfl (hdep ⟨1, .data⟩ (by simp) rfl) rfl
              exact g_val (.bool true) hS rfl (run_op_same rfl e81 e82 hq) rfl
            · go_light; intro listed a' w' hs hS hun hdep
              have e83 : a'.eval (.tmp 83) = .bool true := hs.eval 2 _ 83 rfl (hdep ⟨2, .data⟩ (by simp) rfl) rfl
              refine g_val (.bool true) hS rfl ?_ rfl
              have hcn := BigFrame.eval_const a'
              have hfn := BigFrame.eval_func a'
              clear hs hdep
              generalize a'.eval = ev at *
              go_simp
            · go_light; intro listed a' w' hs hS hun hdep
              have eg : a'.eval (.tmp 84) = .bool true := hs.eval 3 _ 84 rfl (hdep ⟨3, .guard⟩ (by simp) rfl) rfl
              have e13 : a'.eval (.tmp 13) = .bool false := (hs.out 13 (by kernel_rfl)).trans (rfl)
              refine g_val (.bool false) hS (wanted_yes rfl rfl rfl eg) ?_ rfl
              have hcn := BigFrame.eval_const a'
              have hfn := BigFrame.eval_func a'
              clear hs hdep
              generalize a'.eval = ev at *
              go_simp
            · go_light; intro listed a' w' hs hS hun hdep
              have eg : a'.eval (.tmp 84) = .bool true := hs.eval 3 _ 84 rfl (hdep ⟨3, .guard⟩ (by simp) rfl) rfl
              have e7 : a'.eval (.tmp 7) = .bool false := (hs.out 7 (by kernel_rfl)).trans (rfl)
              refine g_val (.bool false) hS (wanted_yes rfl rfl rfl eg) ?_ rfl
              have hcn := BigFrame.eval_const a'
              have hfn := BigFrame.eval_func a'
              clear hs hdep
              generalize a'.eval = ev at *
              go_simp
            · go_light; intro listed a' w' hs hS hun hdep
              have eg : a'.eval (.tmp 84) = .bool true := hs.eval 3 _ 84 rfl (hdep ⟨3, .guard⟩ (by simp) rfl) rfl
              have e85 : a'.eval (.tmp 85) = .bool false := hs.eval 4 _ 85 rfl (hdep ⟨4, .data⟩ (by simp) rfl) rfl
              have e86 : a'.eval (.tmp 86) = .bool false := hs.eval 5 _ 86 rfl (hdep ⟨5, .data⟩ (by simp) rfl) rfl
              refine g_val (.bool true) hS (wanted_yes rfl rfl rfl eg) ?_ rfl
              have hcn := BigFrame.eval_const a'
              have hfn := BigFrame.eval_func a'
              clear hs hdep
              generalize a'.eval = ev at *
              go_simp
            · go_light; intro listed a' w' hs hS hun hdep
              have e84 : a'.eval (.tmp 84) = .bool true := hs.eval 3 _ 84 rfl (hdep ⟨3, .data⟩ (by simp) rfl) rfl
              have e87 : a'.eval (.tmp 87) = .bool true := hs.eval 6 _ 87 rfl (hdep ⟨6, .data⟩ (by simp) rfl) rfl
              refine g_val (.bool true) hS rfl ?_ rfl
              have hcn := BigFrame.eval_const a'
              have hfn := BigFrame.eval_func a'
              clear hs hdep
              generalize a'.eval = ev at *
              go_simp
            · go_light; intro listed a' w' hs hS hun hdep
              have e88 : a'.eval (.tmp 88) = .bool true := hs.eval 7 _ 88 rfl (hdep ⟨7, .data⟩ (by simp) rfl) rfl
              refine g_val (.bool true) hS rfl ?_ rfl
              have hcn := BigFrame.eval_const a'
              have hfn := BigFrame.eval_func a'
              clear hs hdep
              generalize a'.eval = ev at *
              go_simp
            · go_light; intro listed a' w' hs hS hun hdep
              have eg : a'.eval (.tmp 89) = .bool true := hs.eval 8 _ 89 rfl (hdep ⟨8, .guard⟩ (by simp) rfl) rfl
              have e3 : a'.eval (.tmp 3) = .pointer (some ⟨w.heap.size, 0, none⟩) := (hs.out 3 (by kernel_rfl)).trans (rfl)
              exact g_val (.agg (C.cv (c))) hS (wanted_yes rfl rfl rfl eg) (run_op_load rfl e3 (HA.out.below hS HA.out.lt)) rfl
            · go_light; intro listed a' w' hs hS hun hdep
              have eg : a'.eval (.tmp 89) = .bool true := hs.eval 8 _ 89 rfl (hdep ⟨8, .guard⟩ (by simp) rfl) rfl
              have e1 : a'.eval (.tmp 1) = .slice ao l.length cap := (hs.out 1 (by kernel_rfl)).trans (rfl)
              refine g_val (.slice ao l.length cap) hS (wanted_yes rfl rfl rfl eg) ?_ rfl
              have hcn := BigFrame.eval_const a'
              have hfn := BigFrame.eval_func a'
              clear hs hdep
              generalize a'.eval = ev at *
              go_simp
            · go_light; intro listed a' w' hs hS hun hdep
              have eg : a'.eval (.tmp 89) = .bool true := hs.eval 8 _ 89 rfl (hdep ⟨8, .guard⟩ (by simp) rfl) rfl
              have e90 : a'.eval (.tmp 90) = .agg (C.cv (c)) := hs.eval 9 _ 90 rfl (hdep ⟨9, .data⟩ (by simp) rfl) rfl
              have e91 : a'.eval (.tmp 91) = .slice ao l.length cap := hs.eval 10 _ 91 rfl (hdep ⟨10, .data⟩ (by simp) rfl) rfl
              refine g_call 16 #[.agg (C.cv (c)), .slice ao l.length cap] hS (wanted_yes rfl rfl rfl eg) ?_ ?_
              · have hcn := BigFrame.eval_const a'; have hfn := BigFrame.eval_func a'; clear hs hdep; generalize a'.eval = ev at *; go_simp
              · exact c_val (HC1.out w' (HRow.out.below2 hS)) rfl
            · go_light; intro listed a' w' hs hS hun hdep
              have eg : a'.eval (.tmp 89) = .bool true := hs.eval 8 _ 89 rfl (hdep ⟨8, .guard⟩ (by simp) rfl) rfl
              have e9 : a'.eval (.tmp 9) = .pointer (some ⟨g9, 0, none⟩) := (hs.out 9 (by kernel_rfl)).trans (rfl)
              exact g_val (.agg (C.cv (p1))) hS (wanted_yes rfl rfl rfl eg) (run_op_load rfl e9 (H9.out.below hS H9.out.lt)) rfl
            · go_light; intro listed a' w' hs hS hun hdep
              have eg : a'.eval (.tmp 89) = .bool true := hs.eval 8 _ 89 rfl (hdep ⟨8, .guard⟩ (by simp) rfl) rfl
              have e92 : a'.eval (.tmp 92) = .agg (C.cv (p1)) := hs.eval 11 _ 92 rfl (hdep ⟨11, .data⟩ (by simp) rfl) rfl
              have e93 : a'.eval (.tmp 93) = .agg (C.cv (p1)) := hs.eval 12 _ 93 rfl (hdep ⟨12, .data⟩ (by simp) rfl) rfl
              exact g_val (.bool true) hS (wanted_yes rfl rfl rfl eg) (run_op_same rfl e92 e93 hp1) rfl
            · go_light; intro listed a' w' hs hS hun hdep
              have e89 : a'.eval (.tmp 89) = .bool true := hs.eval 8 _ 89 rfl (hdep ⟨8, .data⟩ (by simp) rfl) rfl
              have e94 : a'.eval (.tmp 94) = .bool true := hs.eval 13 _ 94 rfl (hdep ⟨13, .data⟩ (by simp) rfl) rfl
              refine g_val (.bool true) hS rfl ?_ rfl
              have hcn := BigFrame.eval_const a'
              have hfn := BigFrame.eval_func a'
              clear hs hdep
              generalize a'.eval = ev at *
              go_simp
            · go_light; intro listed a' w' hs hS hun hdep
              have e95 : a'.eval (.tmp 95) = .bool true := hs.eval 14 _ 95 rfl (hdep ⟨14, .data⟩ (by simp) rfl) rfl
              refine g_val (.bool true) hS rfl ?_ rfl
              have hcn := BigFrame.eval_const a'
              have hfn := BigFrame.eval_func a'
              clear hs hdep
              generalize a'.eval = ev at *
              go_simp
            · go_light; intro listed a' w' hs hS hun hdep
              have eg : a'.eval (.tmp 96) = .bool true := hs.eval 15 _ 96 rfl (hdep ⟨15, .guard⟩ (by simp) rfl) rfl
              have e3 : a'.eval (.tmp 3) = .pointer (some ⟨w.heap.size, 0, none⟩) := (hs.out 3 (by kernel_rfl)).trans (rfl)
              exact g_val (.agg (C.cv (c))) hS (wanted_yes rfl rfl rfl eg) (run_op_load rfl e3 (HA.out.below hS HA.out.lt)) rfl
            · go_light; intro listed a' w' hs hS hun hdep
              have eg : a'.eval (.tmp 96) = .bool true := hs.eval 15 _ 96 rfl (hdep ⟨15, .guard⟩ (by simp) rfl) rfl
              have e1 : a'.eval (.tmp 1) = .slice ao l.length cap := (hs.out 1 (by kernel_rfl)).trans (rfl)
              refine g_val (.slice ao l.length cap) hS (wanted_yes rfl rfl rfl eg) ?_ rfl
              have hcn := BigFrame.eval_const a'
              have hfn := BigFrame.eval_func a'
              clear hs hdep
              generalize a'.eval = ev at *
              go_simp
            · go_light; intro listed a' w' hs hS hun hdep
              have eg : a'.eval (.tmp 96) = .bool true := hs.eval 15 _ 96 rfl (hdep ⟨15, .guard⟩ (by simp) rfl) rfl
              have e97 : a'.eval (.tmp 97) = .agg (C.cv (c)) := hs.eval 16 _ 97 rfl (hdep ⟨16, .data⟩ (by simp) rfl) rfl
              have e98 : a'.eval (.tmp 98) = .slice ao l.length cap := hs.eval 17 _ 98 rfl (hdep ⟨17, .data⟩ (by simp) rfl) rfl
              refine g_call 17 #[.agg (C.cv (c)), .slice ao l.length cap] hS (wanted_yes rfl rfl rfl eg) ?_ ?_
              · have hcn := BigFrame.eval_const a'; have hfn := BigFrame.eval_func a'; clear hs hdep; generalize a'.eval = ev at *; go_simp
              · exact c_val (HC2.out w' (HRow.out.below2 hS)) rfl
            · go_light; intro listed a' w' hs hS hun hdep
              have eg : a'.eval (.tmp 96) = .bool true := hs.eval 15 _ 96 rfl (hdep ⟨15, .guard⟩ (by simp) rfl) rfl
              have e10 : a'.eval (.tmp 10) = .pointer (some ⟨g10, 0, none⟩) := (hs.out 10 (by kernel_rfl)).trans (rfl)
              exact g_val (.agg (C.cv (p2))) hS (wanted_yes rfl rfl rfl eg) (run_op_load rfl e10 (H10.out.below hS H10.out.lt)) rfl
            · go_light; intro listed a' w' hs hS hun hdep
              have eg : a'.eval (.tmp 96) = .bool true := hs.eval 15 _ 96 rfl (hdep ⟨15, .guard⟩ (by simp) rfl) rfl
              have e99 : a'.eval (.tmp 99) = .agg (C.cv (p2)) := hs.eval 18 _ 99 rfl (hdep ⟨18, .data⟩ (by simp) rfl) rfl
              have e100 : a'.eval (.tmp 100) = .agg (C.cv (p2)) := hs.eval 19 _ 100 rfl (hdep ⟨19, .data⟩ (by simp) rfl) rfl
              exact g_val (.bool true) hS (wanted_yes rfl rfl rfl eg) (run_op_same rfl e99 e100 hp2) rfl
            · go_light; intro listed a' w' hs hS hun hdep
              have e96 : a'.eval (.tmp 96) = .bool true := hs.eval 15 _ 96 rfl (hdep ⟨15, .data⟩ (by simp) rfl) rfl
              have e101 : a'.eval (.tmp 101) = .bool true := hs.eval 20 _ 101 rfl (hdep ⟨20, .data⟩ (by simp) rfl) rfl
              refine g_val (.bool true) hS rfl ?_ rfl
              have hcn := BigFrame.eval_const a'
              have hfn := BigFrame.eval_func a'
              clear hs hdep
              generalize a'.eval = ev at *
              go_simp
            · go_light; intro listed a' w' hs hS hun hdep
              have e102 : a'.eval (.tmp 102) = .bool true := hs.eval 21 _ 102 rfl (hdep ⟨21, .data⟩ (by simp) rfl) rfl
              refine g_val (.bool true) hS rfl ?_ rfl
              have hcn := BigFrame.eval_const a'
              have hfn := BigFrame.eval_func a'
              clear hs hdep
              generalize a'.eval = ev at *
              go_simp
            · go_light; intro listed a' w' hs hS hun hdep
              have eg : a'.eval (.tmp 103) = .bool true := hs.eval 22 _ 103 rfl (hdep ⟨22, .guard⟩ (by simp) rfl) rfl
              have e3 : a'.eval (.tmp 3) = .pointer (some ⟨w.heap.size, 0, none⟩) := (hs.out 3 (by kernel_rfl)).trans (rfl)
              exact g_val (.agg (C.cv (c))) hS (wanted_yes rfl rfl rfl eg) (run_op_load rfl e3 (HA.out.below hS HA.out.lt)) rfl
            · go_light; intro listed a' w' hs hS hun hdep
              have eg : a'.eval (.tmp 103) = .bool true := hs.eval 22 _ 103 rfl (hdep ⟨22, .guard⟩ (by simp) rfl) rfl
              have e2 : a'.eval (.tmp 2) = .int .i64 k := (hs.out 2 (by kernel_rfl)).trans (rfl)
              refine g_val (.int .i64 k) hS (wanted_yes rfl rfl rfl eg) ?_ rfl
              have hcn := BigFrame.eval_const a'
              have hfn := BigFrame.eval_func a'
              clear hs hdep
              generalize a'.eval = ev at *
              go_simp
            · go_light; intro listed a' w' hs hS hun hdep
              have eg : a'.eval (.tmp 103) = .bool true := hs.eval 22 _ 103 rfl (hdep ⟨22, .guard⟩ (by simp) rfl) rfl
              have e104 : a'.eval (.tmp 104) = .agg (C.cv (c)) := hs.eval 23 _ 104 rfl (hdep ⟨23, .data⟩ (by simp) rfl) rfl
              have e105 : a'.eval (.tmp 105) = .int .i64 k := hs.eval 24 _ 105 rfl (hdep ⟨24, .data⟩ (by simp) rfl) rfl
              refine g_call 18 #[.agg (C.cv (c)), .int .i64 k] hS (wanted_yes rfl rfl rfl eg) ?_ ?_
              · have hcn := BigFrame.eval_const a'; have hfn := BigFrame.eval_func a'; clear hs hdep; generalize a'.eval = ev at *; go_simp
              · exact c_val (HK1.out w') rfl
            · go_light; intro listed a' w' hs hS hun hdep
              have eg : a'.eval (.tmp 103) = .bool true := hs.eval 22 _ 103 rfl (hdep ⟨22, .guard⟩ (by simp) rfl) rfl
              have e3 : a'.eval (.tmp 3) = .pointer (some ⟨w.heap.size, 0, none⟩) := (hs.out 3 (by kernel_rfl)).trans (rfl)
              exact g_val (.agg (C.cv (c))) hS (wanted_yes rfl rfl rfl eg) (run_op_load rfl e3 (HA.out.below hS HA.out.lt)) rfl
            · go_light; intro listed a' w' hs hS hun hdep
              have eg : a'.eval (.tmp 103) = .bool true := hs.eval 22 _ 103 rfl (hdep ⟨22, .guard⟩ (by simp) rfl) rfl
              have e2 : a'.eval (.tmp 2) = .int .i64 k := (hs.out 2 (by kernel_rfl)).trans (rfl)
              refine g_val (.int .i64 k) hS (wanted_yes rfl rfl rfl eg) ?_ rfl
              have hcn := BigFrame.eval_const a'
              have hfn := BigFrame.eval_func a'
              clear hs hdep
              generalize a'.eval = ev at *
              go_simp
            · go_light; intro listed a' w' hs hS hun hdep
              have eg : a'.eval (.tmp 103) = .bool true := hs.eval 22 _ 103 rfl (hdep ⟨22, .guard⟩ (by simp) rfl) rfl
              have e107 : a'.eval (.tmp 107) = .agg (C.cv (c)) := hs.eval 26 _ 107 rfl (hdep ⟨26, .data⟩ (by simp) rfl) rfl
              have e108 : a'.eval (.tmp 108) = .int .i64 k := hs.eval 27 _ 108 rfl (hdep ⟨27, .data⟩ (by simp) rfl) rfl
              refine g_call 19 #[.agg (C.cv (c)), .int .i64 k] hS (wanted_yes rfl rfl rfl eg) ?_ ?_
              · have hcn := BigFrame.eval_const a'; have hfn := BigFrame.eval_func a'; clear hs hdep; generalize a'.eval = ev at *; go_simp
              · exact c_val (HK2.out w') rfl
            · go_light; intro listed a' w' hs hS hun hdep
              have eg : a'.eval (.tmp 103) = .bool true := hs.eval 22 _ 103 rfl (hdep ⟨22, .guard⟩ (by simp) rfl) rfl
              have e106 : a'.eval (.tmp 106) = .bool hk := hs.eval 25 _ 106 rfl (hdep ⟨25, .data⟩ (by simp) rfl) rfl
              have e109 : a'.eval (.tmp 109) = .bool hk := hs.eval 28 _ 109 rfl (hdep ⟨28, .data⟩ (by simp) rfl) rfl
              refine g_val (.bool true) hS (wanted_yes rfl rfl rfl eg) ?_ rfl
              have hcn := BigFrame.eval_const a'
              have hfn := BigFrame.eval_func a'
              clear hs hdep
              generalize a'.eval = ev at *
              go_simp
            · go_light; intro listed a' w' hs hS hun hdep
              have e103 : a'.eval (.tmp 103) = .bool true := hs.eval 22 _ 103 rfl (hdep ⟨22, .data⟩ (by simp) rfl) rfl
              have e110 : a'.eval (.tmp 110) = .bool true := hs.eval 29 _ 110 rfl (hdep ⟨29, .data⟩ (by simp) rfl) rfl
              refine g_val (.bool true) hS rfl ?_ rfl
              have hcn := BigFrame.eval_const a'
              have hfn := BigFrame.eval_func a'
              clear hs hdep
              generalize a'.eval = ev at *
              go_simp
            · go_light; intro listed a' w' hs hS hun hdep
              have e111 : a'.eval (.tmp 111) = .bool true := hs.eval 30 _ 111 rfl (hdep ⟨30, .data⟩ (by simp) rfl) rfl
              refine g_val (.bool true) hS rfl ?_ rfl
              have hcn := BigFrame.eval_const a'
              have hfn := BigFrame.eval_func a'
              clear hs hdep
              generalize a'.eval = ev at *
              go_simp
            · go_light; intro listed a' w' hs hS hun hdep
              have eg : a'.eval (.tmp 112) = .bool true := hs.eval 31 _ 112 rfl (hdep ⟨31, .guard⟩ (by simp) rfl) rfl
              have e3 : a'.eval (.tmp 3) = .pointer (some ⟨w.heap.size, 0, none⟩) := (hs.out 3 (by kernel_rfl)).trans (rfl)
              exact g_val (.agg (C.cv (c))) hS (wanted_yes rfl rfl rfl eg) (run_op_load rfl e3 (HA.out.below hS HA.out.lt)) rfl
            · go_light; intro listed a' w' hs hS hun hdep
              have eg : a'.eval (.tmp 112) = .bool true := hs.eval 31 _ 112 rfl (hdep ⟨31, .guard⟩ (by simp) rfl) rfl
              have e113 : a'.eval (.tmp 113) = .agg (C.cv (c)) := hs.eval 32 _ 113 rfl (hdep ⟨32, .data⟩ (by simp) rfl) rfl
              refine g_call 21 #[.agg (C.cv (c))] hS (wanted_yes rfl rfl rfl eg) ?_ ?_
              · have hcn := BigFrame.eval_const a'; have hfn := BigFrame.eval_func a'; clear hs hdep; generalize a'.eval = ev at *; go_simp
              · exact Calls.mono (List_any c w') fun e w'' ⟨ao, cp, he, hr, hb⟩ => ⟨_, he, ⟨ao, cp, rfl, hr⟩, hb⟩
            · go_light; intro listed a' w' hs hS hun hdep
              have eg : a'.eval (.tmp 112) = .bool true := hs.eval 31 _ 112 rfl (hdep ⟨31, .guard⟩ (by simp) rfl) rfl
              have e14 : a'.eval (.tmp 14) = .slice (some ⟨b2, off2, none⟩) (C.list c).length rc := (hs.out 14 (by kernel_rfl)).trans (rfl)
              refine g_val (.slice (some ⟨b2, off2, none⟩) (C.list c).length rc) hS (wanted_yes rfl rfl rfl eg) ?_ rfl
              have hcn := BigFrame.eval_const a'
              have hfn := BigFrame.eval_func a'
              clear hs hdep
              generalize a'.eval = ev at *
              go_simp
            · go_light; intro listed a' w' hs hS hun hdep
              have eg : a'.eval (.tmp 112) = .bool true := hs.eval 31 _ 112 rfl (hdep ⟨31, .guard⟩ (by simp) rfl) rfl
              have r114 : (.ints (C.list c) : GV).ok W0'.heap.size (a'.eval (.tmp 114)) w' := hs.eval 33 _ 114 rfl (hdep ⟨33, .data⟩ (by simp) rfl)  rfl
              obtain ⟨ao114, cp114, e114, k114⟩ := r114
              have e115 : a'.eval (.tmp 115) = .slice (some ⟨b2, off2, none⟩) (C.list c).length rc := hs.eval 34 _ 115 rfl (hdep ⟨34, .data⟩ (by simp) rfl) rfl
              refine g_call 20 #[.slice ao114 (C.list c).length cp114, .slice (some ⟨b2, off2, none⟩) (C.list c).length rc] hS (wanted_yes rfl rfl rfl eg) ?_ ?_
              · have hcn := BigFrame.eval_const a'; have hfn := BigFrame.eval_func a'; clear hs hdep; generalize a'.eval = ev at *; go_simp
              · exact c_val (ints_same ao114 (some ⟨b2, off2, none⟩) cp114 rc (C.list c) w' k114 (HRo.out.below hS) (list_len1000 c)) rfl
            · go_light; intro listed a' w' hs hS hun hdep
              have e112 : a'.eval (.tmp 112) = .bool true := hs.eval 31 _ 112 rfl (hdep ⟨31, .data⟩ (by simp) rfl) rfl
              have e116 : a'.eval (.tmp 116) = .bool true := hs.eval 35 _ 116 rfl (hdep ⟨35, .data⟩ (by simp) rfl) rfl
              refine g_val (.bool true) hS rfl ?_ rfl
              have hcn := BigFrame.eval_const a'
              have hfn := BigFrame.eval_func a'
              clear hs hdep
              generalize a'.eval = ev at *
              go_simp
            · go_light; intro listed a' w' hs hS hun hdep
              have e117 : a'.eval (.tmp 117) = .bool true := hs.eval 36 _ 117 rfl (hdep ⟨36, .data⟩ (by simp) rfl) rfl
              refine g_val (.bool true) hS rfl ?_ rfl
              have hcn := BigFrame.eval_const a'
              have hfn := BigFrame.eval_func a'
              clear hs hdep
              generalize a'.eval = ev at *
              go_simp
            · go_light; intro listed a' w' hs hS hun hdep
              have eg : a'.eval (.tmp 118) = .bool true := hs.eval 37 _ 118 rfl (hdep ⟨37, .guard⟩ (by simp) rfl) rfl
              have e3 : a'.eval (.tmp 3) = .pointer (some ⟨w.heap.size, 0, none⟩) := (hs.out 3 (by kernel_rfl)).trans (rfl)
              exact g_val (.agg (C.cv (c))) hS (wanted_yes rfl rfl rfl eg) (run_op_load rfl e3 (HA.out.below hS HA.out.lt)) rfl
            · go_light; intro listed a' w' hs hS hun hdep
              have eg : a'.eval (.tmp 118) = .bool true := hs.eval 37 _ 118 rfl (hdep ⟨37, .guard⟩ (by simp) rfl) rfl
              have e119 : a'.eval (.tmp 119) = .agg (C.cv (c)) := hs.eval 38 _ 119 rfl (hdep ⟨38, .data⟩ (by simp) rfl) rfl
              refine g_call 22 #[.agg (C.cv (c))] hS (wanted_yes rfl rfl rfl eg) ?_ ?_
              · have hcn := BigFrame.eval_const a'; have hfn := BigFrame.eval_func a'; clear hs hdep; generalize a'.eval = ev at *; go_simp
              · exact c_val (Count_any c w') rfl
            · go_light; intro listed a' w' hs hS hun hdep
              have eg : a'.eval (.tmp 118) = .bool true := hs.eval 37 _ 118 rfl (hdep ⟨37, .guard⟩ (by simp) rfl) rfl
              have e14 : a'.eval (.tmp 14) = .slice (some ⟨b2, off2, none⟩) (C.list c).length rc := (hs.out 14 (by kernel_rfl)).trans (rfl)
              refine g_val (.slice (some ⟨b2, off2, none⟩) (C.list c).length rc) hS (wanted_yes rfl rfl rfl eg) ?_ rfl
              have hcn := BigFrame.eval_const a'
              have hfn := BigFrame.eval_func a'
              clear hs hdep
              generalize a'.eval = ev at *
              go_simp
            · go_light; intro listed a' w' hs hS hun hdep
              have eg : a'.eval (.tmp 118) = .bool true := hs.eval 37 _ 118 rfl (hdep ⟨37, .guard⟩ (by simp) rfl) rfl
              have e121 : a'.eval (.tmp 121) = .slice (some ⟨b2, off2, none⟩) (C.list c).length rc := hs.eval 40 _ 121 rfl (hdep ⟨40, .data⟩ (by simp) rfl) rfl
              refine g_val (.int .i64 (C.list c).length) hS (wanted_yes rfl rfl rfl eg) ?_ rfl
              have hcn := BigFrame.eval_const a'
              have hfn := BigFrame.eval_func a'
              clear hs hdep
              generalize a'.eval = ev at *
              go_simp
            · go_light; intro listed a' w' hs hS hun hdep
              have eg : a'.eval (.tmp 118) = .bool true := hs.eval 37 _ 118 rfl (hdep ⟨37, .guard⟩ (by simp) rfl) rfl
              have e120 : a'.eval (.tmp 120) = .int .i64 (C.list c).length := hs.eval 39 _ 120 rfl (hdep ⟨39, .data⟩ (by simp) rfl) rfl
              have e122 : a'.eval (.tmp 122) = .int .i64 (C.list c).length := hs.eval 41 _ 122 rfl (hdep ⟨41, .data⟩ (by simp) rfl) rfl
              refine g_val (.bool true) hS (wanted_yes rfl rfl rfl eg) ?_ rfl
              have hcn := BigFrame.eval_const a'
              have hfn := BigFrame.eval_func a'
              clear hs hdep
              generalize a'.eval = ev at *
              go_simp
            · go_light; intro listed a' w' hs hS hun hdep
              have e118 : a'.eval (.tmp 118) = .bool true := hs.eval 37 _ 118 rfl (hdep ⟨37, .data⟩ (by simp) rfl) rfl
              have e123 : a'.eval (.tmp 123) = .bool true := hs.eval 42 _ 123 rfl (hdep ⟨42, .data⟩ (by simp) rfl) rfl
              refine g_val (.bool true) hS rfl ?_ rfl
              have hcn := BigFrame.eval_const a'
              have hfn := BigFrame.eval_func a'
              clear hs hdep
              generalize a'.eval = ev at *
              go_simp
            · go_light; intro listed a' w' hs hS hun hdep
              have e124 : a'.eval (.tmp 124) = .bool true := hs.eval 43 _ 124 rfl (hdep ⟨43, .data⟩ (by simp) rfl) rfl
              refine g_val (.bool true) hS rfl ?_ rfl
              have hcn := BigFrame.eval_const a'
              have hfn := BigFrame.eval_func a'
              clear hs hdep
              generalize a'.eval = ev at *
              go_simp
            · go_light; intro listed a' w' hs hS hun hdep
              have eg : a'.eval (.tmp 125) = .bool true := hs.eval 44 _ 125 rfl (hdep ⟨44, .guard⟩ (by simp) rfl) rfl
              have e3 : a'.eval (.tmp 3) = .pointer (some ⟨w.heap.size, 0, none⟩) := (hs.out 3 (by kernel_rfl)).trans (rfl)
              exact g_val (.agg (C.cv (c))) hS (wanted_yes rfl rfl rfl eg) (run_op_load rfl e3 (HA.out.below hS HA.out.lt)) rfl
            · go_light; intro listed a' w' hs hS hun hdep
              have eg : a'.eval (.tmp 125) = .bool true := hs.eval 44 _ 125 rfl (hdep ⟨44, .guard⟩ (by simp) rfl) rfl
              have e126 : a'.eval (.tmp 126) = .agg (C.cv (c)) := hs.eval 45 _ 126 rfl (hdep ⟨45, .data⟩ (by simp) rfl) rfl
              refine g_call 23 #[.agg (C.cv (c))] hS (wanted_yes rfl rfl rfl eg) ?_ ?_
              · have hcn := BigFrame.eval_const a'; have hfn := BigFrame.eval_func a'; clear hs hdep; generalize a'.eval = ev at *; go_simp
              · exact c_val (HM.out w') rfl
            · go_light; intro listed a' w' hs hS hun hdep
              have eg : a'.eval (.tmp 125) = .bool true := hs.eval 44 _ 125 rfl (hdep ⟨44, .guard⟩ (by simp) rfl) rfl
              have e15 : a'.eval (.tmp 15) = .int .i64 ms := (hs.out 15 (by kernel_rfl)).trans (rfl)
              refine g_val (.int .i64 ms) hS (wanted_yes rfl rfl rfl eg) ?_ rfl
              have hcn := BigFrame.eval_const a'
              have hfn := BigFrame.eval_func a'
              clear hs hdep
              generalize a'.eval = ev at *
              go_simp
            · go_light; intro listed a' w' hs hS hun hdep
              have eg : a'.eval (.tmp 125) = .bool true := hs.eval 44 _ 125 rfl (hdep ⟨44, .guard⟩ (by simp) rfl) rfl
              have e127 : a'.eval (.tmp 127) = .int .i64 ms := hs.eval 46 _ 127 rfl (hdep ⟨46, .data⟩ (by simp) rfl) rfl
              have e128 : a'.eval (.tmp 128) = .int .i64 ms := hs.eval 47 _ 128 rfl (hdep ⟨47, .data⟩ (by simp) rfl) rfl
              refine g_val (.bool true) hS (wanted_yes rfl rfl rfl eg) ?_ rfl
              have hcn := BigFrame.eval_const a'
              have hfn := BigFrame.eval_func a'
              clear hs hdep
              generalize a'.eval = ev at *
              go_simp
            · go_light; intro listed a' w' hs hS hun hdep
              have e125 : a'.eval (.tmp 125) = .bool true := hs.eval 44 _ 125 rfl (hdep ⟨44, .data⟩ (by simp) rfl) rfl
              have e129 : a'.eval (.tmp 129) = .bool true := hs.eval 48 _ 129 rfl (hdep ⟨48, .data⟩ (by simp) rfl) rfl
              refine g_val (.bool true) hS rfl ?_ rfl
              have hcn := BigFrame.eval_const a'
              have hfn := BigFrame.eval_func a'
              clear hs hdep
              generalize a'.eval = ev at *
              go_simp
            · go_light; intro listed a' w' hs hS hun hdep
              have e130 : a'.eval (.tmp 130) = .bool true := hs.eval 49 _ 130 rfl (hdep ⟨49, .data⟩ (by simp) rfl) rfl
              refine g_val (.bool true) hS rfl ?_ rfl
              have hcn := BigFrame.eval_const a'
              have hfn := BigFrame.eval_func a'
              clear hs hdep
              generalize a'.eval = ev at *
              go_simp
            · go_light; intro listed a' w' hs hS hun hdep
              have eg : a'.eval (.tmp 131) = .bool true := hs.eval 50 _ 131 rfl (hdep ⟨50, .guard⟩ (by simp) rfl) rfl
              refine g_call 12 #[] hS (wanted_yes rfl rfl rfl eg) ?_ ?_
              · have hcn := BigFrame.eval_const a'; have hfn := BigFrame.eval_func a'; clear hs hdep; generalize a'.eval = ev at *; go_simp
              · exact c_val (cats_awake w' (HL.out.below hS)) rfl
            · go_light; intro listed a' w' hs hS hun hdep
              have e131 : a'.eval (.tmp 131) = .bool true := hs.eval 50 _ 131 rfl (hdep ⟨50, .data⟩ (by simp) rfl) rfl
              have e132 : a'.eval (.tmp 132) = .bool true := hs.eval 51 _ 132 rfl (hdep ⟨51, .data⟩ (by simp) rfl) rfl
              refine g_val (.bool true) hS rfl ?_ rfl
              have hcn := BigFrame.eval_const a'
              have hfn := BigFrame.eval_func a'
              clear hs hdep
              generalize a'.eval = ev at *
              go_simp
            · go_light; intro listed a' w' hs hS hun hdep
              have e133 : a'.eval (.tmp 133) = .bool true := hs.eval 52 _ 133 rfl (hdep ⟨52, .data⟩ (by simp) rfl) rfl
              refine g_val (.bool true) hS rfl ?_ rfl
              have hcn := BigFrame.eval_const a'
              have hfn := BigFrame.eval_func a'
              clear hs hdep
              generalize a'.eval = ev at *
              go_simp
            · intro vs w19 hlen hV listed hall hS
              obtain ⟨v0, v1, v2, v3, v4, v5, v6, v7, v8, v9, v10, v11, v12, v13, v14, v15, v16, v17, v18, v19, v20, v21, v22, v23, v24, v25, v26, v27, v28, v29, v30, v31, v32, v33, v34, v35, v36, v37, v38, v39, v40, v41, v42, v43, v44, v45, v46, v47, v48, v49, v50, v51, v52, v53, rfl⟩ := vs_54 vs (hlen.trans rfl)
              have q0 : v0 = .agg (C.cv (q)) := hV 0 _ rfl
              have q1 : v1 = .agg (C.cv (q)) := hV 1 _ rfl
              have q2 : v2 = .bool true := hV 2 _ rfl
              have q3 : v3 = .bool true := hV 3 _ rfl
              have q4 : v4 = .bool false := hV 4 _ rfl
              have q5 : v5 = .bool false := hV 5 _ rfl
              have q6 : v6 = .bool true := hV 6 _ rfl
              have q7 : v7 = .bool true := hV 7 _ rfl
              have q8 : v8 = .bool true := hV 8 _ rfl
              have q9 : v9 = .agg (C.cv (c)) := hV 9 _ rfl
              have q10 : v10 = .slice ao l.length cap := hV 10 _ rfl
              have q11 : v11 = .agg (C.cv (p1)) := hV 11 _ rfl
              have q12 : v12 = .agg (C.cv (p1)) := hV 12 _ rfl
              have q13 : v13 = .bool true := hV 13 _ rfl
              have q14 : v14 = .bool true := hV 14 _ rfl
              have q15 : v15 = .bool true := hV 15 _ rfl
              have q16 : v16 = .agg (C.cv (c)) := hV 16 _ rfl
              have q17 : v17 = .slice ao l.length cap := hV 17 _ rfl
              have q18 : v18 = .agg (C.cv (p2)) := hV 18 _ rfl
              have q19 : v19 = .agg (C.cv (p2)) := hV 19 _ rfl
              have q20 : v20 = .bool true := hV 20 _ rfl
              have q21 : v21 = .bool true := hV 21 _ rfl
              have q22 : v22 = .bool true := hV 22 _ rfl
              have q23 : v23 = .agg (C.cv (c)) := hV 23 _ rfl
              have q24 : v24 = .int .i64 k := hV 24 _ rfl
              have q25 : v25 = .bool hk := hV 25 _ rfl
              have q26 : v26 = .agg (C.cv (c)) := hV 26 _ rfl
              have q27 : v27 = .int .i64 k := hV 27 _ rfl
              have q28 : v28 = .bool hk := hV 28 _ rfl
              have q29 : v29 = .bool true := hV 29 _ rfl
              have q30 : v30 = .bool true := hV 30 _ rfl
              have q31 : v31 = .bool true := hV 31 _ rfl
              have q32 : v32 = .agg (C.cv (c)) := hV 32 _ rfl
              obtain ⟨ao33, cp33, q33, hro33⟩ : (.ints (C.list c) : GV).ok W0'.heap.size v33 w19 := hV 33 _ rfl
              have q34 : v34 = .slice (some ⟨b2, off2, none⟩) (C.list c).length rc := hV 34 _ rfl
              have q35 : v35 = .bool true := hV 35 _ rfl
              have q36 : v36 = .bool true := hV 36 _ rfl
              have q37 : v37 = .bool true := hV 37 _ rfl
              have q38 : v38 = .agg (C.cv (c)) := hV 38 _ rfl
              have q39 : v39 = .int .i64 (C.list c).length := hV 39 _ rfl
              have q40 : v40 = .slice (some ⟨b2, off2, none⟩) (C.list c).length rc := hV 40 _ rfl
              have q41 : v41 = .int .i64 (C.list c).length := hV 41 _ rfl
              have q42 : v42 = .bool true := hV 42 _ rfl
              have q43 : v43 = .bool true := hV 43 _ rfl
              have q44 : v44 = .bool true := hV 44 _ rfl
              have q45 : v45 = .agg (C.cv (c)) := hV 45 _ rfl
              have q46 : v46 = .int .i64 ms := hV 46 _ rfl
              have q47 : v47 = .int .i64 ms := hV 47 _ rfl
              have q48 : v48 = .bool true := hV 48 _ rfl
              have q49 : v49 = .bool true := hV 49 _ rfl
              have q50 : v50 = .bool true := hV 50 _ rfl
              have q51 : v51 = .bool true := hV 51 _ rfl
              have q52 : v52 = .bool true := hV 52 _ rfl
              have q53 : v53 = .bool true := hV 53 _ rfl
              have hbel : Below W0'.heap.size W0' w19 := hS
              subst q0 q1 q2 q3 q4 q5 q6 q7 q8 q9 q10 q11 q12 q13 q14 q15 q16 q17 q18 q19 q20 q21 q22 q23 q24 q25 q26 q27 q28 q29 q30 q31 q32 q33 q34 q35 q36 q37 q38 q39 q40 q41 q42 q43 q44 q45 q46 q47 q48 q49 q50 q51 q52 q53
              clear hV hS hall
              simp only [lays, Act.put, List.setIfInBounds_toArray, List.set_cons_zero, List.set_cons_succ]
              go_wp2
              go_ret
              exact ⟨rfl, hbw4.trans (hbel.mono hbw4.size)⟩
        · have H8 : Hid (SetAt wr g8 q) := Lib.hid (HQ.out rfl)
          clear HQ HZ h8'
          go_wp2_with fail
          generalize wr = y0 at *
          have HRy := Lib.hid (HR.out.below2 hbw)
          refine (HOf.out y0 HRy.out).mono ?_
          rintro e y2 ⟨rfl, hb2⟩
          have zA := HA.out.lt
          have z8 := H8.out.lt
          have z9 := H9.out.lt
          have z10 := H10.out.lt
          have hz2 := hb2.size
          have HN2 := Lib.hid (SetAt.new y2 0)
          have HA2 := Lib.hid ((HA.out.below hb2 zA).alloc (.cells (C.cv 0) 23))
          go_wp2_with (first | (rw [C.zero30]; refine store_set rfl rfl rfl rfl HN2.out ?_; intro y3 hs ho; have H12' := Lib.hid hs; have HO := Lib.hid ho; clear hs ho HN2) | (refine load_set rfl rfl rfl (HA2.out.only HO.out (by omega)) ?_))
          have hb23 : Below y2.heap.size y2 y3 := ((Below.refl _ y2).alloc (Nat.le_refl _) _).trans (HO.out.below (Nat.le_refl _))
          have hb03 : Below y0.heap.size y0 y3 := hb2.trans (hb23.mono hz2)
          clear HO HA2 hb23
          refine (RList_any c y3).mono ?_
          rintro e y4 ⟨ro, rc, rfl, hro, hb4⟩
          have hb04 : Below y0.heap.size y0 y4 := hb03.trans (hb4.mono hb03.size)
          have H12 := Lib.hid (H12'.out.below hb4 H12'.out.lt)
          have HA' := Lib.hid (HA.out.below hb04 zA)
          have H8' := Lib.hid (H8.out.below hb04 z8)
          have H9' := Lib.hid (H9.out.below hb04 z9)
          have H10' := Lib.hid (H10.out.below hb04 z10)
          have HL' := Lib.hid (HL.out.below hb04)
          have HRo := Lib.hid hro
          have hbw4 : Below w.heap.size w y4 := hbw.trans (hb04.mono hbz)
          have HRow := Lib.hid (HR.out.below2 hbw4)
          clear HA H8 H9 H10 HL HRy hro hb04 hb03 hb2 hb4 H12' zA z8 z9 z10 hz2 hbw hbz HOf
          have HA := HA'
          have H8 := H8'
          have H9 := H9'
          have H10 := H10'
          have HL := HL'
          clear HA' H8' H9' H10' HL'
          generalize y2.heap.size = g12 at *
          generalize hW0 : y4 = W0' at *
          clear hW0
          by_cases h0 : (C.list c).length = 0
          · have hms := HN.out h0
            have hl0 : ¬ (0 : Int) < ((C.list c).length : Int) := by omega
            subst hms
            clear h0
            go_wp2
            clear hl0
            refine region_gen (VG W0'.heap.size [.val (.agg (C.cv (q))), .val (.agg (C.cv (q))), .val (.bool true), .val (.bool true), .val (.bool true), .val (.bool true), .val (.bool true), .val (.bool true), .val (.bool true), .val (.agg (C.cv (c))), .val (.slice ao l.length cap), .val (.agg (C.cv (p1))), .val (.agg (C.cv (p1))), .val (.bool true), .val (.bool true), .val (.bool true), .val (.agg (C.cv (c))), .val (.slice ao l.length cap), .val (.agg (C.cv (p2))), .val (.agg (C.cv (p2))), .val (.bool true), .val (.bool true), .val (.bool true), .val (.agg (C.cv (c))), .val (.int .i64 k), .val (.bool hk), .val (.agg (C.cv (c))), .val (.int .i64 k), .val (.bool hk), .val (.bool true), .val (.bool true), .val (.bool true), .val (.agg (C.cv (c))), .ints (C.list c), .val (.slice ro (C.list c).length rc), .val (.bool true), .val (.bool true), .val (.bool true), .val (.agg (C.cv (c))), .val (.int .i64 (C.list c).length), .val (.slice ro (C.list c).length rc), .val (.int .i64 (C.list c).length), .val (.bool true), .val (.bool true), .val (.bool true), .val (.agg (C.cv (c))), .val (.int .i64 (-1)), .val (.int .i64 (-1)), .val (.bool true), .val (.bool true), .val (.bool true), .val (.bool true), .val (.bool true), .val (.bool true)]) (BS W0') (by kernel_rfl) (by kernel_rfl) (Below.refl _ _).drew ⟨?_, ?_, ?_, ?_, ?_, ?_, ?_, ?_, ?_, ?_, ?_, ?_, ?_, ?_, ?_, ?_, ?_, ?_, ?_, ?_, ?_, ?_, ?_, ?_, ?_, ?_, ?_, ?_, ?_, ?_, ?_, ?_, ?_, ?_, ?_, ?_, ?_, ?_, ?_, ?_, ?_, ?_, ?_, ?_, ?_, ?_, ?_, ?_, ?_, ?_, ?_, ?_, ?_, ?_, trivial⟩ ?_
            · go_light; intro listed a' w' hs hS hun hdep
              have e12 : a'.eval (.tmp 12) = .pointer (some ⟨g12, 0, none⟩) := (hs.out 12 (by kernel_rfl)).trans (rfl)
              exact g_val (.agg (C.cv (q))) hS rfl (run_op_load rfl e12 (H12.out.below hS H12.out.lt)) rfl
            · go_light; intro listed a' w' hs hS hun hdep
              have e8 : a'.eval (.tmp 8) = .pointer (some ⟨g8, 0, none⟩) := (hs.out 8 (by kernel_rfl)).trans (rfl)
              exact g_val (.agg (C.cv (q))) hS rfl (run_op_load rfl e8 (H8.out.below hS H8.out.lt)) rfl
            · go_light; intro listed a' w' hs hS hun hdep
              have e81 : a'.eval (.tmp 81) = .agg (C.cv (q)) := hs.eval 0 _ 81 rfl (hdep ⟨0, .data⟩ (by simp) rfl) rfl
              have e82 : a'.eval (.tmp 82) = .agg (C.cv (q)) := hs.eval 1 _ 82 rfl (hdep ⟨1, .data⟩ (by simp) rfl) rfl
              exact g_val (.bool true) hS rfl (run_op_same rfl e81 e82 hq) rfl
            · go_light; intro listed a' w' hs hS hun hdep
              have e83 : a'.eval (.tmp 83) = .bool true := hs.eval 2 _ 83 rfl (hdep ⟨2, .data⟩ (by simp) rfl) rfl
              refine g_val (.bool true) hS rfl ?_ rfl
              have hcn := BigFrame.eval_const a'
              have hfn := BigFrame.eval_func a'
              clear hs hdep
              generalize a'.eval = ev at *
              go_simp
            · go_light; intro listed a' w' hs hS hun hdep
              have eg : a'.eval (.tmp 84) = .bool true := hs.eval 3 _ 84 rfl (hdep ⟨3, .guard⟩ (by simp) rfl) rfl
              have e13 : a'.eval (.tmp 13) = .bool true := (hs.out 13 (by kernel_rfl)).trans (rfl)
              refine g_val (.bool true) hS (wanted_yes rfl rfl rfl eg) ?_ rfl
              have hcn := BigFrame.eval_const a'
              have hfn := BigFrame.eval_func a'
              clear hs hdep
              generalize a'.eval = ev at *
              go_simp
            · go_light; intro listed a' w' hs hS hun hdep
              have eg : a'.eval (.tmp 84) = .bool true := hs.eval 3 _ 84 rfl (hdep ⟨3, .guard⟩ (by simp) rfl) rfl
              have e7 : a'.eval (.tmp 7) = .bool true := (hs.out 7 (by kernel_rfl)).trans (rfl)
              refine g_val (.bool true) hS (wanted_yes rfl rfl rfl eg) ?_ rfl
              have hcn := BigFrame.eval_const a'
              have hfn := BigFrame.eval_func a'
              clear hs hdep
              generalize a'.eval = ev at *
              go_simp
            · go_light; intro listed a' w' hs hS hun hdep
              have eg : a'.eval (.tmp 84) = .bool true := hs.eval 3 _ 84 rfl (hdep ⟨3, .guard⟩ (by simp) rfl) rfl
              have e85 : a'.eval (.tmp 85) = .bool true := hs.eval 4 _ 85 rfl (hdep ⟨4, .data⟩ (by simp) rfl) rfl
              have e86 : a'.eval (.tmp 86) = .bool true := hs.eval 5 _ 86 rfl (hdep ⟨5, .data⟩ (by simp) rfl) rfl
              refine g_val (.bool true) hS (wanted_yes rfl rfl rfl eg) ?_ rfl
              have hcn := BigFrame.eval_const a'
              have hfn := BigFrame.eval_func a'
              clear hs hdep
              generalize a'.eval = ev at *
              go_simp
            · go_light; intro listed a' w' hs hS hun hdep
              have e84 : a'.eval (.tmp 84) = .bool true := hs.eval 3 _ 84 rfl (hdep ⟨3, .data⟩ (by simp) rfl) rfl
              have e87 : a'.eval (.tmp 87) = .bool true := hs.eval 6 _ 87 rfl (hdep ⟨6, .data⟩ (by simp) rfl) rfl
              refine g_val (.bool true) hS rfl ?_ rfl
              have hcn := BigFrame.eval_const a'
              have hfn := BigFrame.eval_func a'
              clear hs hdep
              generalize a'.eval = ev at *
              go_simp
            · go_light; intro listed a' w' hs hS hun hdep
              have e88 : a'.eval (.tmp 88) = .bool true := hs.eval 7 _ 88 rfl (hdep ⟨7, .data⟩ (by simp) rfl) rfl
              refine g_val (.bool true) hS rfl ?_ rfl
              have hcn := BigFrame.eval_const a'
              have hfn := BigFrame.eval_func a'
              clear hs hdep
              generalize a'.eval = ev at *
              go_simp
            · go_light; intro listed a' w' hs hS hun hdep
              have eg : a'.eval (.tmp 89) = .bool true := hs.eval 8 _ 89 rfl (hdep ⟨8, .guard⟩ (by simp) rfl) rfl
              have e3 : a'.eval (.tmp 3) = .pointer (some ⟨w.heap.size, 0, none⟩) := (hs.out 3 (by kernel_rfl)).trans (rfl)
              exact g_val (.agg (C.cv (c))) hS (wanted_yes rfl rfl rfl eg) (run_op_load rfl e3 (HA.out.below hS HA.out.lt)) rfl
            · go_light; intro listed a' w' hs hS hun hdep
              have eg : a'.eval (.tmp 89) = .bool true := hs.eval 8 _ 89 rfl (hdep ⟨8, .guard⟩ (by simp) rfl) rfl
              have e1 : a'.eval (.tmp 1) = .slice ao l.length cap := (hs.out 1 (by kernel_rfl)).trans (rfl)
              refine g_val (.slice ao l.length cap) hS (wanted_yes rfl rfl rfl eg) ?_ rfl
              have hcn := BigFrame.eval_const a'
              have hfn := BigFrame.eval_func a'
              clear hs hdep
              generalize a'.eval = ev at *
              go_simp
            · go_light; intro listed a' w' hs hS hun hdep
              have eg : a'.eval (.tmp 89) = .bool true := hs.eval 8 _ 89 rfl (hdep ⟨8, .guard⟩ (by simp) rfl) rfl
              have e90 : a'.eval (.tmp 90) = .agg (C.cv (c)) := hs.eval 9 _ 90 rfl (hdep ⟨9, .data⟩ (by simp) rfl) rfl
              have e91 : a'.eval (.tmp 91) = .slice ao l.length cap := hs.eval 10 _ 91 rfl (hdep ⟨10, .data⟩ (by simp) rfl) rfl
              refine g_call 16 #[.agg (C.cv (c)), .slice ao l.length cap] hS (wanted_yes rfl rfl rfl eg) ?_ ?_
              · have hcn := BigFrame.eval_const a'; have hfn := BigFrame.eval_func a'; clear hs hdep; generalize a'.eval = ev at *; go_simp
              · exact c_val (HC1.out w' (HRow.out.below2 hS)) rfl
            · go_light; intro listed a' w' hs hS hun hdep
              have eg : a'.eval (.tmp 89) = .bool true := hs.eval 8 _ 89 rfl (hdep ⟨8, .guard⟩ (by simp) rfl) rfl
              have e9 : a'.eval (.tmp 9) = .pointer (some ⟨g9, 0, none⟩) := (hs.out 9 (by kernel_rfl)).trans (rfl)
              exact g_val (.agg (C.cv (p1))) hS (wanted_yes rfl rfl rfl eg) (run_op_load rfl e9 (H9.out.below hS H9.out.lt)) rfl
            · go_light; intro listed a' w' hs hS hun hdep
              have eg : a'.eval (.tmp 89) = .bool true := hs.eval 8 _ 89 rfl (hdep ⟨8, .guard⟩ (by simp) rfl) rfl
              have e92 : a'.eval (.tmp 92) = .agg (C.cv (p1)) := hs.eval 11 _ 92 rfl (hdep ⟨11, .data⟩ (by simp) rfl) rfl
              have e93 : a'.eval (.tmp 93) = .agg (C.cv (p1)) := hs.eval 12 _ 93 rfl (hdep ⟨12, .data⟩ (by simp) rfl) rfl
              exact g_val (.bool true) hS (wanted_yes rfl rfl rfl eg) (run_op_same rfl e92 e93 hp1) rfl
            · go_light; intro listed a' w' hs hS hun hdep
              have e89 : a'.eval (.tmp 89) = .bool true := hs.eval 8 _ 89 rfl (hdep ⟨8, .data⟩ (by simp) rfl) rfl
              have e94 : a'.eval (.tmp 94) = .bool true := hs.eval 13 _ 94 rfl (hdep ⟨13, .data⟩ (by simp) rfl) rfl
              refine g_val (.bool true) hS rfl ?_ rfl
              have hcn := BigFrame.eval_const a'
              have hfn := BigFrame.eval_func a'
              clear hs hdep
              generalize a'.eval = ev at *
              go_simp
            · go_light; intro listed a' w' hs hS hun hdep
              have e95 : a'.eval (.tmp 95) = .bool true := hs.eval 14 _ 95 rfl (hdep ⟨14, .data⟩ (by simp) rfl) rfl
              refine g_val (.bool true) hS rfl ?_ rfl
              have hcn := BigFrame.eval_const a'
              have hfn := BigFrame.eval_func a'
              clear hs hdep
              generalize a'.eval = ev at *
              go_simp
            · go_light; intro listed a' w' hs hS hun hdep
              have eg : a'.eval (.tmp 96) = .bool true := hs.eval 15 _ 96 rfl (hdep ⟨15, .guard⟩ (by simp) rfl) rfl
              have e3 : a'.eval (.tmp 3) = .pointer (some ⟨w.heap.size, 0, none⟩) := (hs.out 3 (by kernel_rfl)).trans (rfl)
              exact g_val (.agg (C.cv (c))) hS (wanted_yes rfl rfl rfl eg) (run_op_load rfl e3 (HA.out.below hS HA.out.lt)) rfl
            · go_light; intro listed a' w' hs hS hun hdep
              have eg : a'.eval (.tmp 96) = .bool true := hs.eval 15 _ 96 rfl (hdep ⟨15, .guard⟩ (by simp) rfl) rfl
              have e1 : a'.eval (.tmp 1) = .slice ao l.length cap := (hs.out 1 (by kernel_rfl)).trans (rfl)
              refine g_val (.slice ao l.length cap) hS (wanted_yes rfl rfl rfl eg) ?_ rfl
              have hcn := BigFrame.eval_const a'
              have hfn := BigFrame.eval_func a'
              clear hs hdep
              generalize a'.eval = ev at *
              go_simp
            · go_light; intro listed a' w' hs hS hun hdep
              have eg : a'.eval (.tmp 96) = .bool true := hs.eval 15 _ 96 rfl (hdep ⟨15, .guard⟩ (by simp) rfl) rfl
              have e97 : a'.eval (.tmp 97) = .agg (C.cv (c)) := hs.eval 16 _ 97 rfl (hdep ⟨16, .data⟩ (by simp) rfl) rfl
              have e98 : a'.eval (.tmp 98) = .slice ao l.length cap := hs.eval 17 _ 98 rfl (hdep ⟨17, .data⟩ (by simp) rfl) rfl
              refine g_call 17 #[.agg (C.cv (c)), .slice ao l.length cap] hS (wanted_yes rfl rfl rfl eg) ?_ ?_
              · have hcn := BigFrame.eval_const a'; have hfn := BigFrame.eval_func a'; clear hs hdep; generalize a'.eval = ev at *; go_simp
              · exact c_val (HC2.out w' (HRow.out.below2 hS)) rfl
            · go_light; intro listed a' w' hs hS hun hdep
              have eg : a'.eval (.tmp 96) = .bool true := hs.eval 15 _ 96 rfl (hdep ⟨15, .guard⟩ (by simp) rfl) rfl
              have e10 : a'.eval (.tmp 10) = .pointer (some ⟨g10, 0, none⟩) := (hs.out 10 (by kernel_rfl)).trans (rfl)
              exact g_val (.agg (C.cv (p2))) hS (wanted_yes rfl rfl rfl eg) (run_op_load rfl e10 (H10.out.below hS H10.out.lt)) rfl
            · go_light; intro listed a' w' hs hS hun hdep
              have eg : a'.eval (.tmp 96) = .bool true := hs.eval 15 _ 96 rfl (hdep ⟨15, .guard⟩ (by simp) rfl) rfl
              have e99 : a'.eval (.tmp 99) = .agg (C.cv (p2)) := hs.eval 18 _ 99 rfl (hdep ⟨18, .data⟩ (by simp) rfl) rfl
              have e100 : a'.eval (.tmp 100) = .agg (C.cv (p2)) := hs.eval 19 _ 100 rfl (hdep ⟨19, .data⟩ (by simp) rfl) rfl
              exact g_val (.bool true) hS (wanted_yes rfl rfl rfl eg) (run_op_same rfl e99 e100 hp2) rfl
            · go_light; intro listed a' w' hs hS hun hdep
              have e96 : a'.eval (.tmp 96) = .bool true := hs.eval 15 _ 96 rfl (hdep ⟨15, .data⟩ (by simp) rfl) rfl
              have e101 : a'.eval (.tmp 101) = .bool true := hs.eval 20 _ 101 rfl (hdep ⟨20, .data⟩ (by simp) rfl) rfl
              refine g_val (.bool true) hS rfl ?_ rfl
              have hcn := BigFrame.eval_const a'
              have hfn := BigFrame.eval_func a'
              clear hs hdep
              generalize a'.eval = ev at *
              go_simp
            · go_light; intro listed a' w' hs hS hun hdep
              have e102 : a'.eval (.tmp 102) = .bool true := hs.eval 21 _ 102 rfl (hdep ⟨21, .data⟩ (by simp) rfl) rfl
              refine g_val (.bool true) hS rfl ?_ rfl
              have hcn := BigFrame.eval_const a'
              have hfn := BigFrame.eval_func a'
              clear hs hdep
              generalize a'.eval = ev at *
              go_simp
            · go_light; intro listed a' w' hs hS hun hdep
              have eg : a'.eval (.tmp 103) = .bool true := hs.eval 22 _ 103 rfl (hdep ⟨22, .guard⟩ (by simp) rfl) rfl
              have e3 : a'.eval (.tmp 3) = .pointer (some ⟨w.heap.size, 0, none⟩) := (hs.out 3 (by kernel_rfl)).trans (rfl)
              exact g_val (.agg (C.cv (c))) hS (wanted_yes rfl rfl rfl eg) (run_op_load rfl e3 (HA.out.below hS HA.out.lt)) rfl
            · go_light; intro listed a' w' hs hS hun hdep
              have eg : a'.eval (.tmp 103) = .bool true := hs.eval 22 _ 103 rfl (hdep ⟨22, .guard⟩ (by simp) rfl) rfl
              have e2 : a'.eval (.tmp 2) = .int .i64 k := (hs.out 2 (by kernel_rfl)).trans (rfl)
              refine g_val (.int .i64 k) hS (wanted_yes rfl rfl rfl eg) ?_ rfl
              have hcn := BigFrame.eval_const a'
              have hfn := BigFrame.eval_func a'
              clear hs hdep
              generalize a'.eval = ev at *
              go_simp
            · go_light; intro listed a' w' hs hS hun hdep
              have eg : a'.eval (.tmp 103) = .bool true := hs.eval 22 _ 103 rfl (hdep ⟨22, .guard⟩ (by simp) rfl) rfl
              have e104 : a'.eval (.tmp 104) = .agg (C.cv (c)) := hs.eval 23 _ 104 rfl (hdep ⟨23, .data⟩ (by simp) rfl) rfl
              have e105 : a'.eval (.tmp 105) = .int .i64 k := hs.eval 24 _ 105 rfl (hdep ⟨24, .data⟩ (by simp) rfl) rfl
              refine g_call 18 #[.agg (C.cv (c)), .int .i64 k] hS (wanted_yes rfl rfl rfl eg) ?_ ?_
              · have hcn := BigFrame.eval_const a'; have hfn := BigFrame.eval_func a'; clear hs hdep; generalize a'.eval = ev at *; go_simp
              · exact c_val (HK1.out w') rfl
            · go_light; intro listed a' w' hs hS hun hdep
              have eg : a'.eval (.tmp 103) = .bool true := hs.eval 22 _ 103 rfl (hdep ⟨22, .guard⟩ (by simp) rfl) rfl
              have e3 : a'.eval (.tmp 3) = .pointer (some ⟨w.heap.size, 0, none⟩) := (hs.out 3 (by kernel_rfl)).trans (rfl)
              exact g_val (.agg (C.cv (c))) hS (wanted_yes rfl rfl rfl eg) (run_op_load rfl e3 (HA.out.below hS HA.out.lt)) rfl
            · go_light; intro listed a' w' hs hS hun hdep
              have eg : a'.eval (.tmp 103) = .bool true := hs.eval 22 _ 103 rfl (hdep ⟨22, .guard⟩ (by simp) rfl) rfl
              have e2 : a'.eval (.tmp 2) = .int .i64 k := (hs.out 2 (by kernel_rfl)).trans (rfl)
              refine g_val (.int .i64 k) hS (wanted_yes rfl rfl rfl eg) ?_ rfl
              have hcn := BigFrame.eval_const a'
              have hfn := BigFrame.eval_func a'
              clear hs hdep
              generalize a'.eval = ev at *
              go_simp
            · go_light; intro listed a' w' hs hS hun hdep
              have eg : a'.eval (.tmp 103) = .bool true := hs.eval 22 _ 103 rfl (hdep ⟨22, .guard⟩ (by simp) rfl) rfl
              have e107 : a'.eval (.tmp 107) = .agg (C.cv (c)) := hs.eval 26 _ 107 rfl (hdep ⟨26, .data⟩ (by simp) rfl) rfl
              have e108 : a'.eval (.tmp 108) = .int .i64 k := hs.eval 27 _ 108 rfl (hdep ⟨27, .data⟩ (by simp) rfl) rfl
              refine g_call 19 #[.agg (C.cv (c)), .int .i64 k] hS (wanted_yes rfl rfl rfl eg) ?_ ?_
              · have hcn := BigFrame.eval_const a'; have hfn := BigFrame.eval_func a'; clear hs hdep; generalize a'.eval = ev at *; go_simp
              · exact c_val (HK2.out w') rfl
            · go_light; intro listed a' w' hs hS hun hdep
              have eg : a'.eval (.tmp 103) = .bool true := hs.eval 22 _ 103 rfl (hdep ⟨22, .guard⟩ (by simp) rfl) rfl
              have e106 : a'.eval (.tmp 106) = .bool hk := hs.eval 25 _ 106 rfl (hdep ⟨25, .data⟩ (by simp) rfl) rfl
              have e109 : a'.eval (.tmp 109) = .bool hk := hs.eval 28 _ 109 rfl (hdep ⟨28, .data⟩ (by simp) rfl) rfl
              refine g_val (.bool true) hS (wanted_yes rfl rfl rfl eg) ?_ rfl
              have hcn := BigFrame.eval_const a'
              have hfn := BigFrame.eval_func a'
              clear hs hdep
              generalize a'.eval = ev at *
              go_simp
            · go_light; intro listed a' w' hs hS hun hdep
              have e103 : a'.eval (.tmp 103) = .bool true := hs.eval 22 _ 103 rfl (hdep ⟨22, .data⟩ (by simp) rfl) rfl
              have e110 : a'.eval (.tmp 110) = .bool true := hs.eval 29 _ 110 rfl (hdep ⟨29, .data⟩ (by simp) rfl) rfl
              refine g_val (.bool true) hS rfl ?_ rfl
              have hcn := BigFrame.eval_const a'
              have hfn := BigFrame.eval_func a'
              clear hs hdep
              generalize a'.eval = ev at *
              go_simp
            · go_light; intro listed a' w' hs hS hun hdep
              have e111 : a'.eval (.tmp 111) = .bool true := hs.eval 30 _ 111 rfl (hdep ⟨30, .data⟩ (by simp) rfl) rfl
              refine g_val (.bool true) hS rfl ?_ rfl
              have hcn := BigFrame.eval_const a'
              have hfn := BigFrame.eval_func a'
              clear hs hdep
              generalize a'.eval = ev at *
              go_simp
            · go_light; intro listed a' w' hs hS hun hdep
              have eg : a'.eval (.tmp 112) = .bool true := hs.eval 31 _ 112 rfl (hdep ⟨31, .guard⟩ (by simp) rfl) rfl
              have e3 : a'.eval (.tmp 3) = .pointer (some ⟨w.heap.size, 0, none⟩) := (hs.out 3 (by kernel_rfl)).trans (rfl)
              exact g_val (.agg (C.cv (c))) hS (wanted_yes rfl rfl rfl eg) (run_op_load rfl e3 (HA.out.below hS HA.out.lt)) rfl
            · go_light; intro listed a' w' hs hS hun hdep
              have eg : a'.eval (.tmp 112) = .bool true := hs.eval 31 _ 112 rfl (hdep ⟨31, .guard⟩ (by simp) rfl) rfl
              have e113 : a'.eval (.tmp 113) = .agg (C.cv (c)) := hs.eval 32 _ 113 rfl (hdep ⟨32, .data⟩ (by simp) rfl) rfl
              refine g_call 21 #[.agg (C.cv (c))] hS (wanted_yes rfl rfl rfl eg) ?_ ?_
              · have hcn := BigFrame.eval_const a'; have hfn := BigFrame.eval_func a'; clear hs hdep; generalize a'.eval = ev at *; go_simp
              · exact Calls.mono (List_any c w') fun e w'' ⟨ao, cp, he, hr, hb⟩ => ⟨_, he, ⟨ao, cp, rfl, hr⟩, hb⟩
            · go_light; intro listed a' w' hs hS hun hdep
              have eg : a'.eval (.tmp 112) = .bool true := hs.eval 31 _ 112 rfl (hdep ⟨31, .guard⟩ (by simp) rfl) rfl
              have e14 : a'.eval (.tmp 14) = .slice ro (C.list c).length rc := (hs.out 14 (by kernel_rfl)).trans (rfl)
              refine g_val (.slice ro (C.list c).length rc) hS (wanted_yes rfl rfl rfl eg) ?_ rfl
              have hcn := BigFrame.eval_const a'
              have hfn := BigFrame.eval_func a'
              clear hs hdep
              generalize a'.eval = ev at *
              go_simp
            · go_light; intro listed a' w' hs hS hun hdep
              have eg : a'.eval (.tmp 112) = .bool true := hs.eval 31 _ 112 rfl (hdep ⟨31, .guard⟩ (by simp) rfl) rfl
              have r114 : (.ints (C.list c) : GV).ok W0'.heap.size (a'.eval (.tmp 114)) w' := hs.eval 33 _ 114 rfl (hdep ⟨33, .data⟩ (by simp) rfl)  rfl
              obtain ⟨ao114, cp114, e114, k114⟩ := r114
              have e115 : a'.eval (.tmp 115) = .slice ro (C.list c).length rc := hs.eval 34 _ 115 rfl (hdep ⟨34, .data⟩ (by simp) rfl) rfl
              refine g_call 20 #[.slice ao114 (C.list c).length cp114, .slice ro (C.list c).length rc] hS (wanted_yes rfl rfl rfl eg) ?_ ?_
              · have hcn := BigFrame.eval_const a'; have hfn := BigFrame.eval_func a'; clear hs hdep; generalize a'.eval = ev at *; go_simp
              · exact c_val (ints_same ao114 ro cp114 rc (C.list c) w' k114 (HRo.out.below hS) (list_len1000 c)) rfl
            · go_light; intro listed a' w' hs hS hun hdep
              have e112 : a'.eval (.tmp 112) = .bool true := hs.eval 31 _ 112 rfl (hdep ⟨31, .data⟩ (by simp) rfl) rfl
              have e116 : a'.eval (.tmp 116) = .bool true := hs.eval 35 _ 116 rfl (hdep ⟨35, .data⟩ (by simp) rfl) rfl
              refine g_val (.bool true) hS rfl ?_ rfl
              have hcn := BigFrame.eval_const a'
              have hfn := BigFrame.eval_func a'
              clear hs hdep
              generalize a'.eval = ev at *
              go_simp
            · go_light; intro listed a' w' hs hS hun hdep
              have e117 : a'.eval (.tmp 117) = .bool true := hs.eval 36 _ 117 rfl (hdep ⟨36, .data⟩ (by simp) rfl) rfl
              refine g_val (.bool true) hS rfl ?_ rfl
              have hcn := BigFrame.eval_const a'
              have hfn := BigFrame.eval_func a'
              clear hs hdep
              generalize a'.eval = ev at *
              go_simp
            · go_light; intro listed a' w' hs hS hun hdep
              have eg : a'.eval (.tmp 118) = .bool true := hs.eval 37 _ 118 rfl (hdep ⟨37, .guard⟩ (by simp) rfl) rfl
              have e3 : a'.eval (.tmp 3) = .pointer (some ⟨w.heap.size, 0, none⟩) := (hs.out 3 (by kernel_rfl)).trans (rfl)
              exact g_val (.agg (C.cv (c))) hS (wanted_yes rfl rfl rfl eg) (run_op_load rfl e3 (HA.out.below hS HA.out.lt)) rfl
            · go_light; intro listed a' w' hs hS hun hdep
              have eg : a'.eval (.tmp 118) = .bool true := hs.eval 37 _ 118 rfl (hdep ⟨37, .guard⟩ (by simp) rfl) rfl
              have e119 : a'.eval (.tmp 119) = .agg (C.cv (c)) := hs.eval 38 _ 119 rfl (hdep ⟨38, .data⟩ (by simp) rfl) rfl
              refine g_call 22 #[.agg (C.cv (c))] hS (wanted_yes rfl rfl rfl eg) ?_ ?_
              · have hcn := BigFrame.eval_const a'; have hfn := BigFrame.eval_func a'; clear hs hdep; generalize a'.eval = ev at *; go_simp
              · exact c_val (Count_any c w') rfl
            · go_light; intro listed a' w' hs hS hun hdep
              have eg : a'.eval (.tmp 118) = .bool true := hs.eval 37 _ 118 rfl (hdep ⟨37, .guard⟩ (by simp) rfl) rfl
              have e14 : a'.eval (.tmp 14) = .slice ro (C.list c).length rc := (hs.out 14 (by kernel_rfl)).trans (rfl)
              refine g_val (.slice ro (C.list c).length rc) hS (wanted_yes rfl rfl rfl eg) ?_ rfl
              have hcn := BigFrame.eval_const a'
              have hfn := BigFrame.eval_func a'
              clear hs hdep
              generalize a'.eval = ev at *
              go_simp
            · go_light; intro listed a' w' hs hS hun hdep
              have eg : a'.eval (.tmp 118) = .bool true := hs.eval 37 _ 118 rfl (hdep ⟨37, .guard⟩ (by simp) rfl) rfl
              have e121 : a'.eval (.tmp 121) = .slice ro (C.list c).length rc := hs.eval 40 _ 121 rfl (hdep ⟨40, .data⟩ (by simp) rfl) rfl
              refine g_val (.int .i64 (C.list c).length) hS (wanted_yes rfl rfl rfl eg) ?_ rfl
              have hcn := BigFrame.eval_const a'
              have hfn := BigFrame.eval_func a'
              clear hs hdep
              generalize a'.eval = ev at *
              go_simp
            · go_light; intro listed a' w' hs hS hun hdep
              have eg : a'.eval (.tmp 118) = .bool true := hs.eval 37 _ 118 rfl (hdep ⟨37, .guard⟩ (by simp) rfl) rfl
              have e120 : a'.eval (.tmp 120) = .int .i64 (C.list c).length := hs.eval 39 _ 120 rfl (hdep ⟨39, .data⟩ (by simp) rfl) rfl
              have e122 : a'.eval (.tmp 122) = .int .i64 (C.list c).length := hs.eval 41 _ 122 rfl (hdep ⟨41, .data⟩ (by simp) rfl) rfl
              refine g_val (.bool true) hS (wanted_yes rfl rfl rfl eg) ?_ rfl
              have hcn := BigFrame.eval_const a'
              have hfn := BigFrame.eval_func a'
              clear hs hdep
              generalize a'.eval = ev at *
              go_simp
            · go_light; intro listed a' w' hs hS hun hdep
              have e118 : a'.eval (.tmp 118) = .bool true := hs.eval 37 _ 118 rfl (hdep ⟨37, .data⟩ (by simp) rfl) rfl
              have e123 : a'.eval (.tmp 123) = .bool true := hs.eval 42 _ 123 rfl (hdep ⟨42, .data⟩ (by simp) rfl) rfl
              refine g_val (.bool true) hS rfl ?_ rfl
              have hcn := BigFrame.eval_const a'
              have hfn := BigFrame.eval_func a'
              clear hs hdep
              generalize a'.eval = ev at *
              go_simp
            · go_light; intro listed a' w' hs hS hun hdep
              have e124 : a'.eval (.tmp 124) = .bool true := hs.eval 43 _ 124 rfl (hdep ⟨43, .data⟩ (by simp) rfl) rfl
              refine g_val (.bool true) hS rfl ?_ rfl
              have hcn := BigFrame.eval_const a'
              have hfn := BigFrame.eval_func a'
              clear hs hdep
              generalize a'.eval = ev at *
              go_simp
            · go_light; intro listed a' w' hs hS hun hdep
              have eg : a'.eval (.tmp 125) = .bool true := hs.eval 44 _ 125 rfl (hdep ⟨44, .guard⟩ (by simp) rfl) rfl
              have e3 : a'.eval (.tmp 3) = .pointer (some ⟨w.heap.size, 0, none⟩) := (hs.out 3 (by kernel_rfl)).trans (rfl)
              exact g_val (.agg (C.cv (c))) hS (wanted_yes rfl rfl rfl eg) (run_op_load rfl e3 (HA.out.below hS HA.out.lt)) rfl
            · go_light; intro listed a' w' hs hS hun hdep
              have eg : a'.eval (.tmp 125) = .bool true := hs.eval 44 _ 125 rfl (hdep ⟨44, .guard⟩ (by simp) rfl) rfl
              have e126 : a'.eval (.tmp 126) = .agg (C.cv (c)) := hs.eval 45 _ 126 rfl (hdep ⟨45, .data⟩ (by simp) rfl) rfl
              refine g_call 23 #[.agg (C.cv (c))] hS (wanted_yes rfl rfl rfl eg) ?_ ?_
              · have hcn := BigFrame.eval_const a'; have hfn := BigFrame.eval_func a'; clear hs hdep; generalize a'.eval = ev at *; go_simp
              · exact c_val (HM.out w') rfl
            · go_light; intro listed a' w' hs hS hun hdep
              have eg : a'.eval (.tmp 125) = .bool true := hs.eval 44 _ 125 rfl (hdep ⟨44, .guard⟩ (by simp) rfl) rfl
              have e15 : a'.eval (.tmp 15) = .int .i64 (-1) := (hs.out 15 (by kernel_rfl)).trans (rfl)
              refine g_val (.int .i64 (-1)) hS (wanted_yes rfl rfl rfl eg) ?_ rfl
              have hcn := BigFrame.eval_const a'
              have hfn := BigFrame.eval_func a'
              clear hs hdep
              generalize a'.eval = ev at *
              go_simp
            · go_light; intro listed a' w' hs hS hun hdep
              have eg : a'.eval (.tmp 125) = .bool true := hs.eval 44 _ 125 rfl (hdep ⟨44, .guard⟩ (by simp) rfl) rfl
              have e127 : a'.eval (.tmp 127) = .int .i64 (-1) := hs.eval 46 _ 127 rfl (hdep ⟨46, .data⟩ (by simp) rfl) rfl
              have e128 : a'.eval (.tmp 128) = .int .i64 (-1) := hs.eval 47 _ 128 rfl (hdep ⟨47, .data⟩ (by simp) rfl) rfl
              refine g_val (.bool true) hS (wanted_yes rfl rfl rfl eg) ?_ rfl
              have hcn := BigFrame.eval_const a'
              have hfn := BigFrame.eval_func a'
              clear hs hdep
              generalize a'.eval = ev at *
              go_simp
            · go_light; intro listed a' w' hs hS hun hdep
              have e125 : a'.eval (.tmp 125) = .bool true := hs.eval 44 _ 125 rfl (hdep ⟨44, .data⟩ (by simp) rfl) rfl
              have e129 : a'.eval (.tmp 129) = .bool true := hs.eval 48 _ 129 rfl (hdep ⟨48, .data⟩ (by simp) rfl) rfl
              refine g_val (.bool true) hS rfl ?_ rfl
              have hcn := BigFrame.eval_const a'
              have hfn := BigFrame.eval_func a'
              clear hs hdep
              generalize a'.eval = ev at *
              go_simp
            · go_light; intro listed a' w' hs hS hun hdep
              have e130 : a'.eval (.tmp 130) = .bool true := hs.eval 49 _ 130 rfl (hdep ⟨49, .data⟩ (by simp) rfl) rfl
              refine g_val (.bool true) hS rfl ?_ rfl
              have hcn := BigFrame.eval_const a'
              have hfn := BigFrame.eval_func a'
              clear hs hdep
              generalize a'.eval = ev at *
              go_simp
            · go_light; intro listed a' w' hs hS hun hdep
              have eg : a'.eval (.tmp 131) = .bool true := hs.eval 50 _ 131 rfl (hdep ⟨50, .guard⟩ (by simp) rfl) rfl
              refine g_call 12 #[] hS (wanted_yes rfl rfl rfl eg) ?_ ?_
              · have hcn := BigFrame.eval_const a'; have hfn := BigFrame.eval_func a'; clear hs hdep; generalize a'.eval = ev at *; go_simp
              · exact c_val (cats_awake w' (HL.out.below hS)) rfl
            · go_light; intro listed a' w' hs hS hun hdep
              have e131 : a'.eval (.tmp 131) = .bool true := hs.eval 50 _ 131 rfl (hdep ⟨50, .data⟩ (by simp) rfl) rfl
              have e132 : a'.eval (.tmp 132) = .bool true := hs.eval 51 _ 132 rfl (hdep ⟨51, .data⟩ (by simp) rfl) rfl
              refine g_val (.bool true) hS rfl ?_ rfl
              have hcn := BigFrame.eval_const a'
              have hfn := BigFrame.eval_func a'
              clear hs hdep
              generalize a'.eval = ev at *
              go_simp
            · go_light; intro listed a' w' hs hS hun hdep
              have e133 : a'.eval (.tmp 133) = .bool true := hs.eval 52 _ 133 rfl (hdep ⟨52, .data⟩ (by simp) rfl) rfl
              refine g_val (.bool true) hS rfl ?_ rfl
              have hcn := BigFrame.eval_const a'
              have hfn := BigFrame.eval_func a'
              clear hs hdep
              generalize a'.eval = ev at *
              go_simp
            · intro vs w19 hlen hV listed hall hS
              obtain ⟨v0, v1, v2, v3, v4, v5, v6, v7, v8, v9, v10, v11, v12, v13, v14, v15, v16, v17, v18, v19, v20, v21, v22, v23, v24, v25, v26, v27, v28, v29, v30, v31, v32, v33, v34, v35, v36, v37, v38, v39, v40, v41, v42, v43, v44, v45, v46, v47, v48, v49, v50, v51, v52, v53, rfl⟩ := vs_54 vs (hlen.trans rfl)
              have q0 : v0 = .agg (C.cv (q)) := hV 0 _ rfl
              have q1 : v1 = .agg (C.cv (q)) := hV 1 _ rfl
              have q2 : v2 = .bool true := hV 2 _ rfl
              have q3 : v3 = .bool true := hV 3 _ rfl
              have q4 : v4 = .bool true := hV 4 _ rfl
              have q5 : v5 = .bool true := hV 5 _ rfl
              have q6 : v6 = .bool true := hV 6 _ rfl
              have q7 : v7 = .bool true := hV 7 _ rfl
              have q8 : v8 = .bool true := hV 8 _ rfl
              have q9 : v9 = .agg (C.cv (c)) := hV 9 _ rfl
              have q10 : v10 = .slice ao l.length cap := hV 10 _ rfl
              have q11 : v11 = .agg (C.cv (p1)) := hV 11 _ rfl
              have q12 : v12 = .agg (C.cv (p1)) := hV 12 _ rfl
              have q13 : v13 = .bool true := hV 13 _ rfl
              have q14 : v14 = .bool true := hV 14 _ rfl
              have q15 : v15 = .bool true := hV 15 _ rfl
              have q16 : v16 = .agg (C.cv (c)) := hV 16 _ rfl
              have q17 : v17 = .slice ao l.length cap := hV 17 _ rfl
              have q18 : v18 = .agg (C.cv (p2)) := hV 18 _ rfl
              have q19 : v19 = .agg (C.cv (p2)) := hV 19 _ rfl
              have q20 : v20 = .bool true := hV 20 _ rfl
              have q21 : v21 = .bool true := hV 21 _ rfl
              have q22 : v22 = .bool true := hV 22 _ rfl
              have q23 : v23 = .agg (C.cv (c)) := hV 23 _ rfl
              have q24 : v24 = .int .i64 k := hV 24 _ rfl
              have q25 : v25 = .bool hk := hV 25 _ rfl
              have q26 : v26 = .agg (C.cv (c)) := hV 26 _ rfl
              have q27 : v27 = .int .i64 k := hV 27 _ rfl
              have q28 : v28 = .bool hk := hV 28 _ rfl
              have q29 : v29 = .bool true := hV 29 _ rfl
              have q30 : v30 = .bool true := hV 30 _ rfl
              have q31 : v31 = .bool true := hV 31 _ rfl
              have q32 : v32 = .agg (C.cv (c)) := hV 32 _ rfl
              obtain ⟨ao33, cp33, q33, hro33⟩ : (.ints (C.list c) : GV).ok W0'.heap.size v33 w19 := hV 33 _ rfl
              have q34 : v34 = .slice ro (C.list c).length rc := hV 34 _ rfl
              have q35 : v35 = .bool true := hV 35 _ rfl
              have q36 : v36 = .bool true := hV 36 _ rfl
              have q37 : v37 = .bool true := hV 37 _ rfl
              have q38 : v38 = .agg (C.cv (c)) := hV 38 _ rfl
              have q39 : v39 = .int .i64 (C.list c).length := hV 39 _ rfl
              have q40 : v40 = .slice ro (C.list c).length rc := hV 40 _ rfl
              have q41 : v41 = .int .i64 (C.list c).length := hV 41 _ rfl
              have q42 : v42 = .bool true := hV 42 _ rfl
              have q43 : v43 = .bool true := hV 43 _ rfl
              have q44 : v44 = .bool true := hV 44 _ rfl
              have q45 : v45 = .agg (C.cv (c)) := hV 45 _ rfl
              have q46 : v46 = .int .i64 (-1) := hV 46 _ rfl
              have q47 : v47 = .int .i64 (-1) := hV 47 _ rfl
              have q48 : v48 = .bool true := hV 48 _ rfl
              have q49 : v49 = .bool true := hV 49 _ rfl
              have q50 : v50 = .bool true := hV 50 _ rfl
              have q51 : v51 = .bool true := hV 51 _ rfl
              have q52 : v52 = .bool true := hV 52 _ rfl
              have q53 : v53 = .bool true := hV 53 _ rfl
              have hbel : Below W0'.heap.size W0' w19 := hS
              subst q0 q1 q2 q3 q4 q5 q6 q7 q8 q9 q10 q11 q12 q13 q14 q15 q16 q17 q18 q19 q20 q21 q22 q23 q24 q25 q26 q27 q28 q29 q30 q31 q32 q33 q34 q35 q36 q37 q38 q39 q40 q41 q42 q43 q44 q45 q46 q47 q48 q49 q50 q51 q52 q53
              clear hV hS hall
              simp only [lays, Act.put, List.setIfInBounds_toArray, List.set_cons_zero, List.set_cons_succ]
              go_wp2
              go_ret
              exact ⟨rfl, hbw4.trans (hbel.mono hbw4.size)⟩
          · have hms := HS.out (by omega)
            obtain ⟨b2, off2, rfl, hbl2, hcell2⟩ := HRo.out.then (Below.refl _ _) ((C.list c).length - 1) (by omega)
            rw [hms] at hcell2
            have hl0 : (0 : Int) < ((C.list c).length : Int) := by omega
            have hi0 : (((C.list c).length : Int) - 1) = (((C.list c).length - 1 : Nat) : Int) := by omega
            go_wp2
            clear hl0 hcell2
            refine region_gen (VG W0'.heap.size [.val (.agg (C.cv (q))), .val (.agg (C.cv (q))), .val (.bool true), .val (.bool true), .val (.bool true), .val (.bool true), .val (.bool true), .val (.bool true), .val (.bool true), .val (.agg (C.cv (c))), .val (.slice ao l.length cap), .val (.agg (C.cv (p1))), .val (.agg (C.cv (p1))), .val (.bool true), .val (.bool true), .val (.bool true), .val (.agg (C.cv (c))), .val (.slice ao l.length cap), .val (.agg (C.cv (p2))), .val (.agg (C.cv (p2))), .val (.bool true), .val (.bool true), .val (.bool true), .val (.agg (C.cv (c))), .val (.int .i64 k), .val (.bool hk), .val (.agg (C.cv (c))), .val (.int .i64 k), .val (.bool hk), .val (.bool true), .val (.bool true), .val (.bool true), .val (.agg (C.cv (c))), .ints (C.list c), .val (.slice (some ⟨b2, off2, none⟩) (C.list c).length rc), .val (.bool true), .val (.bool true), .val (.bool true), .val (.agg (C.cv (c))), .val (.int .i64 (C.list c).length), .val (.slice (some ⟨b2, off2, none⟩) (C.list c).length rc), .val (.int .i64 (C.list c).length), .val (.bool true), .val (.bool true), .val (.bool true), .val (.agg (C.cv (c))), .val (.int .i64 ms), .val (.int .i64 ms), .val (.bool true), .val (.bool true), .val (.bool true), .val (.bool true), .val (.bool true), .val (.bool true)]) (BS W0') (by kernel_rfl) (by kernel_rfl) (Below.refl _ _).drew ⟨?_, ?_, ?_, ?_, ?_, ?_, ?_, ?_, ?_, ?_, ?_, ?_, ?_, ?_, ?_, ?_, ?_, ?_, ?_, ?_, ?_, ?_, ?_, ?_, ?_, ?_, ?_, ?_, ?_, ?_, ?_, ?_, ?_, ?_, ?_, ?_, ?_, ?_, ?_, ?_, ?_, ?_, ?_, ?_, ?_, ?_, ?_, ?_, ?_, ?_, ?_, ?_, ?_, ?_, trivial⟩ ?_
            · go_light; intro listed a' w' hs hS hun hdep
              have e12 : a'.eval (.tmp 12) = .pointer (some ⟨g12, 0, none⟩) := (hs.out 12 (by kernel_rfl)).trans (rfl)
              exact g_val (.agg (C.cv (q))) hS rfl (run_op_load rfl e12 (H12.out.below hS H12.out.lt)) rfl
            · go_light; intro listed a' w' hs hS hun hdep
              have e8 : a'.eval (.tmp 8) = .pointer (some ⟨g8, 0, none⟩) := (hs.out 8 (by kernel_rfl)).trans (rfl)
              exact g_val (.agg (C.cv (q))) hS rfl (run_op_load rfl e8 (H8.out.below hS H8.out.lt)) rfl
            · go_light; intro listed a' w' hs hS hun hdep
              have e81 : a'.eval (.tmp 81) = .agg (C.cv (q)) := hs.eval 0 _ 81 rfl (hdep ⟨0, .data⟩ (by simp) rfl) rfl
              have e82 : a'.eval (.tmp 82) = .agg (C.cv (q)) := hs.eval 1 _ 82 rfl (hdep ⟨1, .data⟩ (by simp) rfl) rfl
              exact g_val (.bool true) hS rfl (run_op_same rfl e81 e82 hq) rfl
            · go_light; intro listed a' w' hs hS hun hdep
              have e83 : a'.eval (.tmp 83) = .bool true := hs.eval 2 _ 83 rfl (hdep ⟨2, .data⟩ (by simp) rfl) rfl
              refine g_val (.bool true) hS rfl ?_ rfl
              have hcn := BigFrame.eval_const a'
              have hfn := BigFrame.eval_func a'
              clear hs hdep
              generalize a'.eval = ev at *
              go_simp
            · go_light; intro listed a' w' hs hS hun hdep
              have eg : a'.eval (.tmp 84) = .bool true := hs.eval 3 _ 84 rfl (hdep ⟨3, .guard⟩ (by simp) rfl) rfl
              have e13 : a'.eval (.tmp 13) = .bool true := (hs.out 13 (by kernel_rfl)).trans (rfl)
              refine g_val (.bool true) hS (wanted_yes rfl rfl rfl eg) ?_ rfl
              have hcn := BigFrame.eval_const a'
              have hfn := BigFrame.eval_func a'
              clear hs hdep
              generalize a'.eval = ev at *
              go_simp
            · go_light; intro listed a' w' hs hS hun hdep
              have eg : a'.eval (.tmp 84) = .bool true := hs.eval 3 _ 84 rfl (hdep ⟨3, .guard⟩ (by simp) rfl) rfl
              have e7 : a'.eval (.tmp 7) = .bool true := (hs.out 7 (by kernel_rfl)).trans (rfl)
              refine g_val (.bool true) hS (wanted_yes rfl rfl rfl eg) ?_ rfl
              have hcn := BigFrame.eval_const a'
              have hfn := BigFrame.eval_func a'
              clear hs hdep
              generalize a'.eval = ev at *
              go_simp
            · go_light; intro listed a' w' hs hS hun hdep
              have eg : a'.eval (.tmp 84) = .bool true := hs.eval 3 _ 84 rfl (hdep ⟨3, .guard⟩ (by simp) rfl) rfl
              have e85 : a'.eval (.tmp 85) = .bool true := hs.eval 4 _ 85 rfl (hdep ⟨4, .data⟩ (by simp) rfl) rfl
              have e86 : a'.eval (.tmp 86) = .bool true := hs.eval 5 _ 86 rfl (hdep ⟨5, .data⟩ (by simp) rfl) rfl
              refine g_val (.bool true) hS (wanted_yes rfl rfl rfl eg) ?_ rfl
              have hcn := BigFrame.eval_const a'
              have hfn := BigFrame.eval_func a'
              clear hs hdep
              generalize a'.eval = ev at *
              go_simp
            · go_light; intro listed a' w' hs hS hun hdep
              have e84 : a'.eval (.tmp 84) = .bool true := hs.eval 3 _ 84 rfl (hdep ⟨3, .data⟩ (by simp) rfl) rfl
              have e87 : a'.eval (.tmp 87) = .bool true := hs.eval 6 _ 87 rfl (hdep ⟨6, .data⟩ (by simp) rfl) rfl
              refine g_val (.bool true) hS rfl ?_ rfl
              have hcn := BigFrame.eval_const a'
              have hfn := BigFrame.eval_func a'
              clear hs hdep
              generalize a'.eval = ev at *
              go_simp
            · go_light; intro listed a' w' hs hS hun hdep
              have e88 : a'.eval (.tmp 88) = .bool true := hs.eval 7 _ 88 rfl (hdep ⟨7, .data⟩ (by simp) rfl) rfl
              refine g_val (.bool true) hS rfl ?_ rfl
              have hcn := BigFrame.eval_const a'
              have hfn := BigFrame.eval_func a'
              clear hs hdep
              generalize a'.eval = ev at *
              go_simp
            · go_light; intro listed a' w' hs hS hun hdep
              have eg : a'.eval (.tmp 89) = .bool true := hs.eval 8 _ 89 rfl (hdep ⟨8, .guard⟩ (by simp) rfl) rfl
              have e3 : a'.eval (.tmp 3) = .pointer (some ⟨w.heap.size, 0, none⟩) := (hs.out 3 (by kernel_rfl)).trans (rfl)
              exact g_val (.agg (C.cv (c))) hS (wanted_yes rfl rfl rfl eg) (run_op_load rfl e3 (HA.out.below hS HA.out.lt)) rfl
            · go_light; intro listed a' w' hs hS hun hdep
              have eg : a'.eval (.tmp 89) = .bool true := hs.eval 8 _ 89 rfl (hdep ⟨8, .guard⟩ (by simp) rfl) rfl
              have e1 : a'.eval (.tmp 1) = .slice ao l.length cap := (hs.out 1 (by kernel_rfl)).trans (rfl)
              refine g_val (.slice ao l.length cap) hS (wanted_yes rfl rfl rfl eg) ?_ rfl
              have hcn := BigFrame.eval_const a'
              have hfn := BigFrame.eval_func a'
              clear hs hdep
              generalize a'.eval = ev at *
              go_simp
            · go_light; intro listed a' w' hs hS hun hdep
              have eg : a'.eval (.tmp 89) = .bool true := hs.eval 8 _ 89 rfl (hdep ⟨8, .guard⟩ (by simp) rfl) rfl
              have e90 : a'.eval (.tmp 90) = .agg (C.cv (c)) := hs.eval 9 _ 90 rfl (hdep ⟨9, .data⟩ (by simp) rfl) rfl
              have e91 : a'.eval (.tmp 91) = .slice ao l.length cap := hs.eval 10 _ 91 rfl (hdep ⟨10, .data⟩ (by simp) rfl) rfl
              refine g_call 16 #[.agg (C.cv (c)), .slice ao l.length cap] hS (wanted_yes rfl rfl rfl eg) ?_ ?_
              · have hcn := BigFrame.eval_const a'; have hfn := BigFrame.eval_func a'; clear hs hdep; generalize a'.eval = ev at *; go_simp
              · exact c_val (HC1.out w' (HRow.out.below2 hS)) rfl
            · go_light; intro listed a' w' hs hS hun hdep
              have eg : a'.eval (.tmp 89) = .bool true := hs.eval 8 _ 89 rfl (hdep ⟨8, .guard⟩ (by simp) rfl) rfl
              have e9 : a'.eval (.tmp 9) = .pointer (some ⟨g9, 0, none⟩) := (hs.out 9 (by kernel_rfl)).trans (rfl)
              exact g_val (.agg (C.cv (p1))) hS (wanted_yes rfl rfl rfl eg) (run_op_load rfl e9 (H9.out.below hS H9.out.lt)) rfl
            · go_light; intro listed a' w' hs hS hun hdep
              have eg : a'.eval (.tmp 89) = .bool true := hs.eval 8 _ 89 rfl (hdep ⟨8, .guard⟩ (by simp) rfl) rfl
              have e92 : a'.eval (.tmp 92) = .agg (C.cv (p1)) := hs.eval 11 _ 92 rfl (hdep ⟨11, .data⟩ (by simp) rfl) rfl
              have e93 : a'.eval (.tmp 93) = .agg (C.cv (p1)) := hs.eval 12 _ 93 rfl (hdep ⟨12, .data⟩ (by simp) rfl) rfl
              exact g_val (.bool true) hS (wanted_yes rfl rfl rfl eg) (run_op_same rfl e92 e93 hp1) rfl
            · go_light; intro listed a' w' hs hS hun hdep
              have e89 : a'.eval (.tmp 89) = .bool true := hs.eval 8 _ 89 rfl (hdep ⟨8, .data⟩ (by simp) rfl) rfl
              have e94 : a'.eval (.tmp 94) = .bool true := hs.eval 13 _ 94 rfl (hdep ⟨13, .data⟩ (by simp) rfl) rfl
              refine g_val (.bool true) hS rfl ?_ rfl
              have hcn := BigFrame.eval_const a'
              have hfn := BigFrame.eval_func a'
              clear hs hdep
              generalize a'.eval = ev at *
              go_simp
            · go_light; intro listed a' w' hs hS hun hdep
              have e95 : a'.eval (.tmp 95) = .bool true := hs.eval 14 _ 95 rfl (hdep ⟨14, .data⟩ (by simp) rfl) rfl
              refine g_val (.bool true) hS rfl ?_ rfl
              have hcn := BigFrame.eval_const a'
              have hfn := BigFrame.eval_func a'
              clear hs hdep
              generalize a'.eval = ev at *
              go_simp
            · go_light; intro listed a' w' hs hS hun hdep
              have eg : a'.eval (.tmp 96) = .bool true := hs.eval 15 _ 96 rfl (hdep ⟨15, .guard⟩ (by simp) rfl) rfl
              have e3 : a'.eval (.tmp 3) = .pointer (some ⟨w.heap.size, 0, none⟩) := (hs.out 3 (by kernel_rfl)).trans (rfl)
              exact g_val (.agg (C.cv (c))) hS (wanted_yes rfl rfl rfl eg) (run_op_load rfl e3 (HA.out.below hS HA.out.lt)) rfl
            · go_light; intro listed a' w' hs hS hun hdep
              have eg : a'.eval (.tmp 96) = .bool true := hs.eval 15 _ 96 rfl (hdep ⟨15, .guard⟩ (by simp) rfl) rfl
              have e1 : a'.eval (.tmp 1) = .slice ao l.length cap := (hs.out 1 (by kernel_rfl)).trans (rfl)
              refine g_val (.slice ao l.length cap) hS (wanted_yes rfl rfl rfl eg) ?_ rfl
              have hcn := BigFrame.eval_const a'
              have hfn := BigFrame.eval_func a'
              clear hs hdep
              generalize a'.eval = ev at *
              go_simp
            · go_light; intro listed a' w' hs hS hun hdep
              have eg : a'.eval (.tmp 96) = .bool true := hs.eval 15 _ 96 rfl (hdep ⟨15, .guard⟩ (by simp) rfl) rfl
              have e97 : a'.eval (.tmp 97) = .agg (C.cv (c)) := hs.eval 16 _ 97 rfl (hdep ⟨16, .data⟩ (by simp) rfl) rfl
              have e98 : a'.eval (.tmp 98) = .slice ao l.length cap := hs.eval 17 _ 98 rfl (hdep ⟨17, .data⟩ (by simp) rfl) rfl
              refine g_call 17 #[.agg (C.cv (c)), .slice ao l.length cap] hS (wanted_yes rfl rfl rfl eg) ?_ ?_
              · have hcn := BigFrame.eval_const a'; have hfn := BigFrame.eval_func a'; clear hs hdep; generalize a'.eval = ev at *; go_simp
              · exact c_val (HC2.out w' (HRow.out.below2 hS)) rfl
            · go_light; intro listed a' w' hs hS hun hdep
              have eg : a'.eval (.tmp 96) = .bool true := hs.eval 15 _ 96 rfl (hdep ⟨15, .guard⟩ (by simp) rfl) rfl
              have e10 : a'.eval (.tmp 10) = .pointer (some ⟨g10, 0, none⟩) := (hs.out 10 (by kernel_rfl)).trans (rfl)
              exact g_val (.agg (C.cv (p2))) hS (wanted_yes rfl rfl rfl eg) (run_op_load rfl e10 (H10.out.below hS H10.out.lt)) rfl
            · go_light; intro listed a' w' hs hS hun hdep
              have eg : a'.eval (.tmp 96) = .bool true := hs.eval 15 _ 96 rfl (hdep ⟨15, .guard⟩ (by simp) rfl) rfl
              have e99 : a'.eval (.tmp 99) = .agg (C.cv (p2)) := hs.eval 18 _ 99 rfl (hdep ⟨18, .data⟩ (by simp) rfl) rfl
              have e100 : a'.eval (.tmp 100) = .agg (C.cv (p2)) := hs.eval 19 _ 100 rfl (hdep ⟨19, .data⟩ (by simp) rfl) rfl
              exact g_val (.bool true) hS (wanted_yes rfl rfl rfl eg) (run_op_same rfl e99 e100 hp2) rfl
            · go_light; intro listed a' w' hs hS hun hdep
              have e96 : a'.eval (.tmp 96) = .bool true := hs.eval 15 _ 96 rfl (hdep ⟨15, .data⟩ (by simp) rfl) rfl
              have e101 : a'.eval (.tmp 101) = .bool true := hs.eval 20 _ 101 rfl (hdep ⟨20, .data⟩ (by simp) rfl) rfl
              refine g_val (.bool true) hS rfl ?_ rfl
              have hcn := BigFrame.eval_const a'
              have hfn := BigFrame.eval_func a'
              clear hs hdep
              generalize a'.eval = ev at *
              go_simp
            · go_light; intro listed a' w' hs hS hun hdep
              have e102 : a'.eval (.tmp 102) = .bool true := hs.eval 21 _ 102 rfl (hdep ⟨21, .data⟩ (by simp) rfl) rfl
              refine g_val (.bool true) hS rfl ?_ rfl
              have hcn := BigFrame.eval_const a'
              have hfn := BigFrame.eval_func a'
              clear hs hdep
              generalize a'.eval = ev at *
              go_simp
            · go_light; intro listed a' w' hs hS hun hdep
              have eg : a'.eval (.tmp 103) = .bool true := hs.eval 22 _ 103 rfl (hdep ⟨22, .guard⟩ (by simp) rfl) rfl
              have e3 : a'.eval (.tmp 3) = .pointer (some ⟨w.heap.size, 0, none⟩) := (hs.out 3 (by kernel_rfl)).trans (rfl)
              exact g_val (.agg (C.cv (c))) hS (wanted_yes rfl rfl rfl eg) (run_op_load rfl e3 (HA.out.below hS HA.out.lt)) rfl
            · go_light; intro listed a' w' hs hS hun hdep
              have eg : a'.eval (.tmp 103) = .bool true := hs.eval 22 _ 103 rfl (hdep ⟨22, .guard⟩ (by simp) rfl) rfl
              have e2 : a'.eval (.tmp 2) = .int .i64 k := (hs.out 2 (by kernel_rfl)).trans (rfl)
              refine g_val (.int .i64 k) hS (wanted_yes rfl rfl rfl eg) ?_ rfl
              have hcn := BigFrame.eval_const a'
              have hfn := BigFrame.eval_func a'
              clear hs hdep
              generalize a'.eval = ev at *
              go_simp
            · go_light; intro listed a' w' hs hS hun hdep
              have eg : a'.eval (.tmp 103) = .bool true := hs.eval 22 _ 103 rfl (hdep ⟨22, .guard⟩ (by simp) rfl) rfl
              have e104 : a'.eval (.tmp 104) = .agg (C.cv (c)) := hs.eval 23 _ 104 rfl (hdep ⟨23, .data⟩ (by simp) rfl) rfl
              have e105 : a'.eval (.tmp 105) = .int .i64 k := hs.eval 24 _ 105 rfl (hdep ⟨24, .data⟩ (by simp) rfl) rfl
              refine g_call 18 #[.agg (C.cv (c)), .int .i64 k] hS (wanted_yes rfl rfl rfl eg) ?_ ?_
              · have hcn := BigFrame.eval_const a'; have hfn := BigFrame.eval_func a'; clear hs hdep; generalize a'.eval = ev at *; go_simp
              · exact c_val (HK1.out w') rfl
            · go_light; intro listed a' w' hs hS hun hdep
              have eg : a'.eval (.tmp 103) = .bool true := hs.eval 22 _ 103 rfl (hdep ⟨22, .guard⟩ (by simp) rfl) rfl
              have e3 : a'.eval (.tmp 3) = .pointer (some ⟨w.heap.size, 0, none⟩) := (hs.out 3 (by kernel_rfl)).trans (rfl)
              exact g_val (.agg (C.cv (c))) hS (wanted_yes rfl rfl rfl eg) (run_op_load rfl e3 (HA.out.below hS HA.out.lt)) rfl
            · go_light; intro listed a' w' hs hS hun hdep
              have eg : a'.eval (.tmp 103) = .bool true := hs.eval 22 _ 103 rfl (hdep ⟨22, .guard⟩ (by simp) rfl) rfl
              have e2 : a'.eval (.tmp 2) = .int .i64 k := (hs.out 2 (by kernel_rfl)).trans (rfl)
              refine g_val (.int .i64 k) hS (wanted_yes rfl rfl rfl eg) ?_ rfl
              have hcn := BigFrame.eval_const a'
              have hfn := BigFrame.eval_func a'
              clear hs hdep
              generalize a'.eval = ev at *
              go_simp
            · go_light; intro listed a' w' hs hS hun hdep
              have eg : a'.eval (.tmp 103) = .bool true := hs.eval 22 _ 103 rfl (hdep ⟨22, .guard⟩ (by simp) rfl) rfl
              have e107 : a'.eval (.tmp 107) = .agg (C.cv (c)) := hs.eval 26 _ 107 rfl (hdep ⟨26, .data⟩ (by simp) rfl) rfl
              have e108 : a'.eval (.tmp 108) = .int .i64 k := hs.eval 27 _ 108 rfl (hdep ⟨27, .data⟩ (by simp) rfl) rfl
              refine g_call 19 #[.agg (C.cv (c)), .int .i64 k] hS (wanted_yes rfl rfl rfl eg) ?_ ?_
              · have hcn := BigFrame.eval_const a'; have hfn := BigFrame.eval_func a'; clear hs hdep; generalize a'.eval = ev at *; go_simp
              · exact c_val (HK2.out w') rfl
            · go_light; intro listed a' w' hs hS hun hdep
              have eg : a'.eval (.tmp 103) = .bool true := hs.eval 22 _ 103 rfl (hdep ⟨22, .guard⟩ (by simp) rfl) rfl
              have e106 : a'.eval (.tmp 106) = .bool hk := hs.eval 25 _ 106 rfl (hdep ⟨25, .data⟩ (by simp) rfl) rfl
              have e109 : a'.eval (.tmp 109) = .bool hk := hs.eval 28 _ 109 rfl (hdep ⟨28, .data⟩ (by simp) rfl) rfl
              refine g_val (.bool true) hS (wanted_yes rfl rfl rfl eg) ?_ rfl
              have hcn := BigFrame.eval_const a'
              have hfn := BigFrame.eval_func a'
              clear hs hdep
              generalize a'.eval = ev at *
              go_simp
            · go_light; intro listed a' w' hs hS hun hdep
              have e103 : a'.eval (.tmp 103) = .bool true := hs.eval 22 _ 103 rfl (hdep ⟨22, .data⟩ (by simp) rfl) rfl
              have e110 : a'.eval (.tmp 110) = .bool true := hs.eval 29 _ 110 rfl (hdep ⟨29, .data⟩ (by simp) rfl) rfl
              refine g_val (.bool true) hS rfl ?_ rfl
              have hcn := BigFrame.eval_const a'
              have hfn := BigFrame.eval_func a'
              clear hs hdep
              generalize a'.eval = ev at *
              go_simp
            · go_light; intro listed a' w' hs hS hun hdep
              have e111 : a'.eval (.tmp 111) = .bool true := hs.eval 30 _ 111 rfl (hdep ⟨30, .data⟩ (by simp) rfl) rfl
              refine g_val (.bool true) hS rfl ?_ rfl
              have hcn := BigFrame.eval_const a'
              have hfn := BigFrame.eval_func a'
              clear hs hdep
              generalize a'.eval = ev at *
              go_simp
            · go_light; intro listed a' w' hs hS hun hdep
              have eg : a'.eval (.tmp 112) = .bool true := hs.eval 31 _ 112 rfl (hdep ⟨31, .guard⟩ (by simp) rfl) rfl
              have e3 : a'.eval (.tmp 3) = .pointer (some ⟨w.heap.size, 0, none⟩) := (hs.out 3 (by kernel_rfl)).trans (rfl)
              exact g_val (.agg (C.cv (c))) hS (wanted_yes rfl rfl rfl eg) (run_op_load rfl e3 (HA.out.below hS HA.out.lt)) rfl
            · go_light; intro listed a' w' hs hS hun hdep
              have eg : a'.eval (.tmp 112) = .bool true := hs.eval 31 _ 112 rfl (hdep ⟨31, .guard⟩ (by simp) rfl) rfl
              have e113 : a'.eval (.tmp 113) = .agg (C.cv (c)) := hs.eval 32 _ 113 rfl (hdep ⟨32, .data⟩ (by simp) rfl) rfl
              refine g_call 21 #[.agg (C.cv (c))] hS (wanted_yes rfl rfl rfl eg) ?_ ?_
              · have hcn := BigFrame.eval_const a'; have hfn := BigFrame.eval_func a'; clear hs hdep; generalize a'.eval = ev at *; go_simp
              · exact Calls.mono (List_any c w') fun e w'' ⟨ao, cp, he, hr, hb⟩ => ⟨_, he, ⟨ao, cp, rfl, hr⟩, hb⟩
            · go_light; intro listed a' w' hs hS hun hdep
              have eg : a'.eval (.tmp 112) = .bool true := hs.eval 31 _ 112 rfl (hdep ⟨31, .guard⟩ (by simp) rfl) rfl
              have e14 : a'.eval (.tmp 14) = .slice (some ⟨b2, off2, none⟩) (C.list c).length rc := (hs.out 14 (by kernel_rfl)).trans (rfl)
              refine g_val (.slice (some ⟨b2, off2, none⟩) (C.list c).length rc) hS (wanted_yes rfl rfl rfl eg) ?_ rfl
              have hcn := BigFrame.eval_const a'
              have hfn := BigFrame.eval_func a'
              clear hs hdep
              generalize a'.eval = ev at *
              go_simp
            · go_light; intro listed a' w' hs hS hun hdep
              have eg : a'.eval (.tmp 112) = .bool true := hs.eval 31 _ 112 rfl (hdep ⟨31, .guard⟩ (by simp) rfl) rfl
              have r114 : (.ints (C.list c) : GV).ok W0'.heap.size (a'.eval (.tmp 114)) w' := hs.eval 33 _ 114 rfl (hdep ⟨33, .data⟩ (by simp) rfl)  rfl
              obtain ⟨ao114, cp114, e114, k114⟩ := r114
              have e115 : a'.eval (.tmp 115) = .slice (some ⟨b2, off2, none⟩) (C.list c).length rc := hs.eval 34 _ 115 rfl (hdep ⟨34, .data⟩ (by simp) rfl) rfl
              refine g_call 20 #[.slice ao114 (C.list c).length cp114, .slice (some ⟨b2, off2, none⟩) (C.list c).length rc] hS (wanted_yes rfl rfl rfl eg) ?_ ?_
              · have hcn := BigFrame.eval_const a'; have hfn := BigFrame.eval_func a'; clear hs hdep; generalize a'.eval = ev at *; go_simp
              · exact c_val (ints_same ao114 (some ⟨b2, off2, none⟩) cp114 rc (C.list c) w' k114 (HRo.out.below hS) (list_len1000 c)) rfl
            · go_light; intro listed a' w' hs hS hun hdep
              have e112 : a'.eval (.tmp 112) = .bool true := hs.eval 31 _ 112 rfl (hdep ⟨31, .data⟩ (by simp) rfl) rfl
              have e116 : a'.eval (.tmp 116) = .bool true := hs.eval 35 _ 116 rfl (hdep ⟨35, .data⟩ (by simp) rfl) rfl
              refine g_val (.bool true) hS rfl ?_ rfl
              have hcn := BigFrame.eval_const a'
              have hfn := BigFrame.eval_func a'
              clear hs hdep
              generalize a'.eval = ev at *
              go_simp
            · go_light; intro listed a' w' hs hS hun hdep
              have e117 : a'.eval (.tmp 117) = .bool true := hs.eval 36 _ 117 rfl (hdep ⟨36, .data⟩ (by simp) rfl) rfl
              refine g_val (.bool true) hS rfl ?_ rfl
              have hcn := BigFrame.eval_const a'
              have hfn := BigFrame.eval_func a'
              clear hs hdep
              generalize a'.eval = ev at *
              go_simp
            · go_light; intro listed a' w' hs hS hun hdep
              have eg : a'.eval (.tmp 118) = .bool true := hs.eval 37 _ 118 rfl (hdep ⟨37, .guard⟩ (by simp) rfl) rfl
              have e3 : a'.eval (.tmp 3) = .pointer (some ⟨w.heap.size, 0, none⟩) := (hs.out 3 (by kernel_rfl)).trans (rfl)
              exact g_val (.agg (C.cv (c))) hS (wanted_yes rfl rfl rfl eg) (run_op_load rfl e3 (HA.out.below hS HA.out.lt)) rfl
            · go_light; intro listed a' w' hs hS hun hdep
              have eg : a'.eval (.tmp 118) = .bool true := hs.eval 37 _ 118 rfl (hdep ⟨37, .guard⟩ (by simp) rfl) rfl
              have e119 : a'.eval (.tmp 119) = .agg (C.cv (c)) := hs.eval 38 _ 119 rfl (hdep ⟨38, .data⟩ (by simp) rfl) rfl
              refine g_call 22 #[.agg (C.cv (c))] hS (wanted_yes rfl rfl rfl eg) ?_ ?_
              · have hcn := BigFrame.eval_const a'; have hfn := BigFrame.eval_func a'; clear hs hdep; generalize a'.eval = ev at *; go_simp
              · exact c_val (Count_any c w') rfl
            · go_light; intro listed a' w' hs hS hun hdep
              have eg : a'.eval (.tmp 118) = .bool true := hs.eval 37 _ 118 rfl (hdep ⟨37, .guard⟩ (by simp) rfl) rfl
              have e14 : a'.eval (.tmp 14) = .slice (some ⟨b2, off2, none⟩) (C.list c).length rc := (hs.out 14 (by kernel_rfl)).trans (rfl)
              refine g_val (.slice (some ⟨b2, off2, none⟩) (C.list c).length rc) hS (wanted_yes rfl rfl rfl eg) ?_ rfl
              have hcn := BigFrame.eval_const a'
              have hfn := BigFrame.eval_func a'
              clear hs hdep
              generalize a'.eval = ev at *
              go_simp
            · go_light; intro listed a' w' hs hS hun hdep
              have eg : a'.eval (.tmp 118) = .bool true := hs.eval 37 _ 118 rfl (hdep ⟨37, .guard⟩ (by simp) rfl) rfl
              have e121 : a'.eval (.tmp 121) = .slice (some ⟨b2, off2, none⟩) (C.list c).length rc := hs.eval 40 _ 121 rfl (hdep ⟨40, .data⟩ (by simp) rfl) rfl
              refine g_val (.int .i64 (C.list c).length) hS (wanted_yes rfl rfl rfl eg) ?_ rfl
              have hcn := BigFrame.eval_const a'
              have hfn := BigFrame.eval_func a'
              clear hs hdep
              generalize a'.eval = ev at *
              go_simp
            · go_light; intro listed a' w' hs hS hun hdep
              have eg : a'.eval (.tmp 118) = .bool true := hs.eval 37 _ 118 rfl (hdep ⟨37, .guard⟩ (by simp) rfl) rfl
              have e120 : a'.eval (.tmp 120) = .int .i64 (C.list c).length := hs.eval 39 _ 120 rfl (hdep ⟨39, .data⟩ (by simp) rfl) rfl
              have e122 : a'.eval (.tmp 122) = .int .i64 (C.list c).length := hs.eval 41 _ 122 rfl (hdep ⟨41, .data⟩ (by simp) rfl) rfl
              refine g_val (.bool true) hS (wanted_yes rfl rfl rfl eg) ?_ rfl
              have hcn := BigFrame.eval_const a'
              have hfn := BigFrame.eval_func a'
              clear hs hdep
              generalize a'.eval = ev at *
              go_simp
            · go_light; intro listed a' w' hs hS hun hdep
              have e118 : a'.eval (.tmp 118) = .bool true := hs.eval 37 _ 118 rfl (hdep ⟨37, .data⟩ (by simp) rfl) rfl
              have e123 : a'.eval (.tmp 123) = .bool true := hs.eval 42 _ 123 rfl (hdep ⟨42, .data⟩ (by simp) rfl) rfl
              refine g_val (.bool true) hS rfl ?_ rfl
              have hcn := BigFrame.eval_const a'
              have hfn := BigFrame.eval_func a'
              clear hs hdep
              generalize a'.eval = ev at *
              go_simp
            · go_light; intro listed a' w' hs hS hun hdep
              have e124 : a'.eval (.tmp 124) = .bool true := hs.eval 43 _ 124 rfl (hdep ⟨43, .data⟩ (by simp) rfl) rfl
              refine g_val (.bool true) hS rfl ?_ rfl
              have hcn := BigFrame.eval_const a'
              have hfn := BigFrame.eval_func a'
              clear hs hdep
              generalize a'.eval = ev at *
              go_simp
            · go_light; intro listed a' w' hs hS hun hdep
              have eg : a'.eval (.tmp 125) = .bool true := hs.eval 44 _ 125 rfl (hdep ⟨44, .guard⟩ (by simp) rfl) rfl
              have e3 : a'.eval (.tmp 3) = .pointer (some ⟨w.heap.size, 0, none⟩) := (hs.out 3 (by kernel_rfl)).trans (rfl)
              exact g_val (.agg (C.cv (c))) hS (wanted_yes rfl rfl rfl eg) (run_op_load rfl e3 (HA.out.below hS HA.out.lt)) rfl
            · go_light; intro listed a' w' hs hS hun hdep
              have eg : a'.eval (.tmp 125) = .bool true := hs.eval 44 _ 125 rfl (hdep ⟨44, .guard⟩ (by simp) rfl) rfl
              have e126 : a'.eval (.tmp 126) = .agg (C.cv (c)) := hs.eval 45 _ 126 rfl (hdep ⟨45, .data⟩ (by simp) rfl) rfl
              refine g_call 23 #[.agg (C.cv (c))] hS (wanted_yes rfl rfl rfl eg) ?_ ?_
              · have hcn := BigFrame.eval_const a'; have hfn := BigFrame.eval_func a'; clear hs hdep; generalize a'.eval = ev at *; go_simp
              · exact c_val (HM.out w') rfl
            · go_light; intro listed a' w' hs hS hun hdep
              have eg : a'.eval (.tmp 125) = .bool true := hs.eval 44 _ 125 rfl (hdep ⟨44, .guard⟩ (by simp) rfl) rfl
              have e15 : a'.eval (.tmp 15) = .int .i64 ms := (hs.out 15 (by kernel_rfl)).trans (rfl)
              refine g_val (.int .i64 ms) hS (wanted_yes rfl rfl rfl eg) ?_ rfl
              have hcn := BigFrame.eval_const a'
              have hfn := BigFrame.eval_func a'
              clear hs hdep
              generalize a'.eval = ev at *
              go_simp
            · go_light; intro listed a' w' hs hS hun hdep
              have eg : a'.eval (.tmp 125) = .bool true := hs.eval 44 _ 125 rfl (hdep ⟨44, .guard⟩ (by simp) rfl) rfl
              have e127 : a'.eval (.tmp 127) = .int .i64 ms := hs.eval 46 _ 127 rfl (hdep ⟨46, .data⟩ (by simp) rfl) rfl
              have e128 : a'.eval (.tmp 128) = .int .i64 ms := hs.eval 47 _ 128 rfl (hdep ⟨47, .data⟩ (by simp) rfl) rfl
              refine g_val (.bool true) hS (wanted_yes rfl rfl rfl eg) ?_ rfl
              have hcn := BigFrame.eval_const a'
              have hfn := BigFrame.eval_func a'
              clear hs hdep
              generalize a'.eval = ev at *
              go_simp
            · go_light; intro listed a' w' hs hS hun hdep
              have e125 : a'.eval (.tmp 125) = .bool true := hs.eval 44 _ 125 rfl (hdep ⟨44, .data⟩ (by simp) rfl) rfl
              have e129 : a'.eval (.tmp 129) = .bool true := hs.eval 48 _ 129 rfl (hdep ⟨48, .data⟩ (by simp) rfl) rfl
              refine g_val (.bool true) hS rfl ?_ rfl
              have hcn := BigFrame.eval_const a'
              have hfn := BigFrame.eval_func a'
              clear hs hdep
              generalize a'.eval = ev at *
              go_simp
            · go_light; intro listed a' w' hs hS hun hdep
              have e130 : a'.eval (.tmp 130) = .bool true := hs.eval 49 _ 130 rfl (hdep ⟨49, .data⟩ (by simp) rfl) rfl
              refine g_val (.bool true) hS rfl ?_ rfl
              have hcn := BigFrame.eval_const a'
              have hfn := BigFrame.eval_func a'
              clear hs hdep
              generalize a'.eval = ev at *
              go_simp
            · go_light; intro listed a' w' hs hS hun hdep
              have eg : a'.eval (.tmp 131) = .bool true := hs.eval 50 _ 131 rfl (hdep ⟨50, .guard⟩ (by simp) rfl) rfl
              refine g_call 12 #[] hS (wanted_yes rfl rfl rfl eg) ?_ ?_
              · have hcn := BigFrame.eval_const a'; have hfn := BigFrame.eval_func a'; clear hs hdep; generalize a'.eval = ev at *; go_simp
              · exact c_val (cats_awake w' (HL.out.below hS)) rfl
            · go_light; intro listed a' w' hs hS hun hdep
              have e131 : a'.eval (.tmp 131) = .bool true := hs.eval 50 _ 131 rfl (hdep ⟨50, .data⟩ (by simp) rfl) rfl
              have e132 : a'.eval (.tmp 132) = .bool true := hs.eval 51 _ 132 rfl (hdep ⟨51, .data⟩ (by simp) rfl) rfl
              refine g_val (.bool true) hS rfl ?_ rfl
              have hcn := BigFrame.eval_const a'
              have hfn := BigFrame.eval_func a'
              clear hs hdep
              generalize a'.eval = ev at *
              go_simp
            · go_light; intro listed a' w' hs hS hun hdep
              have e133 : a'.eval (.tmp 133) = .bool true := hs.eval 52 _ 133 rfl (hdep ⟨52, .data⟩ (by simp) rfl) rfl
              refine g_val (.bool true) hS rfl ?_ rfl
              have hcn := BigFrame.eval_const a'
              have hfn := BigFrame.eval_func a'
              clear hs hdep
              generalize a'.eval = ev at *
              go_simp
            · intro vs w19 hlen hV listed hall hS
              obtain ⟨v0, v1, v2, v3, v4, v5, v6, v7, v8, v9, v10, v11, v12, v13, v14, v15, v16, v17, v18, v19, v20, v21, v22, v23, v24, v25, v26, v27, v28, v29, v30, v31, v32, v33, v34, v35, v36, v37, v38, v39, v40, v41, v42, v43, v44, v45, v46, v47, v48, v49, v50, v51, v52, v53, rfl⟩ := vs_54 vs (hlen.trans rfl)
              have q0 : v0 = .agg (C.cv (q)) := hV 0 _ rfl
              have q1 : v1 = .agg (C.cv (q)) := hV 1 _ rfl
              have q2 : v2 = .bool true := hV 2 _ rfl
              have q3 : v3 = .bool true := hV 3 _ rfl
              have q4 : v4 = .bool true := hV 4 _ rfl
              have q5 : v5 = .bool true := hV 5 _ rfl
              have q6 : v6 = .bool true := hV 6 _ rfl
              have q7 : v7 = .bool true := hV 7 _ rfl
              have q8 : v8 = .bool true := hV 8 _ rfl
              have q9 : v9 = .agg (C.cv (c)) := hV 9 _ rfl
              have q10 : v10 = .slice ao l.length cap := hV 10 _ rfl
              have q11 : v11 = .agg (C.cv (p1)) := hV 11 _ rfl
              have q12 : v12 = .agg (C.cv (p1)) := hV 12 _ rfl
              have q13 : v13 = .bool true := hV 13 _ rfl
              have q14 : v14 = .bool true := hV 14 _ rfl
              have q15 : v15 = .bool true := hV 15 _ rfl
              have q16 : v16 = .agg (C.cv (c)) := hV 16 _ rfl
              have q17 : v17 = .slice ao l.length cap := hV 17 _ rfl
              have q18 : v18 = .agg (C.cv (p2)) := hV 18 _ rfl
              have q19 : v19 = .agg (C.cv (p2)) := hV 19 _ rfl
              have q20 : v20 = .bool true := hV 20 _ rfl
              have q21 : v21 = .bool true := hV 21 _ rfl
              have q22 : v22 = .bool true := hV 22 _ rfl
              have q23 : v23 = .agg (C.cv (c)) := hV 23 _ rfl
              have q24 : v24 = .int .i64 k := hV 24 _ rfl
              have q25 : v25 = .bool hk := hV 25 _ rfl
              have q26 : v26 = .agg (C.cv (c)) := hV 26 _ rfl
              have q27 : v27 = .int .i64 k := hV 27 _ rfl
              have q28 : v28 = .bool hk := hV 28 _ rfl
              have q29 : v29 = .bool true := hV 29 _ rfl
              have q30 : v30 = .bool true := hV 30 _ rfl
              have q31 : v31 = .bool true := hV 31 _ rfl
              have q32 : v32 = .agg (C.cv (c)) := hV 32 _ rfl
              obtain ⟨ao33, cp33, q33, hro33⟩ : (.ints (C.list c) : GV).ok W0'.heap.size v33 w19 := hV 33 _ rfl
              have q34 : v34 = .slice (some ⟨b2, off2, none⟩) (C.list c).length rc := hV 34 _ rfl
              have q35 : v35 = .bool true := hV 35 _ rfl
              have q36 : v36 = .bool true := hV 36 _ rfl
              have q37 : v37 = .bool true := hV 37 _ rfl
              have q38 : v38 = .agg (C.cv (c)) := hV 38 _ rfl
              have q39 : v39 = .int .i64 (C.list c).length := hV 39 _ rfl
              have q40 : v40 = .slice (some ⟨b2, off2, none⟩) (C.list c).length rc := hV 40 _ rfl
              have q41 : v41 = .int .i64 (C.list c).length := hV 41 _ rfl
              have q42 : v42 = .bool true := hV 42 _ rfl
              have q43 : v43 = .bool true := hV 43 _ rfl
              have q44 : v44 = .bool true := hV 44 _ rfl
              have q45 : v45 = .agg (C.cv (c)) := hV 45 _ rfl
              have q46 : v46 = .int .i64 ms := hV 46 _ rfl
              have q47 : v47 = .int .i64 ms := hV 47 _ rfl
              have q48 : v48 = .bool true := hV 48 _ rfl
              have q49 : v49 = .bool true := hV 49 _ rfl
              have q50 : v50 = .bool true := hV 50 _ rfl
              have q51 : v51 = .bool true := hV 51 _ rfl
              have q52 : v52 = .bool true := hV 52 _ rfl
              have q53 : v53 = .bool true := hV 53 _ rfl
              have hbel : Below W0'.heap.size W0' w19 := hS
              subst q0 q1 q2 q3 q4 q5 q6 q7 q8 q9 q10 q11 q12 q13 q14 q15 q16 q17 q18 q19 q20 q21 q22 q23 q24 q25 q26 q27 q28 q29 q30 q31 q32 q33 q34 q35 q36 q37 q38 q39 q40 q41 q42 q43 q44 q45 q46 q47 q48 q49 q50 q51 q52 q53
              clear hV hS hall
              simp only [lays, Act.put, List.setIfInBounds_toArray, List.set_cons_zero, List.set_cons_succ]
              go_wp2
              go_ret
              exact ⟨rfl, hbw4.trans (hbel.mono hbw4.size)⟩
end CsSets
end Go.Proofs.YtmaddfjgiflkbaaDoor
