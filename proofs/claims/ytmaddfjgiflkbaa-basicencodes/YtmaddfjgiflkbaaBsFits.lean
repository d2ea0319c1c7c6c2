/- The walk of what asks whether a label can be told. -/
import Derived.Test.YtmaddfjgiflkbaaBsLow
import Derived.Test.YtmaddfjgiflkbaaCtGen2
namespace Go.Proofs.Ytmaddfjgiflkbaa
open Go.RowKit
set_option maxRecDepth 100000
set_option linter.unusedVariables false
namespace BsFits
theorem vs_cons {n : Nat} (vs : List Value) (h : vs.length = n + 1) : ∃ v r, vs = v :: r ∧ r.length = n := by
  cases vs with
  | nil => simp at h
  | cons v r => exact ⟨v, r, rfl, by simpa using h⟩
theorem vs_17 (vs : List Value) (h : vs.length = 17) : ∃ v0 v1 v2 v3 v4 v5 v6 v7 v8 v9 v10 v11 v12 v13 v14 v15 v16, vs = [v0, v1, v2, v3, v4, v5, v6, v7, v8, v9, v10, v11, v12, v13, v14, v15, v16] := by
  obtain ⟨v0, r0, rfl, h0⟩ := vs_cons vs h
  obtain ⟨v1, r1, rfl, h1⟩ := vs_cons r0 h0
  obtain ⟨v2, r2, rfl, h2⟩ := vs_cons r1 h1
  obtain ⟨v3, r3, rfl, h3⟩ := vs_cons r2 h2
  obtain ⟨v4, r4, rfl, h4⟩ := vs_cons r3 h3
  obtain ⟨v5, r5, rfl, h5⟩ := vs_cons r4 h4
  obtain ⟨v6, r6, rfl, h6⟩ := vs_cons r5 h5
  obtain ⟨v7, r7, rfl, h7⟩ := vs_cons r6 h6
  obtain ⟨v8, r8, rfl, h8⟩ := vs_cons r7 h7
  obtain ⟨v9, r9, rfl, h9⟩ := vs_cons r8 h8
  obtain ⟨v10, r10, rfl, h10⟩ := vs_cons r9 h9
  obtain ⟨v11, r11, rfl, h11⟩ := vs_cons r10 h10
  obtain ⟨v12, r12, rfl, h12⟩ := vs_cons r11 h11
  obtain ⟨v13, r13, rfl, h13⟩ := vs_cons r12 h12
  obtain ⟨v14, r14, rfl, h14⟩ := vs_cons r13 h13
  obtain ⟨v15, r15, rfl, h15⟩ := vs_cons r14 h14
  obtain ⟨v16, r16, rfl, h16⟩ := vs_cons r15 h15
  obtain rfl := List.eq_nil_of_length_eq_zero h16
  exact ⟨v0, v1, v2, v3, v4, v5, v6, v7, v8, v9, v10, v11, v12, v13, v14, v15, v16, rfl⟩

set_option maxHeartbeats 4000000 in
theorem fits_any (z : Int) (n : Nat) (w : World) :
    Calls Try.prog 8 #[.agg (L.lv z n)] w fun e w' => e = .returned (.bool (B.fits z n)) ∧ Below w.heap.size w w' := by
  have HB := Lib.hid (LabAt.new w z n)
  have hb0 : Below w.heap.size w (w.alloc (.cells (L.lv z n) 25)) := (Below.refl _ w).alloc (Nat.le_refl _) _
  have HM := Lib.hid (fun w' => Most_any n w')
  have HF : Hid (B.fits z n = (decide (0 ≤ z) && (decide (z < 4) && decide (C.mostTo n 240 ≤ 27)))) := Lib.hid rfl
  generalize C.mostTo n 240 = ms at *
  by_cases h0 : 0 ≤ z
  · by_cases h1 : z < 4
    · have HQ : Hid (B.fits z n = decide (ms ≤ 27)) := Lib.hid (by rw [HF.out, decide_eq_true h0, decide_eq_true h1]; rfl)
      clear HF
      go_enter Try.func8, Try.ntmps8
      go_wp2
      generalize hW0 : (w.alloc (.cells (L.lv z n) 25)) = W0 at *
      clear hW0
      refine region_gen (VG W0.heap.size [.val (.pointer (some ⟨w.heap.size, 0, none⟩)), .val (.int .i64 z), .val (.bool true), .val (.bool true), .val (.pointer (some ⟨w.heap.size, 0, none⟩)), .val (.int .i64 z), .val (.agg lvls), .val (.int .i64 4), .val (.bool true), .val (.bool true), .val (.bool true), .val (.pointer (some ⟨w.heap.size, 1, none⟩)), .val (.agg (C.cv n)), .val (.int .i64 ms), .val (.bool (decide (ms ≤ 27))), .val (.bool (decide (ms ≤ 27))), .val (.bool (decide (ms ≤ 27)))]) (BS W0) (by kernel_rfl) (by kernel_rfl) (Below.refl _ _).drew ⟨?_, ?_, ?_, ?_, ?_, ?_, ?_, ?_, ?_, ?_, ?_, ?_, ?_, ?_, ?_, ?_, ?_, trivial⟩ ?_
      · go_light; intro listed a' w' hs hS hun hdep
        have e1 : a'.eval (.tmp 1) = .pointer (some ⟨w.heap.size, 0, none⟩) := (hs.out 1 (by kernel_rfl)).trans (rfl)
        refine g_val (.pointer (some ⟨w.heap.size, 0, none⟩)) hS rfl ?_ rfl
        have hcn := BigFrame.eval_const a'
        have hfn := BigFrame.eval_func a'
        clear hs hdep
        generalize a'.eval = ev at *
        go_simp
      · go_light; intro listed a' w' hs hS hun hdep
        have e3 : a'.eval (.tmp 3) = .pointer (some ⟨w.heap.size, 0, none⟩) := hs.eval 0 _ 3 rfl (hdep ⟨0, .data⟩ (by simp) rfl) rfl
        have hc := (HB.out.below hS HB.out.lt).level
        refine g_val (.int .i64 z) hS rfl ?_ rfl
        have hcn := BigFrame.eval_const a'
        have hfn := BigFrame.eval_func a'
        clear hs hdep
        generalize a'.eval = ev at *
        go_simp
      · go_light; intro listed a' w' hs hS hun hdep
        have e4 : a'.eval (.tmp 4) = .int .i64 z := hs.eval 1 _ 4 rfl (hdep ⟨1, .data⟩ (by simp) rfl) rfl
        refine g_val (.bool true) hS rfl ?_ rfl
        have hcn := BigFrame.eval_const a'
        have hfn := BigFrame.eval_func a'
        clear hs hdep
        generalize a'.eval = ev at *
        go_simp
      · go_light; intro listed a' w' hs hS hun hdep
        have e5 : a'.eval (.tmp 5) = .bool true := hs.eval 2 _ 5 rfl (hdep ⟨2, .data⟩ (by simp) rfl) rfl
        refine g_val (.bool true) hS rfl ?_ rfl
        have hcn := BigFrame.eval_const a'
        have hfn := BigFrame.eval_func a'
        clear hs hdep
        generalize a'.eval = ev at *
        go_simp
      · go_light; intro listed a' w' hs hS hun hdep
        have eg : a'.eval (.tmp 6) = .bool true := hs.eval 3 _ 6 rfl (hdep ⟨3, .guard⟩ (by simp) rfl) rfl
        have e1 : a'.eval (.tmp 1) = .pointer (some ⟨w.heap.size, 0, none⟩) := (hs.out 1 (by kernel_rfl)).trans (rfl)
        refine g_val (.pointer (some ⟨w.heap.size, 0, none⟩)) hS (wanted_yes rfl rfl rfl eg) ?_ rfl
        have hcn := BigFrame.eval_const a'
        have hfn := BigFrame.eval_func a'
        clear hs hdep
        generalize a'.eval = ev at *
        go_simp
      · go_light; intro listed a' w' hs hS hun hdep
        have eg : a'.eval (.tmp 6) = .bool true := hs.eval 3 _ 6 rfl (hdep ⟨3, .guard⟩ (by simp) rfl) rfl
        have e7 : a'.eval (.tmp 7) = .pointer (some ⟨w.heap.size, 0, none⟩) := hs.eval 4 _ 7 rfl (hdep ⟨4, .data⟩ (by simp) rfl) rfl
        have hc := (HB.out.below hS HB.out.lt).level
        refine g_val (.int .i64 z) hS (wanted_yes rfl rfl rfl eg) ?_ rfl
        have hcn := BigFrame.eval_const a'
        have hfn := BigFrame.eval_func a'
        clear hs hdep
        generalize a'.eval = ev at *
        go_simp
      · go_light; intro listed a' w' hs hS hun hdep
        have eg : a'.eval (.tmp 6) = .bool true := hs.eval 3 _ 6 rfl (hdep ⟨3, .guard⟩ (by simp) rfl) rfl
        refine g_call 16 #[] hS (wanted_yes rfl rfl rfl eg) ?_ ?_
        · have hcn := BigFrame.eval_const a'; have hfn := BigFrame.eval_func a'; clear hs hdep; generalize a'.eval = ev at *; go_simp
        · exact c_val (levels_any w') rfl
      · go_light; intro listed a' w' hs hS hun hdep
        have eg : a'.eval (.tmp 6) = .bool true := hs.eval 3 _ 6 rfl (hdep ⟨3, .guard⟩ (by simp) rfl) rfl
        refine g_val (.int .i64 4) hS (wanted_yes rfl rfl rfl eg) ?_ rfl
        have hcn := BigFrame.eval_const a'
        have hfn := BigFrame.eval_func a'
        clear hs hdep
        generalize a'.eval = ev at *
        go_simp
      · go_light; intro listed a' w' hs hS hun hdep
        have eg : a'.eval (.tmp 6) = .bool true := hs.eval 3 _ 6 rfl (hdep ⟨3, .guard⟩ (by simp) rfl) rfl
        have e8 : a'.eval (.tmp 8) = .int .i64 z := hs.eval 5 _ 8 rfl (hdep ⟨5, .data⟩ (by simp) rfl) rfl
        have e10 : a'.eval (.tmp 10) = .int .i64 4 := hs.eval 7 _ 10 rfl (hdep ⟨7, .data⟩ (by simp) rfl) rfl
        refine g_val (.bool true) hS (wanted_yes rfl rfl rfl eg) ?_ rfl
        have hcn := BigFrame.eval_const a'
        have hfn := BigFrame.eval_func a'
        clear hs hdep
        generalize a'.eval = ev at *
        go_simp
      · go_light; intro listed a' w' hs hS hun hdep
        have e6 : a'.eval (.tmp 6) = .bool true := hs.eval 3 _ 6 rfl (hdep ⟨3, .data⟩ (by simp) rfl) rfl
        have e11 : a'.eval (.tmp 11) = .bool true := hs.eval 8 _ 11 rfl (hdep ⟨8, .data⟩ (by simp) rfl) rfl
        refine g_val (.bool true) hS rfl ?_ rfl
        have hcn := BigFrame.eval_const a'
        have hfn := BigFrame.eval_func a'
        clear hs hdep
        generalize a'.eval = ev at *
        go_simp
      · go_light; intro listed a' w' hs hS hun hdep
        have e12 : a'.eval (.tmp 12) = .bool true := hs.eval 9 _ 12 rfl (hdep ⟨9, .data⟩ (by simp) rfl) rfl
        refine g_val (.bool true) hS rfl ?_ rfl
        have hcn := BigFrame.eval_const a'
        have hfn := BigFrame.eval_func a'
        clear hs hdep
        generalize a'.eval = ev at *
        go_simp
      · go_light; intro listed a' w' hs hS hun hdep
        have eg : a'.eval (.tmp 13) = .bool true := hs.eval 10 _ 13 rfl (hdep ⟨10, .guard⟩ (by simp) rfl) rfl
        have e1 : a'.eval (.tmp 1) = .pointer (some ⟨w.heap.size, 0, none⟩) := (hs.out 1 (by kernel_rfl)).trans (rfl)
        refine g_val (.pointer (some ⟨w.heap.size, 1, none⟩)) hS (wanted_yes rfl rfl rfl eg) ?_ rfl
        have hcn := BigFrame.eval_const a'
        have hfn := BigFrame.eval_func a'
        clear hs hdep
        generalize a'.eval = ev at *
        go_simp
      · go_light; intro listed a' w' hs hS hun hdep
        have eg : a'.eval (.tmp 13) = .bool true := hs.eval 10 _ 13 rfl (hdep ⟨10, .guard⟩ (by simp) rfl) rfl
        have e14 : a'.eval (.tmp 14) = .pointer (some ⟨w.heap.size, 1, none⟩) := hs.eval 11 _ 14 rfl (hdep ⟨11, .data⟩ (by simp) rfl) rfl
        exact g_val (.agg (C.cv n)) hS (wanted_yes rfl rfl rfl eg) (run_op_labcats rfl e14 (HB.out.below hS HB.out.lt)) rfl
      · go_light; intro listed a' w' hs hS hun hdep
        have eg : a'.eval (.tmp 13) = .bool true := hs.eval 10 _ 13 rfl (hdep ⟨10, .guard⟩ (by simp) rfl) rfl
        have e15 : a'.eval (.tmp 15) = .agg (C.cv n) := hs.eval 12 _ 15 rfl (hdep ⟨12, .data⟩ (by simp) rfl) rfl
        refine g_call 18 #[.agg (C.cv n)] hS (wanted_yes rfl rfl rfl eg) ?_ ?_
        · have hcn := BigFrame.eval_const a'; have hfn := BigFrame.eval_func a'; clear hs hdep; generalize a'.eval = ev at *; go_simp
        · exact c_val (HM.out w') rfl
      · go_light; intro listed a' w' hs hS hun hdep
        have eg : a'.eval (.tmp 13) = .bool true := hs.eval 10 _ 13 rfl (hdep ⟨10, .guard⟩ (by simp) rfl) rfl
        have e16 : a'.eval (.tmp 16) = .int .i64 ms := hs.eval 13 _ 16 rfl (hdep ⟨13, .data⟩ (by simp) rfl) rfl
        refine g_val (.bool (decide (ms ≤ 27))) hS (wanted_yes rfl rfl rfl eg) ?_ rfl
        have hcn := BigFrame.eval_const a'
        have hfn := BigFrame.eval_func a'
        clear hs hdep
        generalize a'.eval = ev at *
        go_simp
      · go_light; intro listed a' w' hs hS hun hdep
        have e13 : a'.eval (.tmp 13) = .bool true := hs.eval 10 _ 13 rfl (hdep ⟨10, .data⟩ (by simp) rfl) rfl
        have e17 : a'.eval (.tmp 17) = .bool (decide (ms ≤ 27)) := hs.eval 14 _ 17 rfl (hdep ⟨14, .data⟩ (by simp) rfl) rfl
        refine g_val (.bool (decide (ms ≤ 27))) hS rfl ?_ rfl
        have hcn := BigFrame.eval_const a'
        have hfn := BigFrame.eval_func a'
        clear hs hdep
        generalize a'.eval = ev at *
        go_simp
      · go_light; intro listed a' w' hs hS hun hdep
        have e18 : a'.eval (.tmp 18) = .bool (decide (ms ≤ 27)) := hs.eval 15 _ 18 rfl (hdep ⟨15, .data⟩ (by simp) rfl) rfl
        refine g_val (.bool (decide (ms ≤ 27))) hS rfl ?_ rfl
        have hcn := BigFrame.eval_const a'
        have hfn := BigFrame.eval_func a'
        clear hs hdep
        generalize a'.eval = ev at *
        go_simp
      · intro vs w3 hlen hV listed hall hS
        obtain ⟨v0, v1, v2, v3, v4, v5, v6, v7, v8, v9, v10, v11, v12, v13, v14, v15, v16, rfl⟩ := vs_17 vs (hlen.trans rfl)
        have q0 : v0 = .pointer (some ⟨w.heap.size, 0, none⟩) := hV 0 _ rfl
        have q1 : v1 = .int .i64 z := hV 1 _ rfl
        have q2 : v2 = .bool true := hV 2 _ rfl
        have q3 : v3 = .bool true := hV 3 _ rfl
        have q4 : v4 = .pointer (some ⟨w.heap.size, 0, none⟩) := hV 4 _ rfl
        have q5 : v5 = .int .i64 z := hV 5 _ rfl
        have q6 : v6 = .agg lvls := hV 6 _ rfl
        have q7 : v7 = .int .i64 4 := hV 7 _ rfl
        have q8 : v8 = .bool true := hV 8 _ rfl
        have q9 : v9 = .bool true := hV 9 _ rfl
        have q10 : v10 = .bool true := hV 10 _ rfl
        have q11 : v11 = .pointer (some ⟨w.heap.size, 1, none⟩) := hV 11 _ rfl
        have q12 : v12 = .agg (C.cv n) := hV 12 _ rfl
        have q13 : v13 = .int .i64 ms := hV 13 _ rfl
        have q14 : v14 = .bool (decide (ms ≤ 27)) := hV 14 _ rfl
        have q15 : v15 = .bool (decide (ms ≤ 27)) := hV 15 _ rfl
        have q16 : v16 = .bool (decide (ms ≤ 27)) := hV 16 _ rfl
        have hbel : Below W0.heap.size W0 w3 := hS
        subst q0 q1 q2 q3 q4 q5 q6 q7 q8 q9 q10 q11 q12 q13 q14 q15 q16
        clear hV hS hall
        simp only [lays, Act.put, List.setIfInBounds_toArray, List.set_cons_zero, List.set_cons_succ]
        go_wp2
        go_ret
        exact ⟨by rw [HQ.out]; rfl, hb0.trans (hbel.mono hb0.size)⟩
    · have HQ : Hid (B.fits z n = false) := Lib.hid (by rw [HF.out, decide_eq_false h1]; simp)
      clear HF
      go_enter Try.func8, Try.ntmps8
      go_wp2
      generalize hW0 : (w.alloc (.cells (L.lv z n) 25)) = W0 at *
      clear hW0
      refine region_gen (VG W0.heap.size [.val (.pointer (some ⟨w.heap.size, 0, none⟩)), .val (.int .i64 z), .val (.bool true), .val (.bool true), .val (.pointer (some ⟨w.heap.size, 0, none⟩)), .val (.int .i64 z), .val (.agg lvls), .val (.int .i64 4), .val (.bool false), .val (.bool false), .val (.bool false), .any, .any, .any, .any, .val (.bool false), .val (.bool false)]) (BS W0) (by kernel_rfl) (by kernel_rfl) (Below.refl _ _).drew ⟨?_, ?_, ?_, ?_, ?_, ?_, ?_, ?_, ?_, ?_, ?_, ?_, ?_, ?_, ?_, ?_, ?_, trivial⟩ ?_
      · go_light; intro listed a' w' hs hS hun hdep
        have e1 : a'.eval (.tmp 1) = .pointer (some ⟨w.heap.size, 0, none⟩) := (hs.out 1 (by kernel_rfl)).trans (rfl)
        refine g_val (.pointer (some ⟨w.heap.size, 0, none⟩)) hS rfl ?_ rfl
        have hcn := BigFrame.eval_const a'
        have hfn := BigFrame.eval_func a'
        clear hs hdep
        generalize a'.eval = ev at *
        go_simp
      · go_light; intro listed a' w' hs hS hun hdep
        have e3 : a'.eval (.tmp 3) = .pointer (some ⟨w.heap.size, 0, none⟩) := hs.eval 0 _ 3 rfl (hdep ⟨0, .data⟩ (by simp) rfl) rfl
        have hc := (HB.out.below hS HB.out.lt).level
        refine g_val (.int .i64 z) hS rfl ?_ rfl
        have hcn := BigFrame.eval_const a'
        have hfn := BigFrame.eval_func a'
        clear hs hdep
        generalize a'.eval = ev at *
        go_simp
      · go_light; intro listed a' w' hs hS hun hdep
        have e4 : a'.eval (.tmp 4) = .int .i64 z := hs.eval 1 _ 4 rfl (hdep ⟨1, .data⟩ (by simp) rfl) rfl
        refine g_val (.bool true) hS rfl ?_ rfl
        have hcn := BigFrame.eval_const a'
        have hfn := BigFrame.eval_func a'
        clear hs hdep
        generalize a'.eval = ev at *
        go_simp
      · go_light; intro listed a' w' hs hS hun hdep
        have e5 : a'.eval (.tmp 5) = .bool true := hs.eval 2 _ 5 rfl (hdep ⟨2, .data⟩ (by simp) rfl) rfl
        refine g_val (.bool true) hS rfl ?_ rfl
        have hcn := BigFrame.eval_const a'
        have hfn := BigFrame.eval_func a'
        clear hs hdep
        generalize a'.eval = ev at *
        go_simp
      · go_light; intro listed a' w' hs hS hun hdep
        have eg : a'.eval (.tmp 6) = .bool true := hs.eval 3 _ 6 rfl (hdep ⟨3, .guard⟩ (by simp) rfl) rfl
        have e1 : a'.eval (.tmp 1) = .pointer (some ⟨w.heap.size, 0, none⟩) := (hs.out 1 (by kernel_rfl)).trans (rfl)
        refine g_val (.pointer (some ⟨w.heap.size, 0, none⟩)) hS (wanted_yes rfl rfl rfl eg) ?_ rfl
        have hcn := BigFrame.eval_const a'
        have hfn := BigFrame.eval_func a'
        clear hs hdep
        generalize a'.eval = ev at *
        go_simp
      · go_light; intro listed a' w' hs hS hun hdep
        have eg : a'.eval (.tmp 6) = .bool true := hs.eval 3 _ 6 rfl (hdep ⟨3, .guard⟩ (by simp) rfl) rfl
        have e7 : a'.eval (.tmp 7) = .pointer (some ⟨w.heap.size, 0, none⟩) := hs.eval 4 _ 7 rfl (hdep ⟨4, .data⟩ (by simp) rfl) rfl
        have hc := (HB.out.below hS HB.out.lt).level
        refine g_val (.int .i64 z) hS (wanted_yes rfl rfl rfl eg) ?_ rfl
        have hcn := BigFrame.eval_const a'
        have hfn := BigFrame.eval_func a'
        clear hs hdep
        generalize a'.eval = ev at *
        go_simp
      · go_light; intro listed a' w' hs hS hun hdep
        have eg : a'.eval (.tmp 6) = .bool true := hs.eval 3 _ 6 rfl (hdep ⟨3, .guard⟩ (by simp) rfl) rfl
        refine g_call 16 #[] hS (wanted_yes rfl rfl rfl eg) ?_ ?_
        · have hcn := BigFrame.eval_const a'; have hfn := BigFrame.eval_func a'; clear hs hdep; generalize a'.eval = ev at *; go_simp
        · exact c_val (levels_any w') rfl
      · go_light; intro listed a' w' hs hS hun hdep
        have eg : a'.eval (.tmp 6) = .bool true := hs.eval 3 _ 6 rfl (hdep ⟨3, .guard⟩ (by simp) rfl) rfl
        refine g_val (.int .i64 4) hS (wanted_yes rfl rfl rfl eg) ?_ rfl
        have hcn := BigFrame.eval_const a'
        have hfn := BigFrame.eval_func a'
        clear hs hdep
        generalize a'.eval = ev at *
        go_simp
      · go_light; intro listed a' w' hs hS hun hdep
        have eg : a'.eval (.tmp 6) = .bool true := hs.eval 3 _ 6 rfl (hdep ⟨3, .guard⟩ (by simp) rfl) rfl
        have e8 : a'.eval (.tmp 8) = .int .i64 z := hs.eval 5 _ 8 rfl (hdep ⟨5, .data⟩ (by simp) rfl) rfl
        have e10 : a'.eval (.tmp 10) = .int .i64 4 := hs.eval 7 _ 10 rfl (hdep ⟨7, .data⟩ (by simp) rfl) rfl
        refine g_val (.bool false) hS (wanted_yes rfl rfl rfl eg) ?_ rfl
        have hcn := BigFrame.eval_const a'
        have hfn := BigFrame.eval_func a'
        clear hs hdep
        generalize a'.eval = ev at *
        go_simp
      · go_light; intro listed a' w' hs hS hun hdep
        have e6 : a'.eval (.tmp 6) = .bool true := hs.eval 3 _ 6 rfl (hdep ⟨3, .data⟩ (by simp) rfl) rfl
        have e11 : a'.eval (.tmp 11) = .bool false := hs.eval 8 _ 11 rfl (hdep ⟨8, .data⟩ (by simp) rfl) rfl
        refine g_val (.bool false) hS rfl ?_ rfl
        have hcn := BigFrame.eval_const a'
        have hfn := BigFrame.eval_func a'
        clear hs hdep
        generalize a'.eval = ev at *
        go_simp
      · go_light; intro listed a' w' hs hS hun hdep
        have e12 : a'.eval (.tmp 12) = .bool false := hs.eval 9 _ 12 rfl (hdep ⟨9, .data⟩ (by simp) rfl) rfl
        refine g_val (.bool false) hS rfl ?_ rfl
        have hcn := BigFrame.eval_const a'
        have hfn := BigFrame.eval_func a'
        clear hs hdep
        generalize a'.eval = ev at *
        go_simp
      · go_light; intro listed a' w' hs hS hun hdep
        have eg : a'.eval (.tmp 13) = .bool false := hs.eval 10 _ 13 rfl (hdep ⟨10, .guard⟩ (by simp) rfl) rfl
        exact g_not hS (wanted_no rfl rfl rfl eg (by decide)) trivial
      · go_light; intro listed a' w' hs hS hun hdep
        have eg : a'.eval (.tmp 13) = .bool false := hs.eval 10 _ 13 rfl (hdep ⟨10, .guard⟩ (by simp) rfl) rfl
        exact g_not hS (wanted_no rfl rfl rfl eg (by decide)) trivial
      · go_light; intro listed a' w' hs hS hun hdep
        have eg : a'.eval (.tmp 13) = .bool false := hs.eval 10 _ 13 rfl (hdep ⟨10, .guard⟩ (by simp) rfl) rfl
        exact g_not hS (wanted_no rfl rfl rfl eg (by decide)) trivial
      · go_light; intro listed a' w' hs hS hun hdep
        have eg : a'.eval (.tmp 13) = .bool false := hs.eval 10 _ 13 rfl (hdep ⟨10, .guard⟩ (by simp) rfl) rfl
        exact g_not hS (wanted_no rfl rfl rfl eg (by decide)) trivial
      · go_light; intro listed a' w' hs hS hun hdep
        have e13 : a'.eval (.tmp 13) = .bool false := hs.eval 10 _ 13 rfl (hdep ⟨10, .data⟩ (by simp) rfl) rfl
        refine g_val (.bool false) hS rfl ?_ rfl
        have hcn := BigFrame.eval_const a'
        have hfn := BigFrame.eval_func a'
        clear hs hdep
        generalize a'.eval = ev at *
        go_simp
      · go_light; intro listed a' w' hs hS hun hdep
        have e18 : a'.eval (.tmp 18) = .bool false := hs.eval 15 _ 18 rfl (hdep ⟨15, .data⟩ (by simp) rfl) rfl
        refine g_val (.bool false) hS rfl ?_ rfl
        have hcn := BigFrame.eval_const a'
        have hfn := BigFrame.eval_func a'
        clear hs hdep
        generalize a'.eval = ev at *
        go_simp
      · intro vs w3 hlen hV listed hall hS
        obtain ⟨v0, v1, v2, v3, v4, v5, v6, v7, v8, v9, v10, v11, v12, v13, v14, v15, v16, rfl⟩ := vs_17 vs (hlen.trans rfl)
        have q0 : v0 = .pointer (some ⟨w.heap.size, 0, none⟩) := hV 0 _ rfl
        have q1 : v1 = .int .i64 z := hV 1 _ rfl
        have q2 : v2 = .bool true := hV 2 _ rfl
        have q3 : v3 = .bool true := hV 3 _ rfl
        have q4 : v4 = .pointer (some ⟨w.heap.size, 0, none⟩) := hV 4 _ rfl
        have q5 : v5 = .int .i64 z := hV 5 _ rfl
        have q6 : v6 = .agg lvls := hV 6 _ rfl
        have q7 : v7 = .int .i64 4 := hV 7 _ rfl
        have q8 : v8 = .bool false := hV 8 _ rfl
        have q9 : v9 = .bool false := hV 9 _ rfl
        have q10 : v10 = .bool false := hV 10 _ rfl
        have q15 : v15 = .bool false := hV 15 _ rfl
        have q16 : v16 = .bool false := hV 16 _ rfl
        have hbel : Below W0.heap.size W0 w3 := hS
        subst q0 q1 q2 q3 q4 q5 q6 q7 q8 q9 q10 q15 q16
        clear hV hS hall
        simp only [lays, Act.put, List.setIfInBounds_toArray, List.set_cons_zero, List.set_cons_succ]
        go_wp2
        go_ret
        exact ⟨by rw [HQ.out]; rfl, hb0.trans (hbel.mono hb0.size)⟩
  · have HQ : Hid (B.fits z n = false) := Lib.hid (by rw [HF.out, decide_eq_false h0]; rfl)
    clear HF
    go_enter Try.func8, Try.ntmps8
    go_wp2
    generalize hW0 : (w.alloc (.cells (L.lv z n) 25)) = W0 at *
    clear hW0
    refine region_gen (VG W0.heap.size [.val (.pointer (some ⟨w.heap.size, 0, none⟩)), .val (.int .i64 z), .val (.bool false), .val (.bool false), .any, .any, .any, .any, .any, .val (.bool false), .val (.bool false), .any, .any, .any, .any, .val (.bool false), .val (.bool false)]) (BS W0) (by kernel_rfl) (by kernel_rfl) (Below.refl _ _).drew ⟨?_, ?_, ?_, ?_, ?_, ?_, ?_, ?_, ?_, ?_, ?_, ?_, ?_, ?_, ?_, ?_, ?_, trivial⟩ ?_
    · go_light; intro listed a' w' hs hS hun hdep
      have e1 : a'.eval (.tmp 1) = .pointer (some ⟨w.heap.size, 0, none⟩) := (hs.out 1 (by kernel_rfl)).trans (rfl)
      refine g_val (.pointer (some ⟨w.heap.size, 0, none⟩)) hS rfl ?_ rfl
      have hcn := BigFrame.eval_const a'
      have hfn := BigFrame.eval_func a'
      clear hs hdep
      generalize a'.eval = ev at *
      go_simp
    · go_light; intro listed a' w' hs hS hun hdep
      have e3 : a'.eval (.tmp 3) = .pointer (some ⟨w.heap.size, 0, none⟩) := hs.eval 0 _ 3 rfl (hdep ⟨0, .data⟩ (by simp) rfl) rfl
      have hc := (HB.out.below hS HB.out.lt).level
      refine g_val (.int .i64 z) hS rfl ?_ rfl
      have hcn := BigFrame.eval_const a'
      have hfn := BigFrame.eval_func a'
      clear hs hdep
      generalize a'.eval = ev at *
      go_simp
    · go_light; intro listed a' w' hs hS hun hdep
      have e4 : a'.eval (.tmp 4) = .int .i64 z := hs.eval 1 _ 4 rfl (hdep ⟨1, .data⟩ (by simp) rfl) rfl
      refine g_val (.bool false) hS rfl ?_ rfl
      have hcn := BigFrame.eval_const a'
      have hfn := BigFrame.eval_func a'
      clear hs hdep
      generalize a'.eval = ev at *
      go_simp
    · go_light; intro listed a' w' hs hS hun hdep
      have e5 : a'.eval (.tmp 5) = .bool false := hs.eval 2 _ 5 rfl (hdep ⟨2, .data⟩ (by simp) rfl) rfl
      refine g_val (.bool false) hS rfl ?_ rfl
      have hcn := BigFrame.eval_const a'
      have hfn := BigFrame.eval_func a'
      clear hs hdep
      generalize a'.eval = ev at *
      go_simp
    · go_light; intro listed a' w' hs hS hun hdep
      have eg : a'.eval (.tmp 6) = .bool false := hs.eval 3 _ 6 rfl (hdep ⟨3, .guard⟩ (by simp) rfl) rfl
      exact g_not hS (wanted_no rfl rfl rfl eg (by decide)) trivial
    · go_light; intro listed a' w' hs hS hun hdep
      have eg : a'.eval (.tmp 6) = .bool false := hs.eval 3 _ 6 rfl (hdep ⟨3, .guard⟩ (by simp) rfl) rfl
      exact g_not hS (wanted_no rfl rfl rfl eg (by decide)) trivial
    · go_light; intro listed a' w' hs hS hun hdep
      have eg : a'.eval (.tmp 6) = .bool false := hs.eval 3 _ 6 rfl (hdep ⟨3, .guard⟩ (by simp) rfl) rfl
      exact g_not hS (wanted_no rfl rfl rfl eg (by decide)) trivial
    · go_light; intro listed a' w' hs hS hun hdep
      have eg : a'.eval (.tmp 6) = .bool false := hs.eval 3 _ 6 rfl (hdep ⟨3, .guard⟩ (by simp) rfl) rfl
      exact g_not hS (wanted_no rfl rfl rfl eg (by decide)) trivial
    · go_light; intro listed a' w' hs hS hun hdep
      have eg : a'.eval (.tmp 6) = .bool false := hs.eval 3 _ 6 rfl (hdep ⟨3, .guard⟩ (by simp) rfl) rfl
      exact g_not hS (wanted_no rfl rfl rfl eg (by decide)) trivial
    · go_light; intro listed a' w' hs hS hun hdep
      have e6 : a'.eval (.tmp 6) = .bool false := hs.eval 3 _ 6 rfl (hdep ⟨3, .data⟩ (by simp) rfl) rfl
      refine g_val (.bool false) hS rfl ?_ rfl
      have hcn := BigFrame.eval_const a'
      have hfn := BigFrame.eval_func a'
      clear hs hdep
      generalize a'.eval = ev at *
      go_simp
    · go_light; intro listed a' w' hs hS hun hdep
      have e12 : a'.eval (.tmp 12) = .bool false := hs.eval 9 _ 12 rfl (hdep ⟨9, .data⟩ (by simp) rfl) rfl
      refine g_val (.bool false) hS rfl ?_ rfl
      have hcn := BigFrame.eval_const a'
      have hfn := BigFrame.eval_func a'
      clear hs hdep
      generalize a'.eval = ev at *
      go_simp
    · go_light; intro listed a' w' hs hS hun hdep
      have eg : a'.eval (.tmp 13) = .bool false := hs.eval 10 _ 13 rfl (hdep ⟨10, .guard⟩ (by simp) rfl) rfl
      exact g_not hS (wanted_no rfl rfl rfl eg (by decide)) trivial
    · go_light; intro listed a' w' hs hS hun hdep
      have eg : a'.eval (.tmp 13) = .bool false := hs.eval 10 _ 13 rfl (hdep ⟨10, .guard⟩ (by simp) rfl) rfl
      exact g_not hS (wanted_no rfl rfl rfl eg (by decide)) trivial
    · go_light; intro listed a' w' hs hS hun hdep
      have eg : a'.eval (.tmp 13) = .bool false := hs.eval 10 _ 13 rfl (hdep ⟨10, .guard⟩ (by simp) rfl) rfl
      exact g_not hS (wanted_no rfl rfl rfl eg (by decide)) trivial
    · go_light; intro listed a' w' hs hS hun hdep
      have eg : a'.eval (.tmp 13) = .bool false := hs.eval 10 _ 13 rfl (hdep ⟨10, .guard⟩ (by simp) rfl) rfl
      exact g_not hS (wanted_no rfl rfl rfl eg (by decide)) trivial
    · go_light; intro listed a' w' hs hS hun hdep
      have e13 : a'.eval (.tmp 13) = .bool false := hs.eval 10 _ 13 rfl (hdep ⟨10, .data⟩ (by simp) rfl) rfl
      refine g_val (.bool false) hS rfl ?_ rfl
      have hcn := BigFrame.eval_const a'
      have hfn := BigFrame.eval_func a'
      clear hs hdep
      generalize a'.eval = ev at *
      go_simp
    · go_light; intro listed a' w' hs hS hun hdep
      have e18 : a'.eval (.tmp 18) = .bool false := hs.eval 15 _ 18 rfl (hdep ⟨15, .data⟩ (by simp) rfl) rfl
      refine g_val (.bool false) hS rfl ?_ rfl
      have hcn := BigFrame.eval_const a'
      have hfn := BigFrame.eval_func a'
      clear hs hdep
      generalize a'.eval = ev at *
      go_simp
    · intro vs w3 hlen hV listed hall hS
      obtain ⟨v0, v1, v2, v3, v4, v5, v6, v7, v8, v9, v10, v11, v12, v13, v14, v15, v16, rfl⟩ := vs_17 vs (hlen.trans rfl)
      have q0 : v0 = .pointer (some ⟨w.heap.size, 0, none⟩) := hV 0 _ rfl
      have q1 : v1 = .int .i64 z := hV 1 _ rfl
      have q2 : v2 = .bool false := hV 2 _ rfl
      have q3 : v3 = .bool false := hV 3 _ rfl
      have q9 : v9 = .bool false := hV 9 _ rfl
      have q10 : v10 = .bool false := hV 10 _ rfl
      have q15 : v15 = .bool false := hV 15 _ rfl
      have q16 : v16 = .bool false := hV 16 _ rfl
      have hbel : Below W0.heap.size W0 w3 := hS
      subst q0 q1 q2 q3 q9 q10 q15 q16
      clear hV hS hall
      simp only [lays, Act.put, List.setIfInBounds_toArray, List.set_cons_zero, List.set_cons_succ]
      go_wp2
      go_ret
      exact ⟨by rw [HQ.out]; rfl, hb0.trans (hbel.mono hb0.size)⟩
#print axioms fits_any
end BsFits
end Go.Proofs.Ytmaddfjgiflkbaa
