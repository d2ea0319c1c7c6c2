/- The walk of CatsCounts. -/
import Derived.Test.YtijgbmapfpjkfaaDoorCtAwake
import Derived.Test.YtijgbmapfpjkfaaDoorCtSMath
namespace Go.Proofs.YtijgbmapfpjkfaaDoor
set_option maxRecDepth 100000
open Go.RowKit
set_option maxRecDepth 100000
set_option linter.unusedVariables false

theorem vs_cons {n : Nat} (vs : List Value) (h : vs.length = n + 1) : ∃ v r, vs = v :: r ∧ r.length = n := by
  cases vs with
  | nil => simp at h
  | cons v r => exact ⟨v, r, rfl, by simpa using h⟩
theorem vs_10 (vs : List Value) (h : vs.length = 10) : ∃ v0 v1 v2 v3 v4 v5 v6 v7 v8 v9, vs = [v0, v1, v2, v3, v4, v5, v6, v7, v8, v9] := by
  obtain ⟨v0, r0, rfl, h0⟩ := vs_cons vs h
  obtain ⟨v1, r1, rfl, h1⟩ := vs_cons r0 h0
  obtain ⟨v2, r2, rfl, h2⟩ := vs_cons r1 h1
  obtain ⟨v3, r3, rfl, h3⟩ := vs_cons r2 h2
  obtain ⟨v4, r4, rfl, h4⟩ := vs_cons r3 h3
  obtain ⟨v5, r5, rfl, h5⟩ := vs_cons r4 h4
  obtain ⟨v6, r6, rfl, h6⟩ := vs_cons r5 h5
  obtain ⟨v7, r7, rfl, h7⟩ := vs_cons r6 h6
  obtain ⟨v8, r8, rfl, h8⟩ := vs_cons r7 h7
  obtain ⟨v9, r9, rfl, h9⟩ := vs_cons r8 h8
  obtain rfl := List.eq_nil_of_length_eq_zero h9
  exact ⟨v0, v1, v2, v3, v4, v5, v6, v7, v8, v9, rfl⟩
theorem vs_38 (vs : List Value) (h : vs.length = 38) : ∃ v0 v1 v2 v3 v4 v5 v6 v7 v8 v9 v10 v11 v12 v13 v14 v15 v16 v17 v18 v19 v20 v21 v22 v23 v24 v25 v26 v27 v28 v29 v30 v31 v32 v33 v34 v35 v36 v37, vs = [v0, v1, v2, v3, v4, v5, v6, v7, v8, v9, v10, v11, v12, v13, v14, v15, v16, v17, v18, v19, v20, v21, v22, v23, v24, v25, v26, v27, v28, v29, v30, v31, v32, v33, v34, v35, v36, v37] := by
  obtain ⟨v0, r0, rfl, h0⟩ := vs_cons vs h
  obtain ⟨v1, r1, rfl, h1⟩ := vs_cons r0 h0
  obtain ⟨v2, r2, rfl, h2⟩ := vs_cons r1 h1
  obtain ⟨v3, r3, rfl, h3⟩ := vs_cons r2 h2
  obtain ⟨v4, r4, rfl, h4⟩ := vs_cons r3 h3
  obtain ⟨v5, r5, rfl, h5⟩ := vs_cons r4 h4
  obtain ⟨v6, r6, rfl, h6⟩ := vs_cons r5 h5
  obtain ⟨v7, r7, rfl, h7⟩ := vs_cons r6 h6
  obtain ⟨v8, r8, rfl, h8⟩ := vs_cons r7 h7
  obtain ⟨v9, r9, rfl, h9⟩ := vs_cons r8 h8
  obtain ⟨v10, r10, rfl, h10⟩ := vs_cons r9 h9
  obtain ⟨v11, r11, rfl, h11⟩ := vs_cons r10 h10
  obtain ⟨v12, r12, rfl, h12⟩ := vs_cons r11 h11
  obtain ⟨v13, r13, rfl, h13⟩ := vs_cons r12 h12
  obtain ⟨v14, r14, rfl, h14⟩ := vs_cons r13 h13
  obtain ⟨v15, r15, rfl, h15⟩ := vs_cons r14 h14
  obtain ⟨v16, r16, rfl, h16⟩ := vs_cons r15 h15
  obtain ⟨v17, r17, rfl, h17⟩ := vs_cons r16 h16
  obtain ⟨v18, r18, rfl, h18⟩ := vs_cons r17 h17
  obtain ⟨v19, r19, rfl, h19⟩ := vs_cons r18 h18
  obtain ⟨v20, r20, rfl, h20⟩ := vs_cons r19 h19
  obtain ⟨v21, r21, rfl, h21⟩ := vs_cons r20 h20
  obtain ⟨v22, r22, rfl, h22⟩ := vs_cons r21 h21
  obtain ⟨v23, r23, rfl, h23⟩ := vs_cons r22 h22
  obtain ⟨v24, r24, rfl, h24⟩ := vs_cons r23 h23
  obtain ⟨v25, r25, rfl, h25⟩ := vs_cons r24 h24
  obtain ⟨v26, r26, rfl, h26⟩ := vs_cons r25 h25
  obtain ⟨v27, r27, rfl, h27⟩ := vs_cons r26 h26
  obtain ⟨v28, r28, rfl, h28⟩ := vs_cons r27 h27
  obtain ⟨v29, r29, rfl, h29⟩ := vs_cons r28 h28
  obtain ⟨v30, r30, rfl, h30⟩ := vs_cons r29 h29
  obtain ⟨v31, r31, rfl, h31⟩ := vs_cons r30 h30
  obtain ⟨v32, r32, rfl, h32⟩ := vs_cons r31 h31
  obtain ⟨v33, r33, rfl, h33⟩ := vs_cons r32 h32
  obtain ⟨v34, r34, rfl, h34⟩ := vs_cons r33 h33
  obtain ⟨v35, r35, rfl, h35⟩ := vs_cons r34 h34
  obtain ⟨v36, r36, rfl, h36⟩ := vs_cons r35 h35
  obtain ⟨v37, r37, rfl, h37⟩ := vs_cons r36 h36
  obtain rfl := List.eq_nil_of_length_eq_zero h37
  exact ⟨v0, v1, v2, v3, v4, v5, v6, v7, v8, v9, v10, v11, v12, v13, v14, v15, v16, v17, v18, v19, v20, v21, v22, v23, v24, v25, v26, v27, v28, v29, v30, v31, v32, v33, v34, v35, v36, v37, rfl⟩

theorem list_max (n : Nat) : (C.list n).length ≤ maxLen := by have := C.list_len n; unfold maxLen; omega

set_option maxHeartbeats 8000000 in
theorem counts_all (a b : Nat) (w : World) (ha : a < 2 ^ 240) (hb : b < 2 ^ 240) (L : TabL w) :
    Calls Tryd.prog 6 #[.agg (C.cv a), .agg (C.cv b)] w fun e w' => e = .returned (.bool true) ∧ Below w.heap.size w w' := by
  have HA := Lib.hid ((SetAt.new w a).alloc (.cells (C.cv b) 23))
  have HB := Lib.hid (setNew (w.alloc (.cells (C.cv a) 23)) b (w.heap.size + 1) (by simp))
  have hb0 : Below w.heap.size w ((w.alloc (.cells (C.cv a) 23)).alloc (.cells (C.cv b) 23)) := ((Below.refl _ w).alloc (Nat.le_refl _) _).alloc (by simp) _
  have HL0 := Lib.hid (L.below hb0)
  have hu : C.union [a, b] < 2 ^ 240 := by rw [C.union_two]; exact C.or_lt ha hb
  have h00 : (0 : Nat) < 2 ^ 240 := Nat.pow_pos (by decide)
  have HS1 := Lib.hid (C.count_sum a b)
  have HB1 := Lib.hid (C.back a b ha)
  have HB2 := Lib.hid (C.with_all a b ha hb)
  have HB3 := Lib.hid (C.apart a b ha)
  clear L
  go_enter Tryd.func6, Tryd.ntmps6
  go_wp2
  generalize hW0 : (w.alloc (.cells (C.cv a) 23)).alloc (.cells (C.cv b) 23) = W0 at *
  clear hW0
  refine region_gen_tail 10 (VG W0.heap.size [.val (.agg (C.cv (a))), .val (.agg (C.cv (b))), .row (setsX [a, b]) 23 2, .val (.agg (C.cv (C.union [a, b]))), .val (.agg (C.cv (a))), .val (.agg (C.cv (b))), .row (setsX [b]) 23 1, .val (.agg (C.cv (C.meet a [b]))), .ptr (C.cv 0) 23, .ptr (C.cv 0) 23]) (AS W0 [(8, 5), (9, 6)]) (by kernel_rfl) (by kernel_rfl) (by kernel_rfl) ⟨(Below.refl _ _).drew, fun p _ q _ _ h1 => by rw [getD_replicate_false] at h1; cases h1⟩ ⟨?_, ?_, ?_, ?_, ?_, ?_, ?_, ?_, ?_, ?_, trivial⟩ ?_
  · go_light; intro listed a' w' hs hS hun hdep
    have e2 : a'.eval (.tmp 2) = .pointer (some ⟨w.heap.size, 0, none⟩) := (hs.out 2 (by kernel_rfl)).trans (rfl)
    exact gA_val (.agg (C.cv (a))) hS rfl (run_op_load rfl e2 (HA.out.below hS.1 HA.out.lt)) rfl (by kernel_rfl)
  · go_light; intro listed a' w' hs hS hun hdep
    have e3 : a'.eval (.tmp 3) = .pointer (some ⟨(w.heap.size + 1), 0, none⟩) := (hs.out 3 (by kernel_rfl)).trans (rfl)
    exact gA_val (.agg (C.cv (b))) hS rfl (run_op_load rfl e3 (HB.out.below hS.1 HB.out.lt)) rfl (by kernel_rfl)
  · go_light; intro listed a' w' hs hS hun hdep
    have e9 : a'.eval (.tmp 9) = .agg (C.cv (a)) := hs.eval 0 _ 9 rfl (hdep ⟨0, .data⟩ (by simp) rfl) rfl
    have e10 : a'.eval (.tmp 10) = .agg (C.cv (b)) := hs.eval 1 _ 10 rfl (hdep ⟨1, .data⟩ (by simp) rfl) rfl
    exact gA_new (.slice (some ⟨w'.heap.size, 0, none⟩) 2 2) _ hS rfl (run_op_sets [a, b] rfl (by simp [e9, e10]) rfl (by simp) (by simp)) ⟨w'.heap.size, Below.size hS.1, rfl, heap_alloc_new w' _⟩ (by kernel_rfl)
  · go_light; intro listed a' w' hs hS hun hdep
    have r11 : (.row (setsX [a, b]) 23 2 : GV).ok W0.heap.size (a'.eval (.tmp 11)) w' := hs.eval 2 _ 11 rfl (hdep ⟨2, .data⟩ (by simp) rfl)  rfl
    obtain ⟨b11, _, e11, k11⟩ := r11
    refine gA_call 23 #[.slice (some ⟨b11, 0, none⟩) 2 2] hS rfl ?_ (by kernel_rfl) ?_
    · have hcn := BigFrame.eval_const a'; have hfn := BigFrame.eval_func a'; clear hs hdep; generalize a'.eval = ev at *; go_simp
    · exact c_val (Union_any (some ⟨b11, 0, none⟩) 2 [a, b] w' (SRow.of_block k11) (by unfold maxLen; simp)) rfl
  · go_light; intro listed a' w' hs hS hun hdep
    have e2 : a'.eval (.tmp 2) = .pointer (some ⟨w.heap.size, 0, none⟩) := (hs.out 2 (by kernel_rfl)).trans (rfl)
    exact gA_val (.agg (C.cv (a))) hS rfl (run_op_load rfl e2 (HA.out.below hS.1 HA.out.lt)) rfl (by kernel_rfl)
  · go_light; intro listed a' w' hs hS hun hdep
    have e3 : a'.eval (.tmp 3) = .pointer (some ⟨(w.heap.size + 1), 0, none⟩) := (hs.out 3 (by kernel_rfl)).trans (rfl)
    exact gA_val (.agg (C.cv (b))) hS rfl (run_op_load rfl e3 (HB.out.below hS.1 HB.out.lt)) rfl (by kernel_rfl)
  · go_light; intro listed a' w' hs hS hun hdep
    have e14 : a'.eval (.tmp 14) = .agg (C.cv (b)) := hs.eval 5 _ 14 rfl (hdep ⟨5, .data⟩ (by simp) rfl) rfl
    exact gA_new (.slice (some ⟨w'.heap.size, 0, none⟩) 1 1) _ hS rfl (run_op_sets [b] rfl (by simp [e14]) rfl (by simp) (by simp)) ⟨w'.heap.size, Below.size hS.1, rfl, heap_alloc_new w' _⟩ (by kernel_rfl)
  · go_light; intro listed a' w' hs hS hun hdep
    have e13 : a'.eval (.tmp 13) = .agg (C.cv (a)) := hs.eval 4 _ 13 rfl (hdep ⟨4, .data⟩ (by simp) rfl) rfl
    have r15 : (.row (setsX [b]) 23 1 : GV).ok W0.heap.size (a'.eval (.tmp 15)) w' := hs.eval 6 _ 15 rfl (hdep ⟨6, .data⟩ (by simp) rfl)  rfl
    obtain ⟨b15, _, e15, k15⟩ := r15
    refine gA_call 24 #[.agg (C.cv (a)), .slice (some ⟨b15, 0, none⟩) 1 1] hS rfl ?_ (by kernel_rfl) ?_
    · have hcn := BigFrame.eval_const a'; have hfn := BigFrame.eval_func a'; clear hs hdep; generalize a'.eval = ev at *; go_simp
    · exact c_val (Meet_any a (some ⟨b15, 0, none⟩) 1 [b] w' (SRow.of_block k15) (by unfold maxLen; simp)) rfl
  · go_light; intro listed a' w' hs hS hun hdep
    refine gA_make (d := 5) (.cells (C.cv 0) 23) hS hs rfl ?_ ⟨w'.heap.size, Below.size hS.1, rfl, heap_alloc_new w' _⟩ rfl (of_decide_eq_true (by kernel_rfl)) (by kernel_rfl)
    have hcn := BigFrame.eval_const a'
    have hfn := BigFrame.eval_func a'
    clear hs hdep
    generalize a'.eval = ev at *
    rw [← C.zero30]
    go_simp
  · go_light; intro listed a' w' hs hS hun hdep
    refine gA_make (d := 6) (.cells (C.cv 0) 23) hS hs rfl ?_ ⟨w'.heap.size, Below.size hS.1, rfl, heap_alloc_new w' _⟩ rfl (of_decide_eq_true (by kernel_rfl)) (by kernel_rfl)
    have hcn := BigFrame.eval_const a'
    have hfn := BigFrame.eval_func a'
    clear hs hdep
    generalize a'.eval = ev at *
    rw [← C.zero30]
    go_simp
  · intro vs w3 hlen hV hS
    obtain ⟨v0, v1, v2, v3, v4, v5, v6, v7, v8, v9, rfl⟩ := vs_10 vs (hlen.trans rfl)
    have q0 : v0 = .agg (C.cv (a)) := hV 0 _ rfl
    have q1 : v1 = .agg (C.cv (b)) := hV 1 _ rfl
    obtain ⟨b2, hge2, q2, hbk2⟩ : (.row (setsX [a, b]) 23 2 : GV).ok W0.heap.size v2 w3 := hV 2 _ rfl
    have q3 : v3 = .agg (C.cv (C.union [a, b])) := hV 3 _ rfl
    have q4 : v4 = .agg (C.cv (a)) := hV 4 _ rfl
    have q5 : v5 = .agg (C.cv (b)) := hV 5 _ rfl
    obtain ⟨b6, hge6, q6, hbk6⟩ : (.row (setsX [b]) 23 1 : GV).ok W0.heap.size v6 w3 := hV 6 _ rfl
    have q7 : v7 = .agg (C.cv (C.meet a [b])) := hV 7 _ rfl
    obtain ⟨b8, hge8, q8, hbk8⟩ : (.ptr (C.cv 0) 23 : GV).ok W0.heap.size v8 w3 := hV 8 _ rfl
    obtain ⟨b9, hge9, q9, hbk9⟩ : (.ptr (C.cv 0) 23 : GV).ok W0.heap.size v9 w3 := hV 9 _ rfl
    have hbel : Below W0.heap.size W0 w3 := hS.1
    have hdis := hS.2
    subst q0 q1 q2 q3 q4 q5 q6 q7 q8 q9
    clear hV hS
    simp only [lays, Act.put, List.setIfInBounds_toArray, List.set_cons_zero, List.set_cons_succ, List.drop_succ_cons, List.drop_zero, List.take_succ_cons, List.take_zero]
    have hne : b8 ≠ b9 := by
      have h := hdis (8, 5) (by simp) (9, 6) (by simp) (by decide) (by simp [canonN]) (by simp [canonN])
      simp [lays, Act.put, Act.eval] at h
      exact h
    clear hdis
    have H8 : Hid (SetAt w3 b8 0) := Lib.hid hbk8
    have H9 : Hid (SetAt w3 b9 0) := Lib.hid hbk9
    have HA3 := Lib.hid (HA.out.below hbel HA.out.lt)
    have HB3' := Lib.hid (HB.out.below hbel HB.out.lt)
    have HL3 := Lib.hid (HL0.out.below hbel)
    have hb3 := hb0.trans (hbel.mono hb0.size)
    have hw0 := hb0.size
    have la := HA.out.lt
    have lb := HB.out.lt
    have hl4 := HL0.out.size
    clear hbk8 hbk9 HA HB HL0 hbel hb0 hbk2 hbk6 hge2 hge6
    go_wp2_with (first | (refine store_set rfl rfl rfl rfl H8.out ?_; intro w4 hs4 ho4; have HU4 := Lib.hid hs4; have HO4 := Lib.hid ho4; clear hs4 ho4) | (refine store_set rfl rfl rfl rfl (H9.out.only HO4.out (Ne.symm hne)) ?_; intro w5 hs5 ho5; have HM5 := Lib.hid hs5; have HO5 := Lib.hid ho5; clear hs5 ho5) | (refine load_set rfl rfl rfl ((HB3'.out.only HO4.out (by omega)).only HO5.out (by omega)) ?_))
    have hb5 : Below w.heap.size w w5 := (hb3.trans (HO4.out.below (by omega))).trans (HO5.out.below (by omega))
    have HA5 := Lib.hid ((HA3.out.only HO4.out (by omega)).only HO5.out (by omega))
    have HB5 := Lib.hid ((HB3'.out.only HO4.out (by omega)).only HO5.out (by omega))
    have HU5 := Lib.hid (HU4.out.only HO5.out hne)
    have HL5 := Lib.hid ((HL3.out.only HO4.out (by omega)).only HO5.out (by omega))
    clear HA3 HB3' HL3 HU4 HO4 HO5 H8 H9 hb3 hw0 la lb hl4 hge8 hge9
    refine (List_any b _).mono ?_
    rintro e w6 ⟨lo, lc, rfl, hrow, hb6⟩
    have hbw6 := hb5.trans (hb6.mono hb5.size)
    have HA6 := Lib.hid (HA5.out.below hb6 HA5.out.lt)
    have HB6 := Lib.hid (HB5.out.below hb6 HB5.out.lt)
    have HU6 := Lib.hid (HU5.out.below hb6 HU5.out.lt)
    have HM6 := Lib.hid (HM5.out.below hb6 HM5.out.lt)
    have HL6 := Lib.hid (HL5.out.below hb6)
    have HR6 := Lib.hid hrow
    clear hb6 HA5 HB5 HU5 HM5 HL5 hrow hb5
    go_wp2_with (refine load_set rfl rfl rfl HA6.out ?_)
    refine (Without_any a lo lc (C.list b) _ HR6.out (list_max b)).mono ?_
    rintro e w7 ⟨rfl, hb7⟩
    have hbw7 := hbw6.trans (hb7.mono hbw6.size)
    have HA7 := Lib.hid (HA6.out.below hb7 HA6.out.lt)
    have HB7 := Lib.hid (HB6.out.below hb7 HB6.out.lt)
    have HU7 := Lib.hid (HU6.out.below hb7 HU6.out.lt)
    have HM7 := Lib.hid (HM6.out.below hb7 HM6.out.lt)
    have HL7 := Lib.hid (HL6.out.below hb7)
    have HR7 := Lib.hid (HR6.out.below hb7)
    have HN7 := Lib.hid (SetAt.new w7 0)
    clear hb7 HA6 HB6 HU6 HM6 HL6 HR6 hbw6
    go_wp2_with (rw [C.zero30]; refine store_set rfl rfl rfl rfl HN7.out ?_; intro w8 hs8 ho8; have HX := Lib.hid hs8; have HO8 := Lib.hid ho8; clear hs8 ho8)
    have hb78 : Below w7.heap.size w7 w8 := ((Below.refl _ w7).alloc (Nat.le_refl _) _).trans (HO8.out.below (Nat.le_refl _))
    have hb8 := hbw7.trans (hb78.mono hbw7.size)
    have HA := Lib.hid (HA7.out.below hb78 HA7.out.lt)
    have HB := Lib.hid (HB7.out.below hb78 HB7.out.lt)
    have HU := Lib.hid (HU7.out.below hb78 HU7.out.lt)
    have HM := Lib.hid (HM7.out.below hb78 HM7.out.lt)
    have HL := Lib.hid (HL7.out.below hb78)
    have HRow := Lib.hid (HR7.out.below hb78)
    have HP1 : Hid (∀ ao cp w', IRow w' ao (C.list (C.meet a [b])) → Calls Tryd.prog 15 #[.agg (C.cv (C.less a (C.list b))), .slice ao (C.list (C.meet a [b])).length cp] w' fun e w'' => e = .returned (.agg (C.cv a)) ∧ Below w'.heap.size w' w'') := Lib.hid (fun ao cp w' h => by
      have := With_any (C.less a (C.list b)) ao cp _ w' h (list_max _); rw [HB1.out] at this; exact this)
    have HP2 : Hid (∀ w', IRow w' lo (C.list b) → Calls Tryd.prog 15 #[.agg (C.cv a), .slice lo (C.list b).length lc] w' fun e w'' => e = .returned (.agg (C.cv (C.union [a, b]))) ∧ Below w'.heap.size w' w'') := Lib.hid (fun w' h => by
      have := With_any a lo lc _ w' h (list_max _); rw [HB2.out] at this; exact this)
    have HP3 : Hid (∀ r w', SRow w' (some ⟨r, 0, none⟩) [b] → Calls Tryd.prog 24 #[.agg (C.cv (C.less a (C.list b))), .slice (some ⟨r, 0, none⟩) 1 1] w' fun e w'' => e = .returned (.agg (C.cv 0)) ∧ Below w'.heap.size w' w'') := Lib.hid (fun r w' h => by
      have := Meet_any (C.less a (C.list b)) (some ⟨r, 0, none⟩) 1 [b] w' h (by unfold maxLen; simp); rw [HB3.out] at this; exact this)
    have k1 := C.list_len (C.union [a, b])
    have k2 := C.list_len (C.meet a [b])
    have k3 := C.list_len a
    have k4 := C.list_len b
    have hsum := HS1.out
    have HCu := Lib.hid (fun w => Count_any (C.union [a, b]) w)
    have HCm := Lib.hid (fun w => Count_any (C.meet a [b]) w)
    have HCa := Lib.hid (fun w => Count_any a w)
    have HCb := Lib.hid (fun w => Count_any b w)
    clear HA7 HB7 HU7 HM7 HL7 HR7 HN7 HO8 hb78 hbw7 HB1 HB2 HB3 HS1
    generalize hcu : (C.list (C.union [a, b])).length = cu at k1 hsum HCu
    generalize hcm : (C.list (C.meet a [b])).length = cm at k2 hsum HCm
    generalize hca : (C.list a).length = ca at k3 hsum HCa
    generalize hcb : (C.list b).length = cb at k4 hsum HCb HP2 ⊢
    obtain ⟨sm, hsm⟩ : ∃ s, cu + cm = s := ⟨_, rfl⟩
    have i1 : (cu : Int) + (cm : Int) = (sm : Int) := by omega
    have i2 : (ca : Int) + (cb : Int) = (sm : Int) := by omega
    have i3 : IntKind.i64.wrap (sm : Int) = (sm : Int) := IntWalk.i64_in _ (by omega)
    clear hcu hcm hca hcb hsum hsm k1 k2 k3 k4
    generalize C.less a (C.list b) = rest at *
    generalize C.meet a [b] = m at *
    generalize C.union [a, b] = u at *
    generalize hW8 : w8 = W0' at *
    clear hW8
    refine region_gen (VG W0'.heap.size [.val (.agg (C.cv (u))), .val (.int .i64 (cu : Nat)), .val (.agg (C.cv (m))), .val (.int .i64 (cm : Nat)), .val (.int .i64 (sm : Nat)), .val (.agg (C.cv (a))), .val (.int .i64 (ca : Nat)), .val (.agg (C.cv (b))), .val (.int .i64 (cb : Nat)), .val (.int .i64 (sm : Nat)), .val (.bool true), .val (.bool true), .val (.agg (C.cv (rest))), .val (.agg (C.cv (m))), .ints (C.list m), .val (.agg (C.cv (a))), .val (.agg (C.cv (a))), .val (.bool true), .val (.bool true), .val (.bool true), .val (.agg (C.cv (a))), .val (.slice lo cb lc), .val (.agg (C.cv (u))), .val (.agg (C.cv (u))), .val (.bool true), .val (.bool true), .val (.bool true), .val (.agg (C.cv (rest))), .val (.agg (C.cv (b))), .row (setsX [b]) 23 1, .val (.agg (C.cv 0)), .val (.agg (C.cv 0)), .val (.bool true), .val (.bool true), .val (.bool true), .val (.bool true), .val (.bool true), .val (.bool true)]) (BS W0') (by kernel_rfl) (by kernel_rfl) (Below.refl _ _).drew ⟨?_, ?_, ?_, ?_, ?_, ?_, ?_, ?_, ?_, ?_, ?_, ?_, ?_, ?_, ?_, ?_, ?_, ?_, ?_, ?_, ?_, ?_, ?_, ?_, ?_, ?_, ?_, ?_, ?_, ?_, ?_, ?_, ?_, ?_, ?_, ?_, ?_, ?_, trivial⟩ ?_
    · go_light; intro listed a' w' hs hS hun hdep
      have e5 : a'.eval (.tmp 5) = .pointer (some ⟨b8, 0, none⟩) := (hs.out 5 (by kernel_rfl)).trans (rfl)
      exact g_val (.agg (C.cv (u))) hS rfl (run_op_load rfl e5 (HU.out.below hS HU.out.lt)) rfl
    · go_light; intro listed a' w' hs hS hun hdep
      have e22 : a'.eval (.tmp 22) = .agg (C.cv (u)) := hs.eval 0 _ 22 rfl (hdep ⟨0, .data⟩ (by simp) rfl) rfl
      refine g_call 21 #[.agg (C.cv (u))] hS rfl ?_ ?_
      · have hcn := BigFrame.eval_const a'; have hfn := BigFrame.eval_func a'; clear hs hdep; generalize a'.eval = ev at *; go_simp
      · exact c_val (HCu.out w') rfl
    · go_light; intro listed a' w' hs hS hun hdep
      have e6 : a'.eval (.tmp 6) = .pointer (some ⟨b9, 0, none⟩) := (hs.out 6 (by kernel_rfl)).trans (rfl)
      exact g_val (.agg (C.cv (m))) hS rfl (run_op_load rfl e6 (HM.out.below hS HM.out.lt)) rfl
    · go_light; intro listed a' w' hs hS hun hdep
      have e24 : a'.eval (.tmp 24) = .agg (C.cv (m)) := hs.eval 2 _ 24 rfl (hdep ⟨2, .data⟩ (by simp) rfl) rfl
      refine g_call 21 #[.agg (C.cv (m))] hS rfl ?_ ?_
      · have hcn := BigFrame.eval_const a'; have hfn := BigFrame.eval_func a'; clear hs hdep; generalize a'.eval = ev at *; go_simp
      · exact c_val (HCm.out w') rfl
    · go_light; intro listed a' w' hs hS hun hdep
      have e23 : a'.eval (.tmp 23) = .int .i64 (cu : Nat) := hs.eval 1 _ 23 rfl (hdep ⟨1, .data⟩ (by simp) rfl) rfl
      have e25 : a'.eval (.tmp 25) = .int .i64 (cm : Nat) := hs.eval 3 _ 25 rfl (hdep ⟨3, .data⟩ (by simp) rfl) rfl
      refine g_val (.int .i64 (sm : Nat)) hS rfl ?_ rfl
      have hcn := BigFrame.eval_const a'
      have hfn := BigFrame.eval_func a'
      clear hs hdep
      generalize a'.eval = ev at *
      go_simp
    · go_light; intro listed a' w' hs hS hun hdep
      have e2 : a'.eval (.tmp 2) = .pointer (some ⟨w.heap.size, 0, none⟩) := (hs.out 2 (by kernel_rfl)).trans (rfl)
      exact g_val (.agg (C.cv (a))) hS rfl (run_op_load rfl e2 (HA.out.below hS HA.out.lt)) rfl
    · go_light; intro listed a' w' hs hS hun hdep
      have e27 : a'.eval (.tmp 27) = .agg (C.cv (a)) := hs.eval 5 _ 27 rfl (hdep ⟨5, .data⟩ (by simp) rfl) rfl
      refine g_call 21 #[.agg (C.cv (a))] hS rfl ?_ ?_
      · have hcn := BigFrame.eval_const a'; have hfn := BigFrame.eval_func a'; clear hs hdep; generalize a'.eval = ev at *; go_simp
      · exact c_val (HCa.out w') rfl
    · go_light; intro listed a' w' hs hS hun hdep
      have e3 : a'.eval (.tmp 3) = .pointer (some ⟨(w.heap.size + 1), 0, none⟩) := (hs.out 3 (by kernel_rfl)).trans (rfl)
      exact g_val (.agg (C.cv (b))) hS rfl (run_op_load rfl e3 (HB.out.below hS HB.out.lt)) rfl
    · go_light; intro listed a' w' hs hS hun hdep
      have e29 : a'.eval (.tmp 29) = .agg (C.cv (b)) := hs.eval 7 _ 29 rfl (hdep ⟨7, .data⟩ (by simp) rfl) rfl
      refine g_call 21 #[.agg (C.cv (b))] hS rfl ?_ ?_
      · have hcn := BigFrame.eval_const a'; have hfn := BigFrame.eval_func a'; clear hs hdep; generalize a'.eval = ev at *; go_simp
      · exact c_val (HCb.out w') rfl
    · go_light; intro listed a' w' hs hS hun hdep
      have e28 : a'.eval (.tmp 28) = .int .i64 (ca : Nat) := hs.eval 6 _ 28 rfl (hdep ⟨6, .data⟩ (by simp) rfl) rfl
      have e30 : a'.eval (.tmp 30) = .int .i64 (cb : Nat) := hs.eval 8 _ 30 rfl (hdep ⟨8, .data⟩ (by simp) rfl) rfl
      refine g_val (.int .i64 (sm : Nat)) hS rfl ?_ rfl
      have hcn := BigFrame.eval_const a'
      have hfn := BigFrame.eval_func a'
      clear hs hdep
      generalize a'.eval = ev at *
      go_simp
    · go_light; intro listed a' w' hs hS hun hdep
      have e26 : a'.eval (.tmp 26) = .int .i64 (sm : Nat) := hs.eval 4 _ 26 rfl (hdep ⟨4, .data⟩ (by simp) rfl) rfl
      have e31 : a'.eval (.tmp 31) = .int .i64 (sm : Nat) := hs.eval 9 _ 31 rfl (hdep ⟨9, .data⟩ (by simp) rfl) rfl
      refine g_val (.bool true) hS rfl ?_ rfl
      have hcn := BigFrame.eval_const a'
      have hfn := BigFrame.eval_func a'
      clear hs hdep
      generalize a'.eval = ev at *
      go_simp
    · go_light; intro listed a' w' hs hS hun hdep
      have e32 : a'.eval (.tmp 32) = .bool true := hs.eval 10 _ 32 rfl (hdep ⟨10, .data⟩ (by simp) rfl) rfl
      refine g_val (.bool true) hS rfl ?_ rfl
      have hcn := BigFrame.eval_const a'
      have hfn := BigFrame.eval_func a'
      clear hs hdep
      generalize a'.eval = ev at *
      go_simp
    · go_light; intro listed a' w' hs hS hun hdep
      have eg : a'.eval (.tmp 33) = .bool true := hs.eval 11 _ 33 rfl (hdep ⟨11, .guard⟩ (by simp) rfl) rfl
      have e8 : a'.eval (.tmp 8) = .pointer (some ⟨w7.heap.size, 0, none⟩) := (hs.out 8 (by kernel_rfl)).trans (rfl)
      exact g_val (.agg (C.cv (rest))) hS (wanted_yes rfl rfl rfl eg) (run_op_load rfl e8 (HX.out.below hS HX.out.lt)) rfl
    · go_light; intro listed a' w' hs hS hun hdep
      have eg : a'.eval (.tmp 33) = .bool true := hs.eval 11 _ 33 rfl (hdep ⟨11, .guard⟩ (by simp) rfl) rfl
      have e6 : a'.eval (.tmp 6) = .pointer (some ⟨b9, 0, none⟩) := (hs.out 6 (by kernel_rfl)).trans (rfl)
      exact g_val (.agg (C.cv (m))) hS (wanted_yes rfl rfl rfl eg) (run_op_load rfl e6 (HM.out.below hS HM.out.lt)) rfl
    · go_light; intro listed a' w' hs hS hun hdep
      have eg : a'.eval (.tmp 33) = .bool true := hs.eval 11 _ 33 rfl (hdep ⟨11, .guard⟩ (by simp) rfl) rfl
      have e35 : a'.eval (.tmp 35) = .agg (C.cv (m)) := hs.eval 13 _ 35 rfl (hdep ⟨13, .data⟩ (by simp) rfl) rfl
      refine g_call 20 #[.agg (C.cv (m))] hS (wanted_yes rfl rfl rfl eg) ?_ ?_
      · have hcn := BigFrame.eval_const a'; have hfn := BigFrame.eval_func a'; clear hs hdep; generalize a'.eval = ev at *; go_simp
      · exact Calls.mono (List_any m w') fun e w'' ⟨ao, cp, he, hr, hb⟩ => ⟨_, he, ⟨ao, cp, rfl, hr⟩, hb⟩
    · go_light; intro listed a' w' hs hS hun hdep
      have eg : a'.eval (.tmp 33) = .bool true := hs.eval 11 _ 33 rfl (hdep ⟨11, .guard⟩ (by simp) rfl) rfl
      have e34 : a'.eval (.tmp 34) = .agg (C.cv (rest)) := hs.eval 12 _ 34 rfl (hdep ⟨12, .data⟩ (by simp) rfl) rfl
      have r36 : (.ints (C.list m) : GV).ok W0'.heap.size (a'.eval (.tmp 36)) w' := hs.eval 14 _ 36 rfl (hdep ⟨14, .data⟩ (by simp) rfl)  rfl
      obtain ⟨ao36, cp36, e36, k36⟩ := r36
      refine g_call 15 #[.agg (C.cv (rest)), .slice ao36 (C.list m).length cp36] hS (wanted_yes rfl rfl rfl eg) ?_ ?_
      · have hcn := BigFrame.eval_const a'; have hfn := BigFrame.eval_func a'; clear hs hdep; generalize a'.eval = ev at *; go_simp
      · exact c_val (HP1.out _ _ _ k36) rfl
    · go_light; intro listed a' w' hs hS hun hdep
      have eg : a'.eval (.tmp 33) = .bool true := hs.eval 11 _ 33 rfl (hdep ⟨11, .guard⟩ (by simp) rfl) rfl
      have e2 : a'.eval (.tmp 2) = .pointer (some ⟨w.heap.size, 0, none⟩) := (hs.out 2 (by kernel_rfl)).trans (rfl)
      exact g_val (.agg (C.cv (a))) hS (wanted_yes rfl rfl rfl eg) (run_op_load rfl e2 (HA.out.below hS HA.out.lt)) rfl
    · go_light; intro listed a' w' hs hS hun hdep
      have eg : a'.eval (.tmp 33) = .bool true := hs.eval 11 _ 33 rfl (hdep ⟨11, .guard⟩ (by simp) rfl) rfl
      have e37 : a'.eval (.tmp 37) = .agg (C.cv (a)) := hs.eval 15 _ 37 rfl (hdep ⟨15, .data⟩ (by simp) rfl) rfl
      have e38 : a'.eval (.tmp 38) = .agg (C.cv (a)) := hs.eval 16 _ 38 rfl (hdep ⟨16, .data⟩ (by simp) rfl) rfl
      exact g_val (.bool true) hS (wanted_yes rfl rfl rfl eg) (run_op_same rfl e37 e38 ha) rfl
    · go_light; intro listed a' w' hs hS hun hdep
      have e33 : a'.eval (.tmp 33) = .bool true := hs.eval 11 _ 33 rfl (hdep ⟨11, .data⟩ (by simp) rfl) rfl
      have e39 : a'.eval (.tmp 39) = .bool true := hs.eval 17 _ 39 rfl (hdep ⟨17, .data⟩ (by simp) rfl) rfl
      refine g_val (.bool true) hS rfl ?_ rfl
      have hcn := BigFrame.eval_const a'
      have hfn := BigFrame.eval_func a'
      clear hs hdep
      generalize a'.eval = ev at *
      go_simp
    · go_light; intro listed a' w' hs hS hun hdep
      have e40 : a'.eval (.tmp 40) = .bool true := hs.eval 18 _ 40 rfl (hdep ⟨18, .data⟩ (by simp) rfl) rfl
      refine g_val (.bool true) hS rfl ?_ rfl
      have hcn := BigFrame.eval_const a'
      have hfn := BigFrame.eval_func a'
      clear hs hdep
      generalize a'.eval = ev at *
      go_simp
    · go_light; intro listed a' w' hs hS hun hdep
      have eg : a'.eval (.tmp 41) = .bool true := hs.eval 19 _ 41 rfl (hdep ⟨19, .guard⟩ (by simp) rfl) rfl
      have e2 : a'.eval (.tmp 2) = .pointer (some ⟨w.heap.size, 0, none⟩) := (hs.out 2 (by kernel_rfl)).trans (rfl)
      exact g_val (.agg (C.cv (a))) hS (wanted_yes rfl rfl rfl eg) (run_op_load rfl e2 (HA.out.below hS HA.out.lt)) rfl
    · go_light; intro listed a' w' hs hS hun hdep
      have eg : a'.eval (.tmp 41) = .bool true := hs.eval 19 _ 41 rfl (hdep ⟨19, .guard⟩ (by simp) rfl) rfl
      have e7 : a'.eval (.tmp 7) = .slice lo cb lc := (hs.out 7 (by kernel_rfl)).trans (rfl)
      refine g_val (.slice lo cb lc) hS (wanted_yes rfl rfl rfl eg) ?_ rfl
      have hcn := BigFrame.eval_const a'
      have hfn := BigFrame.eval_func a'
      clear hs hdep
      generalize a'.eval = ev at *
      go_simp
    · go_light; intro listed a' w' hs hS hun hdep
      have eg : a'.eval (.tmp 41) = .bool true := hs.eval 19 _ 41 rfl (hdep ⟨19, .guard⟩ (by simp) rfl) rfl
      have e42 : a'.eval (.tmp 42) = .agg (C.cv (a)) := hs.eval 20 _ 42 rfl (hdep ⟨20, .data⟩ (by simp) rfl) rfl
      have e43 : a'.eval (.tmp 43) = .slice lo cb lc := hs.eval 21 _ 43 rfl (hdep ⟨21, .data⟩ (by simp) rfl) rfl
      refine g_call 15 #[.agg (C.cv (a)), .slice lo cb lc] hS (wanted_yes rfl rfl rfl eg) ?_ ?_
      · have hcn := BigFrame.eval_const a'; have hfn := BigFrame.eval_func a'; clear hs hdep; generalize a'.eval = ev at *; go_simp
      · exact c_val (HP2.out _ (HRow.out.below hS)) rfl
    · go_light; intro listed a' w' hs hS hun hdep
      have eg : a'.eval (.tmp 41) = .bool true := hs.eval 19 _ 41 rfl (hdep ⟨19, .guard⟩ (by simp) rfl) rfl
      have e5 : a'.eval (.tmp 5) = .pointer (some ⟨b8, 0, none⟩) := (hs.out 5 (by kernel_rfl)).trans (rfl)
      exact g_val (.agg (C.cv (u))) hS (wanted_yes rfl rfl rfl eg) (run_op_load rfl e5 (HU.out.below hS HU.out.lt)) rfl
    · go_light; intro listed a' w' hs hS hun hdep
      have eg : a'.eval (.tmp 41) = .bool true := hs.eval 19 _ 41 rfl (hdep ⟨19, .guard⟩ (by simp) rfl) rfl
      have e44 : a'.eval (.tmp 44) = .agg (C.cv (u)) := hs.eval 22 _ 44 rfl (hdep ⟨22, .data⟩ (by simp) rfl) rfl
      have e45 : a'.eval (.tmp 45) = .agg (C.cv (u)) := hs.eval 23 _ 45 rfl (hdep ⟨23, .data⟩ (by simp) rfl) rfl
      exact g_val (.bool true) hS (wanted_yes rfl rfl rfl eg) (run_op_same rfl e44 e45 hu) rfl
    · go_light; intro listed a' w' hs hS hun hdep
      have e41 : a'.eval (.tmp 41) = .bool true := hs.eval 19 _ 41 rfl (hdep ⟨19, .data⟩ (by simp) rfl) rfl
      have e46 : a'.eval (.tmp 46) = .bool true := hs.eval 24 _ 46 rfl (hdep ⟨24, .data⟩ (by simp) rfl) rfl
      refine g_val (.bool true) hS rfl ?_ rfl
      have hcn := BigFrame.eval_const a'
      have hfn := BigFrame.eval_func a'
      clear hs hdep
      generalize a'.eval = ev at *
      go_simp
    · go_light; intro listed a' w' hs hS hun hdep
      have e47 : a'.eval (.tmp 47) = .bool true := hs.eval 25 _ 47 rfl (hdep ⟨25, .data⟩ (by simp) rfl) rfl
      refine g_val (.bool true) hS rfl ?_ rfl
      have hcn := BigFrame.eval_const a'
      have hfn := BigFrame.eval_func a'
      clear hs hdep
      generalize a'.eval = ev at *
      go_simp
    · go_light; intro listed a' w' hs hS hun hdep
      have eg : a'.eval (.tmp 48) = .bool true := hs.eval 26 _ 48 rfl (hdep ⟨26, .guard⟩ (by simp) rfl) rfl
      have e8 : a'.eval (.tmp 8) = .pointer (some ⟨w7.heap.size, 0, none⟩) := (hs.out 8 (by kernel_rfl)).trans (rfl)
      exact g_val (.agg (C.cv (rest))) hS (wanted_yes rfl rfl rfl eg) (run_op_load rfl e8 (HX.out.below hS HX.out.lt)) rfl
    · go_light; intro listed a' w' hs hS hun hdep
      have eg : a'.eval (.tmp 48) = .bool true := hs.eval 26 _ 48 rfl (hdep ⟨26, .guard⟩ (by simp) rfl) rfl
      have e3 : a'.eval (.tmp 3) = .pointer (some ⟨(w.heap.size + 1), 0, none⟩) := (hs.out 3 (by kernel_rfl)).trans (rfl)
      exact g_val (.agg (C.cv (b))) hS (wanted_yes rfl rfl rfl eg) (run_op_load rfl e3 (HB.out.below hS HB.out.lt)) rfl
    · go_light; intro listed a' w' hs hS hun hdep
      have eg : a'.eval (.tmp 48) = .bool true := hs.eval 26 _ 48 rfl (hdep ⟨26, .guard⟩ (by simp) rfl) rfl
      have e50 : a'.eval (.tmp 50) = .agg (C.cv (b)) := hs.eval 28 _ 50 rfl (hdep ⟨28, .data⟩ (by simp) rfl) rfl
      exact g_new (.slice (some ⟨w'.heap.size, 0, none⟩) 1 1) _ hS (wanted_yes rfl rfl rfl eg) (run_op_sets [b] rfl (by simp [e50]) rfl (by simp) (by simp)) ⟨w'.heap.size, Below.size hS, rfl, heap_alloc_new w' _⟩
    · go_light; intro listed a' w' hs hS hun hdep
      have eg : a'.eval (.tmp 48) = .bool true := hs.eval 26 _ 48 rfl (hdep ⟨26, .guard⟩ (by simp) rfl) rfl
      have e49 : a'.eval (.tmp 49) = .agg (C.cv (rest)) := hs.eval 27 _ 49 rfl (hdep ⟨27, .data⟩ (by simp) rfl) rfl
      have r51 : (.row (setsX [b]) 23 1 : GV).ok W0'.heap.size (a'.eval (.tmp 51)) w' := hs.eval 29 _ 51 rfl (hdep ⟨29, .data⟩ (by simp) rfl)  rfl
      obtain ⟨b51, _, e51, k51⟩ := r51
      refine g_call 24 #[.agg (C.cv (rest)), .slice (some ⟨b51, 0, none⟩) 1 1] hS (wanted_yes rfl rfl rfl eg) ?_ ?_
      · have hcn := BigFrame.eval_const a'; have hfn := BigFrame.eval_func a'; clear hs hdep; generalize a'.eval = ev at *; go_simp
      · exact c_val (HP3.out _ _ (SRow.of_block k51)) rfl
    · go_light; intro listed a' w' hs hS hun hdep
      have eg : a'.eval (.tmp 48) = .bool true := hs.eval 26 _ 48 rfl (hdep ⟨26, .guard⟩ (by simp) rfl) rfl
      refine g_val (.agg (C.cv 0)) hS (wanted_yes rfl rfl rfl eg) ?_ rfl
      have hcn := BigFrame.eval_const a'
      have hfn := BigFrame.eval_func a'
      clear hs hdep
      generalize a'.eval = ev at *
      rw [← C.zero30]
      go_simp
    · go_light; intro listed a' w' hs hS hun hdep
      have eg : a'.eval (.tmp 48) = .bool true := hs.eval 26 _ 48 rfl (hdep ⟨26, .guard⟩ (by simp) rfl) rfl
      have e52 : a'.eval (.tmp 52) = .agg (C.cv 0) := hs.eval 30 _ 52 rfl (hdep ⟨30, .data⟩ (by simp) rfl) rfl
      have e53 : a'.eval (.tmp 53) = .agg (C.cv 0) := hs.eval 31 _ 53 rfl (hdep ⟨31, .data⟩ (by simp) rfl) rfl
      exact g_val (.bool true) hS (wanted_yes rfl rfl rfl eg) (run_op_same rfl e52 e53 h00) rfl
    · go_light; intro listed a' w' hs hS hun hdep
      have e48 : a'.eval (.tmp 48) = .bool true := hs.eval 26 _ 48 rfl (hdep ⟨26, .data⟩ (by simp) rfl) rfl
      have e54 : a'.eval (.tmp 54) = .bool true := hs.eval 32 _ 54 rfl (hdep ⟨32, .data⟩ (by simp) rfl) rfl
      refine g_val (.bool true) hS rfl ?_ rfl
      have hcn := BigFrame.eval_const a'
      have hfn := BigFrame.eval_func a'
      clear hs hdep
      generalize a'.eval = ev at *
      go_simp
    · go_light; intro listed a' w' hs hS hun hdep
      have e55 : a'.eval (.tmp 55) = .bool true := hs.eval 33 _ 55 rfl (hdep ⟨33, .data⟩ (by simp) rfl) rfl
      refine g_val (.bool true) hS rfl ?_ rfl
      have hcn := BigFrame.eval_const a'
      have hfn := BigFrame.eval_func a'
      clear hs hdep
      generalize a'.eval = ev at *
      go_simp
    · go_light; intro listed a' w' hs hS hun hdep
      have eg : a'.eval (.tmp 56) = .bool true := hs.eval 34 _ 56 rfl (hdep ⟨34, .guard⟩ (by simp) rfl) rfl
      refine g_call 11 #[] hS (wanted_yes rfl rfl rfl eg) ?_ ?_
      · have hcn := BigFrame.eval_const a'; have hfn := BigFrame.eval_func a'; clear hs hdep; generalize a'.eval = ev at *; go_simp
      · exact c_val (cats_awake w' (HL.out.below hS)) rfl
    · go_light; intro listed a' w' hs hS hun hdep
      have e56 : a'.eval (.tmp 56) = .bool true := hs.eval 34 _ 56 rfl (hdep ⟨34, .data⟩ (by simp) rfl) rfl
      have e57 : a'.eval (.tmp 57) = .bool true := hs.eval 35 _ 57 rfl (hdep ⟨35, .data⟩ (by simp) rfl) rfl
      refine g_val (.bool true) hS rfl ?_ rfl
      have hcn := BigFrame.eval_const a'
      have hfn := BigFrame.eval_func a'
      clear hs hdep
      generalize a'.eval = ev at *
      go_simp
    · go_light; intro listed a' w' hs hS hun hdep
      have e58 : a'.eval (.tmp 58) = .bool true := hs.eval 36 _ 58 rfl (hdep ⟨36, .data⟩ (by simp) rfl) rfl
      refine g_val (.bool true) hS rfl ?_ rfl
      have hcn := BigFrame.eval_const a'
      have hfn := BigFrame.eval_func a'
      clear hs hdep
      generalize a'.eval = ev at *
      go_simp
    · intro vs w9 hlen hV listed hall hS
      obtain ⟨v0, v1, v2, v3, v4, v5, v6, v7, v8, v9, v10, v11, v12, v13, v14, v15, v16, v17, v18, v19, v20, v21, v22, v23, v24, v25, v26, v27, v28, v29, v30, v31, v32, v33, v34, v35, v36, v37, rfl⟩ := vs_38 vs (hlen.trans rfl)
      have q0 : v0 = .agg (C.cv (u)) := hV 0 _ rfl
      have q1 : v1 = .int .i64 (cu : Nat) := hV 1 _ rfl
      have q2 : v2 = .agg (C.cv (m)) := hV 2 _ rfl
      have q3 : v3 = .int .i64 (cm : Nat) := hV 3 _ rfl
      have q4 : v4 = .int .i64 (sm : Nat) := hV 4 _ rfl
      have q5 : v5 = .agg (C.cv (a)) := hV 5 _ rfl
      have q6 : v6 = .int .i64 (ca : Nat) := hV 6 _ rfl
      have q7 : v7 = .agg (C.cv (b)) := hV 7 _ rfl
      have q8 : v8 = .int .i64 (cb : Nat) := hV 8 _ rfl
      have q9 : v9 = .int .i64 (sm : Nat) := hV 9 _ rfl
      have q10 : v10 = .bool true := hV 10 _ rfl
      have q11 : v11 = .bool true := hV 11 _ rfl
      have q12 : v12 = .agg (C.cv (rest)) := hV 12 _ rfl
      have q13 : v13 = .agg (C.cv (m)) := hV 13 _ rfl
      obtain ⟨ao14, cp14, q14, hro14⟩ : (.ints (C.list m) : GV).ok W0'.heap.size v14 w9 := hV 14 _ rfl
      have q15 : v15 = .agg (C.cv (a)) := hV 15 _ rfl
      have q16 : v16 = .agg (C.cv (a)) := hV 16 _ rfl
      have q17 : v17 = .bool true := hV 17 _ rfl
      have q18 : v18 = .bool true := hV 18 _ rfl
      have q19 : v19 = .bool true := hV 19 _ rfl
      have q20 : v20 = .agg (C.cv (a)) := hV 20 _ rfl
      have q21 : v21 = .slice lo cb lc := hV 21 _ rfl
      have q22 : v22 = .agg (C.cv (u)) := hV 22 _ rfl
      have q23 : v23 = .agg (C.cv (u)) := hV 23 _ rfl
      have q24 : v24 = .bool true := hV 24 _ rfl
      have q25 : v25 = .bool true := hV 25 _ rfl
      have q26 : v26 = .bool true := hV 26 _ rfl
      have q27 : v27 = .agg (C.cv (rest)) := hV 27 _ rfl
      have q28 : v28 = .agg (C.cv (b)) := hV 28 _ rfl
      obtain ⟨b29, hge29, q29, hbk29⟩ : (.row (setsX [b]) 23 1 : GV).ok W0'.heap.size v29 w9 := hV 29 _ rfl
      have q30 : v30 = .agg (C.cv 0) := hV 30 _ rfl
      have q31 : v31 = .agg (C.cv 0) := hV 31 _ rfl
      have q32 : v32 = .bool true := hV 32 _ rfl
      have q33 : v33 = .bool true := hV 33 _ rfl
      have q34 : v34 = .bool true := hV 34 _ rfl
      have q35 : v35 = .bool true := hV 35 _ rfl
      have q36 : v36 = .bool true := hV 36 _ rfl
      have q37 : v37 = .bool true := hV 37 _ rfl
      have hbel : Below W0'.heap.size W0' w9 := hS
      subst q0 q1 q2 q3 q4 q5 q6 q7 q8 q9 q10 q11 q12 q13 q14 q15 q16 q17 q18 q19 q20 q21 q22 q23 q24 q25 q26 q27 q28 q29 q30 q31 q32 q33 q34 q35 q36 q37
      clear hV hS hall
      simp only [lays, Act.put, List.setIfInBounds_toArray, List.set_cons_zero, List.set_cons_succ]
      go_wp2
      go_ret
      exact ⟨rfl, hb8.trans (hbel.mono hb8.size)⟩
#print axioms counts_all
end Go.Proofs.YtijgbmapfpjkfaaDoor
