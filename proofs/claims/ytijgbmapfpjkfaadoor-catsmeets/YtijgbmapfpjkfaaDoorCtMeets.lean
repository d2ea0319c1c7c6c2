/- The walk of CatsMeets. -/
import Derived.Test.YtijgbmapfpjkfaaDoorCtAwake
import Derived.Test.YtijgbmapfpjkfaaDoorCtSMath
namespace Go.Proofs.YtijgbmapfpjkfaaDoor
set_option maxRecDepth 100000
open Go.RowKit
set_option maxRecDepth 100000
set_option linter.unusedVariables false

namespace meets
theorem vs_cons {n : Nat} (vs : List Value) (h : vs.length = n + 1) : ∃ v r, vs = v :: r ∧ r.length = n := by
  cases vs with
  | nil => simp at h
  | cons v r => exact ⟨v, r, rfl, by simpa using h⟩
theorem vs_12 (vs : List Value) (h : vs.length = 12) : ∃ v0 v1 v2 v3 v4 v5 v6 v7 v8 v9 v10 v11, vs = [v0, v1, v2, v3, v4, v5, v6, v7, v8, v9, v10, v11] := by
  obtain ⟨v0, r0, rfl, h0⟩ := vs_cons vs h
  obtain ⟨v1, r1, rfl, h1⟩ := vs_cons r0 h0
  obtain ⟨v2, r2, rfl, h2⟩ := vs_cons r1 h1
  obtain ⟨v3, r3, rfl, h3⟩ := vs_cons r2 h2
  obtain ⟨v4, r4, rfl, h4⟩ := vs_cons r3 h3
  obtain ⟨v5, r5, rfl, h5⟩ := vs_cons r4 h4
  obtain ⟨v6, r6, rfl, h6⟩ := vs_cons r5 h5
  obtain ⟨v7, r7, rfl, h7⟩ := vs_cons r6 h6
  obtain ⟨v8, r8, rfl, h8⟩ := vs_cons r7 h7
  obtain ⟨v9, r9, rfl, h9⟩ := vs_cons r8 h8
  obtain ⟨v10, r10, rfl, h10⟩ := vs_cons r9 h9
  obtain ⟨v11, r11, rfl, h11⟩ := vs_cons r10 h10
  obtain rfl := List.eq_nil_of_length_eq_zero h11
  exact ⟨v0, v1, v2, v3, v4, v5, v6, v7, v8, v9, v10, v11, rfl⟩
theorem vs_32 (vs : List Value) (h : vs.length = 32) : ∃ v0 v1 v2 v3 v4 v5 v6 v7 v8 v9 v10 v11 v12 v13 v14 v15 v16 v17 v18 v19 v20 v21 v22 v23 v24 v25 v26 v27 v28 v29 v30 v31, vs = [v0, v1, v2, v3, v4, v5, v6, v7, v8, v9, v10, v11, v12, v13, v14, v15, v16, v17, v18, v19, v20, v21, v22, v23, v24, v25, v26, v27, v28, v29, v30, v31] := by
  obtain ⟨v0, r0, rfl, h0⟩ := vs_cons vs h
  obtain ⟨v1, r1, rfl, h1⟩ := vs_cons r0 h0
  obtain ⟨v2, r2, rfl, h2⟩ := vs_cons r1 h1
  obtain ⟨v3, r3, rfl, h3⟩ := vs_cons r2 h2
  obtain ⟨v4, r4, rfl, h4⟩ := vs_cons r3 h3
  obtain ⟨v5, r5, rfl, h5⟩ := vs_cons r4 h4
  obtain ⟨v6, r6, rfl, h6⟩ := vs_cons r5 h5
  obtain ⟨v7, r7, rfl, h7⟩ := vs_cons r6 h6
  obtain ⟨v8, r8, rfl, h8⟩ := vs_cons r7 h7
  obtain ⟨v9, r9, rfl, h9⟩ := vs_cons r8 h8
  obtain ⟨v10, r10, rfl, h10⟩ := vs_cons r9 h9
  obtain ⟨v11, r11, rfl, h11⟩ := vs_cons r10 h10
  obtain ⟨v12, r12, rfl, h12⟩ := vs_cons r11 h11
  obtain ⟨v13, r13, rfl, h13⟩ := vs_cons r12 h12
  obtain ⟨v14, r14, rfl, h14⟩ := vs_cons r13 h13
  obtain ⟨v15, r15, rfl, h15⟩ := vs_cons r14 h14
  obtain ⟨v16, r16, rfl, h16⟩ := vs_cons r15 h15
  obtain ⟨v17, r17, rfl, h17⟩ := vs_cons r16 h16
  obtain ⟨v18, r18, rfl, h18⟩ := vs_cons r17 h17
  obtain ⟨v19, r19, rfl, h19⟩ := vs_cons r18 h18
  obtain ⟨v20, r20, rfl, h20⟩ := vs_cons r19 h19
  obtain ⟨v21, r21, rfl, h21⟩ := vs_cons r20 h20
  obtain ⟨v22, r22, rfl, h22⟩ := vs_cons r21 h21
  obtain ⟨v23, r23, rfl, h23⟩ := vs_cons r22 h22
  obtain ⟨v24, r24, rfl, h24⟩ := vs_cons r23 h23
  obtain ⟨v25, r25, rfl, h25⟩ := vs_cons r24 h24
  obtain ⟨v26, r26, rfl, h26⟩ := vs_cons r25 h25
  obtain ⟨v27, r27, rfl, h27⟩ := vs_cons r26 h26
  obtain ⟨v28, r28, rfl, h28⟩ := vs_cons r27 h27
  obtain ⟨v29, r29, rfl, h29⟩ := vs_cons r28 h28
  obtain ⟨v30, r30, rfl, h30⟩ := vs_cons r29 h29
  obtain ⟨v31, r31, rfl, h31⟩ := vs_cons r30 h30
  obtain rfl := List.eq_nil_of_length_eq_zero h31
  exact ⟨v0, v1, v2, v3, v4, v5, v6, v7, v8, v9, v10, v11, v12, v13, v14, v15, v16, v17, v18, v19, v20, v21, v22, v23, v24, v25, v26, v27, v28, v29, v30, v31, rfl⟩
end meets
open meets
namespace C
theorem union_three (a b c : Nat) : union [a, b, c] = a ||| b ||| c := by simp [union]
theorem meet_two (a b c : Nat) : meet a [b, c] = a &&& b &&& c := rfl
theorem in_meet (a b c : Nat) (ha : a < 2 ^ 240) : meet (meet a [b, c]) [a] = meet a [b, c] :=
  within_yes (by rw [meet_two]; exact and_lt _ (and_lt _ ha)) fun k _ h => by
    rw [meet_two, has_and, has_and] at h
    cases h1 : hasN a k <;> simp [h1] at h <;> rfl
theorem in_union (a b c : Nat) (ha : a < 2 ^ 240) : meet a [union [a, b, c]] = a :=
  within_yes ha fun k _ h => by rw [union_three, has_or, has_or, h]; rfl
end C

set_option maxHeartbeats 8000000 in
theorem meets_all (a b c : Nat) (w : World) (ha : a < 2 ^ 240) (hb : b < 2 ^ 240) (hc : c < 2 ^ 240) (L : TabL w) :
    Calls Tryd.prog 4 #[.agg (C.cv a), .agg (C.cv b), .agg (C.cv c)] w fun e w' => e = .returned (.bool true) ∧ Below w.heap.size w w' := by
  have HA := Lib.hid (((SetAt.new w a).alloc (.cells (C.cv b) 23)).alloc (.cells (C.cv c) 23))
  have HB := Lib.hid ((setNew (w.alloc (.cells (C.cv a) 23)) b (w.heap.size + 1) (by simp)).alloc (.cells (C.cv c) 23))
  have HC := Lib.hid (setNew ((w.alloc (.cells (C.cv a) 23)).alloc (.cells (C.cv b) 23)) c (w.heap.size + 2) (by simp))
  have hb0 : Below w.heap.size w (((w.alloc (.cells (C.cv a) 23)).alloc (.cells (C.cv b) 23)).alloc (.cells (C.cv c) 23)) := (((Below.refl _ w).alloc (Nat.le_refl _) _).alloc (by simp) _).alloc (by simp; omega) _
  have HL0 := Lib.hid (L.below hb0)
  have h00 : (0 : Nat) < 2 ^ 240 := Nat.pow_pos (by decide)
  have HM1 := Lib.hid (C.in_meet a b c ha)
  have HM2 := Lib.hid (C.in_union a b c ha)
  have HK1 : Hid (∀ k, C.hasN (C.union [a, b, c]) k = (C.hasN a k || C.hasN b k || C.hasN c k)) := Lib.hid (fun k => by rw [C.union_three, C.has_or, C.has_or])
  have HK2 : Hid (∀ k, C.hasN (C.meet a [b, c]) k = (C.hasN a k && C.hasN b k && C.hasN c k)) := Lib.hid (fun k => by rw [C.meet_two, C.has_and, C.has_and])
  have hml : C.meet a [b, c] < 2 ^ 240 := by rw [C.meet_two]; exact C.and_lt _ (C.and_lt _ ha)
  clear L
  go_enter Tryd.func4, Tryd.ntmps4
  go_wp2
  generalize hW0 : ((w.alloc (.cells (C.cv a) 23)).alloc (.cells (C.cv b) 23)).alloc (.cells (C.cv c) 23) = W0 at *
  clear hW0
  refine region_gen_tail 12 (VG W0.heap.size [.val (.agg (C.cv (a))), .val (.agg (C.cv (b))), .val (.agg (C.cv (c))), .row (setsX [a, b, c]) 23 3, .val (.agg (C.cv (C.union [a, b, c]))), .val (.agg (C.cv (a))), .val (.agg (C.cv (b))), .val (.agg (C.cv (c))), .row (setsX [b, c]) 23 2, .val (.agg (C.cv (C.meet a [b, c]))), .ptr (C.cv 0) 23, .ptr (C.cv 0) 23]) (AS W0 [(10, 7), (11, 8)]) (by kernel_rfl) (by kernel_rfl) (by kernel_rfl) ⟨(Below.refl _ _).drew, fun p _ q _ _ h1 => by rw [getD_replicate_false] at h1; cases h1⟩ ⟨?_, ?_, ?_, ?_, ?_, ?_, ?_, ?_, ?_, ?_, ?_, ?_, trivial⟩ ?_
  · go_light; intro listed a' w' hs hS hun hdep
    have e3 : a'.eval (.tmp 3) = .pointer (some ⟨w.heap.size, 0, none⟩) := (hs.out 3 (by kernel_rfl)).trans (rfl)
    exact gA_val (.agg (C.cv (a))) hS rfl (run_op_load rfl e3 (HA.out.below hS.1 HA.out.lt)) rfl (by kernel_rfl)
  · go_light; intro listed a' w' hs hS hun hdep
    have e4 : a'.eval (.tmp 4) = .pointer (some ⟨(w.heap.size + 1), 0, none⟩) := (hs.out 4 (by kernel_rfl)).trans (rfl)
    exact gA_val (.agg (C.cv (b))) hS rfl (run_op_load rfl e4 (HB.out.below hS.1 HB.out.lt)) rfl (by kernel_rfl)
  · go_light; intro listed a' w' hs hS hun hdep
    have e5 : a'.eval (.tmp 5) = .pointer (some ⟨(w.heap.size + 2), 0, none⟩) := (hs.out 5 (by kernel_rfl)).trans (rfl)
    exact gA_val (.agg (C.cv (c))) hS rfl (run_op_load rfl e5 (HC.out.below hS.1 HC.out.lt)) rfl (by kernel_rfl)
  · go_light; intro listed a' w' hs hS hun hdep
    have e13 : a'.eval (.tmp 13) = .agg (C.cv (a)) := hs.eval 0 _ 13 rfl (hdep ⟨0, .data⟩ (by simp) rfl) rfl
    have e14 : a'.eval (.tmp 14) = .agg (C.cv (b)) := hs.eval 1 _ 14 rfl (hdep ⟨1, .data⟩ (by simp) rfl) rfl
    have e15 : a'.eval (.tmp 15) = .agg (C.cv (c)) := hs.eval 2 _ 15 rfl (hdep ⟨2, .data⟩ (by simp) rfl) rfl
    exact gA_new (.slice (some ⟨w'.heap.size, 0, none⟩) 3 3) _ hS rfl (run_op_sets [a, b, c] rfl (by simp [e13, e14, e15]) rfl (by simp) (by simp)) ⟨w'.heap.size, Below.size hS.1, rfl, heap_alloc_new w' _⟩ (by kernel_rfl)
  · go_light; intro listed a' w' hs hS hun hdep
    have r16 : (.row (setsX [a, b, c]) 23 3 : GV).ok W0.heap.size (a'.eval (.tmp 16)) w' := hs.eval 3 _ 16 rfl (hdep ⟨3, .data⟩ (by simp) rfl)  rfl
    obtain ⟨b16, _, e16, k16⟩ := r16
    refine gA_call 23 #[.slice (some ⟨b16, 0, none⟩) 3 3] hS rfl ?_ (by kernel_rfl) ?_
    · have hcn := BigFrame.eval_const a'; have hfn := BigFrame.eval_func a'; clear hs hdep; generalize a'.eval = ev at *; go_simp
    · exact c_val (Union_any (some ⟨b16, 0, none⟩) 3 [a, b, c] w' (SRow.of_block k16) (by unfold maxLen; simp)) rfl
  · go_light; intro listed a' w' hs hS hun hdep
    have e3 : a'.eval (.tmp 3) = .pointer (some ⟨w.heap.size, 0, none⟩) := (hs.out 3 (by kernel_rfl)).trans (rfl)
    exact gA_val (.agg (C.cv (a))) hS rfl (run_op_load rfl e3 (HA.out.below hS.1 HA.out.lt)) rfl (by kernel_rfl)
  · go_light; intro listed a' w' hs hS hun hdep
    have e4 : a'.eval (.tmp 4) = .pointer (some ⟨(w.heap.size + 1), 0, none⟩) := (hs.out 4 (by kernel_rfl)).trans (rfl)
    exact gA_val (.agg (C.cv (b))) hS rfl (run_op_load rfl e4 (HB.out.below hS.1 HB.out.lt)) rfl (by kernel_rfl)
  · go_light; intro listed a' w' hs hS hun hdep
    have e5 : a'.eval (.tmp 5) = .pointer (some ⟨(w.heap.size + 2), 0, none⟩) := (hs.out 5 (by kernel_rfl)).trans (rfl)
    exact gA_val (.agg (C.cv (c))) hS rfl (run_op_load rfl e5 (HC.out.below hS.1 HC.out.lt)) rfl (by kernel_rfl)
  · go_light; intro listed a' w' hs hS hun hdep
    have e19 : a'.eval (.tmp 19) = .agg (C.cv (b)) := hs.eval 6 _ 19 rfl (hdep ⟨6, .data⟩ (by simp) rfl) rfl
    have e20 : a'.eval (.tmp 20) = .agg (C.cv (c)) := hs.eval 7 _ 20 rfl (hdep ⟨7, .data⟩ (by simp) rfl) rfl
    exact gA_new (.slice (some ⟨w'.heap.size, 0, none⟩) 2 2) _ hS rfl (run_op_sets [b, c] rfl (by simp [e19, e20]) rfl (by simp) (by simp)) ⟨w'.heap.size, Below.size hS.1, rfl, heap_alloc_new w' _⟩ (by kernel_rfl)
  · go_light; intro listed a' w' hs hS hun hdep
    have e18 : a'.eval (.tmp 18) = .agg (C.cv (a)) := hs.eval 5 _ 18 rfl (hdep ⟨5, .data⟩ (by simp) rfl) rfl
    have r21 : (.row (setsX [b, c]) 23 2 : GV).ok W0.heap.size (a'.eval (.tmp 21)) w' := hs.eval 8 _ 21 rfl (hdep ⟨8, .data⟩ (by simp) rfl)  rfl
    obtain ⟨b21, _, e21, k21⟩ := r21
    refine gA_call 24 #[.agg (C.cv (a)), .slice (some ⟨b21, 0, none⟩) 2 2] hS rfl ?_ (by kernel_rfl) ?_
    · have hcn := BigFrame.eval_const a'; have hfn := BigFrame.eval_func a'; clear hs hdep; generalize a'.eval = ev at *; go_simp
    · exact c_val (Meet_any a (some ⟨b21, 0, none⟩) 2 [b, c] w' (SRow.of_block k21) (by unfold maxLen; simp)) rfl
  · go_light; intro listed a' w' hs hS hun hdep
    refine gA_make (d := 7) (.cells (C.cv 0) 23) hS hs rfl ?_ ⟨w'.heap.size, Below.size hS.1, rfl, heap_alloc_new w' _⟩ rfl (of_decide_eq_true (by kernel_rfl)) (by kernel_rfl)
    have hcn := BigFrame.eval_const a'
    have hfn := BigFrame.eval_func a'
    clear hs hdep
    generalize a'.eval = ev at *
    rw [← C.zero30]
    go_simp
  · go_light; intro listed a' w' hs hS hun hdep
    refine gA_make (d := 8) (.cells (C.cv 0) 23) hS hs rfl ?_ ⟨w'.heap.size, Below.size hS.1, rfl, heap_alloc_new w' _⟩ rfl (of_decide_eq_true (by kernel_rfl)) (by kernel_rfl)
    have hcn := BigFrame.eval_const a'
    have hfn := BigFrame.eval_func a'
    clear hs hdep
    generalize a'.eval = ev at *
    rw [← C.zero30]
    go_simp
  · intro vs w3 hlen hV hS
    obtain ⟨v0, v1, v2, v3, v4, v5, v6, v7, v8, v9, v10, v11, rfl⟩ := vs_12 vs (hlen.trans rfl)
    have q0 : v0 = .agg (C.cv (a)) := hV 0 _ rfl
    have q1 : v1 = .agg (C.cv (b)) := hV 1 _ rfl
    have q2 : v2 = .agg (C.cv (c)) := hV 2 _ rfl
    obtain ⟨b3, hge3, q3, hbk3⟩ : (.row (setsX [a, b, c]) 23 3 : GV).ok W0.heap.size v3 w3 := hV 3 _ rfl
    have q4 : v4 = .agg (C.cv (C.union [a, b, c])) := hV 4 _ rfl
    have q5 : v5 = .agg (C.cv (a)) := hV 5 _ rfl
    have q6 : v6 = .agg (C.cv (b)) := hV 6 _ rfl
    have q7 : v7 = .agg (C.cv (c)) := hV 7 _ rfl
    obtain ⟨b8, hge8, q8, hbk8⟩ : (.row (setsX [b, c]) 23 2 : GV).ok W0.heap.size v8 w3 := hV 8 _ rfl
    have q9 : v9 = .agg (C.cv (C.meet a [b, c])) := hV 9 _ rfl
    obtain ⟨b10, hge10, q10, hbk10⟩ : (.ptr (C.cv 0) 23 : GV).ok W0.heap.size v10 w3 := hV 10 _ rfl
    obtain ⟨b11, hge11, q11, hbk11⟩ : (.ptr (C.cv 0) 23 : GV).ok W0.heap.size v11 w3 := hV 11 _ rfl
    have hbel : Below W0.heap.size W0 w3 := hS.1
    have hdis := hS.2
    subst q0 q1 q2 q3 q4 q5 q6 q7 q8 q9 q10 q11
    clear hV hS
    simp only [lays, Act.put, List.setIfInBounds_toArray, List.set_cons_zero, List.set_cons_succ, List.drop_succ_cons, List.drop_zero, List.take_succ_cons, List.take_zero]
    have hne : b10 ≠ b11 := by
      have h := hdis (10, 7) (by simp) (11, 8) (by simp) (by decide) (by simp [canonN]) (by simp [canonN])
      simp [lays, Act.put, Act.eval] at h
      exact h
    clear hdis
    have H8 : Hid (SetAt w3 b10 0) := Lib.hid hbk10
    have H9 : Hid (SetAt w3 b11 0) := Lib.hid hbk11
    have HA3 := Lib.hid (HA.out.below hbel HA.out.lt)
    have HB3 := Lib.hid (HB.out.below hbel HB.out.lt)
    have HC3 := Lib.hid (HC.out.below hbel HC.out.lt)
    have HL3 := Lib.hid (HL0.out.below hbel)
    have hb3 := hb0.trans (hbel.mono hb0.size)
    have hw0 := hb0.size
    have la := HA.out.lt
    have lb := HB.out.lt
    have lc := HC.out.lt
    have hl4 := HL0.out.size
    clear hbk10 hbk11 HA HB HC HL0 hbel hb0 hbk3 hbk8 hge3 hge8
    go_wp2_with (first | (refine store_set rfl rfl rfl rfl H8.out ?_; intro w4 hs4 ho4; have HU4 := Lib.hid hs4; have HO4 := Lib.hid ho4; clear hs4 ho4) | (refine store_set rfl rfl rfl rfl (H9.out.only HO4.out (Ne.symm hne)) ?_; intro w5 hs5 ho5; have HM5 := Lib.hid hs5; have HO5 := Lib.hid ho5; clear hs5 ho5))
    have hb5 : Below w.heap.size w w5 := (hb3.trans (HO4.out.below (by omega))).trans (HO5.out.below (by omega))
    have HA5 := Lib.hid ((HA3.out.only HO4.out (by omega)).only HO5.out (by omega))
    have HB5 := Lib.hid ((HB3.out.only HO4.out (by omega)).only HO5.out (by omega))
    have HC5 := Lib.hid ((HC3.out.only HO4.out (by omega)).only HO5.out (by omega))
    have HU5 := Lib.hid (HU4.out.only HO5.out hne)
    have HL5 := Lib.hid ((HL3.out.only HO4.out (by omega)).only HO5.out (by omega))
    clear HA3 HB3 HC3 HL3 HU4 HO4 HO5 H8 H9 hb3 hw0 la lb lc hl4 hge10 hge11
    generalize C.union [a, b, c] = u at *
    generalize C.meet a [b, c] = m at *
    go_loopw [9] (fun i wr => ∃ k : Nat, k ≤ 240 ∧ i = .int .i64 k ∧ Below w5.heap.size w5 wr) (fun i _ => 240 - (intOf i).toNat)
    case atStart => exact ⟨0, by omega, rfl, Below.refl _ _⟩
    case round =>
      obtain ⟨k, hk, rfl, hbr⟩ := hrel
      have HA := Lib.hid (HA5.out.below hbr HA5.out.lt)
      have HB := Lib.hid (HB5.out.below hbr HB5.out.lt)
      have HC := Lib.hid (HC5.out.below hbr HC5.out.lt)
      have HU := Lib.hid (HU5.out.below hbr HU5.out.lt)
      have HM := Lib.hid (HM5.out.below hbr HM5.out.lt)
      have HL := Lib.hid (HL5.out.below hbr)
      by_cases hlt : k < 240
      · have hk' : (k : Int) < 240 := by omega
        have E1 := Lib.hid (HK1.out k)
        have E2 := Lib.hid (HK2.out k)
        obtain ⟨x, hx⟩ : ∃ x, C.hasN a k = x := ⟨_, rfl⟩
        obtain ⟨y, hy⟩ : ∃ y, C.hasN b k = y := ⟨_, rfl⟩
        obtain ⟨z, hz⟩ : ∃ z, C.hasN c k = z := ⟨_, rfl⟩
        rw [hx, hy, hz] at E1 E2
        have X := Lib.hid hx
        have Y := Lib.hid hy
        have Z := Lib.hid hz
        clear hx hy hz
        go_wp2
        refine region_gen (VG wr.heap.size [.val (.agg (C.cv (a))), .val (.int .i64 (k : Nat)), .val (.bool x), .val (.agg (C.cv (b))), .val (.int .i64 (k : Nat)), .val (.bool y), .val (.agg (C.cv (c))), .val (.int .i64 (k : Nat)), .val (.bool z), .val (.bool x), .val (.bool y), .val (.bool z)]) (BS wr) (by kernel_rfl) (by kernel_rfl) (Below.refl _ _).drew ⟨?_, ?_, ?_, ?_, ?_, ?_, ?_, ?_, ?_, ?_, ?_, ?_, trivial⟩ ?_
        · go_light; intro listed a' w' hs hS hun hdep
          have e3 : a'.eval (.tmp 3) = .pointer (some ⟨w.heap.size, 0, none⟩) := (hs.out 3 (by kernel_rfl)).trans (rfl)
          exact g_val (.agg (C.cv (a))) hS rfl (run_op_load rfl e3 (HA.out.below hS HA.out.lt)) rfl
        · go_light; intro listed a' w' hs hS hun hdep
          have e9 : a'.eval (.tmp 9) = .int .i64 (k : Nat) := (hs.out 9 (by kernel_rfl)).trans (rfl)
          refine g_val (.int .i64 (k : Nat)) hS rfl ?_ rfl
          have hcn := BigFrame.eval_const a'
          have hfn := BigFrame.eval_func a'
          clear hs hdep
          generalize a'.eval = ev at *
          go_simp
        · go_light; intro listed a' w' hs hS hun hdep
          have e27 : a'.eval (.tmp 27) = .agg (C.cv (a)) := hs.eval 0 _ 27 rfl (hdep ⟨0, .data⟩ (by simp) rfl) rfl
          have e28 : a'.eval (.tmp 28) = .int .i64 (k : Nat) := hs.eval 1 _ 28 rfl (hdep ⟨1, .data⟩ (by simp) rfl) rfl
          refine g_call 18 #[.agg (C.cv (a)), .int .i64 (k : Nat)] hS rfl ?_ ?_
          · have hcn := BigFrame.eval_const a'; have hfn := BigFrame.eval_func a'; clear hs hdep; generalize a'.eval = ev at *; go_simp
          · exact c_val (RHas_in a k w' hlt x X.out) rfl
        · go_light; intro listed a' w' hs hS hun hdep
          have e4 : a'.eval (.tmp 4) = .pointer (some ⟨(w.heap.size + 1), 0, none⟩) := (hs.out 4 (by kernel_rfl)).trans (rfl)
          exact g_val (.agg (C.cv (b))) hS rfl (run_op_load rfl e4 (HB.out.below hS HB.out.lt)) rfl
        · go_light; intro listed a' w' hs hS hun hdep
          have e9 : a'.eval (.tmp 9) = .int .i64 (k : Nat) := (hs.out 9 (by kernel_rfl)).trans (rfl)
          refine g_val (.int .i64 (k : Nat)) hS rfl ?_ rfl
          have hcn := BigFrame.eval_const a'
          have hfn := BigFrame.eval_func a'
          clear hs hdep
          generalize a'.eval = ev at *
          go_simp
        · go_light; intro listed a' w' hs hS hun hdep
          have e30 : a'.eval (.tmp 30) = .agg (C.cv (b)) := hs.eval 3 _ 30 rfl (hdep ⟨3, .data⟩ (by simp) rfl) rfl
          have e31 : a'.eval (.tmp 31) = .int .i64 (k : Nat) := hs.eval 4 _ 31 rfl (hdep ⟨4, .data⟩ (by simp) rfl) rfl
          refine g_call 18 #[.agg (C.cv (b)), .int .i64 (k : Nat)] hS rfl ?_ ?_
          · have hcn := BigFrame.eval_const a'; have hfn := BigFrame.eval_func a'; clear hs hdep; generalize a'.eval = ev at *; go_simp
          · exact c_val (RHas_in b k w' hlt y Y.out) rfl
        · go_light; intro listed a' w' hs hS hun hdep
          have e5 : a'.eval (.tmp 5) = .pointer (some ⟨(w.heap.size + 2), 0, none⟩) := (hs.out 5 (by kernel_rfl)).trans (rfl)
          exact g_val (.agg (C.cv (c))) hS rfl (run_op_load rfl e5 (HC.out.below hS HC.out.lt)) rfl
        · go_light; intro listed a' w' hs hS hun hdep
          have e9 : a'.eval (.tmp 9) = .int .i64 (k : Nat) := (hs.out 9 (by kernel_rfl)).trans (rfl)
          refine g_val (.int .i64 (k : Nat)) hS rfl ?_ rfl
          have hcn := BigFrame.eval_const a'
          have hfn := BigFrame.eval_func a'
          clear hs hdep
          generalize a'.eval = ev at *
          go_simp
        · go_light; intro listed a' w' hs hS hun hdep
          have e33 : a'.eval (.tmp 33) = .agg (C.cv (c)) := hs.eval 6 _ 33 rfl (hdep ⟨6, .data⟩ (by simp) rfl) rfl
          have e34 : a'.eval (.tmp 34) = .int .i64 (k : Nat) := hs.eval 7 _ 34 rfl (hdep ⟨7, .data⟩ (by simp) rfl) rfl
          refine g_call 18 #[.agg (C.cv (c)), .int .i64 (k : Nat)] hS rfl ?_ ?_
          · have hcn := BigFrame.eval_const a'; have hfn := BigFrame.eval_func a'; clear hs hdep; generalize a'.eval = ev at *; go_simp
          · exact c_val (RHas_in c k w' hlt z Z.out) rfl
        · go_light; intro listed a' w' hs hS hun hdep
          have e29 : a'.eval (.tmp 29) = .bool x := hs.eval 2 _ 29 rfl (hdep ⟨2, .data⟩ (by simp) rfl) rfl
          refine g_val (.bool x) hS rfl ?_ rfl
          have hcn := BigFrame.eval_const a'
          have hfn := BigFrame.eval_func a'
          clear hs hdep
          generalize a'.eval = ev at *
          go_simp
        · go_light; intro listed a' w' hs hS hun hdep
          have e32 : a'.eval (.tmp 32) = .bool y := hs.eval 5 _ 32 rfl (hdep ⟨5, .data⟩ (by simp) rfl) rfl
          refine g_val (.bool y) hS rfl ?_ rfl
          have hcn := BigFrame.eval_const a'
          have hfn := BigFrame.eval_func a'
          clear hs hdep
          generalize a'.eval = ev at *
          go_simp
        · go_light; intro listed a' w' hs hS hun hdep
          have e35 : a'.eval (.tmp 35) = .bool z := hs.eval 8 _ 35 rfl (hdep ⟨8, .data⟩ (by simp) rfl) rfl
          refine g_val (.bool z) hS rfl ?_ rfl
          have hcn := BigFrame.eval_const a'
          have hfn := BigFrame.eval_func a'
          clear hs hdep
          generalize a'.eval = ev at *
          go_simp
        · intro vs w6 hlen hV listed hall hS
          obtain ⟨v0, v1, v2, v3, v4, v5, v6, v7, v8, v9, v10, v11, rfl⟩ := vs_12 vs (hlen.trans rfl)
          have q0 : v0 = .agg (C.cv (a)) := hV 0 _ rfl
          have q1 : v1 = .int .i64 (k : Nat) := hV 1 _ rfl
          have q2 : v2 = .bool x := hV 2 _ rfl
          have q3 : v3 = .agg (C.cv (b)) := hV 3 _ rfl
          have q4 : v4 = .int .i64 (k : Nat) := hV 4 _ rfl
          have q5 : v5 = .bool y := hV 5 _ rfl
          have q6 : v6 = .agg (C.cv (c)) := hV 6 _ rfl
          have q7 : v7 = .int .i64 (k : Nat) := hV 7 _ rfl
          have q8 : v8 = .bool z := hV 8 _ rfl
          have q9 : v9 = .bool x := hV 9 _ rfl
          have q10 : v10 = .bool y := hV 10 _ rfl
          have q11 : v11 = .bool z := hV 11 _ rfl
          have hbel : Below wr.heap.size wr w6 := hS
          subst q0 q1 q2 q3 q4 q5 q6 q7 q8 q9 q10 q11
          clear hV hS hall
          simp only [lays, Act.put, List.setIfInBounds_toArray, List.set_cons_zero, List.set_cons_succ]
          have hb6 := hbr.trans (hbel.mono hbr.size)
          have HU6 := Lib.hid (HU.out.below hbel HU.out.lt)
          have HM6 := Lib.hid (HM.out.below hbel HM.out.lt)
          clear hbel hbr HA HB HC HU HM HL X Y Z
          cases x <;> cases y <;> cases z
          all_goals
            go_wp2_with (refine load_set rfl rfl rfl HU6.out ?_)
            refine (RHas_in u k _ hlt _ E1.out).mono ?_
            rintro e w7 ⟨rfl, hb7⟩
            have hbw7 := hb6.trans (hb7.mono hb6.size)
            have HM7 := Lib.hid (HM6.out.below hb7 HM6.out.lt)
            clear hb7 HU6 HM6 hb6
            go_wp2_with (refine load_set rfl rfl rfl HM7.out ?_)
            refine (RHas_in m k _ hlt _ E2.out).mono ?_
            rintro e w8 ⟨rfl, hb8⟩
            have hbw8 := hbw7.trans (hb8.mono hbw7.size)
            clear hb8 HM7 hbw7
            go_wp2
            go_roundw
            case rel => exact ⟨k + 1, by omega, by go_num, hbw8⟩
            case measure => simp [intOf]; omega
      · obtain rfl : k = 240 := by omega
        obtain ⟨wi, hwi⟩ : ∃ wi, decide (C.meet a [b] = a) = wi := ⟨_, rfl⟩
        have HW0 : Hid (∀ w', Calls Tryd.prog 25 #[.agg (C.cv a), .agg (C.cv b)] w' fun e w'' => e = .returned (.bool wi) ∧ Below w'.heap.size w' w'') := Lib.hid (fun w' => by have := Within_any a b w' ha; rw [hwi] at this; exact this)
        have HW1 : Hid (∀ w', Calls Tryd.prog 26 #[.agg (C.cv a), .agg (C.cv b)] w' fun e w'' => e = .returned (.bool wi) ∧ Below w'.heap.size w' w'') := Lib.hid (fun w' => by have := RWithin_any a b w' ha; rw [hwi] at this; exact this)
        have HW2 : Hid (∀ w', Calls Tryd.prog 25 #[.agg (C.cv m), .agg (C.cv a)] w' fun e w'' => e = .returned (.bool true) ∧ Below w'.heap.size w' w'') := Lib.hid (fun w' => by have := Within_any m a w' hml; rw [decide_eq_true HM1.out] at this; exact this)
        have HW3 : Hid (∀ w', Calls Tryd.prog 25 #[.agg (C.cv a), .agg (C.cv u)] w' fun e w'' => e = .returned (.bool true) ∧ Below w'.heap.size w' w'') := Lib.hid (fun w' => by have := Within_any a u w' ha; rw [decide_eq_true HM2.out] at this; exact this)
        clear hwi HK1 HK2 HM1 HM2 HA5 HB5 HC5 HU5 HM5 HL5 HC
        go_wp2
        refine region_gen (VG wr.heap.size [.val (.agg (C.cv (a))), .val (.agg (C.cv (b))), .val (.bool wi), .val (.agg (C.cv (a))), .val (.agg (C.cv (b))), .val (.bool wi), .val (.bool true), .val (.bool true), .val (.agg (C.cv (m))), .val (.agg (C.cv (a))), .val (.bool true), .val (.bool true), .val (.bool true), .val (.agg (C.cv (a))), .val (.agg (C.cv (u))), .val (.bool true), .val (.bool true), .val (.bool true), .val (.agg (C.cv (a))), .val (.agg (C.cv (a))), .val (.agg (C.cv (a))), .val (.bool true), .val (.bool true), .val (.bool true), .val (.agg (C.cv 0)), .val (.agg (C.cv 0)), .val (.bool true), .val (.bool true), .val (.bool true), .val (.bool true), .val (.bool true), .val (.bool true)]) (BS wr) (by kernel_rfl) (by kernel_rfl) (Below.refl _ _).drew ⟨?_, ?_, ?_, ?_, ?_, ?_, ?_, ?_, ?_, ?_, ?_, ?_, ?_, ?_, ?_, ?_, ?_, ?_, ?_, ?_, ?_, ?_, ?_, ?_, ?_, ?_, ?_, ?_, ?_, ?_, ?_, ?_, trivial⟩ ?_
        · go_light; intro listed a' w' hs hS hun hdep
          have e3 : a'.eval (.tmp 3) = .pointer (some ⟨w.heap.size, 0, none⟩) := (hs.out 3 (by kernel_rfl)).trans (rfl)
          exact g_val (.agg (C.cv (a))) hS rfl (run_op_load rfl e3 (HA.out.below hS HA.out.lt)) rfl
        · go_light; intro listed a' w' hs hS hun hdep
          have e4 : a'.eval (.tmp 4) = .pointer (some ⟨(w.heap.size + 1), 0, none⟩) := (hs.out 4 (by kernel_rfl)).trans (rfl)
          exact g_val (.agg (C.cv (b))) hS rfl (run_op_load rfl e4 (HB.out.below hS HB.out.lt)) rfl
        · go_light; intro listed a' w' hs hS hun hdep
          have e60 : a'.eval (.tmp 60) = .agg (C.cv (a)) := hs.eval 0 _ 60 rfl (hdep ⟨0, .data⟩ (by simp) rfl) rfl
          have e61 : a'.eval (.tmp 61) = .agg (C.cv (b)) := hs.eval 1 _ 61 rfl (hdep ⟨1, .data⟩ (by simp) rfl) rfl
          refine g_call 25 #[.agg (C.cv (a)), .agg (C.cv (b))] hS rfl ?_ ?_
          · have hcn := BigFrame.eval_const a'; have hfn := BigFrame.eval_func a'; clear hs hdep; generalize a'.eval = ev at *; go_simp
          · exact c_val (HW0.out w') rfl
        · go_light; intro listed a' w' hs hS hun hdep
          have e3 : a'.eval (.tmp 3) = .pointer (some ⟨w.heap.size, 0, none⟩) := (hs.out 3 (by kernel_rfl)).trans (rfl)
          exact g_val (.agg (C.cv (a))) hS rfl (run_op_load rfl e3 (HA.out.below hS HA.out.lt)) rfl
        · go_light; intro listed a' w' hs hS hun hdep
          have e4 : a'.eval (.tmp 4) = .pointer (some ⟨(w.heap.size + 1), 0, none⟩) := (hs.out 4 (by kernel_rfl)).trans (rfl)
          exact g_val (.agg (C.cv (b))) hS rfl (run_op_load rfl e4 (HB.out.below hS HB.out.lt)) rfl
        · go_light; intro listed a' w' hs hS hun hdep
          have e63 : a'.eval (.tmp 63) = .agg (C.cv (a)) := hs.eval 3 _ 63 rfl (hdep ⟨3, .data⟩ (by simp) rfl) rfl
          have e64 : a'.eval (.tmp 64) = .agg (C.cv (b)) := hs.eval 4 _ 64 rfl (hdep ⟨4, .data⟩ (by simp) rfl) rfl
          refine g_call 26 #[.agg (C.cv (a)), .agg (C.cv (b))] hS rfl ?_ ?_
          · have hcn := BigFrame.eval_const a'; have hfn := BigFrame.eval_func a'; clear hs hdep; generalize a'.eval = ev at *; go_simp
          · exact c_val (HW1.out w') rfl
        · go_light; intro listed a' w' hs hS hun hdep
          have e62 : a'.eval (.tmp 62) = .bool wi := hs.eval 2 _ 62 rfl (hdep ⟨2, .data⟩ (by simp) rfl) rfl
          have e65 : a'.eval (.tmp 65) = .bool wi := hs.eval 5 _ 65 rfl (hdep ⟨5, .data⟩ (by simp) rfl) rfl
          refine g_val (.bool true) hS rfl ?_ rfl
          have hcn := BigFrame.eval_const a'
          have hfn := BigFrame.eval_func a'
          clear hs hdep
          generalize a'.eval = ev at *
          go_simp
        · go_light; intro listed a' w' hs hS hun hdep
          have e66 : a'.eval (.tmp 66) = .bool true := hs.eval 6 _ 66 rfl (hdep ⟨6, .data⟩ (by simp) rfl) rfl
          refine g_val (.bool true) hS rfl ?_ rfl
          have hcn := BigFrame.eval_const a'
          have hfn := BigFrame.eval_func a'
          clear hs hdep
          generalize a'.eval = ev at *
          go_simp
        · go_light; intro listed a' w' hs hS hun hdep
          have eg : a'.eval (.tmp 67) = .bool true := hs.eval 7 _ 67 rfl (hdep ⟨7, .guard⟩ (by simp) rfl) rfl
          have e8 : a'.eval (.tmp 8) = .pointer (some ⟨b11, 0, none⟩) := (hs.out 8 (by kernel_rfl)).trans (rfl)
          exact g_val (.agg (C.cv (m))) hS (wanted_yes rfl rfl rfl eg) (run_op_load rfl e8 (HM.out.below hS HM.out.lt)) rfl
        · go_light; intro listed a' w' hs hS hun hdep
          have eg : a'.eval (.tmp 67) = .bool true := hs.eval 7 _ 67 rfl (hdep ⟨7, .guard⟩ (by simp) rfl) rfl
          have e3 : a'.eval (.tmp 3) = .pointer (some ⟨w.heap.size, 0, none⟩) := (hs.out 3 (by kernel_rfl)).trans (rfl)
          exact g_val (.agg (C.cv (a))) hS (wanted_yes rfl rfl rfl eg) (run_op_load rfl e3 (HA.out.below hS HA.out.lt)) rfl
        · go_light; intro listed a' w' hs hS hun hdep
          have eg : a'.eval (.tmp 67) = .bool true := hs.eval 7 _ 67 rfl (hdep ⟨7, .guard⟩ (by simp) rfl) rfl
          have e68 : a'.eval (.tmp 68) = .agg (C.cv (m)) := hs.eval 8 _ 68 rfl (hdep ⟨8, .data⟩ (by simp) rfl) rfl
          have e69 : a'.eval (.tmp 69) = .agg (C.cv (a)) := hs.eval 9 _ 69 rfl (hdep ⟨9, .data⟩ (by simp) rfl) rfl
          refine g_call 25 #[.agg (C.cv (m)), .agg (C.cv (a))] hS (wanted_yes rfl rfl rfl eg) ?_ ?_
          · have hcn := BigFrame.eval_const a'; have hfn := BigFrame.eval_func a'; clear hs hdep; generalize a'.eval = ev at *; go_simp
          · exact c_val (HW2.out w') rfl
        · go_light; intro listed a' w' hs hS hun hdep
          have e67 : a'.eval (.tmp 67) = .bool true := hs.eval 7 _ 67 rfl (hdep ⟨7, .data⟩ (by simp) rfl) rfl
          have e70 : a'.eval (.tmp 70) = .bool true := hs.eval 10 _ 70 rfl (hdep ⟨10, .data⟩ (by simp) rfl) rfl
          refine g_val (.bool true) hS rfl ?_ rfl
          have hcn := BigFrame.eval_const a'
          have hfn := BigFrame.eval_func a'
          clear hs hdep
          generalize a'.eval = ev at *
          go_simp
        · go_light; intro listed a' w' hs hS hun hdep
          have e71 : a'.eval (.tmp 71) = .bool true := hs.eval 11 _ 71 rfl (hdep ⟨11, .data⟩ (by simp) rfl) rfl
          refine g_val (.bool true) hS rfl ?_ rfl
          have hcn := BigFrame.eval_const a'
          have hfn := BigFrame.eval_func a'
          clear hs hdep
          generalize a'.eval = ev at *
          go_simp
        · go_light; intro listed a' w' hs hS hun hdep
          have eg : a'.eval (.tmp 72) = .bool true := hs.eval 12 _ 72 rfl (hdep ⟨12, .guard⟩ (by simp) rfl) rfl
          have e3 : a'.eval (.tmp 3) = .pointer (some ⟨w.heap.size, 0, none⟩) := (hs.out 3 (by kernel_rfl)).trans (rfl)
          exact g_val (.agg (C.cv (a))) hS (wanted_yes rfl rfl rfl eg) (run_op_load rfl e3 (HA.out.below hS HA.out.lt)) rfl
        · go_light; intro listed a' w' hs hS hun hdep
          have eg : a'.eval (.tmp 72) = .bool true := hs.eval 12 _ 72 rfl (hdep ⟨12, .guard⟩ (by simp) rfl) rfl
          have e7 : a'.eval (.tmp 7) = .pointer (some ⟨b10, 0, none⟩) := (hs.out 7 (by kernel_rfl)).trans (rfl)
          exact g_val (.agg (C.cv (u))) hS (wanted_yes rfl rfl rfl eg) (run_op_load rfl e7 (HU.out.below hS HU.out.lt)) rfl
        · go_light; intro listed a' w' hs hS hun hdep
          have eg : a'.eval (.tmp 72) = .bool true := hs.eval 12 _ 72 rfl (hdep ⟨12, .guard⟩ (by simp) rfl) rfl
          have e73 : a'.eval (.tmp 73) = .agg (C.cv (a)) := hs.eval 13 _ 73 rfl (hdep ⟨13, .data⟩ (by simp) rfl) rfl
          have e74 : a'.eval (.tmp 74) = .agg (C.cv (u)) := hs.eval 14 _ 74 rfl (hdep ⟨14, .data⟩ (by simp) rfl) rfl
          refine g_call 25 #[.agg (C.cv (a)), .agg (C.cv (u))] hS (wanted_yes rfl rfl rfl eg) ?_ ?_
          · have hcn := BigFrame.eval_const a'; have hfn := BigFrame.eval_func a'; clear hs hdep; generalize a'.eval = ev at *; go_simp
          · exact c_val (HW3.out w') rfl
        · go_light; intro listed a' w' hs hS hun hdep
          have e72 : a'.eval (.tmp 72) = .bool true := hs.eval 12 _ 72 rfl (hdep ⟨12, .data⟩ (by simp) rfl) rfl
          have e75 : a'.eval (.tmp 75) = .bool true := hs.eval 15 _ 75 rfl (hdep ⟨15, .data⟩ (by simp) rfl) rfl
          refine g_val (.bool true) hS rfl ?_ rfl
          have hcn := BigFrame.eval_const a'
          have hfn := BigFrame.eval_func a'
          clear hs hdep
          generalize a'.eval = ev at *
          go_simp
        · go_light; intro listed a' w' hs hS hun hdep
          have e76 : a'.eval (.tmp 76) = .bool true := hs.eval 16 _ 76 rfl (hdep ⟨16, .data⟩ (by simp) rfl) rfl
          refine g_val (.bool true) hS rfl ?_ rfl
          have hcn := BigFrame.eval_const a'
          have hfn := BigFrame.eval_func a'
          clear hs hdep
          generalize a'.eval = ev at *
          go_simp
        · go_light; intro listed a' w' hs hS hun hdep
          have eg : a'.eval (.tmp 77) = .bool true := hs.eval 17 _ 77 rfl (hdep ⟨17, .guard⟩ (by simp) rfl) rfl
          have e3 : a'.eval (.tmp 3) = .pointer (some ⟨w.heap.size, 0, none⟩) := (hs.out 3 (by kernel_rfl)).trans (rfl)
          exact g_val (.agg (C.cv (a))) hS (wanted_yes rfl rfl rfl eg) (run_op_load rfl e3 (HA.out.below hS HA.out.lt)) rfl
        · go_light; intro listed a' w' hs hS hun hdep
          have eg : a'.eval (.tmp 77) = .bool true := hs.eval 17 _ 77 rfl (hdep ⟨17, .guard⟩ (by simp) rfl) rfl
          have e78 : a'.eval (.tmp 78) = .agg (C.cv (a)) := hs.eval 18 _ 78 rfl (hdep ⟨18, .data⟩ (by simp) rfl) rfl
          refine g_call 24 #[.agg (C.cv (a)), Value.slice none 0 0] hS (wanted_yes rfl rfl rfl eg) ?_ ?_
          · have hcn := BigFrame.eval_const a'; have hfn := BigFrame.eval_func a'; clear hs hdep; generalize a'.eval = ev at *; go_simp
          · exact c_val (Meet_any a none 0 [] w' (SRow.none _ _) (by unfold maxLen; simp)) rfl
        · go_light; intro listed a' w' hs hS hun hdep
          have eg : a'.eval (.tmp 77) = .bool true := hs.eval 17 _ 77 rfl (hdep ⟨17, .guard⟩ (by simp) rfl) rfl
          have e3 : a'.eval (.tmp 3) = .pointer (some ⟨w.heap.size, 0, none⟩) := (hs.out 3 (by kernel_rfl)).trans (rfl)
          exact g_val (.agg (C.cv (a))) hS (wanted_yes rfl rfl rfl eg) (run_op_load rfl e3 (HA.out.below hS HA.out.lt)) rfl
        · go_light; intro listed a' w' hs hS hun hdep
          have eg : a'.eval (.tmp 77) = .bool true := hs.eval 17 _ 77 rfl (hdep ⟨17, .guard⟩ (by simp) rfl) rfl
          have e79 : a'.eval (.tmp 79) = .agg (C.cv (a)) := hs.eval 19 _ 79 rfl (hdep ⟨19, .data⟩ (by simp) rfl) rfl
          have e80 : a'.eval (.tmp 80) = .agg (C.cv (a)) := hs.eval 20 _ 80 rfl (hdep ⟨20, .data⟩ (by simp) rfl) rfl
          exact g_val (.bool true) hS (wanted_yes rfl rfl rfl eg) (run_op_same rfl e79 e80 ha) rfl
        · go_light; intro listed a' w' hs hS hun hdep
          have e77 : a'.eval (.tmp 77) = .bool true := hs.eval 17 _ 77 rfl (hdep ⟨17, .data⟩ (by simp) rfl) rfl
          have e81 : a'.eval (.tmp 81) = .bool true := hs.eval 21 _ 81 rfl (hdep ⟨21, .data⟩ (by simp) rfl) rfl
          refine g_val (.bool true) hS rfl ?_ rfl
          have hcn := BigFrame.eval_const a'
          have hfn := BigFrame.eval_func a'
          clear hs hdep
          generalize a'.eval = ev at *
          go_simp
        · go_light; intro listed a' w' hs hS hun hdep
          have e82 : a'.eval (.tmp 82) = .bool true := hs.eval 22 _ 82 rfl (hdep ⟨22, .data⟩ (by simp) rfl) rfl
          refine g_val (.bool true) hS rfl ?_ rfl
          have hcn := BigFrame.eval_const a'
          have hfn := BigFrame.eval_func a'
          clear hs hdep
          generalize a'.eval = ev at *
          go_simp
        · go_light; intro listed a' w' hs hS hun hdep
          have eg : a'.eval (.tmp 83) = .bool true := hs.eval 23 _ 83 rfl (hdep ⟨23, .guard⟩ (by simp) rfl) rfl
          refine g_call 23 #[Value.slice none 0 0] hS (wanted_yes rfl rfl rfl eg) ?_ ?_
          · have hcn := BigFrame.eval_const a'; have hfn := BigFrame.eval_func a'; clear hs hdep; generalize a'.eval = ev at *; go_simp
          · exact c_val (Union_any none 0 [] w' (SRow.none _ _) (by unfold maxLen; simp)) rfl
        · go_light; intro listed a' w' hs hS hun hdep
          have eg : a'.eval (.tmp 83) = .bool true := hs.eval 23 _ 83 rfl (hdep ⟨23, .guard⟩ (by simp) rfl) rfl
          refine g_val (.agg (C.cv 0)) hS (wanted_yes rfl rfl rfl eg) ?_ rfl
          have hcn := BigFrame.eval_const a'
          have hfn := BigFrame.eval_func a'
          clear hs hdep
          generalize a'.eval = ev at *
          rw [← C.zero30]
          go_simp
        · go_light; intro listed a' w' hs hS hun hdep
          have eg : a'.eval (.tmp 83) = .bool true := hs.eval 23 _ 83 rfl (hdep ⟨23, .guard⟩ (by simp) rfl) rfl
          have e84 : a'.eval (.tmp 84) = .agg (C.cv 0) := hs.eval 24 _ 84 rfl (hdep ⟨24, .data⟩ (by simp) rfl) rfl
          have e85 : a'.eval (.tmp 85) = .agg (C.cv 0) := hs.eval 25 _ 85 rfl (hdep ⟨25, .data⟩ (by simp) rfl) rfl
          exact g_val (.bool true) hS (wanted_yes rfl rfl rfl eg) (run_op_same rfl e84 e85 h00) rfl
        · go_light; intro listed a' w' hs hS hun hdep
          have e83 : a'.eval (.tmp 83) = .bool true := hs.eval 23 _ 83 rfl (hdep ⟨23, .data⟩ (by simp) rfl) rfl
          have e86 : a'.eval (.tmp 86) = .bool true := hs.eval 26 _ 86 rfl (hdep ⟨26, .data⟩ (by simp) rfl) rfl
          refine g_val (.bool true) hS rfl ?_ rfl
          have hcn := BigFrame.eval_const a'
          have hfn := BigFrame.eval_func a'
          clear hs hdep
          generalize a'.eval = ev at *
          go_simp
        · go_light; intro listed a' w' hs hS hun hdep
          have e87 : a'.eval (.tmp 87) = .bool true := hs.eval 27 _ 87 rfl (hdep ⟨27, .data⟩ (by simp) rfl) rfl
          refine g_val (.bool true) hS rfl ?_ rfl
          have hcn := BigFrame.eval_const a'
          have hfn := BigFrame.eval_func a'
          clear hs hdep
          generalize a'.eval = ev at *
          go_simp
        · go_light; intro listed a' w' hs hS hun hdep
          have eg : a'.eval (.tmp 88) = .bool true := hs.eval 28 _ 88 rfl (hdep ⟨28, .guard⟩ (by simp) rfl) rfl
          refine g_call 11 #[] hS (wanted_yes rfl rfl rfl eg) ?_ ?_
          · have hcn := BigFrame.eval_const a'; have hfn := BigFrame.eval_func a'; clear hs hdep; generalize a'.eval = ev at *; go_simp
          · exact c_val (cats_awake w' (HL.out.below hS)) rfl
        · go_light; intro listed a' w' hs hS hun hdep
          have e88 : a'.eval (.tmp 88) = .bool true := hs.eval 28 _ 88 rfl (hdep ⟨28, .data⟩ (by simp) rfl) rfl
          have e89 : a'.eval (.tmp 89) = .bool true := hs.eval 29 _ 89 rfl (hdep ⟨29, .data⟩ (by simp) rfl) rfl
          refine g_val (.bool true) hS rfl ?_ rfl
          have hcn := BigFrame.eval_const a'
          have hfn := BigFrame.eval_func a'
          clear hs hdep
          generalize a'.eval = ev at *
          go_simp
        · go_light; intro listed a' w' hs hS hun hdep
          have e90 : a'.eval (.tmp 90) = .bool true := hs.eval 30 _ 90 rfl (hdep ⟨30, .data⟩ (by simp) rfl) rfl
          refine g_val (.bool true) hS rfl ?_ rfl
          have hcn := BigFrame.eval_const a'
          have hfn := BigFrame.eval_func a'
          clear hs hdep
          generalize a'.eval = ev at *
          go_simp
        · intro vs w9 hlen hV listed hall hS
          obtain ⟨v0, v1, v2, v3, v4, v5, v6, v7, v8, v9, v10, v11, v12, v13, v14, v15, v16, v17, v18, v19, v20, v21, v22, v23, v24, v25, v26, v27, v28, v29, v30, v31, rfl⟩ := vs_32 vs (hlen.trans rfl)
          have q0 : v0 = .agg (C.cv (a)) := hV 0 _ rfl
          have q1 : v1 = .agg (C.cv (b)) := hV 1 _ rfl
          have q2 : v2 = .bool wi := hV 2 _ rfl
          have q3 : v3 = .agg (C.cv (a)) := hV 3 _ rfl
          have q4 : v4 = .agg (C.cv (b)) := hV 4 _ rfl
          have q5 : v5 = .bool wi := hV 5 _ rfl
          have q6 : v6 = .bool true := hV 6 _ rfl
          have q7 : v7 = .bool true := hV 7 _ rfl
          have q8 : v8 = .agg (C.cv (m)) := hV 8 _ rfl
          have q9 : v9 = .agg (C.cv (a)) := hV 9 _ rfl
          have q10 : v10 = .bool true := hV 10 _ rfl
          have q11 : v11 = .bool true := hV 11 _ rfl
          have q12 : v12 = .bool true := hV 12 _ rfl
          have q13 : v13 = .agg (C.cv (a)) := hV 13 _ rfl
          have q14 : v14 = .agg (C.cv (u)) := hV 14 _ rfl
          have q15 : v15 = .bool true := hV 15 _ rfl
          have q16 : v16 = .bool true := hV 16 _ rfl
          have q17 : v17 = .bool true := hV 17 _ rfl
          have q18 : v18 = .agg (C.cv (a)) := hV 18 _ rfl
          have q19 : v19 = .agg (C.cv (a)) := hV 19 _ rfl
          have q20 : v20 = .agg (C.cv (a)) := hV 20 _ rfl
          have q21 : v21 = .bool true := hV 21 _ rfl
          have q22 : v22 = .bool true := hV 22 _ rfl
          have q23 : v23 = .bool true := hV 23 _ rfl
          have q24 : v24 = .agg (C.cv 0) := hV 24 _ rfl
          have q25 : v25 = .agg (C.cv 0) := hV 25 _ rfl
          have q26 : v26 = .bool true := hV 26 _ rfl
          have q27 : v27 = .bool true := hV 27 _ rfl
          have q28 : v28 = .bool true := hV 28 _ rfl
          have q29 : v29 = .bool true := hV 29 _ rfl
          have q30 : v30 = .bool true := hV 30 _ rfl
          have q31 : v31 = .bool true := hV 31 _ rfl
          have hbel : Below wr.heap.size wr w9 := hS
          subst q0 q1 q2 q3 q4 q5 q6 q7 q8 q9 q10 q11 q12 q13 q14 q15 q16 q17 q18 q19 q20 q21 q22 q23 q24 q25 q26 q27 q28 q29 q30 q31
          clear hV hS hall
          simp only [lays, Act.put, List.setIfInBounds_toArray, List.set_cons_zero, List.set_cons_succ]
          go_wp2
          go_ret
          exact ⟨rfl, (hb5.trans (hbr.mono hb5.size)).trans (hbel.mono (by have := hb5.size; have := hbr.size; omega))⟩
#print axioms meets_all
end Go.Proofs.YtijgbmapfpjkfaaDoor
