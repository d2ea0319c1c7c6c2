/- The document's answer: which rules are right. -/
import Derived.Test.YtagfcfkkjllfpaaRuLow
namespace Go.Proofs.Ytagfcfkkjllfpaa
open Go.RowKit
set_option maxRecDepth 100000
set_option linter.unusedVariables false
open U

-- REGIONS
theorem vs_28 (vs : List Value) (h : vs.length = 28) : ∃ v0 v1 v2 v3 v4 v5 v6 v7 v8 v9 v10 v11 v12 v13 v14 v15 v16 v17 v18 v19 v20 v21 v22 v23 v24 v25 v26 v27, vs = [v0, v1, v2, v3, v4, v5, v6, v7, v8, v9, v10, v11, v12, v13, v14, v15, v16, v17, v18, v19, v20, v21, v22, v23, v24, v25, v26, v27] := by
  obtain ⟨v0, r0, rfl, h0⟩ := vs_cons vs h
  obtain ⟨v1, r1, rfl, h1⟩ := vs_cons r0 h0
  obtain ⟨v2, r2, rfl, h2⟩ := vs_cons r1 h1
  obtain ⟨v3, r3, rfl, h3⟩ := vs_cons r2 h2
  obtain ⟨v4, r4, rfl, h4⟩ := vs_cons r3 h3
  obtain ⟨v5, r5, rfl, h5⟩ := vs_cons r4 h4
  obtain ⟨v6, r6, rfl, h6⟩ := vs_cons r5 h5
  obtain ⟨v7, r7, rfl, h7⟩ := vs_cons r6 h6
  obtain ⟨v8, r8, rfl, h8⟩ := vs_cons r7 h7
  obtain ⟨v9, r9, rfl, h9⟩ := vs_cons r8 h8
  obtain ⟨v10, r10, rfl, h10⟩ := vs_cons r9 h9
  obtain ⟨v11, r11, rfl, h11⟩ := vs_cons r10 h10
  obtain ⟨v12, r12, rfl, h12⟩ := vs_cons r11 h11
  obtain ⟨v13, r13, rfl, h13⟩ := vs_cons r12 h12
  obtain ⟨v14, r14, rfl, h14⟩ := vs_cons r13 h13
  obtain ⟨v15, r15, rfl, h15⟩ := vs_cons r14 h14
  obtain ⟨v16, r16, rfl, h16⟩ := vs_cons r15 h15
  obtain ⟨v17, r17, rfl, h17⟩ := vs_cons r16 h16
  obtain ⟨v18, r18, rfl, h18⟩ := vs_cons r17 h17
  obtain ⟨v19, r19, rfl, h19⟩ := vs_cons r18 h18
  obtain ⟨v20, r20, rfl, h20⟩ := vs_cons r19 h19
  obtain ⟨v21, r21, rfl, h21⟩ := vs_cons r20 h20
  obtain ⟨v22, r22, rfl, h22⟩ := vs_cons r21 h21
  obtain ⟨v23, r23, rfl, h23⟩ := vs_cons r22 h22
  obtain ⟨v24, r24, rfl, h24⟩ := vs_cons r23 h23
  obtain ⟨v25, r25, rfl, h25⟩ := vs_cons r24 h24
  obtain ⟨v26, r26, rfl, h26⟩ := vs_cons r25 h25
  obtain ⟨v27, r27, rfl, h27⟩ := vs_cons r26 h26
  obtain rfl := List.eq_nil_of_length_eq_zero h27
  exact ⟨v0, v1, v2, v3, v4, v5, v6, v7, v8, v9, v10, v11, v12, v13, v14, v15, v16, v17, v18, v19, v20, v21, v22, v23, v24, v25, v26, v27, rfl⟩
theorem vs_22 (vs : List Value) (h : vs.length = 22) : ∃ v0 v1 v2 v3 v4 v5 v6 v7 v8 v9 v10 v11 v12 v13 v14 v15 v16 v17 v18 v19 v20 v21, vs = [v0, v1, v2, v3, v4, v5, v6, v7, v8, v9, v10, v11, v12, v13, v14, v15, v16, v17, v18, v19, v20, v21] := by
  obtain ⟨v0, r0, rfl, h0⟩ := vs_cons vs h
  obtain ⟨v1, r1, rfl, h1⟩ := vs_cons r0 h0
  obtain ⟨v2, r2, rfl, h2⟩ := vs_cons r1 h1
  obtain ⟨v3, r3, rfl, h3⟩ := vs_cons r2 h2
  obtain ⟨v4, r4, rfl, h4⟩ := vs_cons r3 h3
  obtain ⟨v5, r5, rfl, h5⟩ := vs_cons r4 h4
  obtain ⟨v6, r6, rfl, h6⟩ := vs_cons r5 h5
  obtain ⟨v7, r7, rfl, h7⟩ := vs_cons r6 h6
  obtain ⟨v8, r8, rfl, h8⟩ := vs_cons r7 h7
  obtain ⟨v9, r9, rfl, h9⟩ := vs_cons r8 h8
  obtain ⟨v10, r10, rfl, h10⟩ := vs_cons r9 h9
  obtain ⟨v11, r11, rfl, h11⟩ := vs_cons r10 h10
  obtain ⟨v12, r12, rfl, h12⟩ := vs_cons r11 h11
  obtain ⟨v13, r13, rfl, h13⟩ := vs_cons r12 h12
  obtain ⟨v14, r14, rfl, h14⟩ := vs_cons r13 h13
  obtain ⟨v15, r15, rfl, h15⟩ := vs_cons r14 h14
  obtain ⟨v16, r16, rfl, h16⟩ := vs_cons r15 h15
  obtain ⟨v17, r17, rfl, h17⟩ := vs_cons r16 h16
  obtain ⟨v18, r18, rfl, h18⟩ := vs_cons r17 h17
  obtain ⟨v19, r19, rfl, h19⟩ := vs_cons r18 h18
  obtain ⟨v20, r20, rfl, h20⟩ := vs_cons r19 h19
  obtain ⟨v21, r21, rfl, h21⟩ := vs_cons r20 h20
  obtain rfl := List.eq_nil_of_length_eq_zero h21
  exact ⟨v0, v1, v2, v3, v4, v5, v6, v7, v8, v9, v10, v11, v12, v13, v14, v15, v16, v17, v18, v19, v20, v21, rfl⟩
theorem vs_18 (vs : List Value) (h : vs.length = 18) : ∃ v0 v1 v2 v3 v4 v5 v6 v7 v8 v9 v10 v11 v12 v13 v14 v15 v16 v17, vs = [v0, v1, v2, v3, v4, v5, v6, v7, v8, v9, v10, v11, v12, v13, v14, v15, v16, v17] := by
  obtain ⟨v0, r0, rfl, h0⟩ := vs_cons vs h
  obtain ⟨v1, r1, rfl, h1⟩ := vs_cons r0 h0
  obtain ⟨v2, r2, rfl, h2⟩ := vs_cons r1 h1
  obtain ⟨v3, r3, rfl, h3⟩ := vs_cons r2 h2
  obtain ⟨v4, r4, rfl, h4⟩ := vs_cons r3 h3
  obtain ⟨v5, r5, rfl, h5⟩ := vs_cons r4 h4
  obtain ⟨v6, r6, rfl, h6⟩ := vs_cons r5 h5
  obtain ⟨v7, r7, rfl, h7⟩ := vs_cons r6 h6
  obtain ⟨v8, r8, rfl, h8⟩ := vs_cons r7 h7
  obtain ⟨v9, r9, rfl, h9⟩ := vs_cons r8 h8
  obtain ⟨v10, r10, rfl, h10⟩ := vs_cons r9 h9
  obtain ⟨v11, r11, rfl, h11⟩ := vs_cons r10 h10
  obtain ⟨v12, r12, rfl, h12⟩ := vs_cons r11 h11
  obtain ⟨v13, r13, rfl, h13⟩ := vs_cons r12 h12
  obtain ⟨v14, r14, rfl, h14⟩ := vs_cons r13 h13
  obtain ⟨v15, r15, rfl, h15⟩ := vs_cons r14 h14
  obtain ⟨v16, r16, rfl, h16⟩ := vs_cons r15 h15
  obtain ⟨v17, r17, rfl, h17⟩ := vs_cons r16 h16
  obtain rfl := List.eq_nil_of_length_eq_zero h17
  exact ⟨v0, v1, v2, v3, v4, v5, v6, v7, v8, v9, v10, v11, v12, v13, v14, v15, v16, v17, rfl⟩
theorem vs_13 (vs : List Value) (h : vs.length = 13) : ∃ v0 v1 v2 v3 v4 v5 v6 v7 v8 v9 v10 v11 v12, vs = [v0, v1, v2, v3, v4, v5, v6, v7, v8, v9, v10, v11, v12] := by
  obtain ⟨v0, r0, rfl, h0⟩ := vs_cons vs h
  obtain ⟨v1, r1, rfl, h1⟩ := vs_cons r0 h0
  obtain ⟨v2, r2, rfl, h2⟩ := vs_cons r1 h1
  obtain ⟨v3, r3, rfl, h3⟩ := vs_cons r2 h2
  obtain ⟨v4, r4, rfl, h4⟩ := vs_cons r3 h3
  obtain ⟨v5, r5, rfl, h5⟩ := vs_cons r4 h4
  obtain ⟨v6, r6, rfl, h6⟩ := vs_cons r5 h5
  obtain ⟨v7, r7, rfl, h7⟩ := vs_cons r6 h6
  obtain ⟨v8, r8, rfl, h8⟩ := vs_cons r7 h7
  obtain ⟨v9, r9, rfl, h9⟩ := vs_cons r8 h8
  obtain ⟨v10, r10, rfl, h10⟩ := vs_cons r9 h9
  obtain ⟨v11, r11, rfl, h11⟩ := vs_cons r10 h10
  obtain ⟨v12, r12, rfl, h12⟩ := vs_cons r11 h11
  obtain rfl := List.eq_nil_of_length_eq_zero h12
  exact ⟨v0, v1, v2, v3, v4, v5, v6, v7, v8, v9, v10, v11, v12, rfl⟩
theorem vs_42 (vs : List Value) (h : vs.length = 42) : ∃ v0 v1 v2 v3 v4 v5 v6 v7 v8 v9 v10 v11 v12 v13 v14 v15 v16 v17 v18 v19 v20 v21 v22 v23 v24 v25 v26 v27 v28 v29 v30 v31 v32 v33 v34 v35 v36 v37 v38 v39 v40 v41, vs = [v0, v1, v2, v3, v4, v5, v6, v7, v8, v9, v10, v11, v12, v13, v14, v15, v16, v17, v18, v19, v20, v21, v22, v23, v24, v25, v26, v27, v28, v29, v30, v31, v32, v33, v34, v35, v36, v37, v38, v39, v40, v41] := by
  obtain ⟨v0, r0, rfl, h0⟩ := vs_cons vs h
  obtain ⟨v1, r1, rfl, h1⟩ := vs_cons r0 h0
  obtain ⟨v2, r2, rfl, h2⟩ := vs_cons r1 h1
  obtain ⟨v3, r3, rfl, h3⟩ := vs_cons r2 h2
  obtain ⟨v4, r4, rfl, h4⟩ := vs_cons r3 h3
  obtain ⟨v5, r5, rfl, h5⟩ := vs_cons r4 h4
  obtain ⟨v6, r6, rfl, h6⟩ := vs_cons r5 h5
  obtain ⟨v7, r7, rfl, h7⟩ := vs_cons r6 h6
  obtain ⟨v8, r8, rfl, h8⟩ := vs_cons r7 h7
  obtain ⟨v9, r9, rfl, h9⟩ := vs_cons r8 h8
  obtain ⟨v10, r10, rfl, h10⟩ := vs_cons r9 h9
  obtain ⟨v11, r11, rfl, h11⟩ := vs_cons r10 h10
  obtain ⟨v12, r12, rfl, h12⟩ := vs_cons r11 h11
  obtain ⟨v13, r13, rfl, h13⟩ := vs_cons r12 h12
  obtain ⟨v14, r14, rfl, h14⟩ := vs_cons r13 h13
  obtain ⟨v15, r15, rfl, h15⟩ := vs_cons r14 h14
  obtain ⟨v16, r16, rfl, h16⟩ := vs_cons r15 h15
  obtain ⟨v17, r17, rfl, h17⟩ := vs_cons r16 h16
  obtain ⟨v18, r18, rfl, h18⟩ := vs_cons r17 h17
  obtain ⟨v19, r19, rfl, h19⟩ := vs_cons r18 h18
  obtain ⟨v20, r20, rfl, h20⟩ := vs_cons r19 h19
  obtain ⟨v21, r21, rfl, h21⟩ := vs_cons r20 h20
  obtain ⟨v22, r22, rfl, h22⟩ := vs_cons r21 h21
  obtain ⟨v23, r23, rfl, h23⟩ := vs_cons r22 h22
  obtain ⟨v24, r24, rfl, h24⟩ := vs_cons r23 h23
  obtain ⟨v25, r25, rfl, h25⟩ := vs_cons r24 h24
  obtain ⟨v26, r26, rfl, h26⟩ := vs_cons r25 h25
  obtain ⟨v27, r27, rfl, h27⟩ := vs_cons r26 h26
  obtain ⟨v28, r28, rfl, h28⟩ := vs_cons r27 h27
  obtain ⟨v29, r29, rfl, h29⟩ := vs_cons r28 h28
  obtain ⟨v30, r30, rfl, h30⟩ := vs_cons r29 h29
  obtain ⟨v31, r31, rfl, h31⟩ := vs_cons r30 h30
  obtain ⟨v32, r32, rfl, h32⟩ := vs_cons r31 h31
  obtain ⟨v33, r33, rfl, h33⟩ := vs_cons r32 h32
  obtain ⟨v34, r34, rfl, h34⟩ := vs_cons r33 h33
  obtain ⟨v35, r35, rfl, h35⟩ := vs_cons r34 h34
  obtain ⟨v36, r36, rfl, h36⟩ := vs_cons r35 h35
  obtain ⟨v37, r37, rfl, h37⟩ := vs_cons r36 h36
  obtain ⟨v38, r38, rfl, h38⟩ := vs_cons r37 h37
  obtain ⟨v39, r39, rfl, h39⟩ := vs_cons r38 h38
  obtain ⟨v40, r40, rfl, h40⟩ := vs_cons r39 h39
  obtain ⟨v41, r41, rfl, h41⟩ := vs_cons r40 h40
  obtain rfl := List.eq_nil_of_length_eq_zero h41
  exact ⟨v0, v1, v2, v3, v4, v5, v6, v7, v8, v9, v10, v11, v12, v13, v14, v15, v16, v17, v18, v19, v20, v21, v22, v23, v24, v25, v26, v27, v28, v29, v30, v31, v32, v33, v34, v35, v36, v37, v38, v39, v40, v41, rfl⟩
theorem vs_26 (vs : List Value) (h : vs.length = 26) : ∃ v0 v1 v2 v3 v4 v5 v6 v7 v8 v9 v10 v11 v12 v13 v14 v15 v16 v17 v18 v19 v20 v21 v22 v23 v24 v25, vs = [v0, v1, v2, v3, v4, v5, v6, v7, v8, v9, v10, v11, v12, v13, v14, v15, v16, v17, v18, v19, v20, v21, v22, v23, v24, v25] := by
  obtain ⟨v0, r0, rfl, h0⟩ := vs_cons vs h
  obtain ⟨v1, r1, rfl, h1⟩ := vs_cons r0 h0
  obtain ⟨v2, r2, rfl, h2⟩ := vs_cons r1 h1
  obtain ⟨v3, r3, rfl, h3⟩ := vs_cons r2 h2
  obtain ⟨v4, r4, rfl, h4⟩ := vs_cons r3 h3
  obtain ⟨v5, r5, rfl, h5⟩ := vs_cons r4 h4
  obtain ⟨v6, r6, rfl, h6⟩ := vs_cons r5 h5
  obtain ⟨v7, r7, rfl, h7⟩ := vs_cons r6 h6
  obtain ⟨v8, r8, rfl, h8⟩ := vs_cons r7 h7
  obtain ⟨v9, r9, rfl, h9⟩ := vs_cons r8 h8
  obtain ⟨v10, r10, rfl, h10⟩ := vs_cons r9 h9
  obtain ⟨v11, r11, rfl, h11⟩ := vs_cons r10 h10
  obtain ⟨v12, r12, rfl, h12⟩ := vs_cons r11 h11
  obtain ⟨v13, r13, rfl, h13⟩ := vs_cons r12 h12
  obtain ⟨v14, r14, rfl, h14⟩ := vs_cons r13 h13
  obtain ⟨v15, r15, rfl, h15⟩ := vs_cons r14 h14
  obtain ⟨v16, r16, rfl, h16⟩ := vs_cons r15 h15
  obtain ⟨v17, r17, rfl, h17⟩ := vs_cons r16 h16
  obtain ⟨v18, r18, rfl, h18⟩ := vs_cons r17 h17
  obtain ⟨v19, r19, rfl, h19⟩ := vs_cons r18 h18
  obtain ⟨v20, r20, rfl, h20⟩ := vs_cons r19 h19
  obtain ⟨v21, r21, rfl, h21⟩ := vs_cons r20 h20
  obtain ⟨v22, r22, rfl, h22⟩ := vs_cons r21 h21
  obtain ⟨v23, r23, rfl, h23⟩ := vs_cons r22 h22
  obtain ⟨v24, r24, rfl, h24⟩ := vs_cons r23 h23
  obtain ⟨v25, r25, rfl, h25⟩ := vs_cons r24 h24
  obtain rfl := List.eq_nil_of_length_eq_zero h25
  exact ⟨v0, v1, v2, v3, v4, v5, v6, v7, v8, v9, v10, v11, v12, v13, v14, v15, v16, v17, v18, v19, v20, v21, v22, v23, v24, v25, rfl⟩
theorem vs_14 (vs : List Value) (h : vs.length = 14) : ∃ v0 v1 v2 v3 v4 v5 v6 v7 v8 v9 v10 v11 v12 v13, vs = [v0, v1, v2, v3, v4, v5, v6, v7, v8, v9, v10, v11, v12, v13] := by
  obtain ⟨v0, r0, rfl, h0⟩ := vs_cons vs h
  obtain ⟨v1, r1, rfl, h1⟩ := vs_cons r0 h0
  obtain ⟨v2, r2, rfl, h2⟩ := vs_cons r1 h1
  obtain ⟨v3, r3, rfl, h3⟩ := vs_cons r2 h2
  obtain ⟨v4, r4, rfl, h4⟩ := vs_cons r3 h3
  obtain ⟨v5, r5, rfl, h5⟩ := vs_cons r4 h4
  obtain ⟨v6, r6, rfl, h6⟩ := vs_cons r5 h5
  obtain ⟨v7, r7, rfl, h7⟩ := vs_cons r6 h6
  obtain ⟨v8, r8, rfl, h8⟩ := vs_cons r7 h7
  obtain ⟨v9, r9, rfl, h9⟩ := vs_cons r8 h8
  obtain ⟨v10, r10, rfl, h10⟩ := vs_cons r9 h9
  obtain ⟨v11, r11, rfl, h11⟩ := vs_cons r10 h10
  obtain ⟨v12, r12, rfl, h12⟩ := vs_cons r11 h11
  obtain ⟨v13, r13, rfl, h13⟩ := vs_cons r12 h12
  obtain rfl := List.eq_nil_of_length_eq_zero h13
  exact ⟨v0, v1, v2, v3, v4, v5, v6, v7, v8, v9, v10, v11, v12, v13, rfl⟩
theorem vs_32 (vs : List Value) (h : vs.length = 32) : ∃ v0 v1 v2 v3 v4 v5 v6 v7 v8 v9 v10 v11 v12 v13 v14 v15 v16 v17 v18 v19 v20 v21 v22 v23 v24 v25 v26 v27 v28 v29 v30 v31, vs = [v0, v1, v2, v3, v4, v5, v6, v7, v8, v9, v10, v11, v12, v13, v14, v15, v16, v17, v18, v19, v20, v21, v22, v23, v24, v25, v26, v27, v28, v29, v30, v31] := by
  obtain ⟨v0, r0, rfl, h0⟩ := vs_cons vs h
  obtain ⟨v1, r1, rfl, h1⟩ := vs_cons r0 h0
  obtain ⟨v2, r2, rfl, h2⟩ := vs_cons r1 h1
  obtain ⟨v3, r3, rfl, h3⟩ := vs_cons r2 h2
  obtain ⟨v4, r4, rfl, h4⟩ := vs_cons r3 h3
  obtain ⟨v5, r5, rfl, h5⟩ := vs_cons r4 h4
  obtain ⟨v6, r6, rfl, h6⟩ := vs_cons r5 h5
  obtain ⟨v7, r7, rfl, h7⟩ := vs_cons r6 h6
  obtain ⟨v8, r8, rfl, h8⟩ := vs_cons r7 h7
  obtain ⟨v9, r9, rfl, h9⟩ := vs_cons r8 h8
  obtain ⟨v10, r10, rfl, h10⟩ := vs_cons r9 h9
  obtain ⟨v11, r11, rfl, h11⟩ := vs_cons r10 h10
  obtain ⟨v12, r12, rfl, h12⟩ := vs_cons r11 h11
  obtain ⟨v13, r13, rfl, h13⟩ := vs_cons r12 h12
  obtain ⟨v14, r14, rfl, h14⟩ := vs_cons r13 h13
  obtain ⟨v15, r15, rfl, h15⟩ := vs_cons r14 h14
  obtain ⟨v16, r16, rfl, h16⟩ := vs_cons r15 h15
  obtain ⟨v17, r17, rfl, h17⟩ := vs_cons r16 h16
  obtain ⟨v18, r18, rfl, h18⟩ := vs_cons r17 h17
  obtain ⟨v19, r19, rfl, h19⟩ := vs_cons r18 h18
  obtain ⟨v20, r20, rfl, h20⟩ := vs_cons r19 h19
  obtain ⟨v21, r21, rfl, h21⟩ := vs_cons r20 h20
  obtain ⟨v22, r22, rfl, h22⟩ := vs_cons r21 h21
  obtain ⟨v23, r23, rfl, h23⟩ := vs_cons r22 h22
  obtain ⟨v24, r24, rfl, h24⟩ := vs_cons r23 h23
  obtain ⟨v25, r25, rfl, h25⟩ := vs_cons r24 h24
  obtain ⟨v26, r26, rfl, h26⟩ := vs_cons r25 h25
  obtain ⟨v27, r27, rfl, h27⟩ := vs_cons r26 h26
  obtain ⟨v28, r28, rfl, h28⟩ := vs_cons r27 h27
  obtain ⟨v29, r29, rfl, h29⟩ := vs_cons r28 h28
  obtain ⟨v30, r30, rfl, h30⟩ := vs_cons r29 h29
  obtain ⟨v31, r31, rfl, h31⟩ := vs_cons r30 h30
  obtain rfl := List.eq_nil_of_length_eq_zero h31
  exact ⟨v0, v1, v2, v3, v4, v5, v6, v7, v8, v9, v10, v11, v12, v13, v14, v15, v16, v17, v18, v19, v20, v21, v22, v23, v24, v25, v26, v27, v28, v29, v30, v31, rfl⟩
theorem vs_25 (vs : List Value) (h : vs.length = 25) : ∃ v0 v1 v2 v3 v4 v5 v6 v7 v8 v9 v10 v11 v12 v13 v14 v15 v16 v17 v18 v19 v20 v21 v22 v23 v24, vs = [v0, v1, v2, v3, v4, v5, v6, v7, v8, v9, v10, v11, v12, v13, v14, v15, v16, v17, v18, v19, v20, v21, v22, v23, v24] := by
  obtain ⟨v0, r0, rfl, h0⟩ := vs_cons vs h
  obtain ⟨v1, r1, rfl, h1⟩ := vs_cons r0 h0
  obtain ⟨v2, r2, rfl, h2⟩ := vs_cons r1 h1
  obtain ⟨v3, r3, rfl, h3⟩ := vs_cons r2 h2
  obtain ⟨v4, r4, rfl, h4⟩ := vs_cons r3 h3
  obtain ⟨v5, r5, rfl, h5⟩ := vs_cons r4 h4
  obtain ⟨v6, r6, rfl, h6⟩ := vs_cons r5 h5
  obtain ⟨v7, r7, rfl, h7⟩ := vs_cons r6 h6
  obtain ⟨v8, r8, rfl, h8⟩ := vs_cons r7 h7
  obtain ⟨v9, r9, rfl, h9⟩ := vs_cons r8 h8
  obtain ⟨v10, r10, rfl, h10⟩ := vs_cons r9 h9
  obtain ⟨v11, r11, rfl, h11⟩ := vs_cons r10 h10
  obtain ⟨v12, r12, rfl, h12⟩ := vs_cons r11 h11
  obtain ⟨v13, r13, rfl, h13⟩ := vs_cons r12 h12
  obtain ⟨v14, r14, rfl, h14⟩ := vs_cons r13 h13
  obtain ⟨v15, r15, rfl, h15⟩ := vs_cons r14 h14
  obtain ⟨v16, r16, rfl, h16⟩ := vs_cons r15 h15
  obtain ⟨v17, r17, rfl, h17⟩ := vs_cons r16 h16
  obtain ⟨v18, r18, rfl, h18⟩ := vs_cons r17 h17
  obtain ⟨v19, r19, rfl, h19⟩ := vs_cons r18 h18
  obtain ⟨v20, r20, rfl, h20⟩ := vs_cons r19 h19
  obtain ⟨v21, r21, rfl, h21⟩ := vs_cons r20 h20
  obtain ⟨v22, r22, rfl, h22⟩ := vs_cons r21 h21
  obtain ⟨v23, r23, rfl, h23⟩ := vs_cons r22 h22
  obtain ⟨v24, r24, rfl, h24⟩ := vs_cons r23 h23
  obtain rfl := List.eq_nil_of_length_eq_zero h24
  exact ⟨v0, v1, v2, v3, v4, v5, v6, v7, v8, v9, v10, v11, v12, v13, v14, v15, v16, v17, v18, v19, v20, v21, v22, v23, v24, rfl⟩

set_option maxHeartbeats 8000000 in
theorem refok_any (r : Ru) (w : World) (hsa : r.sa < 4294967296) (hda : r.da < 4294967296) : Calls Try.prog 12 #[.agg r.v.toArray] w fun e w' => e = .returned (.bool r.ok) ∧ Below w.heap.size w w' := by
  have HO := Lib.hid (ok_out r)
  have HI := Lib.hid (ok_in r)
  obtain ⟨i, o, sa, sb, da, db, p, slo, shi, dlo, dhi, al⟩ := r
  have Hsa := Lib.hid hsa
  have Hda := Lib.hid hda
  simp only [Ru.v] at *
  clear hsa hda
  go_enter Try.func12, Try.ntmps12
  go_upto_region 1 with fail
  have hb0 : Below w.heap.size w (w.alloc (.cells #[.int .i64 i, .int .i64 o, .int .u32 sa, .int .i64 sb, .int .u32 da, .int .i64 db, .int .i64 p, .int .i64 slo, .int .i64 shi, .int .i64 dlo, .int .i64 dhi, .bool al] 34)) := below1 w _
  have L0 : Hid (Lies (w.alloc (.cells #[.int .i64 i, .int .i64 o, .int .u32 sa, .int .i64 sb, .int .u32 da, .int .i64 db, .int .i64 p, .int .i64 slo, .int .i64 shi, .int .i64 dlo, .int .i64 dhi, .bool al] 34)) w.heap.size 0 [.int .i64 i, .int .i64 o, .int .u32 sa, .int .i64 sb, .int .u32 da, .int .i64 db, .int .i64 p, .int .i64 slo, .int .i64 shi, .int .i64 dlo, .int .i64 dhi, .bool al]) := Lib.hid (Lies.new w [.int .i64 i, .int .i64 o, .int .u32 sa, .int .i64 sb, .int .u32 da, .int .i64 db, .int .i64 p, .int .i64 slo, .int .i64 shi, .int .i64 dlo, .int .i64 dhi, .bool al] _)
  generalize (w.alloc (.cells #[.int .i64 i, .int .i64 o, .int .u32 sa, .int .i64 sb, .int .u32 da, .int .i64 db, .int .i64 p, .int .i64 slo, .int .i64 shi, .int .i64 dlo, .int .i64 dhi, .bool al] 34)) = W0 at *
  obtain ⟨m5, hm5⟩ : ∃ x, (decide (i < -1)) = x := ⟨_, rfl⟩
  replace hm5 := Lib.hid hm5
  obtain ⟨m9, hm9⟩ : ∃ x, (decide (7 < i)) = x := ⟨_, rfl⟩
  replace hm9 := Lib.hid hm9
  obtain ⟨m10, hm10⟩ : ∃ x, (m5 || m9) = x := ⟨_, rfl⟩
  replace hm10 := Lib.hid hm10
  obtain ⟨m14, hm14⟩ : ∃ x, (decide (o < -1)) = x := ⟨_, rfl⟩
  replace hm14 := Lib.hid hm14
  obtain ⟨m15, hm15⟩ : ∃ x, (m10 || m14) = x := ⟨_, rfl⟩
  replace hm15 := Lib.hid hm15
  obtain ⟨m19, hm19⟩ : ∃ x, (decide (7 < o)) = x := ⟨_, rfl⟩
  replace hm19 := Lib.hid hm19
  obtain ⟨m20, hm20⟩ : ∃ x, (m15 || m19) = x := ⟨_, rfl⟩
  replace hm20 := Lib.hid hm20
  obtain ⟨m24, hm24⟩ : ∃ x, (decide (p < -1)) = x := ⟨_, rfl⟩
  replace hm24 := Lib.hid hm24
  obtain ⟨m25, hm25⟩ : ∃ x, (m20 || m24) = x := ⟨_, rfl⟩
  replace hm25 := Lib.hid hm25
  obtain ⟨m29, hm29⟩ : ∃ x, (decide (255 < p)) = x := ⟨_, rfl⟩
  replace hm29 := Lib.hid hm29
  obtain ⟨m30, hm30⟩ : ∃ x, (m25 || m29) = x := ⟨_, rfl⟩
  replace hm30 := Lib.hid hm30
  refine region_seq 28 (VG W0.heap.size [.val (.pointer (some ⟨w.heap.size, 0, none⟩)), .val (.int .i64 i), .val (.bool m5), .val (.bool m5), .val (if m5 = false then .pointer (some ⟨w.heap.size, 0, none⟩) else undef), .val (if m5 = false then .int .i64 i else undef), .val (if m5 = false then .bool m9 else undef), .val (.bool m10), .val (.bool m10), .val (if m10 = false then .pointer (some ⟨w.heap.size, 1, none⟩) else undef), .val (if m10 = false then .int .i64 o else undef), .val (if m10 = false then .bool m14 else undef), .val (.bool m15), .val (.bool m15), .val (if m15 = false then .pointer (some ⟨w.heap.size, 1, none⟩) else undef), .val (if m15 = false then .int .i64 o else undef), .val (if m15 = false then .bool m19 else undef), .val (.bool m20), .val (.bool m20), .val (if m20 = false then .pointer (some ⟨w.heap.size, 6, none⟩) else undef), .val (if m20 = false then .int .i64 p else undef), .val (if m20 = false then .bool m24 else undef), .val (.bool m25), .val (.bool m25), .val (if m25 = false then .pointer (some ⟨w.heap.size, 6, none⟩) else undef), .val (if m25 = false then .int .i64 p else undef), .val (if m25 = false then .bool m29 else undef), .val (.bool m30)]) (BS W0) (by kernel_rfl) (Below.refl _ _) ⟨?_, ?_, ?_, ?_, ?_, ?_, ?_, ?_, ?_, ?_, ?_, ?_, ?_, ?_, ?_, ?_, ?_, ?_, ?_, ?_, ?_, ?_, ?_, ?_, ?_, ?_, ?_, ?_, trivial⟩ ?_
  · go_light; intro listed a' w' hs hS hun hdep
    have e1 : a'.eval (.tmp 1) = .pointer (some ⟨w.heap.size, 0, none⟩) := (hs.out 1 (by kernel_rfl)).trans (rfl)
    refine g_val (.pointer (some ⟨w.heap.size, 0, none⟩)) hS rfl ?_ rfl
    have hcn := BigFrame.eval_const a'; have hfn := BigFrame.eval_func a'; clear hs hdep; generalize a'.eval = ev at *; go_simp
  · go_light; intro listed a' w' hs hS hun hdep
    have e3 : a'.eval (.tmp 3) = (.pointer (some ⟨w.heap.size, 0, none⟩)) := hs.eval 0 _ 3 rfl (hdep ⟨0, .data⟩ (by simp) rfl) rfl
    exact g_val (.int .i64 i) hS rfl (op_ld1 (.int .i64 i) rfl e3 (L0.out.below hS) 0 (by first | rfl | simp) rfl Try.underlying3 rfl) rfl
  · go_light; intro listed a' w' hs hS hun hdep
    have e4 : a'.eval (.tmp 4) = (.int .i64 i) := hs.eval 1 _ 4 rfl (hdep ⟨1, .data⟩ (by simp) rfl) rfl
    refine g_val (.bool m5) hS rfl ?_ rfl
    rw [← hm5.out]
    have hcn := BigFrame.eval_const a'; have hfn := BigFrame.eval_func a'; clear hs hdep; generalize a'.eval = ev at *; go_simp
  · go_light; intro listed a' w' hs hS hun hdep
    have e5 : a'.eval (.tmp 5) = (.bool m5) := hs.eval 2 _ 5 rfl (hdep ⟨2, .data⟩ (by simp) rfl) rfl
    exact g_val (.bool m5) hS rfl (op_move rfl e5) rfl
  · go_light; intro listed a' w' hs hS hun hdep
    have eg : a'.eval (.tmp 6) = (.bool m5) := hs.eval 3 _ 6 rfl (hdep ⟨3, .guard⟩ (by simp) rfl) rfl
    have e1 : a'.eval (.tmp 1) = .pointer (some ⟨w.heap.size, 0, none⟩) := (hs.out 1 (by kernel_rfl)).trans (rfl)
    cases m5
    · refine g_val (.pointer (some ⟨w.heap.size, 0, none⟩)) hS (wanted_yes rfl rfl rfl eg) ?_ rfl
      have hcn := BigFrame.eval_const a'; have hfn := BigFrame.eval_func a'; clear hs hdep; generalize a'.eval = ev at *; go_simp
    · exact g_not hS (wanted_no rfl rfl rfl eg (by decide)) rfl
  · go_light; intro listed a' w' hs hS hun hdep
    have eg : a'.eval (.tmp 6) = (.bool m5) := hs.eval 3 _ 6 rfl (hdep ⟨3, .guard⟩ (by simp) rfl) rfl
    have e7 : a'.eval (.tmp 7) = (if m5 = false then .pointer (some ⟨w.heap.size, 0, none⟩) else undef) := hs.eval 4 _ 7 rfl (hdep ⟨4, .data⟩ (by simp) rfl) rfl
    cases m5
    · replace e7 := e7.trans (if_pos rfl)
      exact g_val (.int .i64 i) hS (wanted_yes rfl rfl rfl eg) (op_ld1 (.int .i64 i) rfl e7 (L0.out.below hS) 0 (by first | rfl | simp) rfl Try.underlying3 rfl) rfl
    · exact g_not hS (wanted_no rfl rfl rfl eg (by decide)) rfl
  · go_light; intro listed a' w' hs hS hun hdep
    have eg : a'.eval (.tmp 6) = (.bool m5) := hs.eval 3 _ 6 rfl (hdep ⟨3, .guard⟩ (by simp) rfl) rfl
    have e8 : a'.eval (.tmp 8) = (if m5 = false then .int .i64 i else undef) := hs.eval 5 _ 8 rfl (hdep ⟨5, .data⟩ (by simp) rfl) rfl
    cases m5
    · replace e8 := e8.trans (if_pos rfl)
      refine g_val (.bool m9) hS (wanted_yes rfl rfl rfl eg) ?_ rfl
      rw [← hm9.out]
      have hcn := BigFrame.eval_const a'; have hfn := BigFrame.eval_func a'; clear hs hdep; generalize a'.eval = ev at *; go_simp
    · exact g_not hS (wanted_no rfl rfl rfl eg (by decide)) rfl
  · go_light; intro listed a' w' hs hS hun hdep
    have e6 : a'.eval (.tmp 6) = (.bool m5) := hs.eval 3 _ 6 rfl (hdep ⟨3, .data⟩ (by simp) rfl) rfl
    have e9 : a'.eval (.tmp 9) = (if m5 = false then .bool m9 else undef) := hs.eval 6 _ 9 rfl (hdep ⟨6, .data⟩ (by simp) rfl) rfl
    refine g_val (.bool m10) hS rfl ?_ rfl
    cases m5
    · replace e9 := e9.trans (if_pos rfl)
      exact (op_pick_f rfl e6 e9).trans (by rw [← hm10.out]; first | rfl | simp)
    · replace e9 := e9.trans (if_neg (by decide))
      exact (op_pick_t rfl e6 (BigFrame.eval_const a' _)).trans (by rw [← hm10.out]; first | rfl | simp)
  · go_light; intro listed a' w' hs hS hun hdep
    have e10 : a'.eval (.tmp 10) = (.bool m10) := hs.eval 7 _ 10 rfl (hdep ⟨7, .data⟩ (by simp) rfl) rfl
    exact g_val (.bool m10) hS rfl (op_move rfl e10) rfl
  · go_light; intro listed a' w' hs hS hun hdep
    have eg : a'.eval (.tmp 11) = (.bool m10) := hs.eval 8 _ 11 rfl (hdep ⟨8, .guard⟩ (by simp) rfl) rfl
    have e1 : a'.eval (.tmp 1) = .pointer (some ⟨w.heap.size, 0, none⟩) := (hs.out 1 (by kernel_rfl)).trans (rfl)
    cases m10
    · refine g_val (.pointer (some ⟨w.heap.size, 1, none⟩)) hS (wanted_yes rfl rfl rfl eg) ?_ rfl
      have hcn := BigFrame.eval_const a'; have hfn := BigFrame.eval_func a'; clear hs hdep; generalize a'.eval = ev at *; go_simp
    · exact g_not hS (wanted_no rfl rfl rfl eg (by decide)) rfl
  · go_light; intro listed a' w' hs hS hun hdep
    have eg : a'.eval (.tmp 11) = (.bool m10) := hs.eval 8 _ 11 rfl (hdep ⟨8, .guard⟩ (by simp) rfl) rfl
    have e12 : a'.eval (.tmp 12) = (if m10 = false then .pointer (some ⟨w.heap.size, 1, none⟩) else undef) := hs.eval 9 _ 12 rfl (hdep ⟨9, .data⟩ (by simp) rfl) rfl
    cases m10
    · replace e12 := e12.trans (if_pos rfl)
      exact g_val (.int .i64 o) hS (wanted_yes rfl rfl rfl eg) (op_ld1 (.int .i64 o) rfl e12 (L0.out.below hS) 1 (by first | rfl | simp) rfl Try.underlying3 rfl) rfl
    · exact g_not hS (wanted_no rfl rfl rfl eg (by decide)) rfl
  · go_light; intro listed a' w' hs hS hun hdep
    have eg : a'.eval (.tmp 11) = (.bool m10) := hs.eval 8 _ 11 rfl (hdep ⟨8, .guard⟩ (by simp) rfl) rfl
    have e13 : a'.eval (.tmp 13) = (if m10 = false then .int .i64 o else undef) := hs.eval 10 _ 13 rfl (hdep ⟨10, .data⟩ (by simp) rfl) rfl
    cases m10
    · replace e13 := e13.trans (if_pos rfl)
      refine g_val (.bool m14) hS (wanted_yes rfl rfl rfl eg) ?_ rfl
      rw [← hm14.out]
      have hcn := BigFrame.eval_const a'; have hfn := BigFrame.eval_func a'; clear hs hdep; generalize a'.eval = ev at *; go_simp
    · exact g_not hS (wanted_no rfl rfl rfl eg (by decide)) rfl
  · go_light; intro listed a' w' hs hS hun hdep
    have e11 : a'.eval (.tmp 11) = (.bool m10) := hs.eval 8 _ 11 rfl (hdep ⟨8, .data⟩ (by simp) rfl) rfl
    have e14 : a'.eval (.tmp 14) = (if m10 = false then .bool m14 else undef) := hs.eval 11 _ 14 rfl (hdep ⟨11, .data⟩ (by simp) rfl) rfl
    refine g_val (.bool m15) hS rfl ?_ rfl
    cases m10
    · replace e14 := e14.trans (if_pos rfl)
      exact (op_pick_f rfl e11 e14).trans (by rw [← hm15.out]; first | rfl | simp)
    · replace e14 := e14.trans (if_neg (by decide))
      exact (op_pick_t rfl e11 (BigFrame.eval_const a' _)).trans (by rw [← hm15.out]; first | rfl | simp)
  · go_light; intro listed a' w' hs hS hun hdep
    have e15 : a'.eval (.tmp 15) = (.bool m15) := hs.eval 12 _ 15 rfl (hdep ⟨12, .data⟩ (by simp) rfl) rfl
    exact g_val (.bool m15) hS rfl (op_move rfl e15) rfl
  · go_light; intro listed a' w' hs hS hun hdep
    have eg : a'.eval (.tmp 16) = (.bool m15) := hs.eval 13 _ 16 rfl (hdep ⟨13, .guard⟩ (by simp) rfl) rfl
    have e1 : a'.eval (.tmp 1) = .pointer (some ⟨w.heap.size, 0, none⟩) := (hs.out 1 (by kernel_rfl)).trans (rfl)
    cases m15
    · refine g_val (.pointer (some ⟨w.heap.size, 1, none⟩)) hS (wanted_yes rfl rfl rfl eg) ?_ rfl
      have hcn := BigFrame.eval_const a'; have hfn := BigFrame.eval_func a'; clear hs hdep; generalize a'.eval = ev at *; go_simp
    · exact g_not hS (wanted_no rfl rfl rfl eg (by decide)) rfl
  · go_light; intro listed a' w' hs hS hun hdep
    have eg : a'.eval (.tmp 16) = (.bool m15) := hs.eval 13 _ 16 rfl (hdep ⟨13, .guard⟩ (by simp) rfl) rfl
    have e17 : a'.eval (.tmp 17) = (if m15 = false then .pointer (some ⟨w.heap.size, 1, none⟩) else undef) := hs.eval 14 _ 17 rfl (hdep ⟨14, .data⟩ (by simp) rfl) rfl
    cases m15
    · replace e17 := e17.trans (if_pos rfl)
      exact g_val (.int .i64 o) hS (wanted_yes rfl rfl rfl eg) (op_ld1 (.int .i64 o) rfl e17 (L0.out.below hS) 1 (by first | rfl | simp) rfl Try.underlying3 rfl) rfl
    · exact g_not hS (wanted_no rfl rfl rfl eg (by decide)) rfl
  · go_light; intro listed a' w' hs hS hun hdep
    have eg : a'.eval (.tmp 16) = (.bool m15) := hs.eval 13 _ 16 rfl (hdep ⟨13, .guard⟩ (by simp) rfl) rfl
    have e18 : a'.eval (.tmp 18) = (if m15 = false then .int .i64 o else undef) := hs.eval 15 _ 18 rfl (hdep ⟨15, .data⟩ (by simp) rfl) rfl
    cases m15
    · replace e18 := e18.trans (if_pos rfl)
      refine g_val (.bool m19) hS (wanted_yes rfl rfl rfl eg) ?_ rfl
      rw [← hm19.out]
      have hcn := BigFrame.eval_const a'; have hfn := BigFrame.eval_func a'; clear hs hdep; generalize a'.eval = ev at *; go_simp
    · exact g_not hS (wanted_no rfl rfl rfl eg (by decide)) rfl
  · go_light; intro listed a' w' hs hS hun hdep
    have e16 : a'.eval (.tmp 16) = (.bool m15) := hs.eval 13 _ 16 rfl (hdep ⟨13, .data⟩ (by simp) rfl) rfl
    have e19 : a'.eval (.tmp 19) = (if m15 = false then .bool m19 else undef) := hs.eval 16 _ 19 rfl (hdep ⟨16, .data⟩ (by simp) rfl) rfl
    refine g_val (.bool m20) hS rfl ?_ rfl
    cases m15
    · replace e19 := e19.trans (if_pos rfl)
      exact (op_pick_f rfl e16 e19).trans (by rw [← hm20.out]; first | rfl | simp)
    · replace e19 := e19.trans (if_neg (by decide))
      exact (op_pick_t rfl e16 (BigFrame.eval_const a' _)).trans (by rw [← hm20.out]; first | rfl | simp)
  · go_light; intro listed a' w' hs hS hun hdep
    have e20 : a'.eval (.tmp 20) = (.bool m20) := hs.eval 17 _ 20 rfl (hdep ⟨17, .data⟩ (by simp) rfl) rfl
    exact g_val (.bool m20) hS rfl (op_move rfl e20) rfl
  · go_light; intro listed a' w' hs hS hun hdep
    have eg : a'.eval (.tmp 21) = (.bool m20) := hs.eval 18 _ 21 rfl (hdep ⟨18, .guard⟩ (by simp) rfl) rfl
    have e1 : a'.eval (.tmp 1) = .pointer (some ⟨w.heap.size, 0, none⟩) := (hs.out 1 (by kernel_rfl)).trans (rfl)
    cases m20
    · refine g_val (.pointer (some ⟨w.heap.size, 6, none⟩)) hS (wanted_yes rfl rfl rfl eg) ?_ rfl
      have hcn := BigFrame.eval_const a'; have hfn := BigFrame.eval_func a'; clear hs hdep; generalize a'.eval = ev at *; go_simp
    · exact g_not hS (wanted_no rfl rfl rfl eg (by decide)) rfl
  · go_light; intro listed a' w' hs hS hun hdep
    have eg : a'.eval (.tmp 21) = (.bool m20) := hs.eval 18 _ 21 rfl (hdep ⟨18, .guard⟩ (by simp) rfl) rfl
    have e22 : a'.eval (.tmp 22) = (if m20 = false then .pointer (some ⟨w.heap.size, 6, none⟩) else undef) := hs.eval 19 _ 22 rfl (hdep ⟨19, .data⟩ (by simp) rfl) rfl
    cases m20
    · replace e22 := e22.trans (if_pos rfl)
      exact g_val (.int .i64 p) hS (wanted_yes rfl rfl rfl eg) (op_ld1 (.int .i64 p) rfl e22 (L0.out.below hS) 6 (by first | rfl | simp) rfl Try.underlying3 rfl) rfl
    · exact g_not hS (wanted_no rfl rfl rfl eg (by decide)) rfl
  · go_light; intro listed a' w' hs hS hun hdep
    have eg : a'.eval (.tmp 21) = (.bool m20) := hs.eval 18 _ 21 rfl (hdep ⟨18, .guard⟩ (by simp) rfl) rfl
    have e23 : a'.eval (.tmp 23) = (if m20 = false then .int .i64 p else undef) := hs.eval 20 _ 23 rfl (hdep ⟨20, .data⟩ (by simp) rfl) rfl
    cases m20
    · replace e23 := e23.trans (if_pos rfl)
      refine g_val (.bool m24) hS (wanted_yes rfl rfl rfl eg) ?_ rfl
      rw [← hm24.out]
      have hcn := BigFrame.eval_const a'; have hfn := BigFrame.eval_func a'; clear hs hdep; generalize a'.eval = ev at *; go_simp
    · exact g_not hS (wanted_no rfl rfl rfl eg (by decide)) rfl
  · go_light; intro listed a' w' hs hS hun hdep
    have e21 : a'.eval (.tmp 21) = (.bool m20) := hs.eval 18 _ 21 rfl (hdep ⟨18, .data⟩ (by simp) rfl) rfl
    have e24 : a'.eval (.tmp 24) = (if m20 = false then .bool m24 else undef) := hs.eval 21 _ 24 rfl (hdep ⟨21, .data⟩ (by simp) rfl) rfl
    refine g_val (.bool m25) hS rfl ?_ rfl
    cases m20
    · replace e24 := e24.trans (if_pos rfl)
      exact (op_pick_f rfl e21 e24).trans (by rw [← hm25.out]; first | rfl | simp)
    · replace e24 := e24.trans (if_neg (by decide))
      exact (op_pick_t rfl e21 (BigFrame.eval_const a' _)).trans (by rw [← hm25.out]; first | rfl | simp)
  · go_light; intro listed a' w' hs hS hun hdep
    have e25 : a'.eval (.tmp 25) = (.bool m25) := hs.eval 22 _ 25 rfl (hdep ⟨22, .data⟩ (by simp) rfl) rfl
    exact g_val (.bool m25) hS rfl (op_move rfl e25) rfl
  · go_light; intro listed a' w' hs hS hun hdep
    have eg : a'.eval (.tmp 26) = (.bool m25) := hs.eval 23 _ 26 rfl (hdep ⟨23, .guard⟩ (by simp) rfl) rfl
    have e1 : a'.eval (.tmp 1) = .pointer (some ⟨w.heap.size, 0, none⟩) := (hs.out 1 (by kernel_rfl)).trans (rfl)
    cases m25
    · refine g_val (.pointer (some ⟨w.heap.size, 6, none⟩)) hS (wanted_yes rfl rfl rfl eg) ?_ rfl
      have hcn := BigFrame.eval_const a'; have hfn := BigFrame.eval_func a'; clear hs hdep; generalize a'.eval = ev at *; go_simp
    · exact g_not hS (wanted_no rfl rfl rfl eg (by decide)) rfl
  · go_light; intro listed a' w' hs hS hun hdep
    have eg : a'.eval (.tmp 26) = (.bool m25) := hs.eval 23 _ 26 rfl (hdep ⟨23, .guard⟩ (by simp) rfl) rfl
    have e27 : a'.eval (.tmp 27) = (if m25 = false then .pointer (some ⟨w.heap.size, 6, none⟩) else undef) := hs.eval 24 _ 27 rfl (hdep ⟨24, .data⟩ (by simp) rfl) rfl
    cases m25
    · replace e27 := e27.trans (if_pos rfl)
      exact g_val (.int .i64 p) hS (wanted_yes rfl rfl rfl eg) (op_ld1 (.int .i64 p) rfl e27 (L0.out.below hS) 6 (by first | rfl | simp) rfl Try.underlying3 rfl) rfl
    · exact g_not hS (wanted_no rfl rfl rfl eg (by decide)) rfl
  · go_light; intro listed a' w' hs hS hun hdep
    have eg : a'.eval (.tmp 26) = (.bool m25) := hs.eval 23 _ 26 rfl (hdep ⟨23, .guard⟩ (by simp) rfl) rfl
    have e28 : a'.eval (.tmp 28) = (if m25 = false then .int .i64 p else undef) := hs.eval 25 _ 28 rfl (hdep ⟨25, .data⟩ (by simp) rfl) rfl
    cases m25
    · replace e28 := e28.trans (if_pos rfl)
      refine g_val (.bool m29) hS (wanted_yes rfl rfl rfl eg) ?_ rfl
      rw [← hm29.out]
      have hcn := BigFrame.eval_const a'; have hfn := BigFrame.eval_func a'; clear hs hdep; generalize a'.eval = ev at *; go_simp
    · exact g_not hS (wanted_no rfl rfl rfl eg (by decide)) rfl
  · go_light; intro listed a' w' hs hS hun hdep
    have e26 : a'.eval (.tmp 26) = (.bool m25) := hs.eval 23 _ 26 rfl (hdep ⟨23, .data⟩ (by simp) rfl) rfl
    have e29 : a'.eval (.tmp 29) = (if m25 = false then .bool m29 else undef) := hs.eval 26 _ 29 rfl (hdep ⟨26, .data⟩ (by simp) rfl) rfl
    refine g_val (.bool m30) hS rfl ?_ rfl
    cases m25
    · replace e29 := e29.trans (if_pos rfl)
      exact (op_pick_f rfl e26 e29).trans (by rw [← hm30.out]; first | rfl | simp)
    · replace e29 := e29.trans (if_neg (by decide))
      exact (op_pick_t rfl e26 (BigFrame.eval_const a' _)).trans (by rw [← hm30.out]; first | rfl | simp)
  · intro vs w3 hlen hV hS
    obtain ⟨v0, v1, v2, v3, v4, v5, v6, v7, v8, v9, v10, v11, v12, v13, v14, v15, v16, v17, v18, v19, v20, v21, v22, v23, v24, v25, v26, v27, rfl⟩ := vs_28 vs (hlen.trans rfl)
    have q0 : v0 = .pointer (some ⟨w.heap.size, 0, none⟩) := hV 0 _ rfl
    have q1 : v1 = .int .i64 i := hV 1 _ rfl
    have q2 : v2 = .bool m5 := hV 2 _ rfl
    have q3 : v3 = .bool m5 := hV 3 _ rfl
    have q7 : v7 = .bool m10 := hV 7 _ rfl
    have q8 : v8 = .bool m10 := hV 8 _ rfl
    have q12 : v12 = .bool m15 := hV 12 _ rfl
    have q13 : v13 = .bool m15 := hV 13 _ rfl
    have q17 : v17 = .bool m20 := hV 17 _ rfl
    have q18 : v18 = .bool m20 := hV 18 _ rfl
    have q22 : v22 = .bool m25 := hV 22 _ rfl
    have q23 : v23 = .bool m25 := hV 23 _ rfl
    have q27 : v27 = .bool m30 := hV 27 _ rfl
    have hbel : Below W0.heap.size W0 w3 := hS
    subst q0 q1 q2 q3 q7 q8 q12 q13 q17 q18 q22 q23 q27
    clear hV hS hlen
    simp only [lays, Act.put, List.setIfInBounds_toArray, List.set_cons_zero, List.set_cons_succ, List.drop_succ_cons, List.drop_zero, List.take_succ_cons, List.take_zero]
    have HO2 : Hid (m30 = true → ((⟨i, o, sa, sb, da, db, p, slo, shi, dlo, dhi, al⟩ : Ru).ok) = false) := Lib.hid (fun h => HO.out (by rw [← h]; rw [← hm30.out, ← hm29.out, ← hm25.out, ← hm24.out, ← hm20.out, ← hm19.out, ← hm15.out, ← hm14.out, ← hm10.out, ← hm9.out, ← hm5.out]))
    have HI2 : Hid (m30 = false → ((⟨i, o, sa, sb, da, db, p, slo, shi, dlo, dhi, al⟩ : Ru).ok) = (A.right sa sb && A.right da db && wid slo shi 0 65535 && wid dlo dhi 0 65535)) := Lib.hid (fun h => HI.out (by rw [← h]; rw [← hm30.out, ← hm29.out, ← hm25.out, ← hm24.out, ← hm20.out, ← hm19.out, ← hm15.out, ← hm14.out, ← hm10.out, ← hm9.out, ← hm5.out]))
    have L3 := Lib.hid (L0.out.below hbel)
    have hb3 := hb0.trans (hbel.mono hb0.size)
    clear HO HI hbel L0 hm5 hm9 hm10 hm14 hm15 hm19 hm20 hm24 hm25 hm29 hm30 hb0 
    cases m30
    · have G := Lib.hid (HI2.out rfl)
      clear HO2 HI2
      go_upto_region 3 with fail
      obtain ⟨n33, hn33⟩ : ∃ x, (A.right sa sb) = x := ⟨_, rfl⟩
      replace hn33 := Lib.hid hn33
      have C33 := Lib.hid (fun (w' : World) (hb : Below w3.heap.size w3 w') => show Calls Try.prog 30 #[.agg #[.int .u32 sa, .int .i64 sb]] w' (fun e w'' => e = .returned (.bool n33) ∧ Below w'.heap.size w' w'') from (by rw [← hn33.out]; exact refright_any sa sb w' Hsa.out))
      obtain ⟨n37, hn37⟩ : ∃ x, (A.right da db) = x := ⟨_, rfl⟩
      replace hn37 := Lib.hid hn37
      have C37 := Lib.hid (fun (w' : World) (hb : Below w3.heap.size w3 w') => show Calls Try.prog 30 #[.agg #[.int .u32 da, .int .i64 db]] w' (fun e w'' => e = .returned (.bool n37) ∧ Below w'.heap.size w' w'') from (by rw [← hn37.out]; exact refright_any da db w' Hda.out))
      obtain ⟨n38, hn38⟩ : ∃ x, (n33 && n37) = x := ⟨_, rfl⟩
      replace hn38 := Lib.hid hn38
      obtain ⟨n44, hn44⟩ : ∃ x, (wid slo shi 0 65535) = x := ⟨_, rfl⟩
      replace hn44 := Lib.hid hn44
      have C44 := Lib.hid (fun (w' : World) (hb : Below w3.heap.size w3 w') => show Calls Try.prog 31 #[.int .i64 slo, .int .i64 shi] w' (fun e w'' => e = .returned (.bool n44) ∧ Below w'.heap.size w' w'') from (by rw [← hn44.out]; exact same_below (rspan_any slo shi w')))
      obtain ⟨n45, hn45⟩ : ∃ x, (n38 && n44) = x := ⟨_, rfl⟩
      replace hn45 := Lib.hid hn45
      obtain ⟨n51, hn51⟩ : ∃ x, (wid dlo dhi 0 65535) = x := ⟨_, rfl⟩
      replace hn51 := Lib.hid hn51
      have C51 := Lib.hid (fun (w' : World) (hb : Below w3.heap.size w3 w') => show Calls Try.prog 31 #[.int .i64 dlo, .int .i64 dhi] w' (fun e w'' => e = .returned (.bool n51) ∧ Below w'.heap.size w' w'') from (by rw [← hn51.out]; exact same_below (rspan_any dlo dhi w')))
      obtain ⟨n52, hn52⟩ : ∃ x, (n45 && n51) = x := ⟨_, rfl⟩
      replace hn52 := Lib.hid hn52
      refine region_seq 22 (VG w3.heap.size [.val (.pointer (some ⟨w.heap.size, 2, none⟩)), .val (.agg #[.int .u32 sa, .int .i64 sb]), .val (.bool n33), .val (.bool n33), .val (if n33 = true then .pointer (some ⟨w.heap.size, 4, none⟩) else undef), .val (if n33 = true then .agg #[.int .u32 da, .int .i64 db] else undef), .val (if n33 = true then .bool n37 else undef), .val (.bool n38), .val (.bool n38), .val (if n38 = true then .pointer (some ⟨w.heap.size, 7, none⟩) else undef), .val (if n38 = true then .int .i64 slo else undef), .val (if n38 = true then .pointer (some ⟨w.heap.size, 8, none⟩) else undef), .val (if n38 = true then .int .i64 shi else undef), .val (if n38 = true then .bool n44 else undef), .val (.bool n45), .val (.bool n45), .val (if n45 = true then .pointer (some ⟨w.heap.size, 9, none⟩) else undef), .val (if n45 = true then .int .i64 dlo else undef), .val (if n45 = true then .pointer (some ⟨w.heap.size, 10, none⟩) else undef), .val (if n45 = true then .int .i64 dhi else undef), .val (if n45 = true then .bool n51 else undef), .val (.bool n52)]) (BS w3) (by kernel_rfl) (Below.refl _ _) ⟨?_, ?_, ?_, ?_, ?_, ?_, ?_, ?_, ?_, ?_, ?_, ?_, ?_, ?_, ?_, ?_, ?_, ?_, ?_, ?_, ?_, ?_, trivial⟩ ?_
      · go_light; intro listed a' w' hs hS hun hdep
        have e1 : a'.eval (.tmp 1) = .pointer (some ⟨w.heap.size, 0, none⟩) := (hs.out 1 (by kernel_rfl)).trans (rfl)
        refine g_val (.pointer (some ⟨w.heap.size, 2, none⟩)) hS rfl ?_ rfl
        have hcn := BigFrame.eval_const a'; have hfn := BigFrame.eval_func a'; clear hs hdep; generalize a'.eval = ev at *; go_simp
      · go_light; intro listed a' w' hs hS hun hdep
        have e31 : a'.eval (.tmp 31) = (.pointer (some ⟨w.heap.size, 2, none⟩)) := hs.eval 0 _ 31 rfl (hdep ⟨0, .data⟩ (by simp) rfl) rfl
        exact g_val (.agg #[.int .u32 sa, .int .i64 sb]) hS rfl (op_ld [.int .u32 sa, .int .i64 sb] rfl e31 (L3.out.below hS) 2 (by first | rfl | simp) rfl Try.underlying32 rfl (by kernel_rfl)) rfl
      · go_light; intro listed a' w' hs hS hun hdep
        have e32 : a'.eval (.tmp 32) = (.agg #[.int .u32 sa, .int .i64 sb]) := hs.eval 1 _ 32 rfl (hdep ⟨1, .data⟩ (by simp) rfl) rfl
        refine g_call 30 #[.agg #[.int .u32 sa, .int .i64 sb]] hS rfl ?_ ?_
        · have hcn := BigFrame.eval_const a'; have hfn := BigFrame.eval_func a'; clear hs hdep; generalize a'.eval = ev at *; go_simp
        · exact c_val (C33.out w' hS) rfl
      · go_light; intro listed a' w' hs hS hun hdep
        have e33 : a'.eval (.tmp 33) = (.bool n33) := hs.eval 2 _ 33 rfl (hdep ⟨2, .data⟩ (by simp) rfl) rfl
        exact g_val (.bool n33) hS rfl (op_move rfl e33) rfl
      · go_light; intro listed a' w' hs hS hun hdep
        have eg : a'.eval (.tmp 34) = (.bool n33) := hs.eval 3 _ 34 rfl (hdep ⟨3, .guard⟩ (by simp) rfl) rfl
        have e1 : a'.eval (.tmp 1) = .pointer (some ⟨w.heap.size, 0, none⟩) := (hs.out 1 (by kernel_rfl)).trans (rfl)
        cases n33
        · exact g_not hS (wanted_no rfl rfl rfl eg (by decide)) rfl
        · refine g_val (.pointer (some ⟨w.heap.size, 4, none⟩)) hS (wanted_yes rfl rfl rfl eg) ?_ rfl
          have hcn := BigFrame.eval_const a'; have hfn := BigFrame.eval_func a'; clear hs hdep; generalize a'.eval = ev at *; go_simp
      · go_light; intro listed a' w' hs hS hun hdep
        have eg : a'.eval (.tmp 34) = (.bool n33) := hs.eval 3 _ 34 rfl (hdep ⟨3, .guard⟩ (by simp) rfl) rfl
        have e35 : a'.eval (.tmp 35) = (if n33 = true then .pointer (some ⟨w.heap.size, 4, none⟩) else undef) := hs.eval 4 _ 35 rfl (hdep ⟨4, .data⟩ (by simp) rfl) rfl
        cases n33
        · exact g_not hS (wanted_no rfl rfl rfl eg (by decide)) rfl
        · replace e35 := e35.trans (if_pos rfl)
          exact g_val (.agg #[.int .u32 da, .int .i64 db]) hS (wanted_yes rfl rfl rfl eg) (op_ld [.int .u32 da, .int .i64 db] rfl e35 (L3.out.below hS) 4 (by first | rfl | simp) rfl Try.underlying32 rfl (by kernel_rfl)) rfl
      · go_light; intro listed a' w' hs hS hun hdep
        have eg : a'.eval (.tmp 34) = (.bool n33) := hs.eval 3 _ 34 rfl (hdep ⟨3, .guard⟩ (by simp) rfl) rfl
        have e36 : a'.eval (.tmp 36) = (if n33 = true then .agg #[.int .u32 da, .int .i64 db] else undef) := hs.eval 5 _ 36 rfl (hdep ⟨5, .data⟩ (by simp) rfl) rfl
        cases n33
        · exact g_not hS (wanted_no rfl rfl rfl eg (by decide)) rfl
        · replace e36 := e36.trans (if_pos rfl)
          refine g_call 30 #[.agg #[.int .u32 da, .int .i64 db]] hS (wanted_yes rfl rfl rfl eg) ?_ ?_
          · have hcn := BigFrame.eval_const a'; have hfn := BigFrame.eval_func a'; clear hs hdep; generalize a'.eval = ev at *; go_simp
          · exact c_val (C37.out w' hS) rfl
      · go_light; intro listed a' w' hs hS hun hdep
        have e34 : a'.eval (.tmp 34) = (.bool n33) := hs.eval 3 _ 34 rfl (hdep ⟨3, .data⟩ (by simp) rfl) rfl
        have e37 : a'.eval (.tmp 37) = (if n33 = true then .bool n37 else undef) := hs.eval 6 _ 37 rfl (hdep ⟨6, .data⟩ (by simp) rfl) rfl
        refine g_val (.bool n38) hS rfl ?_ rfl
        cases n33
        · replace e37 := e37.trans (if_neg (by decide))
          exact (op_pick_f rfl e34 (BigFrame.eval_const a' _)).trans (by rw [← hn38.out]; first | rfl | simp)
        · replace e37 := e37.trans (if_pos rfl)
          exact (op_pick_t rfl e34 e37).trans (by rw [← hn38.out]; first | rfl | simp)
      · go_light; intro listed a' w' hs hS hun hdep
        have e38 : a'.eval (.tmp 38) = (.bool n38) := hs.eval 7 _ 38 rfl (hdep ⟨7, .data⟩ (by simp) rfl) rfl
        exact g_val (.bool n38) hS rfl (op_move rfl e38) rfl
      · go_light; intro listed a' w' hs hS hun hdep
        have eg : a'.eval (.tmp 39) = (.bool n38) := hs.eval 8 _ 39 rfl (hdep ⟨8, .guard⟩ (by simp) rfl) rfl
        have e1 : a'.eval (.tmp 1) = .pointer (some ⟨w.heap.size, 0, none⟩) := (hs.out 1 (by kernel_rfl)).trans (rfl)
        cases n38
        · exact g_not hS (wanted_no rfl rfl rfl eg (by decide)) rfl
        · refine g_val (.pointer (some ⟨w.heap.size, 7, none⟩)) hS (wanted_yes rfl rfl rfl eg) ?_ rfl
          have hcn := BigFrame.eval_const a'; have hfn := BigFrame.eval_func a'; clear hs hdep; generalize a'.eval = ev at *; go_simp
      · go_light; intro listed a' w' hs hS hun hdep
        have eg : a'.eval (.tmp 39) = (.bool n38) := hs.eval 8 _ 39 rfl (hdep ⟨8, .guard⟩ (by simp) rfl) rfl
        have e40 : a'.eval (.tmp 40) = (if n38 = true then .pointer (some ⟨w.heap.size, 7, none⟩) else undef) := hs.eval 9 _ 40 rfl (hdep ⟨9, .data⟩ (by simp) rfl) rfl
        cases n38
        · exact g_not hS (wanted_no rfl rfl rfl eg (by decide)) rfl
        · replace e40 := e40.trans (if_pos rfl)
          exact g_val (.int .i64 slo) hS (wanted_yes rfl rfl rfl eg) (op_ld1 (.int .i64 slo) rfl e40 (L3.out.below hS) 7 (by first | rfl | simp) rfl Try.underlying3 rfl) rfl
      · go_light; intro listed a' w' hs hS hun hdep
        have eg : a'.eval (.tmp 39) = (.bool n38) := hs.eval 8 _ 39 rfl (hdep ⟨8, .guard⟩ (by simp) rfl) rfl
        have e1 : a'.eval (.tmp 1) = .pointer (some ⟨w.heap.size, 0, none⟩) := (hs.out 1 (by kernel_rfl)).trans (rfl)
        cases n38
        · exact g_not hS (wanted_no rfl rfl rfl eg (by decide)) rfl
        · refine g_val (.pointer (some ⟨w.heap.size, 8, none⟩)) hS (wanted_yes rfl rfl rfl eg) ?_ rfl
          have hcn := BigFrame.eval_const a'; have hfn := BigFrame.eval_func a'; clear hs hdep; generalize a'.eval = ev at *; go_simp
      · go_light; intro listed a' w' hs hS hun hdep
        have eg : a'.eval (.tmp 39) = (.bool n38) := hs.eval 8 _ 39 rfl (hdep ⟨8, .guard⟩ (by simp) rfl) rfl
        have e42 : a'.eval (.tmp 42) = (if n38 = true then .pointer (some ⟨w.heap.size, 8, none⟩) else undef) := hs.eval 11 _ 42 rfl (hdep ⟨11, .data⟩ (by simp) rfl) rfl
        cases n38
        · exact g_not hS (wanted_no rfl rfl rfl eg (by decide)) rfl
        · replace e42 := e42.trans (if_pos rfl)
          exact g_val (.int .i64 shi) hS (wanted_yes rfl rfl rfl eg) (op_ld1 (.int .i64 shi) rfl e42 (L3.out.below hS) 8 (by first | rfl | simp) rfl Try.underlying3 rfl) rfl
      · go_light; intro listed a' w' hs hS hun hdep
        have eg : a'.eval (.tmp 39) = (.bool n38) := hs.eval 8 _ 39 rfl (hdep ⟨8, .guard⟩ (by simp) rfl) rfl
        have e41 : a'.eval (.tmp 41) = (if n38 = true then .int .i64 slo else undef) := hs.eval 10 _ 41 rfl (hdep ⟨10, .data⟩ (by simp) rfl) rfl
        have e43 : a'.eval (.tmp 43) = (if n38 = true then .int .i64 shi else undef) := hs.eval 12 _ 43 rfl (hdep ⟨12, .data⟩ (by simp) rfl) rfl
        cases n38
        · exact g_not hS (wanted_no rfl rfl rfl eg (by decide)) rfl
        · replace e41 := e41.trans (if_pos rfl)
          replace e43 := e43.trans (if_pos rfl)
          refine g_call 31 #[.int .i64 slo, .int .i64 shi] hS (wanted_yes rfl rfl rfl eg) ?_ ?_
          · have hcn := BigFrame.eval_const a'; have hfn := BigFrame.eval_func a'; clear hs hdep; generalize a'.eval = ev at *; go_simp
          · exact c_val (C44.out w' hS) rfl
      · go_light; intro listed a' w' hs hS hun hdep
        have e39 : a'.eval (.tmp 39) = (.bool n38) := hs.eval 8 _ 39 rfl (hdep ⟨8, .data⟩ (by simp) rfl) rfl
        have e44 : a'.eval (.tmp 44) = (if n38 = true then .bool n44 else undef) := hs.eval 13 _ 44 rfl (hdep ⟨13, .data⟩ (by simp) rfl) rfl
        refine g_val (.bool n45) hS rfl ?_ rfl
        cases n38
        · replace e44 := e44.trans (if_neg (by decide))
          exact (op_pick_f rfl e39 (BigFrame.eval_const a' _)).trans (by rw [← hn45.out]; first | rfl | simp)
        · replace e44 := e44.trans (if_pos rfl)
          exact (op_pick_t rfl e39 e44).trans (by rw [← hn45.out]; first | rfl | simp)
      · go_light; intro listed a' w' hs hS hun hdep
        have e45 : a'.eval (.tmp 45) = (.bool n45) := hs.eval 14 _ 45 rfl (hdep ⟨14, .data⟩ (by simp) rfl) rfl
        exact g_val (.bool n45) hS rfl (op_move rfl e45) rfl
      · go_light; intro listed a' w' hs hS hun hdep
        have eg : a'.eval (.tmp 46) = (.bool n45) := hs.eval 15 _ 46 rfl (hdep ⟨15, .guard⟩ (by simp) rfl) rfl
        have e1 : a'.eval (.tmp 1) = .pointer (some ⟨w.heap.size, 0, none⟩) := (hs.out 1 (by kernel_rfl)).trans (rfl)
        cases n45
        · exact g_not hS (wanted_no rfl rfl rfl eg (by decide)) rfl
        · refine g_val (.pointer (some ⟨w.heap.size, 9, none⟩)) hS (wanted_yes rfl rfl rfl eg) ?_ rfl
          have hcn := BigFrame.eval_const a'; have hfn := BigFrame.eval_func a'; clear hs hdep; generalize a'.eval = ev at *; go_simp
      · go_light; intro listed a' w' hs hS hun hdep
        have eg : a'.eval (.tmp 46) = (.bool n45) := hs.eval 15 _ 46 rfl (hdep ⟨15, .guard⟩ (by simp) rfl) rfl
        have e47 : a'.eval (.tmp 47) = (if n45 = true then .pointer (some ⟨w.heap.size, 9, none⟩) else undef) := hs.eval 16 _ 47 rfl (hdep ⟨16, .data⟩ (by simp) rfl) rfl
        cases n45
        · exact g_not hS (wanted_no rfl rfl rfl eg (by decide)) rfl
        · replace e47 := e47.trans (if_pos rfl)
          exact g_val (.int .i64 dlo) hS (wanted_yes rfl rfl rfl eg) (op_ld1 (.int .i64 dlo) rfl e47 (L3.out.below hS) 9 (by first | rfl | simp) rfl Try.underlying3 rfl) rfl
      · go_light; intro listed a' w' hs hS hun hdep
        have eg : a'.eval (.tmp 46) = (.bool n45) := hs.eval 15 _ 46 rfl (hdep ⟨15, .guard⟩ (by simp) rfl) rfl
        have e1 : a'.eval (.tmp 1) = .pointer (some ⟨w.heap.size, 0, none⟩) := (hs.out 1 (by kernel_rfl)).trans (rfl)
        cases n45
        · exact g_not hS (wanted_no rfl rfl rfl eg (by decide)) rfl
        · refine g_val (.pointer (some ⟨w.heap.size, 10, none⟩)) hS (wanted_yes rfl rfl rfl eg) ?_ rfl
          have hcn := BigFrame.eval_const a'; have hfn := BigFrame.eval_func a'; clear hs hdep; generalize a'.eval = ev at *; go_simp
      · go_light; intro listed a' w' hs hS hun hdep
        have eg : a'.eval (.tmp 46) = (.bool n45) := hs.eval 15 _ 46 rfl (hdep ⟨15, .guard⟩ (by simp) rfl) rfl
        have e49 : a'.eval (.tmp 49) = (if n45 = true then .pointer (some ⟨w.heap.size, 10, none⟩) else undef) := hs.eval 18 _ 49 rfl (hdep ⟨18, .data⟩ (by simp) rfl) rfl
        cases n45
        · exact g_not hS (wanted_no rfl rfl rfl eg (by decide)) rfl
        · replace e49 := e49.trans (if_pos rfl)
          exact g_val (.int .i64 dhi) hS (wanted_yes rfl rfl rfl eg) (op_ld1 (.int .i64 dhi) rfl e49 (L3.out.below hS) 10 (by first | rfl | simp) rfl Try.underlying3 rfl) rfl
      · go_light; intro listed a' w' hs hS hun hdep
        have eg : a'.eval (.tmp 46) = (.bool n45) := hs.eval 15 _ 46 rfl (hdep ⟨15, .guard⟩ (by simp) rfl) rfl
        have e48 : a'.eval (.tmp 48) = (if n45 = true then .int .i64 dlo else undef) := hs.eval 17 _ 48 rfl (hdep ⟨17, .data⟩ (by simp) rfl) rfl
        have e50 : a'.eval (.tmp 50) = (if n45 = true then .int .i64 dhi else undef) := hs.eval 19 _ 50 rfl (hdep ⟨19, .data⟩ (by simp) rfl) rfl
        cases n45
        · exact g_not hS (wanted_no rfl rfl rfl eg (by decide)) rfl
        · replace e48 := e48.trans (if_pos rfl)
          replace e50 := e50.trans (if_pos rfl)
          refine g_call 31 #[.int .i64 dlo, .int .i64 dhi] hS (wanted_yes rfl rfl rfl eg) ?_ ?_
          · have hcn := BigFrame.eval_const a'; have hfn := BigFrame.eval_func a'; clear hs hdep; generalize a'.eval = ev at *; go_simp
          · exact c_val (C51.out w' hS) rfl
      · go_light; intro listed a' w' hs hS hun hdep
        have e46 : a'.eval (.tmp 46) = (.bool n45) := hs.eval 15 _ 46 rfl (hdep ⟨15, .data⟩ (by simp) rfl) rfl
        have e51 : a'.eval (.tmp 51) = (if n45 = true then .bool n51 else undef) := hs.eval 20 _ 51 rfl (hdep ⟨20, .data⟩ (by simp) rfl) rfl
        refine g_val (.bool n52) hS rfl ?_ rfl
        cases n45
        · replace e51 := e51.trans (if_neg (by decide))
          exact (op_pick_f rfl e46 (BigFrame.eval_const a' _)).trans (by rw [← hn52.out]; first | rfl | simp)
        · replace e51 := e51.trans (if_pos rfl)
          exact (op_pick_t rfl e46 e51).trans (by rw [← hn52.out]; first | rfl | simp)
      · intro vs w4 hlen hV hS
        obtain ⟨v0, v1, v2, v3, v4, v5, v6, v7, v8, v9, v10, v11, v12, v13, v14, v15, v16, v17, v18, v19, v20, v21, rfl⟩ := vs_22 vs (hlen.trans rfl)
        have q0 : v0 = .pointer (some ⟨w.heap.size, 2, none⟩) := hV 0 _ rfl
        have q1 : v1 = .agg #[.int .u32 sa, .int .i64 sb] := hV 1 _ rfl
        have q2 : v2 = .bool n33 := hV 2 _ rfl
        have q3 : v3 = .bool n33 := hV 3 _ rfl
        have q7 : v7 = .bool n38 := hV 7 _ rfl
        have q8 : v8 = .bool n38 := hV 8 _ rfl
        have q14 : v14 = .bool n45 := hV 14 _ rfl
        have q15 : v15 = .bool n45 := hV 15 _ rfl
        have q21 : v21 = .bool n52 := hV 21 _ rfl
        have hbel : Below w3.heap.size w3 w4 := hS
        subst q0 q1 q2 q3 q7 q8 q14 q15 q21
        clear hV hS hlen
        simp only [lays, Act.put, List.setIfInBounds_toArray, List.set_cons_zero, List.set_cons_succ, List.drop_succ_cons, List.drop_zero, List.take_succ_cons, List.take_zero]
        go_wp2
        go_ret
        exact ⟨by rw [G.out, ← hn52.out, ← hn51.out, ← hn45.out, ← hn44.out, ← hn38.out, ← hn37.out, ← hn33.out]; rfl, hb3.trans (hbel.mono hb3.size)⟩
    · have G := Lib.hid (HO2.out rfl)
      go_wp2
      go_ret
      exact ⟨by rw [G.out]; rfl, hb3⟩
#print axioms refok_any
end Go.Proofs.Ytagfcfkkjllfpaa
