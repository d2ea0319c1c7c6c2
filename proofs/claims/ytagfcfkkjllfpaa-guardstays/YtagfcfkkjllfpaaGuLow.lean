/- What a relabelling rule asks for; which are right; the document's answers. -/
import Derived.Test.YtagfcfkkjllfpaaGuMath
import Derived.Test.YtagfcfkkjllfpaaAddrRef
import Derived.Test.YtagfcfkkjllfpaaQRows
import Derived.Test.YtagfcfkkjllfpaaQSeq
namespace Go.Proofs.Ytagfcfkkjllfpaa
open Go.RowKit
set_option maxRecDepth 100000
set_option linter.unusedVariables false
open Gd

-- REGIONS
theorem vs_35 (vs : List Value) (h : vs.length = 35) : ∃ v0 v1 v2 v3 v4 v5 v6 v7 v8 v9 v10 v11 v12 v13 v14 v15 v16 v17 v18 v19 v20 v21 v22 v23 v24 v25 v26 v27 v28 v29 v30 v31 v32 v33 v34, vs = [v0, v1, v2, v3, v4, v5, v6, v7, v8, v9, v10, v11, v12, v13, v14, v15, v16, v17, v18, v19, v20, v21, v22, v23, v24, v25, v26, v27, v28, v29, v30, v31, v32, v33, v34] := by
  obtain ⟨v0, r0, rfl, h0⟩ := vs_cons vs h
  obtain ⟨v1, r1, rfl, h1⟩ := vs_cons r0 h0
  obtain ⟨v2, r2, rfl, h2⟩ := vs_cons r1 h1
  obtain ⟨v3, r3, rfl, h3⟩ := vs_cons r2 h2
  obtain ⟨v4, r4, rfl, h4⟩ := vs_cons r3 h3
  obtain ⟨v5, r5, rfl, h5⟩ := vs_cons r4 h4
  obtain ⟨v6, r6, rfl, h6⟩ := vs_cons r5 h5
  obtain ⟨v7, r7, rfl, h7⟩ := vs_cons r6 h6
  obtain ⟨v8, r8, rfl, h8⟩ := vs_cons r7 h7
  obtain ⟨v9, r9, rfl, h9⟩ := vs_cons r8 h8
  obtain ⟨v10, r10, rfl, h10⟩ := vs_cons r9 h9
  obtain ⟨v11, r11, rfl, h11⟩ := vs_cons r10 h10
  obtain ⟨v12, r12, rfl, h12⟩ := vs_cons r11 h11
  obtain ⟨v13, r13, rfl, h13⟩ := vs_cons r12 h12
  obtain ⟨v14, r14, rfl, h14⟩ := vs_cons r13 h13
  obtain ⟨v15, r15, rfl, h15⟩ := vs_cons r14 h14
  obtain ⟨v16, r16, rfl, h16⟩ := vs_cons r15 h15
  obtain ⟨v17, r17, rfl, h17⟩ := vs_cons r16 h16
  obtain ⟨v18, r18, rfl, h18⟩ := vs_cons r17 h17
  obtain ⟨v19, r19, rfl, h19⟩ := vs_cons r18 h18
  obtain ⟨v20, r20, rfl, h20⟩ := vs_cons r19 h19
  obtain ⟨v21, r21, rfl, h21⟩ := vs_cons r20 h20
  obtain ⟨v22, r22, rfl, h22⟩ := vs_cons r21 h21
  obtain ⟨v23, r23, rfl, h23⟩ := vs_cons r22 h22
  obtain ⟨v24, r24, rfl, h24⟩ := vs_cons r23 h23
  obtain ⟨v25, r25, rfl, h25⟩ := vs_cons r24 h24
  obtain ⟨v26, r26, rfl, h26⟩ := vs_cons r25 h25
  obtain ⟨v27, r27, rfl, h27⟩ := vs_cons r26 h26
  obtain ⟨v28, r28, rfl, h28⟩ := vs_cons r27 h27
  obtain ⟨v29, r29, rfl, h29⟩ := vs_cons r28 h28
  obtain ⟨v30, r30, rfl, h30⟩ := vs_cons r29 h29
  obtain ⟨v31, r31, rfl, h31⟩ := vs_cons r30 h30
  obtain ⟨v32, r32, rfl, h32⟩ := vs_cons r31 h31
  obtain ⟨v33, r33, rfl, h33⟩ := vs_cons r32 h32
  obtain ⟨v34, r34, rfl, h34⟩ := vs_cons r33 h33
  obtain rfl := List.eq_nil_of_length_eq_zero h34
  exact ⟨v0, v1, v2, v3, v4, v5, v6, v7, v8, v9, v10, v11, v12, v13, v14, v15, v16, v17, v18, v19, v20, v21, v22, v23, v24, v25, v26, v27, v28, v29, v30, v31, v32, v33, v34, rfl⟩
theorem vs_50 (vs : List Value) (h : vs.length = 50) : ∃ v0 v1 v2 v3 v4 v5 v6 v7 v8 v9 v10 v11 v12 v13 v14 v15 v16 v17 v18 v19 v20 v21 v22 v23 v24 v25 v26 v27 v28 v29 v30 v31 v32 v33 v34 v35 v36 v37 v38 v39 v40 v41 v42 v43 v44 v45 v46 v47 v48 v49, vs = [v0, v1, v2, v3, v4, v5, v6, v7, v8, v9, v10, v11, v12, v13, v14, v15, v16, v17, v18, v19, v20, v21, v22, v23, v24, v25, v26, v27, v28, v29, v30, v31, v32, v33, v34, v35, v36, v37, v38, v39, v40, v41, v42, v43, v44, v45, v46, v47, v48, v49] := by
  obtain ⟨v0, r0, rfl, h0⟩ := vs_cons vs h
  obtain ⟨v1, r1, rfl, h1⟩ := vs_cons r0 h0
  obtain ⟨v2, r2, rfl, h2⟩ := vs_cons r1 h1
  obtain ⟨v3, r3, rfl, h3⟩ := vs_cons r2 h2
  obtain ⟨v4, r4, rfl, h4⟩ := vs_cons r3 h3
  obtain ⟨v5, r5, rfl, h5⟩ := vs_cons r4 h4
  obtain ⟨v6, r6, rfl, h6⟩ := vs_cons r5 h5
  obtain ⟨v7, r7, rfl, h7⟩ := vs_cons r6 h6
  obtain ⟨v8, r8, rfl, h8⟩ := vs_cons r7 h7
  obtain ⟨v9, r9, rfl, h9⟩ := vs_cons r8 h8
  obtain ⟨v10, r10, rfl, h10⟩ := vs_cons r9 h9
  obtain ⟨v11, r11, rfl, h11⟩ := vs_cons r10 h10
  obtain ⟨v12, r12, rfl, h12⟩ := vs_cons r11 h11
  obtain ⟨v13, r13, rfl, h13⟩ := vs_cons r12 h12
  obtain ⟨v14, r14, rfl, h14⟩ := vs_cons r13 h13
  obtain ⟨v15, r15, rfl, h15⟩ := vs_cons r14 h14
  obtain ⟨v16, r16, rfl, h16⟩ := vs_cons r15 h15
  obtain ⟨v17, r17, rfl, h17⟩ := vs_cons r16 h16
  obtain ⟨v18, r18, rfl, h18⟩ := vs_cons r17 h17
  obtain ⟨v19, r19, rfl, h19⟩ := vs_cons r18 h18
  obtain ⟨v20, r20, rfl, h20⟩ := vs_cons r19 h19
  obtain ⟨v21, r21, rfl, h21⟩ := vs_cons r20 h20
  obtain ⟨v22, r22, rfl, h22⟩ := vs_cons r21 h21
  obtain ⟨v23, r23, rfl, h23⟩ := vs_cons r22 h22
  obtain ⟨v24, r24, rfl, h24⟩ := vs_cons r23 h23
  obtain ⟨v25, r25, rfl, h25⟩ := vs_cons r24 h24
  obtain ⟨v26, r26, rfl, h26⟩ := vs_cons r25 h25
  obtain ⟨v27, r27, rfl, h27⟩ := vs_cons r26 h26
  obtain ⟨v28, r28, rfl, h28⟩ := vs_cons r27 h27
  obtain ⟨v29, r29, rfl, h29⟩ := vs_cons r28 h28
  obtain ⟨v30, r30, rfl, h30⟩ := vs_cons r29 h29
  obtain ⟨v31, r31, rfl, h31⟩ := vs_cons r30 h30
  obtain ⟨v32, r32, rfl, h32⟩ := vs_cons r31 h31
  obtain ⟨v33, r33, rfl, h33⟩ := vs_cons r32 h32
  obtain ⟨v34, r34, rfl, h34⟩ := vs_cons r33 h33
  obtain ⟨v35, r35, rfl, h35⟩ := vs_cons r34 h34
  obtain ⟨v36, r36, rfl, h36⟩ := vs_cons r35 h35
  obtain ⟨v37, r37, rfl, h37⟩ := vs_cons r36 h36
  obtain ⟨v38, r38, rfl, h38⟩ := vs_cons r37 h37
  obtain ⟨v39, r39, rfl, h39⟩ := vs_cons r38 h38
  obtain ⟨v40, r40, rfl, h40⟩ := vs_cons r39 h39
  obtain ⟨v41, r41, rfl, h41⟩ := vs_cons r40 h40
  obtain ⟨v42, r42, rfl, h42⟩ := vs_cons r41 h41
  obtain ⟨v43, r43, rfl, h43⟩ := vs_cons r42 h42
  obtain ⟨v44, r44, rfl, h44⟩ := vs_cons r43 h43
  obtain ⟨v45, r45, rfl, h45⟩ := vs_cons r44 h44
  obtain ⟨v46, r46, rfl, h46⟩ := vs_cons r45 h45
  obtain ⟨v47, r47, rfl, h47⟩ := vs_cons r46 h46
  obtain ⟨v48, r48, rfl, h48⟩ := vs_cons r47 h47
  obtain ⟨v49, r49, rfl, h49⟩ := vs_cons r48 h48
  obtain rfl := List.eq_nil_of_length_eq_zero h49
  exact ⟨v0, v1, v2, v3, v4, v5, v6, v7, v8, v9, v10, v11, v12, v13, v14, v15, v16, v17, v18, v19, v20, v21, v22, v23, v24, v25, v26, v27, v28, v29, v30, v31, v32, v33, v34, v35, v36, v37, v38, v39, v40, v41, v42, v43, v44, v45, v46, v47, v48, v49, rfl⟩
theorem vs_31 (vs : List Value) (h : vs.length = 31) : ∃ v0 v1 v2 v3 v4 v5 v6 v7 v8 v9 v10 v11 v12 v13 v14 v15 v16 v17 v18 v19 v20 v21 v22 v23 v24 v25 v26 v27 v28 v29 v30, vs = [v0, v1, v2, v3, v4, v5, v6, v7, v8, v9, v10, v11, v12, v13, v14, v15, v16, v17, v18, v19, v20, v21, v22, v23, v24, v25, v26, v27, v28, v29, v30] := by
  obtain ⟨v0, r0, rfl, h0⟩ := vs_cons vs h
  obtain ⟨v1, r1, rfl, h1⟩ := vs_cons r0 h0
  obtain ⟨v2, r2, rfl, h2⟩ := vs_cons r1 h1
  obtain ⟨v3, r3, rfl, h3⟩ := vs_cons r2 h2
  obtain ⟨v4, r4, rfl, h4⟩ := vs_cons r3 h3
  obtain ⟨v5, r5, rfl, h5⟩ := vs_cons r4 h4
  obtain ⟨v6, r6, rfl, h6⟩ := vs_cons r5 h5
  obtain ⟨v7, r7, rfl, h7⟩ := vs_cons r6 h6
  obtain ⟨v8, r8, rfl, h8⟩ := vs_cons r7 h7
  obtain ⟨v9, r9, rfl, h9⟩ := vs_cons r8 h8
  obtain ⟨v10, r10, rfl, h10⟩ := vs_cons r9 h9
  obtain ⟨v11, r11, rfl, h11⟩ := vs_cons r10 h10
  obtain ⟨v12, r12, rfl, h12⟩ := vs_cons r11 h11
  obtain ⟨v13, r13, rfl, h13⟩ := vs_cons r12 h12
  obtain ⟨v14, r14, rfl, h14⟩ := vs_cons r13 h13
  obtain ⟨v15, r15, rfl, h15⟩ := vs_cons r14 h14
  obtain ⟨v16, r16, rfl, h16⟩ := vs_cons r15 h15
  obtain ⟨v17, r17, rfl, h17⟩ := vs_cons r16 h16
  obtain ⟨v18, r18, rfl, h18⟩ := vs_cons r17 h17
  obtain ⟨v19, r19, rfl, h19⟩ := vs_cons r18 h18
  obtain ⟨v20, r20, rfl, h20⟩ := vs_cons r19 h19
  obtain ⟨v21, r21, rfl, h21⟩ := vs_cons r20 h20
  obtain ⟨v22, r22, rfl, h22⟩ := vs_cons r21 h21
  obtain ⟨v23, r23, rfl, h23⟩ := vs_cons r22 h22
  obtain ⟨v24, r24, rfl, h24⟩ := vs_cons r23 h23
  obtain ⟨v25, r25, rfl, h25⟩ := vs_cons r24 h24
  obtain ⟨v26, r26, rfl, h26⟩ := vs_cons r25 h25
  obtain ⟨v27, r27, rfl, h27⟩ := vs_cons r26 h26
  obtain ⟨v28, r28, rfl, h28⟩ := vs_cons r27 h27
  obtain ⟨v29, r29, rfl, h29⟩ := vs_cons r28 h28
  obtain ⟨v30, r30, rfl, h30⟩ := vs_cons r29 h29
  obtain rfl := List.eq_nil_of_length_eq_zero h30
  exact ⟨v0, v1, v2, v3, v4, v5, v6, v7, v8, v9, v10, v11, v12, v13, v14, v15, v16, v17, v18, v19, v20, v21, v22, v23, v24, v25, v26, v27, v28, v29, v30, rfl⟩
theorem vs_10 (vs : List Value) (h : vs.length = 10) : ∃ v0 v1 v2 v3 v4 v5 v6 v7 v8 v9, vs = [v0, v1, v2, v3, v4, v5, v6, v7, v8, v9] := by
  obtain ⟨v0, r0, rfl, h0⟩ := vs_cons vs h
  obtain ⟨v1, r1, rfl, h1⟩ := vs_cons r0 h0
  obtain ⟨v2, r2, rfl, h2⟩ := vs_cons r1 h1
  obtain ⟨v3, r3, rfl, h3⟩ := vs_cons r2 h2
  obtain ⟨v4, r4, rfl, h4⟩ := vs_cons r3 h3
  obtain ⟨v5, r5, rfl, h5⟩ := vs_cons r4 h4
  obtain ⟨v6, r6, rfl, h6⟩ := vs_cons r5 h5
  obtain ⟨v7, r7, rfl, h7⟩ := vs_cons r6 h6
  obtain ⟨v8, r8, rfl, h8⟩ := vs_cons r7 h7
  obtain ⟨v9, r9, rfl, h9⟩ := vs_cons r8 h8
  obtain rfl := List.eq_nil_of_length_eq_zero h9
  exact ⟨v0, v1, v2, v3, v4, v5, v6, v7, v8, v9, rfl⟩

set_option maxHeartbeats 1000000 in
theorem gfits_any (a n : Int) (w : World) : Calls Try.prog 42 #[.int .i64 a, .int .i64 n] w fun e w' => e = .returned (.bool (U.fits a n)) ∧ w = w' := by
  cases h : (a == (-1 : Int))
  · have H := Lib.hid (show U.fits a n = (a == n) by simp [U.fits, h])
    go_enter Try.func42, Try.ntmps42
    go_wp2
    go_ret
    exact ⟨by rw [H.out]; rfl, rfl⟩
  · have H := Lib.hid (show U.fits a n = true by simp [U.fits, h])
    go_enter Try.func42, Try.ntmps42
    go_wp2
    go_ret
    exact ⟨by rw [H.out]; rfl, rfl⟩

set_option maxHeartbeats 1000000 in
theorem number_any (a n : Int) (w : World) : Calls Try.prog 51 #[.int .i64 a, .int .i64 n] w fun e w' => e = .returned (.bool (num a n)) ∧ w = w' := by
  cases h : (a == (-1 : Int))
  · by_cases h0 : 0 ≤ a
    · have H := Lib.hid (show num a n = decide (a < n) by simp [num, h, h0])
      go_enter Try.func51, Try.ntmps51
      go_wp2
      go_ret
      exact ⟨by rw [H.out]; rfl, rfl⟩
    · have H := Lib.hid (show num a n = false by simp [num, h, h0])
      go_enter Try.func51, Try.ntmps51
      go_wp2
      go_ret
      exact ⟨by rw [H.out]; rfl, rfl⟩
  · have H := Lib.hid (show num a n = true by simp [num, h])
    go_enter Try.func51, Try.ntmps51
    go_wp2
    go_ret
    exact ⟨by rw [H.out]; rfl, rfl⟩

set_option maxHeartbeats 4000000 in
theorem gok_any (mm : Int) (r : Gu) (w : World) (hsa : r.sa < 4294967296) (hda : r.da < 4294967296) : Calls Try.prog 44 #[.int .i64 mm, .agg r.v.toArray] w fun e w' => e = .returned (.bool (r.ok mm)) ∧ Below w.heap.size w w' := by
  obtain ⟨i, lb, sa, sb, da, db, p, tt⟩ := r
  have Hsa := Lib.hid hsa
  have Hda := Lib.hid hda
  simp only [Gu.v] at *
  clear hsa hda
  go_enter Try.func44, Try.ntmps44
  go_upto_region 1 with fail
  have hb0 : Below w.heap.size w (w.alloc (.cells #[.int .i64 i, .int .i64 lb, .int .u32 sa, .int .i64 sb, .int .u32 da, .int .i64 db, .int .i64 p, .int .i64 tt] 50)) := (Below.refl _ w).alloc (Nat.le_refl _) _
  have L0 : Hid (Lies (w.alloc (.cells #[.int .i64 i, .int .i64 lb, .int .u32 sa, .int .i64 sb, .int .u32 da, .int .i64 db, .int .i64 p, .int .i64 tt] 50)) w.heap.size 0 [.int .i64 i, .int .i64 lb, .int .u32 sa, .int .i64 sb, .int .u32 da, .int .i64 db, .int .i64 p, .int .i64 tt]) := Lib.hid (Lies.new w [.int .i64 i, .int .i64 lb, .int .u32 sa, .int .i64 sb, .int .u32 da, .int .i64 db, .int .i64 p, .int .i64 tt] _)
  generalize (w.alloc (.cells #[.int .i64 i, .int .i64 lb, .int .u32 sa, .int .i64 sb, .int .u32 da, .int .i64 db, .int .i64 p, .int .i64 tt] 50)) = W0 at *
  obtain ⟨m7, hm7⟩ : ∃ x, (num i 8) = x := ⟨_, rfl⟩
  replace hm7 := Lib.hid hm7
  have C7 := Lib.hid (fun (w' : World) (hb : Below W0.heap.size W0 w') => show Calls Try.prog 51 #[.int .i64 i, .int .i64 8] w' (fun e w'' => e = .returned (.bool m7) ∧ Below w'.heap.size w' w'') from (by rw [← hm7.out]; exact same_below (number_any i 8 w')))
  obtain ⟨m12, hm12⟩ : ∃ x, (num lb mm) = x := ⟨_, rfl⟩
  replace hm12 := Lib.hid hm12
  have C12 := Lib.hid (fun (w' : World) (hb : Below W0.heap.size W0 w') => show Calls Try.prog 51 #[.int .i64 lb, .int .i64 mm] w' (fun e w'' => e = .returned (.bool m12) ∧ Below w'.heap.size w' w'') from (by rw [← hm12.out]; exact same_below (number_any lb mm w')))
  obtain ⟨m13, hm13⟩ : ∃ x, (m7 && m12) = x := ⟨_, rfl⟩
  replace hm13 := Lib.hid hm13
  obtain ⟨m17, hm17⟩ : ∃ x, (num p 256) = x := ⟨_, rfl⟩
  replace hm17 := Lib.hid hm17
  have C17 := Lib.hid (fun (w' : World) (hb : Below W0.heap.size W0 w') => show Calls Try.prog 51 #[.int .i64 p, .int .i64 256] w' (fun e w'' => e = .returned (.bool m17) ∧ Below w'.heap.size w' w'') from (by rw [← hm17.out]; exact same_below (number_any p 256 w')))
  obtain ⟨m18, hm18⟩ : ∃ x, (m13 && m17) = x := ⟨_, rfl⟩
  replace hm18 := Lib.hid hm18
  obtain ⟨m22, hm22⟩ : ∃ x, (A.right sa sb) = x := ⟨_, rfl⟩
  replace hm22 := Lib.hid hm22
  have C22 := Lib.hid (fun (w' : World) (hb : Below W0.heap.size W0 w') => show Calls Try.prog 49 #[.agg #[.int .u32 sa, .int .i64 sb]] w' (fun e w'' => e = .returned (.bool m22) ∧ Below w'.heap.size w' w'') from (by rw [← hm22.out]; exact right_any sa sb w' Hsa.out))
  obtain ⟨m23, hm23⟩ : ∃ x, (m18 && m22) = x := ⟨_, rfl⟩
  replace hm23 := Lib.hid hm23
  obtain ⟨m27, hm27⟩ : ∃ x, (A.right da db) = x := ⟨_, rfl⟩
  replace hm27 := Lib.hid hm27
  have C27 := Lib.hid (fun (w' : World) (hb : Below W0.heap.size W0 w') => show Calls Try.prog 49 #[.agg #[.int .u32 da, .int .i64 db]] w' (fun e w'' => e = .returned (.bool m27) ∧ Below w'.heap.size w' w'') from (by rw [← hm27.out]; exact right_any da db w' Hda.out))
  obtain ⟨m28, hm28⟩ : ∃ x, (m23 && m27) = x := ⟨_, rfl⟩
  replace hm28 := Lib.hid hm28
  obtain ⟨m32, hm32⟩ : ∃ x, (decide (0 ≤ tt)) = x := ⟨_, rfl⟩
  replace hm32 := Lib.hid hm32
  obtain ⟨m33, hm33⟩ : ∃ x, (m28 && m32) = x := ⟨_, rfl⟩
  replace hm33 := Lib.hid hm33
  obtain ⟨m38, hm38⟩ : ∃ x, (decide (tt < mm)) = x := ⟨_, rfl⟩
  replace hm38 := Lib.hid hm38
  obtain ⟨m39, hm39⟩ : ∃ x, (m33 && m38) = x := ⟨_, rfl⟩
  replace hm39 := Lib.hid hm39
  refine region_seq 35 (VG W0.heap.size [.val (.pointer (some ⟨w.heap.size, 0, none⟩)), .val (.int .i64 i), .val (.bool m7), .val (.bool m7), .val (if m7 = true then .pointer (some ⟨w.heap.size, 1, none⟩) else undef), .val (if m7 = true then .int .i64 lb else undef), .val (if m7 = true then .int .i64 mm else undef), .val (if m7 = true then .bool m12 else undef), .val (.bool m13), .val (.bool m13), .val (if m13 = true then .pointer (some ⟨w.heap.size, 6, none⟩) else undef), .val (if m13 = true then .int .i64 p else undef), .val (if m13 = true then .bool m17 else undef), .val (.bool m18), .val (.bool m18), .val (if m18 = true then .pointer (some ⟨w.heap.size, 2, none⟩) else undef), .val (if m18 = true then .agg #[.int .u32 sa, .int .i64 sb] else undef), .val (if m18 = true then .bool m22 else undef), .val (.bool m23), .val (.bool m23), .val (if m23 = true then .pointer (some ⟨w.heap.size, 4, none⟩) else undef), .val (if m23 = true then .agg #[.int .u32 da, .int .i64 db] else undef), .val (if m23 = true then .bool m27 else undef), .val (.bool m28), .val (.bool m28), .val (if m28 = true then .pointer (some ⟨w.heap.size, 7, none⟩) else undef), .val (if m28 = true then .int .i64 tt else undef), .val (if m28 = true then .bool m32 else undef), .val (.bool m33), .val (.bool m33), .val (if m33 = true then .pointer (some ⟨w.heap.size, 7, none⟩) else undef), .val (if m33 = true then .int .i64 tt else undef), .val (if m33 = true then .int .i64 mm else undef), .val (if m33 = true then .bool m38 else undef), .val (.bool m39)]) (BS W0) (by kernel_rfl) (Below.refl _ _) ⟨?_, ?_, ?_, ?_, ?_, ?_, ?_, ?_, ?_, ?_, ?_, ?_, ?_, ?_, ?_, ?_, ?_, ?_, ?_, ?_, ?_, ?_, ?_, ?_, ?_, ?_, ?_, ?_, ?_, ?_, ?_, ?_, ?_, ?_, ?_, trivial⟩ ?_
  · go_light; intro listed a' w' hs hS hun hdep
    have e3 : a'.eval (.tmp 3) = .pointer (some ⟨w.heap.size, 0, none⟩) := (hs.out 3 (by kernel_rfl)).trans (rfl)
    refine g_val (.pointer (some ⟨w.heap.size, 0, none⟩)) hS rfl ?_ rfl
    have hcn := BigFrame.eval_const a'; have hfn := BigFrame.eval_func a'; clear hs hdep; generalize a'.eval = ev at *; go_simp
  · go_light; intro listed a' w' hs hS hun hdep
    have e5 : a'.eval (.tmp 5) = (.pointer (some ⟨w.heap.size, 0, none⟩)) := hs.eval 0 _ 5 rfl (hdep ⟨0, .data⟩ (by simp) rfl) rfl
    exact g_val (.int .i64 i) hS rfl (op_ld1 (.int .i64 i) rfl e5 (L0.out.below hS) 0 (by first | rfl | simp) rfl Try.underlying3 rfl) rfl
  · go_light; intro listed a' w' hs hS hun hdep
    have e6 : a'.eval (.tmp 6) = (.int .i64 i) := hs.eval 1 _ 6 rfl (hdep ⟨1, .data⟩ (by simp) rfl) rfl
    refine g_call 51 #[.int .i64 i, .int .i64 8] hS rfl ?_ ?_
    · have hcn := BigFrame.eval_const a'; have hfn := BigFrame.eval_func a'; clear hs hdep; generalize a'.eval = ev at *; go_simp
    · exact c_val (C7.out w' hS) rfl
  · go_light; intro listed a' w' hs hS hun hdep
    have e7 : a'.eval (.tmp 7) = (.bool m7) := hs.eval 2 _ 7 rfl (hdep ⟨2, .data⟩ (by simp) rfl) rfl
    exact g_val (.bool m7) hS rfl (op_move rfl e7) rfl
  · go_light; intro listed a' w' hs hS hun hdep
    have eg : a'.eval (.tmp 8) = (.bool m7) := hs.eval 3 _ 8 rfl (hdep ⟨3, .guard⟩ (by simp) rfl) rfl
    have e3 : a'.eval (.tmp 3) = .pointer (some ⟨w.heap.size, 0, none⟩) := (hs.out 3 (by kernel_rfl)).trans (rfl)
    cases m7
    · exact g_not hS (wanted_no rfl rfl rfl eg (by decide)) rfl
    · refine g_val (.pointer (some ⟨w.heap.size, 1, none⟩)) hS (wanted_yes rfl rfl rfl eg) ?_ rfl
      have hcn := BigFrame.eval_const a'; have hfn := BigFrame.eval_func a'; clear hs hdep; generalize a'.eval = ev at *; go_simp
  · go_light; intro listed a' w' hs hS hun hdep
    have eg : a'.eval (.tmp 8) = (.bool m7) := hs.eval 3 _ 8 rfl (hdep ⟨3, .guard⟩ (by simp) rfl) rfl
    have e9 : a'.eval (.tmp 9) = (if m7 = true then .pointer (some ⟨w.heap.size, 1, none⟩) else undef) := hs.eval 4 _ 9 rfl (hdep ⟨4, .data⟩ (by simp) rfl) rfl
    cases m7
    · exact g_not hS (wanted_no rfl rfl rfl eg (by decide)) rfl
    · replace e9 := e9.trans (if_pos rfl)
      exact g_val (.int .i64 lb) hS (wanted_yes rfl rfl rfl eg) (op_ld1 (.int .i64 lb) rfl e9 (L0.out.below hS) 1 (by first | rfl | simp) rfl Try.underlying3 rfl) rfl
  · go_light; intro listed a' w' hs hS hun hdep
    have eg : a'.eval (.tmp 8) = (.bool m7) := hs.eval 3 _ 8 rfl (hdep ⟨3, .guard⟩ (by simp) rfl) rfl
    have e0 : a'.eval (.tmp 0) = .int .i64 mm := (hs.out 0 (by kernel_rfl)).trans (rfl)
    cases m7
    · exact g_not hS (wanted_no rfl rfl rfl eg (by decide)) rfl
    · exact g_val (.int .i64 mm) hS (wanted_yes rfl rfl rfl eg) (op_move rfl e0) rfl
  · go_light; intro listed a' w' hs hS hun hdep
    have eg : a'.eval (.tmp 8) = (.bool m7) := hs.eval 3 _ 8 rfl (hdep ⟨3, .guard⟩ (by simp) rfl) rfl
    have e10 : a'.eval (.tmp 10) = (if m7 = true then .int .i64 lb else undef) := hs.eval 5 _ 10 rfl (hdep ⟨5, .data⟩ (by simp) rfl) rfl
    have e11 : a'.eval (.tmp 11) = (if m7 = true then .int .i64 mm else undef) := hs.eval 6 _ 11 rfl (hdep ⟨6, .data⟩ (by simp) rfl) rfl
    cases m7
    · exact g_not hS (wanted_no rfl rfl rfl eg (by decide)) rfl
    · replace e10 := e10.trans (if_pos rfl)
      replace e11 := e11.trans (if_pos rfl)
      refine g_call 51 #[.int .i64 lb, .int .i64 mm] hS (wanted_yes rfl rfl rfl eg) ?_ ?_
      · have hcn := BigFrame.eval_const a'; have hfn := BigFrame.eval_func a'; clear hs hdep; generalize a'.eval = ev at *; go_simp
      · exact c_val (C12.out w' hS) rfl
  · go_light; intro listed a' w' hs hS hun hdep
    have e8 : a'.eval (.tmp 8) = (.bool m7) := hs.eval 3 _ 8 rfl (hdep ⟨3, .data⟩ (by simp) rfl) rfl
    have e12 : a'.eval (.tmp 12) = (if m7 = true then .bool m12 else undef) := hs.eval 7 _ 12 rfl (hdep ⟨7, .data⟩ (by simp) rfl) rfl
    refine g_val (.bool m13) hS rfl ?_ rfl
    cases m7
    · replace e12 := e12.trans (if_neg (by decide))
      exact (op_pick_f rfl e8 (BigFrame.eval_const a' _)).trans (by rw [← hm13.out]; first | rfl | simp)
    · replace e12 := e12.trans (if_pos rfl)
      exact (op_pick_t rfl e8 e12).trans (by rw [← hm13.out]; first | rfl | simp)
  · go_light; intro listed a' w' hs hS hun hdep
    have e13 : a'.eval (.tmp 13) = (.bool m13) := hs.eval 8 _ 13 rfl (hdep ⟨8, .data⟩ (by simp) rfl) rfl
    exact g_val (.bool m13) hS rfl (op_move rfl e13) rfl
  · go_light; intro listed a' w' hs hS hun hdep
    have eg : a'.eval (.tmp 14) = (.bool m13) := hs.eval 9 _ 14 rfl (hdep ⟨9, .guard⟩ (by simp) rfl) rfl
    have e3 : a'.eval (.tmp 3) = .pointer (some ⟨w.heap.size, 0, none⟩) := (hs.out 3 (by kernel_rfl)).trans (rfl)
    cases m13
    · exact g_not hS (wanted_no rfl rfl rfl eg (by decide)) rfl
    · refine g_val (.pointer (some ⟨w.heap.size, 6, none⟩)) hS (wanted_yes rfl rfl rfl eg) ?_ rfl
      have hcn := BigFrame.eval_const a'; have hfn := BigFrame.eval_func a'; clear hs hdep; generalize a'.eval = ev at *; go_simp
  · go_light; intro listed a' w' hs hS hun hdep
    have eg : a'.eval (.tmp 14) = (.bool m13) := hs.eval 9 _ 14 rfl (hdep ⟨9, .guard⟩ (by simp) rfl) rfl
    have e15 : a'.eval (.tmp 15) = (if m13 = true then .pointer (some ⟨w.heap.size, 6, none⟩) else undef) := hs.eval 10 _ 15 rfl (hdep ⟨10, .data⟩ (by simp) rfl) rfl
    cases m13
    · exact g_not hS (wanted_no rfl rfl rfl eg (by decide)) rfl
    · replace e15 := e15.trans (if_pos rfl)
      exact g_val (.int .i64 p) hS (wanted_yes rfl rfl rfl eg) (op_ld1 (.int .i64 p) rfl e15 (L0.out.below hS) 6 (by first | rfl | simp) rfl Try.underlying3 rfl) rfl
  · go_light; intro listed a' w' hs hS hun hdep
    have eg : a'.eval (.tmp 14) = (.bool m13) := hs.eval 9 _ 14 rfl (hdep ⟨9, .guard⟩ (by simp) rfl) rfl
    have e16 : a'.eval (.tmp 16) = (if m13 = true then .int .i64 p else undef) := hs.eval 11 _ 16 rfl (hdep ⟨11, .data⟩ (by simp) rfl) rfl
    cases m13
    · exact g_not hS (wanted_no rfl rfl rfl eg (by decide)) rfl
    · replace e16 := e16.trans (if_pos rfl)
      refine g_call 51 #[.int .i64 p, .int .i64 256] hS (wanted_yes rfl rfl rfl eg) ?_ ?_
      · have hcn := BigFrame.eval_const a'; have hfn := BigFrame.eval_func a'; clear hs hdep; generalize a'.eval = ev at *; go_simp
      · exact c_val (C17.out w' hS) rfl
  · go_light; intro listed a' w' hs hS hun hdep
    have e14 : a'.eval (.tmp 14) = (.bool m13) := hs.eval 9 _ 14 rfl (hdep ⟨9, .data⟩ (by simp) rfl) rfl
    have e17 : a'.eval (.tmp 17) = (if m13 = true then .bool m17 else undef) := hs.eval 12 _ 17 rfl (hdep ⟨12, .data⟩ (by simp) rfl) rfl
    refine g_val (.bool m18) hS rfl ?_ rfl
    cases m13
    · replace e17 := e17.trans (if_neg (by decide))
      exact (op_pick_f rfl e14 (BigFrame.eval_const a' _)).trans (by rw [← hm18.out]; first | rfl | simp)
    · replace e17 := e17.trans (if_pos rfl)
      exact (op_pick_t rfl e14 e17).trans (by rw [← hm18.out]; first | rfl | simp)
  · go_light; intro listed a' w' hs hS hun hdep
    have e18 : a'.eval (.tmp 18) = (.bool m18) := hs.eval 13 _ 18 rfl (hdep ⟨13, .data⟩ (by simp) rfl) rfl
    exact g_val (.bool m18) hS rfl (op_move rfl e18) rfl
  · go_light; intro listed a' w' hs hS hun hdep
    have eg : a'.eval (.tmp 19) = (.bool m18) := hs.eval 14 _ 19 rfl (hdep ⟨14, .guard⟩ (by simp) rfl) rfl
    have e3 : a'.eval (.tmp 3) = .pointer (some ⟨w.heap.size, 0, none⟩) := (hs.out 3 (by kernel_rfl)).trans (rfl)
    cases m18
    · exact g_not hS (wanted_no rfl rfl rfl eg (by decide)) rfl
    · refine g_val (.pointer (some ⟨w.heap.size, 2, none⟩)) hS (wanted_yes rfl rfl rfl eg) ?_ rfl
      have hcn := BigFrame.eval_const a'; have hfn := BigFrame.eval_func a'; clear hs hdep; generalize a'.eval = ev at *; go_simp
  · go_light; intro listed a' w' hs hS hun hdep
    have eg : a'.eval (.tmp 19) = (.bool m18) := hs.eval 14 _ 19 rfl (hdep ⟨14, .guard⟩ (by simp) rfl) rfl
    have e20 : a'.eval (.tmp 20) = (if m18 = true then .pointer (some ⟨w.heap.size, 2, none⟩) else undef) := hs.eval 15 _ 20 rfl (hdep ⟨15, .data⟩ (by simp) rfl) rfl
    cases m18
    · exact g_not hS (wanted_no rfl rfl rfl eg (by decide)) rfl
    · replace e20 := e20.trans (if_pos rfl)
      exact g_val (.agg #[.int .u32 sa, .int .i64 sb]) hS (wanted_yes rfl rfl rfl eg) (op_ld [.int .u32 sa, .int .i64 sb] rfl e20 (L0.out.below hS) 2 (by first | rfl | simp) rfl Try.underlying32 rfl (by kernel_rfl)) rfl
  · go_light; intro listed a' w' hs hS hun hdep
    have eg : a'.eval (.tmp 19) = (.bool m18) := hs.eval 14 _ 19 rfl (hdep ⟨14, .guard⟩ (by simp) rfl) rfl
    have e21 : a'.eval (.tmp 21) = (if m18 = true then .agg #[.int .u32 sa, .int .i64 sb] else undef) := hs.eval 16 _ 21 rfl (hdep ⟨16, .data⟩ (by simp) rfl) rfl
    cases m18
    · exact g_not hS (wanted_no rfl rfl rfl eg (by decide)) rfl
    · replace e21 := e21.trans (if_pos rfl)
      refine g_call 49 #[.agg #[.int .u32 sa, .int .i64 sb]] hS (wanted_yes rfl rfl rfl eg) ?_ ?_
      · have hcn := BigFrame.eval_const a'; have hfn := BigFrame.eval_func a'; clear hs hdep; generalize a'.eval = ev at *; go_simp
      · exact c_val (C22.out w' hS) rfl
  · go_light; intro listed a' w' hs hS hun hdep
    have e19 : a'.eval (.tmp 19) = (.bool m18) := hs.eval 14 _ 19 rfl (hdep ⟨14, .data⟩ (by simp) rfl) rfl
    have e22 : a'.eval (.tmp 22) = (if m18 = true then .bool m22 else undef) := hs.eval 17 _ 22 rfl (hdep ⟨17, .data⟩ (by simp) rfl) rfl
    refine g_val (.bool m23) hS rfl ?_ rfl
    cases m18
    · replace e22 := e22.trans (if_neg (by decide))
      exact (op_pick_f rfl e19 (BigFrame.eval_const a' _)).trans (by rw [← hm23.out]; first | rfl | simp)
    · replace e22 := e22.trans (if_pos rfl)
      exact (op_pick_t rfl e19 e22).trans (by rw [← hm23.out]; first | rfl | simp)
  · go_light; intro listed a' w' hs hS hun hdep
    have e23 : a'.eval (.tmp 23) = (.bool m23) := hs.eval 18 _ 23 rfl (hdep ⟨18, .data⟩ (by simp) rfl) rfl
    exact g_val (.bool m23) hS rfl (op_move rfl e23) rfl
  · go_light; intro listed a' w' hs hS hun hdep
    have eg : a'.eval (.tmp 24) = (.bool m23) := hs.eval 19 _ 24 rfl (hdep ⟨19, .guard⟩ (by simp) rfl) rfl
    have e3 : a'.eval (.tmp 3) = .pointer (some ⟨w.heap.size, 0, none⟩) := (hs.out 3 (by kernel_rfl)).trans (rfl)
    cases m23
    · exact g_not hS (wanted_no rfl rfl rfl eg (by decide)) rfl
    · refine g_val (.pointer (some ⟨w.heap.size, 4, none⟩)) hS (wanted_yes rfl rfl rfl eg) ?_ rfl
      have hcn := BigFrame.eval_const a'; have hfn := BigFrame.eval_func a'; clear hs hdep; generalize a'.eval = ev at *; go_simp
  · go_light; intro listed a' w' hs hS hun hdep
    have eg : a'.eval (.tmp 24) = (.bool m23) := hs.eval 19 _ 24 rfl (hdep ⟨19, .guard⟩ (by simp) rfl) rfl
    have e25 : a'.eval (.tmp 25) = (if m23 = true then .pointer (some ⟨w.heap.size, 4, none⟩) else undef) := hs.eval 20 _ 25 rfl (hdep ⟨20, .data⟩ (by simp) rfl) rfl
    cases m23
    · exact g_not hS (wanted_no rfl rfl rfl eg (by decide)) rfl
    · replace e25 := e25.trans (if_pos rfl)
      exact g_val (.agg #[.int .u32 da, .int .i64 db]) hS (wanted_yes rfl rfl rfl eg) (op_ld [.int .u32 da, .int .i64 db] rfl e25 (L0.out.below hS) 4 (by first | rfl | simp) rfl Try.underlying32 rfl (by kernel_rfl)) rfl
  · go_light; intro listed a' w' hs hS hun hdep
    have eg : a'.eval (.tmp 24) = (.bool m23) := hs.eval 19 _ 24 rfl (hdep ⟨19, .guard⟩ (by simp) rfl) rfl
    have e26 : a'.eval (.tmp 26) = (if m23 = true then .agg #[.int .u32 da, .int .i64 db] else undef) := hs.eval 21 _ 26 rfl (hdep ⟨21, .data⟩ (by simp) rfl) rfl
    cases m23
    · exact g_not hS (wanted_no rfl rfl rfl eg (by decide)) rfl
    · replace e26 := e26.trans (if_pos rfl)
      refine g_call 49 #[.agg #[.int .u32 da, .int .i64 db]] hS (wanted_yes rfl rfl rfl eg) ?_ ?_
      · have hcn := BigFrame.eval_const a'; have hfn := BigFrame.eval_func a'; clear hs hdep; generalize a'.eval = ev at *; go_simp
      · exact c_val (C27.out w' hS) rfl
  · go_light; intro listed a' w' hs hS hun hdep
    have e24 : a'.eval (.tmp 24) = (.bool m23) := hs.eval 19 _ 24 rfl (hdep ⟨19, .data⟩ (by simp) rfl) rfl
    have e27 : a'.eval (.tmp 27) = (if m23 = true then .bool m27 else undef) := hs.eval 22 _ 27 rfl (hdep ⟨22, .data⟩ (by simp) rfl) rfl
    refine g_val (.bool m28) hS rfl ?_ rfl
    cases m23
    · replace e27 := e27.trans (if_neg (by decide))
      exact (op_pick_f rfl e24 (BigFrame.eval_const a' _)).trans (by rw [← hm28.out]; first | rfl | simp)
    · replace e27 := e27.trans (if_pos rfl)
      exact (op_pick_t rfl e24 e27).trans (by rw [← hm28.out]; first | rfl | simp)
  · go_light; intro listed a' w' hs hS hun hdep
    have e28 : a'.eval (.tmp 28) = (.bool m28) := hs.eval 23 _ 28 rfl (hdep ⟨23, .data⟩ (by simp) rfl) rfl
    exact g_val (.bool m28) hS rfl (op_move rfl e28) rfl
  · go_light; intro listed a' w' hs hS hun hdep
    have eg : a'.eval (.tmp 29) = (.bool m28) := hs.eval 24 _ 29 rfl (hdep ⟨24, .guard⟩ (by simp) rfl) rfl
    have e3 : a'.eval (.tmp 3) = .pointer (some ⟨w.heap.size, 0, none⟩) := (hs.out 3 (by kernel_rfl)).trans (rfl)
    cases m28
    · exact g_not hS (wanted_no rfl rfl rfl eg (by decide)) rfl
    · refine g_val (.pointer (some ⟨w.heap.size, 7, none⟩)) hS (wanted_yes rfl rfl rfl eg) ?_ rfl
      have hcn := BigFrame.eval_const a'; have hfn := BigFrame.eval_func a'; clear hs hdep; generalize a'.eval = ev at *; go_simp
  · go_light; intro listed a' w' hs hS hun hdep
    have eg : a'.eval (.tmp 29) = (.bool m28) := hs.eval 24 _ 29 rfl (hdep ⟨24, .guard⟩ (by simp) rfl) rfl
    have e30 : a'.eval (.tmp 30) = (if m28 = true then .pointer (some ⟨w.heap.size, 7, none⟩) else undef) := hs.eval 25 _ 30 rfl (hdep ⟨25, .data⟩ (by simp) rfl) rfl
    cases m28
    · exact g_not hS (wanted_no rfl rfl rfl eg (by decide)) rfl
    · replace e30 := e30.trans (if_pos rfl)
      exact g_val (.int .i64 tt) hS (wanted_yes rfl rfl rfl eg) (op_ld1 (.int .i64 tt) rfl e30 (L0.out.below hS) 7 (by first | rfl | simp) rfl Try.underlying3 rfl) rfl
  · go_light; intro listed a' w' hs hS hun hdep
    have eg : a'.eval (.tmp 29) = (.bool m28) := hs.eval 24 _ 29 rfl (hdep ⟨24, .guard⟩ (by simp) rfl) rfl
    have e31 : a'.eval (.tmp 31) = (if m28 = true then .int .i64 tt else undef) := hs.eval 26 _ 31 rfl (hdep ⟨26, .data⟩ (by simp) rfl) rfl
    cases m28
    · exact g_not hS (wanted_no rfl rfl rfl eg (by decide)) rfl
    · replace e31 := e31.trans (if_pos rfl)
      refine g_val (.bool m32) hS (wanted_yes rfl rfl rfl eg) ?_ rfl
      rw [← hm32.out]
      have hcn := BigFrame.eval_const a'; have hfn := BigFrame.eval_func a'; clear hs hdep; generalize a'.eval = ev at *; go_simp; try rfl
  · go_light; intro listed a' w' hs hS hun hdep
    have e29 : a'.eval (.tmp 29) = (.bool m28) := hs.eval 24 _ 29 rfl (hdep ⟨24, .data⟩ (by simp) rfl) rfl
    have e32 : a'.eval (.tmp 32) = (if m28 = true then .bool m32 else undef) := hs.eval 27 _ 32 rfl (hdep ⟨27, .data⟩ (by simp) rfl) rfl
    refine g_val (.bool m33) hS rfl ?_ rfl
    cases m28
    · replace e32 := e32.trans (if_neg (by decide))
      exact (op_pick_f rfl e29 (BigFrame.eval_const a' _)).trans (by rw [← hm33.out]; first | rfl | simp)
    · replace e32 := e32.trans (if_pos rfl)
      exact (op_pick_t rfl e29 e32).trans (by rw [← hm33.out]; first | rfl | simp)
  · go_light; intro listed a' w' hs hS hun hdep
    have e33 : a'.eval (.tmp 33) = (.bool m33) := hs.eval 28 _ 33 rfl (hdep ⟨28, .data⟩ (by simp) rfl) rfl
    exact g_val (.bool m33) hS rfl (op_move rfl e33) rfl
  · go_light; intro listed a' w' hs hS hun hdep
    have eg : a'.eval (.tmp 34) = (.bool m33) := hs.eval 29 _ 34 rfl (hdep ⟨29, .guard⟩ (by simp) rfl) rfl
    have e3 : a'.eval (.tmp 3) = .pointer (some ⟨w.heap.size, 0, none⟩) := (hs.out 3 (by kernel_rfl)).trans (rfl)
    cases m33
    · exact g_not hS (wanted_no rfl rfl rfl eg (by decide)) rfl
    · refine g_val (.pointer (some ⟨w.heap.size, 7, none⟩)) hS (wanted_yes rfl rfl rfl eg) ?_ rfl
      have hcn := BigFrame.eval_const a'; have hfn := BigFrame.eval_func a'; clear hs hdep; generalize a'.eval = ev at *; go_simp
  · go_light; intro listed a' w' hs hS hun hdep
    have eg : a'.eval (.tmp 34) = (.bool m33) := hs.eval 29 _ 34 rfl (hdep ⟨29, .guard⟩ (by simp) rfl) rfl
    have e35 : a'.eval (.tmp 35) = (if m33 = true then .pointer (some ⟨w.heap.size, 7, none⟩) else undef) := hs.eval 30 _ 35 rfl (hdep ⟨30, .data⟩ (by simp) rfl) rfl
    cases m33
    · exact g_not hS (wanted_no rfl rfl rfl eg (by decide)) rfl
    · replace e35 := e35.trans (if_pos rfl)
      exact g_val (.int .i64 tt) hS (wanted_yes rfl rfl rfl eg) (op_ld1 (.int .i64 tt) rfl e35 (L0.out.below hS) 7 (by first | rfl | simp) rfl Try.underlying3 rfl) rfl
  · go_light; intro listed a' w' hs hS hun hdep
    have eg : a'.eval (.tmp 34) = (.bool m33) := hs.eval 29 _ 34 rfl (hdep ⟨29, .guard⟩ (by simp) rfl) rfl
    have e0 : a'.eval (.tmp 0) = .int .i64 mm := (hs.out 0 (by kernel_rfl)).trans (rfl)
    cases m33
    · exact g_not hS (wanted_no rfl rfl rfl eg (by decide)) rfl
    · exact g_val (.int .i64 mm) hS (wanted_yes rfl rfl rfl eg) (op_move rfl e0) rfl
  · go_light; intro listed a' w' hs hS hun hdep
    have eg : a'.eval (.tmp 34) = (.bool m33) := hs.eval 29 _ 34 rfl (hdep ⟨29, .guard⟩ (by simp) rfl) rfl
    have e36 : a'.eval (.tmp 36) = (if m33 = true then .int .i64 tt else undef) := hs.eval 31 _ 36 rfl (hdep ⟨31, .data⟩ (by simp) rfl) rfl
    have e37 : a'.eval (.tmp 37) = (if m33 = true then .int .i64 mm else undef) := hs.eval 32 _ 37 rfl (hdep ⟨32, .data⟩ (by simp) rfl) rfl
    cases m33
    · exact g_not hS (wanted_no rfl rfl rfl eg (by decide)) rfl
    · replace e36 := e36.trans (if_pos rfl)
      replace e37 := e37.trans (if_pos rfl)
      refine g_val (.bool m38) hS (wanted_yes rfl rfl rfl eg) ?_ rfl
      rw [← hm38.out]
      have hcn := BigFrame.eval_const a'; have hfn := BigFrame.eval_func a'; clear hs hdep; generalize a'.eval = ev at *; go_simp; try rfl
  · go_light; intro listed a' w' hs hS hun hdep
    have e34 : a'.eval (.tmp 34) = (.bool m33) := hs.eval 29 _ 34 rfl (hdep ⟨29, .data⟩ (by simp) rfl) rfl
    have e38 : a'.eval (.tmp 38) = (if m33 = true then .bool m38 else undef) := hs.eval 33 _ 38 rfl (hdep ⟨33, .data⟩ (by simp) rfl) rfl
    refine g_val (.bool m39) hS rfl ?_ rfl
    cases m33
    · replace e38 := e38.trans (if_neg (by decide))
      exact (op_pick_f rfl e34 (BigFrame.eval_const a' _)).trans (by rw [← hm39.out]; first | rfl | simp)
    · replace e38 := e38.trans (if_pos rfl)
      exact (op_pick_t rfl e34 e38).trans (by rw [← hm39.out]; first | rfl | simp)
  · intro vs w3 hlen hV hS
    obtain ⟨v0, v1, v2, v3, v4, v5, v6, v7, v8, v9, v10, v11, v12, v13, v14, v15, v16, v17, v18, v19, v20, v21, v22, v23, v24, v25, v26, v27, v28, v29, v30, v31, v32, v33, v34, rfl⟩ := vs_35 vs (hlen.trans rfl)
    have q0 : v0 = .pointer (some ⟨w.heap.size, 0, none⟩) := hV 0 _ rfl
    have q1 : v1 = .int .i64 i := hV 1 _ rfl
    have q2 : v2 = .bool m7 := hV 2 _ rfl
    have q3 : v3 = .bool m7 := hV 3 _ rfl
    have q8 : v8 = .bool m13 := hV 8 _ rfl
    have q9 : v9 = .bool m13 := hV 9 _ rfl
    have q13 : v13 = .bool m18 := hV 13 _ rfl
    have q14 : v14 = .bool m18 := hV 14 _ rfl
    have q18 : v18 = .bool m23 := hV 18 _ rfl
    have q19 : v19 = .bool m23 := hV 19 _ rfl
    have q23 : v23 = .bool m28 := hV 23 _ rfl
    have q24 : v24 = .bool m28 := hV 24 _ rfl
    have q28 : v28 = .bool m33 := hV 28 _ rfl
    have q29 : v29 = .bool m33 := hV 29 _ rfl
    have q34 : v34 = .bool m39 := hV 34 _ rfl
    have hbel : Below W0.heap.size W0 w3 := hS
    subst q0 q1 q2 q3 q8 q9 q13 q14 q18 q19 q23 q24 q28 q29 q34
    clear hV hS hlen
    simp only [lays, Act.put, List.setIfInBounds_toArray, List.set_cons_zero, List.set_cons_succ, List.drop_succ_cons, List.drop_zero, List.take_succ_cons, List.take_zero]
    go_wp2
    go_ret
    exact ⟨by unfold Gu.ok; simp only []; rw [← hm39.out, ← hm38.out, ← hm33.out, ← hm32.out, ← hm28.out, ← hm27.out, ← hm23.out, ← hm22.out, ← hm18.out, ← hm17.out, ← hm13.out, ← hm12.out, ← hm7.out]; rfl, hb0.trans (hbel.mono hb0.size)⟩

set_option maxHeartbeats 4000000 in
theorem rgok_any (mm : Int) (r : Gu) (w : World) (hsa : r.sa < 4294967296) (hda : r.da < 4294967296) : Calls Try.prog 24 #[.int .i64 mm, .agg r.v.toArray] w fun e w' => e = .returned (.bool (r.ok mm)) ∧ Below w.heap.size w w' := by
  have HS := Lib.hid (ok_steps mm r)
  obtain ⟨i, lb, sa, sb, da, db, p, tt⟩ := r
  have Hsa := Lib.hid hsa
  have Hda := Lib.hid hda
  simp only [Gu.v] at *
  clear hsa hda
  go_enter Try.func24, Try.ntmps24
  go_upto_region 1 with fail
  have hb0 : Below w.heap.size w (w.alloc (.cells #[.int .i64 i, .int .i64 lb, .int .u32 sa, .int .i64 sb, .int .u32 da, .int .i64 db, .int .i64 p, .int .i64 tt] 50)) := (Below.refl _ w).alloc (Nat.le_refl _) _
  have L0 : Hid (Lies (w.alloc (.cells #[.int .i64 i, .int .i64 lb, .int .u32 sa, .int .i64 sb, .int .u32 da, .int .i64 db, .int .i64 p, .int .i64 tt] 50)) w.heap.size 0 [.int .i64 i, .int .i64 lb, .int .u32 sa, .int .i64 sb, .int .u32 da, .int .i64 db, .int .i64 p, .int .i64 tt]) := Lib.hid (Lies.new w [.int .i64 i, .int .i64 lb, .int .u32 sa, .int .i64 sb, .int .u32 da, .int .i64 db, .int .i64 p, .int .i64 tt] _)
  generalize (w.alloc (.cells #[.int .i64 i, .int .i64 lb, .int .u32 sa, .int .i64 sb, .int .u32 da, .int .i64 db, .int .i64 p, .int .i64 tt] 50)) = W0 at *
  obtain ⟨m7, hm7⟩ : ∃ x, (decide (-1 ≤ i)) = x := ⟨_, rfl⟩
  replace hm7 := Lib.hid hm7
  obtain ⟨m11, hm11⟩ : ∃ x, (decide (i ≤ 7)) = x := ⟨_, rfl⟩
  replace hm11 := Lib.hid hm11
  obtain ⟨m12, hm12⟩ : ∃ x, (m7 && m11) = x := ⟨_, rfl⟩
  replace hm12 := Lib.hid hm12
  obtain ⟨m16, hm16⟩ : ∃ x, (decide (-1 ≤ lb)) = x := ⟨_, rfl⟩
  replace hm16 := Lib.hid hm16
  obtain ⟨m17, hm17⟩ : ∃ x, (m12 && m16) = x := ⟨_, rfl⟩
  replace hm17 := Lib.hid hm17
  obtain ⟨m22, hm22⟩ : ∃ x, (decide (lb < mm)) = x := ⟨_, rfl⟩
  replace hm22 := Lib.hid hm22
  obtain ⟨m23, hm23⟩ : ∃ x, (m17 && m22) = x := ⟨_, rfl⟩
  replace hm23 := Lib.hid hm23
  obtain ⟨m27, hm27⟩ : ∃ x, (decide (-1 ≤ p)) = x := ⟨_, rfl⟩
  replace hm27 := Lib.hid hm27
  obtain ⟨m28, hm28⟩ : ∃ x, (m23 && m27) = x := ⟨_, rfl⟩
  replace hm28 := Lib.hid hm28
  obtain ⟨m32, hm32⟩ : ∃ x, (decide (p ≤ 255)) = x := ⟨_, rfl⟩
  replace hm32 := Lib.hid hm32
  obtain ⟨m33, hm33⟩ : ∃ x, (m28 && m32) = x := ⟨_, rfl⟩
  replace hm33 := Lib.hid hm33
  obtain ⟨m37, hm37⟩ : ∃ x, (decide (0 ≤ tt)) = x := ⟨_, rfl⟩
  replace hm37 := Lib.hid hm37
  obtain ⟨m38, hm38⟩ : ∃ x, (m33 && m37) = x := ⟨_, rfl⟩
  replace hm38 := Lib.hid hm38
  obtain ⟨m43, hm43⟩ : ∃ x, (decide (tt < mm)) = x := ⟨_, rfl⟩
  replace hm43 := Lib.hid hm43
  obtain ⟨m44, hm44⟩ : ∃ x, (m38 && m43) = x := ⟨_, rfl⟩
  replace hm44 := Lib.hid hm44
  obtain ⟨m48, hm48⟩ : ∃ x, (A.right sa sb) = x := ⟨_, rfl⟩
  replace hm48 := Lib.hid hm48
  have C48 := Lib.hid (fun (w' : World) (hb : Below W0.heap.size W0 w') => show Calls Try.prog 30 #[.agg #[.int .u32 sa, .int .i64 sb]] w' (fun e w'' => e = .returned (.bool m48) ∧ Below w'.heap.size w' w'') from (by rw [← hm48.out]; exact refright_any sa sb w' Hsa.out))
  obtain ⟨m49, hm49⟩ : ∃ x, (m44 && m48) = x := ⟨_, rfl⟩
  replace hm49 := Lib.hid hm49
  obtain ⟨m53, hm53⟩ : ∃ x, (A.right da db) = x := ⟨_, rfl⟩
  replace hm53 := Lib.hid hm53
  have C53 := Lib.hid (fun (w' : World) (hb : Below W0.heap.size W0 w') => show Calls Try.prog 30 #[.agg #[.int .u32 da, .int .i64 db]] w' (fun e w'' => e = .returned (.bool m53) ∧ Below w'.heap.size w' w'') from (by rw [← hm53.out]; exact refright_any da db w' Hda.out))
  obtain ⟨m54, hm54⟩ : ∃ x, (m49 && m53) = x := ⟨_, rfl⟩
  replace hm54 := Lib.hid hm54
  refine region_seq 50 (VG W0.heap.size [.val (.pointer (some ⟨w.heap.size, 0, none⟩)), .val (.int .i64 i), .val (.bool m7), .val (.bool m7), .val (if m7 = true then .pointer (some ⟨w.heap.size, 0, none⟩) else undef), .val (if m7 = true then .int .i64 i else undef), .val (if m7 = true then .bool m11 else undef), .val (.bool m12), .val (.bool m12), .val (if m12 = true then .pointer (some ⟨w.heap.size, 1, none⟩) else undef), .val (if m12 = true then .int .i64 lb else undef), .val (if m12 = true then .bool m16 else undef), .val (.bool m17), .val (.bool m17), .val (if m17 = true then .pointer (some ⟨w.heap.size, 1, none⟩) else undef), .val (if m17 = true then .int .i64 lb else undef), .val (if m17 = true then .int .i64 mm else undef), .val (if m17 = true then .bool m22 else undef), .val (.bool m23), .val (.bool m23), .val (if m23 = true then .pointer (some ⟨w.heap.size, 6, none⟩) else undef), .val (if m23 = true then .int .i64 p else undef), .val (if m23 = true then .bool m27 else undef), .val (.bool m28), .val (.bool m28), .val (if m28 = true then .pointer (some ⟨w.heap.size, 6, none⟩) else undef), .val (if m28 = true then .int .i64 p else undef), .val (if m28 = true then .bool m32 else undef), .val (.bool m33), .val (.bool m33), .val (if m33 = true then .pointer (some ⟨w.heap.size, 7, none⟩) else undef), .val (if m33 = true then .int .i64 tt else undef), .val (if m33 = true then .bool m37 else undef), .val (.bool m38), .val (.bool m38), .val (if m38 = true then .pointer (some ⟨w.heap.size, 7, none⟩) else undef), .val (if m38 = true then .int .i64 tt else undef), .val (if m38 = true then .int .i64 mm else undef), .val (if m38 = true then .bool m43 else undef), .val (.bool m44), .val (.bool m44), .val (if m44 = true then .pointer (some ⟨w.heap.size, 2, none⟩) else undef), .val (if m44 = true then .agg #[.int .u32 sa, .int .i64 sb] else undef), .val (if m44 = true then .bool m48 else undef), .val (.bool m49), .val (.bool m49), .val (if m49 = true then .pointer (some ⟨w.heap.size, 4, none⟩) else undef), .val (if m49 = true then .agg #[.int .u32 da, .int .i64 db] else undef), .val (if m49 = true then .bool m53 else undef), .val (.bool m54)]) (BS W0) (by kernel_rfl) (Below.refl _ _) ⟨?_, ?_, ?_, ?_, ?_, ?_, ?_, ?_, ?_, ?_, ?_, ?_, ?_, ?_, ?_, ?_, ?_, ?_, ?_, ?_, ?_, ?_, ?_, ?_, ?_, ?_, ?_, ?_, ?_, ?_, ?_, ?_, ?_, ?_, ?_, ?_, ?_, ?_, ?_, ?_, ?_, ?_, ?_, ?_, ?_, ?_, ?_, ?_, ?_, ?_, trivial⟩ ?_
  · go_light; intro listed a' w' hs hS hun hdep
    have e3 : a'.eval (.tmp 3) = .pointer (some ⟨w.heap.size, 0, none⟩) := (hs.out 3 (by kernel_rfl)).trans (rfl)
    refine g_val (.pointer (some ⟨w.heap.size, 0, none⟩)) hS rfl ?_ rfl
    have hcn := BigFrame.eval_const a'; have hfn := BigFrame.eval_func a'; clear hs hdep; generalize a'.eval = ev at *; go_simp
  · go_light; intro listed a' w' hs hS hun hdep
    have e5 : a'.eval (.tmp 5) = (.pointer (some ⟨w.heap.size, 0, none⟩)) := hs.eval 0 _ 5 rfl (hdep ⟨0, .data⟩ (by simp) rfl) rfl
    exact g_val (.int .i64 i) hS rfl (op_ld1 (.int .i64 i) rfl e5 (L0.out.below hS) 0 (by first | rfl | simp) rfl Try.underlying3 rfl) rfl
  · go_light; intro listed a' w' hs hS hun hdep
    have e6 : a'.eval (.tmp 6) = (.int .i64 i) := hs.eval 1 _ 6 rfl (hdep ⟨1, .data⟩ (by simp) rfl) rfl
    refine g_val (.bool m7) hS rfl ?_ rfl
    rw [← hm7.out]
    have hcn := BigFrame.eval_const a'; have hfn := BigFrame.eval_func a'; clear hs hdep; generalize a'.eval = ev at *; go_simp; try rfl
  · go_light; intro listed a' w' hs hS hun hdep
    have e7 : a'.eval (.tmp 7) = (.bool m7) := hs.eval 2 _ 7 rfl (hdep ⟨2, .data⟩ (by simp) rfl) rfl
    exact g_val (.bool m7) hS rfl (op_move rfl e7) rfl
  · go_light; intro listed a' w' hs hS hun hdep
    have eg : a'.eval (.tmp 8) = (.bool m7) := hs.eval 3 _ 8 rfl (hdep ⟨3, .guard⟩ (by simp) rfl) rfl
    have e3 : a'.eval (.tmp 3) = .pointer (some ⟨w.heap.size, 0, none⟩) := (hs.out 3 (by kernel_rfl)).trans (rfl)
    cases m7
    · exact g_not hS (wanted_no rfl rfl rfl eg (by decide)) rfl
    · refine g_val (.pointer (some ⟨w.heap.size, 0, none⟩)) hS (wanted_yes rfl rfl rfl eg) ?_ rfl
      have hcn := BigFrame.eval_const a'; have hfn := BigFrame.eval_func a'; clear hs hdep; generalize a'.eval = ev at *; go_simp
  · go_light; intro listed a' w' hs hS hun hdep
    have eg : a'.eval (.tmp 8) = (.bool m7) := hs.eval 3 _ 8 rfl (hdep ⟨3, .guard⟩ (by simp) rfl) rfl
    have e9 : a'.eval (.tmp 9) = (if m7 = true then .pointer (some ⟨w.heap.size, 0, none⟩) else undef) := hs.eval 4 _ 9 rfl (hdep ⟨4, .data⟩ (by simp) rfl) rfl
    cases m7
    · exact g_not hS (wanted_no rfl rfl rfl eg (by decide)) rfl
    · replace e9 := e9.trans (if_pos rfl)
      exact g_val (.int .i64 i) hS (wanted_yes rfl rfl rfl eg) (op_ld1 (.int .i64 i) rfl e9 (L0.out.below hS) 0 (by first | rfl | simp) rfl Try.underlying3 rfl) rfl
  · go_light; intro listed a' w' hs hS hun hdep
    have eg : a'.eval (.tmp 8) = (.bool m7) := hs.eval 3 _ 8 rfl (hdep ⟨3, .guard⟩ (by simp) rfl) rfl
    have e10 : a'.eval (.tmp 10) = (if m7 = true then .int .i64 i else undef) := hs.eval 5 _ 10 rfl (hdep ⟨5, .data⟩ (by simp) rfl) rfl
    cases m7
    · exact g_not hS (wanted_no rfl rfl rfl eg (by decide)) rfl
    · replace e10 := e10.trans (if_pos rfl)
      refine g_val (.bool m11) hS (wanted_yes rfl rfl rfl eg) ?_ rfl
      rw [← hm11.out]
      have hcn := BigFrame.eval_const a'; have hfn := BigFrame.eval_func a'; clear hs hdep; generalize a'.eval = ev at *; go_simp; try rfl
  · go_light; intro listed a' w' hs hS hun hdep
    have e8 : a'.eval (.tmp 8) = (.bool m7) := hs.eval 3 _ 8 rfl (hdep ⟨3, .data⟩ (by simp) rfl) rfl
    have e11 : a'.eval (.tmp 11) = (if m7 = true then .bool m11 else undef) := hs.eval 6 _ 11 rfl (hdep ⟨6, .data⟩ (by simp) rfl) rfl
    refine g_val (.bool m12) hS rfl ?_ rfl
    cases m7
    · replace e11 := e11.trans (if_neg (by decide))
      exact (op_pick_f rfl e8 (BigFrame.eval_const a' _)).trans (by rw [← hm12.out]; first | rfl | simp)
    · replace e11 := e11.trans (if_pos rfl)
      exact (op_pick_t rfl e8 e11).trans (by rw [← hm12.out]; first | rfl | simp)
  · go_light; intro listed a' w' hs hS hun hdep
    have e12 : a'.eval (.tmp 12) = (.bool m12) := hs.eval 7 _ 12 rfl (hdep ⟨7, .data⟩ (by simp) rfl) rfl
    exact g_val (.bool m12) hS rfl (op_move rfl e12) rfl
  · go_light; intro listed a' w' hs hS hun hdep
    have eg : a'.eval (.tmp 13) = (.bool m12) := hs.eval 8 _ 13 rfl (hdep ⟨8, .guard⟩ (by simp) rfl) rfl
    have e3 : a'.eval (.tmp 3) = .pointer (some ⟨w.heap.size, 0, none⟩) := (hs.out 3 (by kernel_rfl)).trans (rfl)
    cases m12
    · exact g_not hS (wanted_no rfl rfl rfl eg (by decide)) rfl
    · refine g_val (.pointer (some ⟨w.heap.size, 1, none⟩)) hS (wanted_yes rfl rfl rfl eg) ?_ rfl
      have hcn := BigFrame.eval_const a'; have hfn := BigFrame.eval_func a'; clear hs hdep; generalize a'.eval = ev at *; go_simp
  · go_light; intro listed a' w' hs hS hun hdep
    have eg : a'.eval (.tmp 13) = (.bool m12) := hs.eval 8 _ 13 rfl (hdep ⟨8, .guard⟩ (by simp) rfl) rfl
    have e14 : a'.eval (.tmp 14) = (if m12 = true then .pointer (some ⟨w.heap.size, 1, none⟩) else undef) := hs.eval 9 _ 14 rfl (hdep ⟨9, .data⟩ (by simp) rfl) rfl
    cases m12
    · exact g_not hS (wanted_no rfl rfl rfl eg (by decide)) rfl
    · replace e14 := e14.trans (if_pos rfl)
      exact g_val (.int .i64 lb) hS (wanted_yes rfl rfl rfl eg) (op_ld1 (.int .i64 lb) rfl e14 (L0.out.below hS) 1 (by first | rfl | simp) rfl Try.underlying3 rfl) rfl
  · go_light; intro listed a' w' hs hS hun hdep
    have eg : a'.eval (.tmp 13) = (.bool m12) := hs.eval 8 _ 13 rfl (hdep ⟨8, .guard⟩ (by simp) rfl) rfl
    have e15 : a'.eval (.tmp 15) = (if m12 = true then .int .i64 lb else undef) := hs.eval 10 _ 15 rfl (hdep ⟨10, .data⟩ (by simp) rfl) rfl
    cases m12
    · exact g_not hS (wanted_no rfl rfl rfl eg (by decide)) rfl
    · replace e15 := e15.trans (if_pos rfl)
      refine g_val (.bool m16) hS (wanted_yes rfl rfl rfl eg) ?_ rfl
      rw [← hm16.out]
      have hcn := BigFrame.eval_const a'; have hfn := BigFrame.eval_func a'; clear hs hdep; generalize a'.eval = ev at *; go_simp; try rfl
  · go_light; intro listed a' w' hs hS hun hdep
    have e13 : a'.eval (.tmp 13) = (.bool m12) := hs.eval 8 _ 13 rfl (hdep ⟨8, .data⟩ (by simp) rfl) rfl
    have e16 : a'.eval (.tmp 16) = (if m12 = true then .bool m16 else undef) := hs.eval 11 _ 16 rfl (hdep ⟨11, .data⟩ (by simp) rfl) rfl
    refine g_val (.bool m17) hS rfl ?_ rfl
    cases m12
    · replace e16 := e16.trans (if_neg (by decide))
      exact (op_pick_f rfl e13 (BigFrame.eval_const a' _)).trans (by rw [← hm17.out]; first | rfl | simp)
    · replace e16 := e16.trans (if_pos rfl)
      exact (op_pick_t rfl e13 e16).trans (by rw [← hm17.out]; first | rfl | simp)
  · go_light; intro listed a' w' hs hS hun hdep
    have e17 : a'.eval (.tmp 17) = (.bool m17) := hs.eval 12 _ 17 rfl (hdep ⟨12, .data⟩ (by simp) rfl) rfl
    exact g_val (.bool m17) hS rfl (op_move rfl e17) rfl
  · go_light; intro listed a' w' hs hS hun hdep
    have eg : a'.eval (.tmp 18) = (.bool m17) := hs.eval 13 _ 18 rfl (hdep ⟨13, .guard⟩ (by simp) rfl) rfl
    have e3 : a'.eval (.tmp 3) = .pointer (some ⟨w.heap.size, 0, none⟩) := (hs.out 3 (by kernel_rfl)).trans (rfl)
    cases m17
    · exact g_not hS (wanted_no rfl rfl rfl eg (by decide)) rfl
    · refine g_val (.pointer (some ⟨w.heap.size, 1, none⟩)) hS (wanted_yes rfl rfl rfl eg) ?_ rfl
      have hcn := BigFrame.eval_const a'; have hfn := BigFrame.eval_func a'; clear hs hdep; generalize a'.eval = ev at *; go_simp
  · go_light; intro listed a' w' hs hS hun hdep
    have eg : a'.eval (.tmp 18) = (.bool m17) := hs.eval 13 _ 18 rfl (hdep ⟨13, .guard⟩ (by simp) rfl) rfl
    have e19 : a'.eval (.tmp 19) = (if m17 = true then .pointer (some ⟨w.heap.size, 1, none⟩) else undef) := hs.eval 14 _ 19 rfl (hdep ⟨14, .data⟩ (by simp) rfl) rfl
    cases m17
    · exact g_not hS (wanted_no rfl rfl rfl eg (by decide)) rfl
    · replace e19 := e19.trans (if_pos rfl)
      exact g_val (.int .i64 lb) hS (wanted_yes rfl rfl rfl eg) (op_ld1 (.int .i64 lb) rfl e19 (L0.out.below hS) 1 (by first | rfl | simp) rfl Try.underlying3 rfl) rfl
  · go_light; intro listed a' w' hs hS hun hdep
    have eg : a'.eval (.tmp 18) = (.bool m17) := hs.eval 13 _ 18 rfl (hdep ⟨13, .guard⟩ (by simp) rfl) rfl
    have e0 : a'.eval (.tmp 0) = .int .i64 mm := (hs.out 0 (by kernel_rfl)).trans (rfl)
    cases m17
    · exact g_not hS (wanted_no rfl rfl rfl eg (by decide)) rfl
    · exact g_val (.int .i64 mm) hS (wanted_yes rfl rfl rfl eg) (op_move rfl e0) rfl
  · go_light; intro listed a' w' hs hS hun hdep
    have eg : a'.eval (.tmp 18) = (.bool m17) := hs.eval 13 _ 18 rfl (hdep ⟨13, .guard⟩ (by simp) rfl) rfl
    have e20 : a'.eval (.tmp 20) = (if m17 = true then .int .i64 lb else undef) := hs.eval 15 _ 20 rfl (hdep ⟨15, .data⟩ (by simp) rfl) rfl
    have e21 : a'.eval (.tmp 21) = (if m17 = true then .int .i64 mm else undef) := hs.eval 16 _ 21 rfl (hdep ⟨16, .data⟩ (by simp) rfl) rfl
    cases m17
    · exact g_not hS (wanted_no rfl rfl rfl eg (by decide)) rfl
    · replace e20 := e20.trans (if_pos rfl)
      replace e21 := e21.trans (if_pos rfl)
      refine g_val (.bool m22) hS (wanted_yes rfl rfl rfl eg) ?_ rfl
      rw [← hm22.out]
      have hcn := BigFrame.eval_const a'; have hfn := BigFrame.eval_func a'; clear hs hdep; generalize a'.eval = ev at *; go_simp; try rfl
  · go_light; intro listed a' w' hs hS hun hdep
    have e18 : a'.eval (.tmp 18) = (.bool m17) := hs.eval 13 _ 18 rfl (hdep ⟨13, .data⟩ (by simp) rfl) rfl
    have e22 : a'.eval (.tmp 22) = (if m17 = true then .bool m22 else undef) := hs.eval 17 _ 22 rfl (hdep ⟨17, .data⟩ (by simp) rfl) rfl
    refine g_val (.bool m23) hS rfl ?_ rfl
    cases m17
    · replace e22 := e22.trans (if_neg (by decide))
      exact (op_pick_f rfl e18 (BigFrame.eval_const a' _)).trans (by rw [← hm23.out]; first | rfl | simp)
    · replace e22 := e22.trans (if_pos rfl)
      exact (op_pick_t rfl e18 e22).trans (by rw [← hm23.out]; first | rfl | simp)
  · go_light; intro listed a' w' hs hS hun hdep
    have e23 : a'.eval (.tmp 23) = (.bool m23) := hs.eval 18 _ 23 rfl (hdep ⟨18, .data⟩ (by simp) rfl) rfl
    exact g_val (.bool m23) hS rfl (op_move rfl e23) rfl
  · go_light; intro listed a' w' hs hS hun hdep
    have eg : a'.eval (.tmp 24) = (.bool m23) := hs.eval 19 _ 24 rfl (hdep ⟨19, .guard⟩ (by simp) rfl) rfl
    have e3 : a'.eval (.tmp 3) = .pointer (some ⟨w.heap.size, 0, none⟩) := (hs.out 3 (by kernel_rfl)).trans (rfl)
    cases m23
    · exact g_not hS (wanted_no rfl rfl rfl eg (by decide)) rfl
    · refine g_val (.pointer (some ⟨w.heap.size, 6, none⟩)) hS (wanted_yes rfl rfl rfl eg) ?_ rfl
      have hcn := BigFrame.eval_const a'; have hfn := BigFrame.eval_func a'; clear hs hdep; generalize a'.eval = ev at *; go_simp
  · go_light; intro listed a' w' hs hS hun hdep
    have eg : a'.eval (.tmp 24) = (.bool m23) := hs.eval 19 _ 24 rfl (hdep ⟨19, .guard⟩ (by simp) rfl) rfl
    have e25 : a'.eval (.tmp 25) = (if m23 = true then .pointer (some ⟨w.heap.size, 6, none⟩) else undef) := hs.eval 20 _ 25 rfl (hdep ⟨20, .data⟩ (by simp) rfl) rfl
    cases m23
    · exact g_not hS (wanted_no rfl rfl rfl eg (by decide)) rfl
    · replace e25 := e25.trans (if_pos rfl)
      exact g_val (.int .i64 p) hS (wanted_yes rfl rfl rfl eg) (op_ld1 (.int .i64 p) rfl e25 (L0.out.below hS) 6 (by first | rfl | simp) rfl Try.underlying3 rfl) rfl
  · go_light; intro listed a' w' hs hS hun hdep
    have eg : a'.eval (.tmp 24) = (.bool m23) := hs.eval 19 _ 24 rfl (hdep ⟨19, .guard⟩ (by simp) rfl) rfl
    have e26 : a'.eval (.tmp 26) = (if m23 = true then .int .i64 p else undef) := hs.eval 21 _ 26 rfl (hdep ⟨21, .data⟩ (by simp) rfl) rfl
    cases m23
    · exact g_not hS (wanted_no rfl rfl rfl eg (by decide)) rfl
    · replace e26 := e26.trans (if_pos rfl)
      refine g_val (.bool m27) hS (wanted_yes rfl rfl rfl eg) ?_ rfl
      rw [← hm27.out]
      have hcn := BigFrame.eval_const a'; have hfn := BigFrame.eval_func a'; clear hs hdep; generalize a'.eval = ev at *; go_simp; try rfl
  · go_light; intro listed a' w' hs hS hun hdep
    have e24 : a'.eval (.tmp 24) = (.bool m23) := hs.eval 19 _ 24 rfl (hdep ⟨19, .data⟩ (by simp) rfl) rfl
    have e27 : a'.eval (.tmp 27) = (if m23 = true then .bool m27 else undef) := hs.eval 22 _ 27 rfl (hdep ⟨22, .data⟩ (by simp) rfl) rfl
    refine g_val (.bool m28) hS rfl ?_ rfl
    cases m23
    · replace e27 := e27.trans (if_neg (by decide))
      exact (op_pick_f rfl e24 (BigFrame.eval_const a' _)).trans (by rw [← hm28.out]; first | rfl | simp)
    · replace e27 := e27.trans (if_pos rfl)
      exact (op_pick_t rfl e24 e27).trans (by rw [← hm28.out]; first | rfl | simp)
  · go_light; intro listed a' w' hs hS hun hdep
    have e28 : a'.eval (.tmp 28) = (.bool m28) := hs.eval 23 _ 28 rfl (hdep ⟨23, .data⟩ (by simp) rfl) rfl
    exact g_val (.bool m28) hS rfl (op_move rfl e28) rfl
  · go_light; intro listed a' w' hs hS hun hdep
    have eg : a'.eval (.tmp 29) = (.bool m28) := hs.eval 24 _ 29 rfl (hdep ⟨24, .guard⟩ (by simp) rfl) rfl
    have e3 : a'.eval (.tmp 3) = .pointer (some ⟨w.heap.size, 0, none⟩) := (hs.out 3 (by kernel_rfl)).trans (rfl)
    cases m28
    · exact g_not hS (wanted_no rfl rfl rfl eg (by decide)) rfl
    · refine g_val (.pointer (some ⟨w.heap.size, 6, none⟩)) hS (wanted_yes rfl rfl rfl eg) ?_ rfl
      have hcn := BigFrame.eval_const a'; have hfn := BigFrame.eval_func a'; clear hs hdep; generalize a'.eval = ev at *; go_simp
  · go_light; intro listed a' w' hs hS hun hdep
    have eg : a'.eval (.tmp 29) = (.bool m28) := hs.eval 24 _ 29 rfl (hdep ⟨24, .guard⟩ (by simp) rfl) rfl
    have e30 : a'.eval (.tmp 30) = (if m28 = true then .pointer (some ⟨w.heap.size, 6, none⟩) else undef) := hs.eval 25 _ 30 rfl (hdep ⟨25, .data⟩ (by simp) rfl) rfl
    cases m28
    · exact g_not hS (wanted_no rfl rfl rfl eg (by decide)) rfl
    · replace e30 := e30.trans (if_pos rfl)
      exact g_val (.int .i64 p) hS (wanted_yes rfl rfl rfl eg) (op_ld1 (.int .i64 p) rfl e30 (L0.out.below hS) 6 (by first | rfl | simp) rfl Try.underlying3 rfl) rfl
  · go_light; intro listed a' w' hs hS hun hdep
    have eg : a'.eval (.tmp 29) = (.bool m28) := hs.eval 24 _ 29 rfl (hdep ⟨24, .guard⟩ (by simp) rfl) rfl
    have e31 : a'.eval (.tmp 31) = (if m28 = true then .int .i64 p else undef) := hs.eval 26 _ 31 rfl (hdep ⟨26, .data⟩ (by simp) rfl) rfl
    cases m28
    · exact g_not hS (wanted_no rfl rfl rfl eg (by decide)) rfl
    · replace e31 := e31.trans (if_pos rfl)
      refine g_val (.bool m32) hS (wanted_yes rfl rfl rfl eg) ?_ rfl
      rw [← hm32.out]
      have hcn := BigFrame.eval_const a'; have hfn := BigFrame.eval_func a'; clear hs hdep; generalize a'.eval = ev at *; go_simp; try rfl
  · go_light; intro listed a' w' hs hS hun hdep
    have e29 : a'.eval (.tmp 29) = (.bool m28) := hs.eval 24 _ 29 rfl (hdep ⟨24, .data⟩ (by simp) rfl) rfl
    have e32 : a'.eval (.tmp 32) = (if m28 = true then .bool m32 else undef) := hs.eval 27 _ 32 rfl (hdep ⟨27, .data⟩ (by simp) rfl) rfl
    refine g_val (.bool m33) hS rfl ?_ rfl
    cases m28
    · replace e32 := e32.trans (if_neg (by decide))
      exact (op_pick_f rfl e29 (BigFrame.eval_const a' _)).trans (by rw [← hm33.out]; first | rfl | simp)
    · replace e32 := e32.trans (if_pos rfl)
      exact (op_pick_t rfl e29 e32).trans (by rw [← hm33.out]; first | rfl | simp)
  · go_light; intro listed a' w' hs hS hun hdep
    have e33 : a'.eval (.tmp 33) = (.bool m33) := hs.eval 28 _ 33 rfl (hdep ⟨28, .data⟩ (by simp) rfl) rfl
    exact g_val (.bool m33) hS rfl (op_move rfl e33) rfl
  · go_light; intro listed a' w' hs hS hun hdep
    have eg : a'.eval (.tmp 34) = (.bool m33) := hs.eval 29 _ 34 rfl (hdep ⟨29, .guard⟩ (by simp) rfl) rfl
    have e3 : a'.eval (.tmp 3) = .pointer (some ⟨w.heap.size, 0, none⟩) := (hs.out 3 (by kernel_rfl)).trans (rfl)
    cases m33
    · exact g_not hS (wanted_no rfl rfl rfl eg (by decide)) rfl
    · refine g_val (.pointer (some ⟨w.heap.size, 7, none⟩)) hS (wanted_yes rfl rfl rfl eg) ?_ rfl
      have hcn := BigFrame.eval_const a'; have hfn := BigFrame.eval_func a'; clear hs hdep; generalize a'.eval = ev at *; go_simp
  · go_light; intro listed a' w' hs hS hun hdep
    have eg : a'.eval (.tmp 34) = (.bool m33) := hs.eval 29 _ 34 rfl (hdep ⟨29, .guard⟩ (by simp) rfl) rfl
    have e35 : a'.eval (.tmp 35) = (if m33 = true then .pointer (some ⟨w.heap.size, 7, none⟩) else undef) := hs.eval 30 _ 35 rfl (hdep ⟨30, .data⟩ (by simp) rfl) rfl
    cases m33
    · exact g_not hS (wanted_no rfl rfl rfl eg (by decide)) rfl
    · replace e35 := e35.trans (if_pos rfl)
      exact g_val (.int .i64 tt) hS (wanted_yes rfl rfl rfl eg) (op_ld1 (.int .i64 tt) rfl e35 (L0.out.below hS) 7 (by first | rfl | simp) rfl Try.underlying3 rfl) rfl
  · go_light; intro listed a' w' hs hS hun hdep
    have eg : a'.eval (.tmp 34) = (.bool m33) := hs.eval 29 _ 34 rfl (hdep ⟨29, .guard⟩ (by simp) rfl) rfl
    have e36 : a'.eval (.tmp 36) = (if m33 = true then .int .i64 tt else undef) := hs.eval 31 _ 36 rfl (hdep ⟨31, .data⟩ (by simp) rfl) rfl
    cases m33
    · exact g_not hS (wanted_no rfl rfl rfl eg (by decide)) rfl
    · replace e36 := e36.trans (if_pos rfl)
      refine g_val (.bool m37) hS (wanted_yes rfl rfl rfl eg) ?_ rfl
      rw [← hm37.out]
      have hcn := BigFrame.eval_const a'; have hfn := BigFrame.eval_func a'; clear hs hdep; generalize a'.eval = ev at *; go_simp; try rfl
  · go_light; intro listed a' w' hs hS hun hdep
    have e34 : a'.eval (.tmp 34) = (.bool m33) := hs.eval 29 _ 34 rfl (hdep ⟨29, .data⟩ (by simp) rfl) rfl
    have e37 : a'.eval (.tmp 37) = (if m33 = true then .bool m37 else undef) := hs.eval 32 _ 37 rfl (hdep ⟨32, .data⟩ (by simp) rfl) rfl
    refine g_val (.bool m38) hS rfl ?_ rfl
    cases m33
    · replace e37 := e37.trans (if_neg (by decide))
      exact (op_pick_f rfl e34 (BigFrame.eval_const a' _)).trans (by rw [← hm38.out]; first | rfl | simp)
    · replace e37 := e37.trans (if_pos rfl)
      exact (op_pick_t rfl e34 e37).trans (by rw [← hm38.out]; first | rfl | simp)
  · go_light; intro listed a' w' hs hS hun hdep
    have e38 : a'.eval (.tmp 38) = (.bool m38) := hs.eval 33 _ 38 rfl (hdep ⟨33, .data⟩ (by simp) rfl) rfl
    exact g_val (.bool m38) hS rfl (op_move rfl e38) rfl
  · go_light; intro listed a' w' hs hS hun hdep
    have eg : a'.eval (.tmp 39) = (.bool m38) := hs.eval 34 _ 39 rfl (hdep ⟨34, .guard⟩ (by simp) rfl) rfl
    have e3 : a'.eval (.tmp 3) = .pointer (some ⟨w.heap.size, 0, none⟩) := (hs.out 3 (by kernel_rfl)).trans (rfl)
    cases m38
    · exact g_not hS (wanted_no rfl rfl rfl eg (by decide)) rfl
    · refine g_val (.pointer (some ⟨w.heap.size, 7, none⟩)) hS (wanted_yes rfl rfl rfl eg) ?_ rfl
      have hcn := BigFrame.eval_const a'; have hfn := BigFrame.eval_func a'; clear hs hdep; generalize a'.eval = ev at *; go_simp
  · go_light; intro listed a' w' hs hS hun hdep
    have eg : a'.eval (.tmp 39) = (.bool m38) := hs.eval 34 _ 39 rfl (hdep ⟨34, .guard⟩ (by simp) rfl) rfl
    have e40 : a'.eval (.tmp 40) = (if m38 = true then .pointer (some ⟨w.heap.size, 7, none⟩) else undef) := hs.eval 35 _ 40 rfl (hdep ⟨35, .data⟩ (by simp) rfl) rfl
    cases m38
    · exact g_not hS (wanted_no rfl rfl rfl eg (by decide)) rfl
    · replace e40 := e40.trans (if_pos rfl)
      exact g_val (.int .i64 tt) hS (wanted_yes rfl rfl rfl eg) (op_ld1 (.int .i64 tt) rfl e40 (L0.out.below hS) 7 (by first | rfl | simp) rfl Try.underlying3 rfl) rfl
  · go_light; intro listed a' w' hs hS hun hdep
    have eg : a'.eval (.tmp 39) = (.bool m38) := hs.eval 34 _ 39 rfl (hdep ⟨34, .guard⟩ (by simp) rfl) rfl
    have e0 : a'.eval (.tmp 0) = .int .i64 mm := (hs.out 0 (by kernel_rfl)).trans (rfl)
    cases m38
    · exact g_not hS (wanted_no rfl rfl rfl eg (by decide)) rfl
    · exact g_val (.int .i64 mm) hS (wanted_yes rfl rfl rfl eg) (op_move rfl e0) rfl
  · go_light; intro listed a' w' hs hS hun hdep
    have eg : a'.eval (.tmp 39) = (.bool m38) := hs.eval 34 _ 39 rfl (hdep ⟨34, .guard⟩ (by simp) rfl) rfl
    have e41 : a'.eval (.tmp 41) = (if m38 = true then .int .i64 tt else undef) := hs.eval 36 _ 41 rfl (hdep ⟨36, .data⟩ (by simp) rfl) rfl
    have e42 : a'.eval (.tmp 42) = (if m38 = true then .int .i64 mm else undef) := hs.eval 37 _ 42 rfl (hdep ⟨37, .data⟩ (by simp) rfl) rfl
    cases m38
    · exact g_not hS (wanted_no rfl rfl rfl eg (by decide)) rfl
    · replace e41 := e41.trans (if_pos rfl)
      replace e42 := e42.trans (if_pos rfl)
      refine g_val (.bool m43) hS (wanted_yes rfl rfl rfl eg) ?_ rfl
      rw [← hm43.out]
      have hcn := BigFrame.eval_const a'; have hfn := BigFrame.eval_func a'; clear hs hdep; generalize a'.eval = ev at *; go_simp; try rfl
  · go_light; intro listed a' w' hs hS hun hdep
    have e39 : a'.eval (.tmp 39) = (.bool m38) := hs.eval 34 _ 39 rfl (hdep ⟨34, .data⟩ (by simp) rfl) rfl
    have e43 : a'.eval (.tmp 43) = (if m38 = true then .bool m43 else undef) := hs.eval 38 _ 43 rfl (hdep ⟨38, .data⟩ (by simp) rfl) rfl
    refine g_val (.bool m44) hS rfl ?_ rfl
    cases m38
    · replace e43 := e43.trans (if_neg (by decide))
      exact (op_pick_f rfl e39 (BigFrame.eval_const a' _)).trans (by rw [← hm44.out]; first | rfl | simp)
    · replace e43 := e43.trans (if_pos rfl)
      exact (op_pick_t rfl e39 e43).trans (by rw [← hm44.out]; first | rfl | simp)
  · go_light; intro listed a' w' hs hS hun hdep
    have e44 : a'.eval (.tmp 44) = (.bool m44) := hs.eval 39 _ 44 rfl (hdep ⟨39, .data⟩ (by simp) rfl) rfl
    exact g_val (.bool m44) hS rfl (op_move rfl e44) rfl
  · go_light; intro listed a' w' hs hS hun hdep
    have eg : a'.eval (.tmp 45) = (.bool m44) := hs.eval 40 _ 45 rfl (hdep ⟨40, .guard⟩ (by simp) rfl) rfl
    have e3 : a'.eval (.tmp 3) = .pointer (some ⟨w.heap.size, 0, none⟩) := (hs.out 3 (by kernel_rfl)).trans (rfl)
    cases m44
    · exact g_not hS (wanted_no rfl rfl rfl eg (by decide)) rfl
    · refine g_val (.pointer (some ⟨w.heap.size, 2, none⟩)) hS (wanted_yes rfl rfl rfl eg) ?_ rfl
      have hcn := BigFrame.eval_const a'; have hfn := BigFrame.eval_func a'; clear hs hdep; generalize a'.eval = ev at *; go_simp
  · go_light; intro listed a' w' hs hS hun hdep
    have eg : a'.eval (.tmp 45) = (.bool m44) := hs.eval 40 _ 45 rfl (hdep ⟨40, .guard⟩ (by simp) rfl) rfl
    have e46 : a'.eval (.tmp 46) = (if m44 = true then .pointer (some ⟨w.heap.size, 2, none⟩) else undef) := hs.eval 41 _ 46 rfl (hdep ⟨41, .data⟩ (by simp) rfl) rfl
    cases m44
    · exact g_not hS (wanted_no rfl rfl rfl eg (by decide)) rfl
    · replace e46 := e46.trans (if_pos rfl)
      exact g_val (.agg #[.int .u32 sa, .int .i64 sb]) hS (wanted_yes rfl rfl rfl eg) (op_ld [.int .u32 sa, .int .i64 sb] rfl e46 (L0.out.below hS) 2 (by first | rfl | simp) rfl Try.underlying32 rfl (by kernel_rfl)) rfl
  · go_light; intro listed a' w' hs hS hun hdep
    have eg : a'.eval (.tmp 45) = (.bool m44) := hs.eval 40 _ 45 rfl (hdep ⟨40, .guard⟩ (by simp) rfl) rfl
    have e47 : a'.eval (.tmp 47) = (if m44 = true then .agg #[.int .u32 sa, .int .i64 sb] else undef) := hs.eval 42 _ 47 rfl (hdep ⟨42, .data⟩ (by simp) rfl) rfl
    cases m44
    · exact g_not hS (wanted_no rfl rfl rfl eg (by decide)) rfl
    · replace e47 := e47.trans (if_pos rfl)
      refine g_call 30 #[.agg #[.int .u32 sa, .int .i64 sb]] hS (wanted_yes rfl rfl rfl eg) ?_ ?_
      · have hcn := BigFrame.eval_const a'; have hfn := BigFrame.eval_func a'; clear hs hdep; generalize a'.eval = ev at *; go_simp
      · exact c_val (C48.out w' hS) rfl
  · go_light; intro listed a' w' hs hS hun hdep
    have e45 : a'.eval (.tmp 45) = (.bool m44) := hs.eval 40 _ 45 rfl (hdep ⟨40, .data⟩ (by simp) rfl) rfl
    have e48 : a'.eval (.tmp 48) = (if m44 = true then .bool m48 else undef) := hs.eval 43 _ 48 rfl (hdep ⟨43, .data⟩ (by simp) rfl) rfl
    refine g_val (.bool m49) hS rfl ?_ rfl
    cases m44
    · replace e48 := e48.trans (if_neg (by decide))
      exact (op_pick_f rfl e45 (BigFrame.eval_const a' _)).trans (by rw [← hm49.out]; first | rfl | simp)
    · replace e48 := e48.trans (if_pos rfl)
      exact (op_pick_t rfl e45 e48).trans (by rw [← hm49.out]; first | rfl | simp)
  · go_light; intro listed a' w' hs hS hun hdep
    have e49 : a'.eval (.tmp 49) = (.bool m49) := hs.eval 44 _ 49 rfl (hdep ⟨44, .data⟩ (by simp) rfl) rfl
    exact g_val (.bool m49) hS rfl (op_move rfl e49) rfl
  · go_light; intro listed a' w' hs hS hun hdep
    have eg : a'.eval (.tmp 50) = (.bool m49) := hs.eval 45 _ 50 rfl (hdep ⟨45, .guard⟩ (by simp) rfl) rfl
    have e3 : a'.eval (.tmp 3) = .pointer (some ⟨w.heap.size, 0, none⟩) := (hs.out 3 (by kernel_rfl)).trans (rfl)
    cases m49
    · exact g_not hS (wanted_no rfl rfl rfl eg (by decide)) rfl
    · refine g_val (.pointer (some ⟨w.heap.size, 4, none⟩)) hS (wanted_yes rfl rfl rfl eg) ?_ rfl
      have hcn := BigFrame.eval_const a'; have hfn := BigFrame.eval_func a'; clear hs hdep; generalize a'.eval = ev at *; go_simp
  · go_light; intro listed a' w' hs hS hun hdep
    have eg : a'.eval (.tmp 50) = (.bool m49) := hs.eval 45 _ 50 rfl (hdep ⟨45, .guard⟩ (by simp) rfl) rfl
    have e51 : a'.eval (.tmp 51) = (if m49 = true then .pointer (some ⟨w.heap.size, 4, none⟩) else undef) := hs.eval 46 _ 51 rfl (hdep ⟨46, .data⟩ (by simp) rfl) rfl
    cases m49
    · exact g_not hS (wanted_no rfl rfl rfl eg (by decide)) rfl
    · replace e51 := e51.trans (if_pos rfl)
      exact g_val (.agg #[.int .u32 da, .int .i64 db]) hS (wanted_yes rfl rfl rfl eg) (op_ld [.int .u32 da, .int .i64 db] rfl e51 (L0.out.below hS) 4 (by first | rfl | simp) rfl Try.underlying32 rfl (by kernel_rfl)) rfl
  · go_light; intro listed a' w' hs hS hun hdep
    have eg : a'.eval (.tmp 50) = (.bool m49) := hs.eval 45 _ 50 rfl (hdep ⟨45, .guard⟩ (by simp) rfl) rfl
    have e52 : a'.eval (.tmp 52) = (if m49 = true then .agg #[.int .u32 da, .int .i64 db] else undef) := hs.eval 47 _ 52 rfl (hdep ⟨47, .data⟩ (by simp) rfl) rfl
    cases m49
    · exact g_not hS (wanted_no rfl rfl rfl eg (by decide)) rfl
    · replace e52 := e52.trans (if_pos rfl)
      refine g_call 30 #[.agg #[.int .u32 da, .int .i64 db]] hS (wanted_yes rfl rfl rfl eg) ?_ ?_
      · have hcn := BigFrame.eval_const a'; have hfn := BigFrame.eval_func a'; clear hs hdep; generalize a'.eval = ev at *; go_simp
      · exact c_val (C53.out w' hS) rfl
  · go_light; intro listed a' w' hs hS hun hdep
    have e50 : a'.eval (.tmp 50) = (.bool m49) := hs.eval 45 _ 50 rfl (hdep ⟨45, .data⟩ (by simp) rfl) rfl
    have e53 : a'.eval (.tmp 53) = (if m49 = true then .bool m53 else undef) := hs.eval 48 _ 53 rfl (hdep ⟨48, .data⟩ (by simp) rfl) rfl
    refine g_val (.bool m54) hS rfl ?_ rfl
    cases m49
    · replace e53 := e53.trans (if_neg (by decide))
      exact (op_pick_f rfl e50 (BigFrame.eval_const a' _)).trans (by rw [← hm54.out]; first | rfl | simp)
    · replace e53 := e53.trans (if_pos rfl)
      exact (op_pick_t rfl e50 e53).trans (by rw [← hm54.out]; first | rfl | simp)
  · intro vs w3 hlen hV hS
    obtain ⟨v0, v1, v2, v3, v4, v5, v6, v7, v8, v9, v10, v11, v12, v13, v14, v15, v16, v17, v18, v19, v20, v21, v22, v23, v24, v25, v26, v27, v28, v29, v30, v31, v32, v33, v34, v35, v36, v37, v38, v39, v40, v41, v42, v43, v44, v45, v46, v47, v48, v49, rfl⟩ := vs_50 vs (hlen.trans rfl)
    have q0 : v0 = .pointer (some ⟨w.heap.size, 0, none⟩) := hV 0 _ rfl
    have q1 : v1 = .int .i64 i := hV 1 _ rfl
    have q2 : v2 = .bool m7 := hV 2 _ rfl
    have q3 : v3 = .bool m7 := hV 3 _ rfl
    have q7 : v7 = .bool m12 := hV 7 _ rfl
    have q8 : v8 = .bool m12 := hV 8 _ rfl
    have q12 : v12 = .bool m17 := hV 12 _ rfl
    have q13 : v13 = .bool m17 := hV 13 _ rfl
    have q18 : v18 = .bool m23 := hV 18 _ rfl
    have q19 : v19 = .bool m23 := hV 19 _ rfl
    have q23 : v23 = .bool m28 := hV 23 _ rfl
    have q24 : v24 = .bool m28 := hV 24 _ rfl
    have q28 : v28 = .bool m33 := hV 28 _ rfl
    have q29 : v29 = .bool m33 := hV 29 _ rfl
    have q33 : v33 = .bool m38 := hV 33 _ rfl
    have q34 : v34 = .bool m38 := hV 34 _ rfl
    have q39 : v39 = .bool m44 := hV 39 _ rfl
    have q40 : v40 = .bool m44 := hV 40 _ rfl
    have q44 : v44 = .bool m49 := hV 44 _ rfl
    have q45 : v45 = .bool m49 := hV 45 _ rfl
    have q49 : v49 = .bool m54 := hV 49 _ rfl
    have hbel : Below W0.heap.size W0 w3 := hS
    subst q0 q1 q2 q3 q7 q8 q12 q13 q18 q19 q23 q24 q28 q29 q33 q34 q39 q40 q44 q45 q49
    clear hV hS hlen
    simp only [lays, Act.put, List.setIfInBounds_toArray, List.set_cons_zero, List.set_cons_succ, List.drop_succ_cons, List.drop_zero, List.take_succ_cons, List.take_zero]
    go_wp2
    go_ret
    exact ⟨by rw [HS.out]; simp only []; rw [← hm54.out, ← hm53.out, ← hm49.out, ← hm48.out, ← hm44.out, ← hm43.out, ← hm38.out, ← hm37.out, ← hm33.out, ← hm32.out, ← hm28.out, ← hm27.out, ← hm23.out, ← hm22.out, ← hm17.out, ← hm16.out, ← hm12.out, ← hm11.out, ← hm7.out]; rfl, hb0.trans (hbel.mono hb0.size)⟩

set_option maxHeartbeats 4000000 in
theorem rgm_any (r : Gu) (q : Gd.Q) (w : World) (hr : r.fine) (hq : q.fine) : Calls Try.prog 22 #[.agg r.v.toArray, .int .i64 q.i, .int .i64 q.l, .int .i64 q.p, .int .u32 q.s, .int .u32 q.d] w fun e w' => e = .returned (.bool (r.m q)) ∧ Below w.heap.size w w' := by
  have HM := Lib.hid (m_steps r q)
  obtain ⟨i, lb, sa, sb, da, db, p, tt⟩ := r
  obtain ⟨qi, ql, qp, qs, qd⟩ := q
  have Hsa := Lib.hid hr.1
  have Hda := Lib.hid hr.2
  have Hqs := Lib.hid hq.1
  have Hqd := Lib.hid hq.2
  simp only [Gu.v] at *
  clear hr hq
  go_enter Try.func22, Try.ntmps22
  go_upto_region 1 with fail
  have hb0 : Below w.heap.size w (w.alloc (.cells #[.int .i64 i, .int .i64 lb, .int .u32 sa, .int .i64 sb, .int .u32 da, .int .i64 db, .int .i64 p, .int .i64 tt] 50)) := (Below.refl _ w).alloc (Nat.le_refl _) _
  have L0 : Hid (Lies (w.alloc (.cells #[.int .i64 i, .int .i64 lb, .int .u32 sa, .int .i64 sb, .int .u32 da, .int .i64 db, .int .i64 p, .int .i64 tt] 50)) w.heap.size 0 [.int .i64 i, .int .i64 lb, .int .u32 sa, .int .i64 sb, .int .u32 da, .int .i64 db, .int .i64 p, .int .i64 tt]) := Lib.hid (Lies.new w [.int .i64 i, .int .i64 lb, .int .u32 sa, .int .i64 sb, .int .u32 da, .int .i64 db, .int .i64 p, .int .i64 tt] _)
  generalize (w.alloc (.cells #[.int .i64 i, .int .i64 lb, .int .u32 sa, .int .i64 sb, .int .u32 da, .int .i64 db, .int .i64 p, .int .i64 tt] 50)) = W0 at *
  obtain ⟨m15, hm15⟩ : ∃ x, (!(i == (-1))) = x := ⟨_, rfl⟩
  replace hm15 := Lib.hid hm15
  obtain ⟨m20, hm20⟩ : ∃ x, (!(i == qi)) = x := ⟨_, rfl⟩
  replace hm20 := Lib.hid hm20
  obtain ⟨m21, hm21⟩ : ∃ x, (m15 && m20) = x := ⟨_, rfl⟩
  replace hm21 := Lib.hid hm21
  obtain ⟨m25, hm25⟩ : ∃ x, (!(lb == (-1))) = x := ⟨_, rfl⟩
  replace hm25 := Lib.hid hm25
  obtain ⟨m30, hm30⟩ : ∃ x, (!(lb == ql)) = x := ⟨_, rfl⟩
  replace hm30 := Lib.hid hm30
  obtain ⟨m31, hm31⟩ : ∃ x, (m25 && m30) = x := ⟨_, rfl⟩
  replace hm31 := Lib.hid hm31
  obtain ⟨m32, hm32⟩ : ∃ x, (m21 || m31) = x := ⟨_, rfl⟩
  replace hm32 := Lib.hid hm32
  obtain ⟨m36, hm36⟩ : ∃ x, (!(p == (-1))) = x := ⟨_, rfl⟩
  replace hm36 := Lib.hid hm36
  obtain ⟨m41, hm41⟩ : ∃ x, (!(p == qp)) = x := ⟨_, rfl⟩
  replace hm41 := Lib.hid hm41
  obtain ⟨m42, hm42⟩ : ∃ x, (m36 && m41) = x := ⟨_, rfl⟩
  replace hm42 := Lib.hid hm42
  obtain ⟨m43, hm43⟩ : ∃ x, (m32 || m42) = x := ⟨_, rfl⟩
  replace hm43 := Lib.hid hm43
  refine region_seq 31 (VG W0.heap.size [.val (.pointer (some ⟨w.heap.size, 0, none⟩)), .val (.int .i64 i), .val (.bool m15), .val (.bool m15), .val (if m15 = true then .pointer (some ⟨w.heap.size, 0, none⟩) else undef), .val (if m15 = true then .int .i64 i else undef), .val (if m15 = true then .int .i64 qi else undef), .val (if m15 = true then .bool m20 else undef), .val (.bool m21), .val (.bool m21), .val (if m21 = false then .pointer (some ⟨w.heap.size, 1, none⟩) else undef), .val (if m21 = false then .int .i64 lb else undef), .val (if m21 = false then .bool m25 else undef), .val (if m21 = false then .bool m25 else undef), .val (if m21 = false then (if m25 = true then .pointer (some ⟨w.heap.size, 1, none⟩) else undef) else undef), .val (if m21 = false then (if m25 = true then .int .i64 lb else undef) else undef), .val (if m21 = false then (if m25 = true then .int .i64 ql else undef) else undef), .val (if m21 = false then (if m25 = true then .bool m30 else undef) else undef), .val (if m21 = false then .bool m31 else undef), .val (.bool m32), .val (.bool m32), .val (if m32 = false then .pointer (some ⟨w.heap.size, 6, none⟩) else undef), .val (if m32 = false then .int .i64 p else undef), .val (if m32 = false then .bool m36 else undef), .val (if m32 = false then .bool m36 else undef), .val (if m32 = false then (if m36 = true then .pointer (some ⟨w.heap.size, 6, none⟩) else undef) else undef), .val (if m32 = false then (if m36 = true then .int .i64 p else undef) else undef), .val (if m32 = false then (if m36 = true then .int .i64 qp else undef) else undef), .val (if m32 = false then (if m36 = true then .bool m41 else undef) else undef), .val (if m32 = false then .bool m42 else undef), .val (.bool m43)]) (BS W0) (by kernel_rfl) (Below.refl _ _) ⟨?_, ?_, ?_, ?_, ?_, ?_, ?_, ?_, ?_, ?_, ?_, ?_, ?_, ?_, ?_, ?_, ?_, ?_, ?_, ?_, ?_, ?_, ?_, ?_, ?_, ?_, ?_, ?_, ?_, ?_, ?_, trivial⟩ ?_
  · go_light; intro listed a' w' hs hS hun hdep
    have e6 : a'.eval (.tmp 6) = .pointer (some ⟨w.heap.size, 0, none⟩) := (hs.out 6 (by kernel_rfl)).trans (rfl)
    refine g_val (.pointer (some ⟨w.heap.size, 0, none⟩)) hS rfl ?_ rfl
    have hcn := BigFrame.eval_const a'; have hfn := BigFrame.eval_func a'; clear hs hdep; generalize a'.eval = ev at *; go_simp
  · go_light; intro listed a' w' hs hS hun hdep
    have e13 : a'.eval (.tmp 13) = (.pointer (some ⟨w.heap.size, 0, none⟩)) := hs.eval 0 _ 13 rfl (hdep ⟨0, .data⟩ (by simp) rfl) rfl
    exact g_val (.int .i64 i) hS rfl (op_ld1 (.int .i64 i) rfl e13 (L0.out.below hS) 0 (by first | rfl | simp) rfl Try.underlying3 rfl) rfl
  · go_light; intro listed a' w' hs hS hun hdep
    have e14 : a'.eval (.tmp 14) = (.int .i64 i) := hs.eval 1 _ 14 rfl (hdep ⟨1, .data⟩ (by simp) rfl) rfl
    refine g_val (.bool m15) hS rfl ?_ rfl
    rw [← hm15.out]
    have hcn := BigFrame.eval_const a'; have hfn := BigFrame.eval_func a'; clear hs hdep; generalize a'.eval = ev at *; go_simp; try rfl
  · go_light; intro listed a' w' hs hS hun hdep
    have e15 : a'.eval (.tmp 15) = (.bool m15) := hs.eval 2 _ 15 rfl (hdep ⟨2, .data⟩ (by simp) rfl) rfl
    exact g_val (.bool m15) hS rfl (op_move rfl e15) rfl
  · go_light; intro listed a' w' hs hS hun hdep
    have eg : a'.eval (.tmp 16) = (.bool m15) := hs.eval 3 _ 16 rfl (hdep ⟨3, .guard⟩ (by simp) rfl) rfl
    have e6 : a'.eval (.tmp 6) = .pointer (some ⟨w.heap.size, 0, none⟩) := (hs.out 6 (by kernel_rfl)).trans (rfl)
    cases m15
    · exact g_not hS (wanted_no rfl rfl rfl eg (by decide)) rfl
    · refine g_val (.pointer (some ⟨w.heap.size, 0, none⟩)) hS (wanted_yes rfl rfl rfl eg) ?_ rfl
      have hcn := BigFrame.eval_const a'; have hfn := BigFrame.eval_func a'; clear hs hdep; generalize a'.eval = ev at *; go_simp
  · go_light; intro listed a' w' hs hS hun hdep
    have eg : a'.eval (.tmp 16) = (.bool m15) := hs.eval 3 _ 16 rfl (hdep ⟨3, .guard⟩ (by simp) rfl) rfl
    have e17 : a'.eval (.tmp 17) = (if m15 = true then .pointer (some ⟨w.heap.size, 0, none⟩) else undef) := hs.eval 4 _ 17 rfl (hdep ⟨4, .data⟩ (by simp) rfl) rfl
    cases m15
    · exact g_not hS (wanted_no rfl rfl rfl eg (by decide)) rfl
    · replace e17 := e17.trans (if_pos rfl)
      exact g_val (.int .i64 i) hS (wanted_yes rfl rfl rfl eg) (op_ld1 (.int .i64 i) rfl e17 (L0.out.below hS) 0 (by first | rfl | simp) rfl Try.underlying3 rfl) rfl
  · go_light; intro listed a' w' hs hS hun hdep
    have eg : a'.eval (.tmp 16) = (.bool m15) := hs.eval 3 _ 16 rfl (hdep ⟨3, .guard⟩ (by simp) rfl) rfl
    have e1 : a'.eval (.tmp 1) = .int .i64 qi := (hs.out 1 (by kernel_rfl)).trans (rfl)
    cases m15
    · exact g_not hS (wanted_no rfl rfl rfl eg (by decide)) rfl
    · exact g_val (.int .i64 qi) hS (wanted_yes rfl rfl rfl eg) (op_move rfl e1) rfl
  · go_light; intro listed a' w' hs hS hun hdep
    have eg : a'.eval (.tmp 16) = (.bool m15) := hs.eval 3 _ 16 rfl (hdep ⟨3, .guard⟩ (by simp) rfl) rfl
    have e18 : a'.eval (.tmp 18) = (if m15 = true then .int .i64 i else undef) := hs.eval 5 _ 18 rfl (hdep ⟨5, .data⟩ (by simp) rfl) rfl
    have e19 : a'.eval (.tmp 19) = (if m15 = true then .int .i64 qi else undef) := hs.eval 6 _ 19 rfl (hdep ⟨6, .data⟩ (by simp) rfl) rfl
    cases m15
    · exact g_not hS (wanted_no rfl rfl rfl eg (by decide)) rfl
    · replace e18 := e18.trans (if_pos rfl)
      replace e19 := e19.trans (if_pos rfl)
      refine g_val (.bool m20) hS (wanted_yes rfl rfl rfl eg) ?_ rfl
      rw [← hm20.out]
      have hcn := BigFrame.eval_const a'; have hfn := BigFrame.eval_func a'; clear hs hdep; generalize a'.eval = ev at *; go_simp; try rfl
  · go_light; intro listed a' w' hs hS hun hdep
    have e16 : a'.eval (.tmp 16) = (.bool m15) := hs.eval 3 _ 16 rfl (hdep ⟨3, .data⟩ (by simp) rfl) rfl
    have e20 : a'.eval (.tmp 20) = (if m15 = true then .bool m20 else undef) := hs.eval 7 _ 20 rfl (hdep ⟨7, .data⟩ (by simp) rfl) rfl
    refine g_val (.bool m21) hS rfl ?_ rfl
    cases m15
    · replace e20 := e20.trans (if_neg (by decide))
      exact (op_pick_f rfl e16 (BigFrame.eval_const a' _)).trans (by rw [← hm21.out]; first | rfl | simp)
    · replace e20 := e20.trans (if_pos rfl)
      exact (op_pick_t rfl e16 e20).trans (by rw [← hm21.out]; first | rfl | simp)
  · go_light; intro listed a' w' hs hS hun hdep
    have e21 : a'.eval (.tmp 21) = (.bool m21) := hs.eval 8 _ 21 rfl (hdep ⟨8, .data⟩ (by simp) rfl) rfl
    exact g_val (.bool m21) hS rfl (op_move rfl e21) rfl
  · go_light; intro listed a' w' hs hS hun hdep
    have eg : a'.eval (.tmp 22) = (.bool m21) := hs.eval 9 _ 22 rfl (hdep ⟨9, .guard⟩ (by simp) rfl) rfl
    have e6 : a'.eval (.tmp 6) = .pointer (some ⟨w.heap.size, 0, none⟩) := (hs.out 6 (by kernel_rfl)).trans (rfl)
    cases m21
    · refine g_val (.pointer (some ⟨w.heap.size, 1, none⟩)) hS (wanted_yes rfl rfl rfl eg) ?_ rfl
      have hcn := BigFrame.eval_const a'; have hfn := BigFrame.eval_func a'; clear hs hdep; generalize a'.eval = ev at *; go_simp
    · exact g_not hS (wanted_no rfl rfl rfl eg (by decide)) rfl
  · go_light; intro listed a' w' hs hS hun hdep
    have eg : a'.eval (.tmp 22) = (.bool m21) := hs.eval 9 _ 22 rfl (hdep ⟨9, .guard⟩ (by simp) rfl) rfl
    have e23 : a'.eval (.tmp 23) = (if m21 = false then .pointer (some ⟨w.heap.size, 1, none⟩) else undef) := hs.eval 10 _ 23 rfl (hdep ⟨10, .data⟩ (by simp) rfl) rfl
    cases m21
    · replace e23 := e23.trans (if_pos rfl)
      exact g_val (.int .i64 lb) hS (wanted_yes rfl rfl rfl eg) (op_ld1 (.int .i64 lb) rfl e23 (L0.out.below hS) 1 (by first | rfl | simp) rfl Try.underlying3 rfl) rfl
    · exact g_not hS (wanted_no rfl rfl rfl eg (by decide)) rfl
  · go_light; intro listed a' w' hs hS hun hdep
    have eg : a'.eval (.tmp 22) = (.bool m21) := hs.eval 9 _ 22 rfl (hdep ⟨9, .guard⟩ (by simp) rfl) rfl
    have e24 : a'.eval (.tmp 24) = (if m21 = false then .int .i64 lb else undef) := hs.eval 11 _ 24 rfl (hdep ⟨11, .data⟩ (by simp) rfl) rfl
    cases m21
    · replace e24 := e24.trans (if_pos rfl)
      refine g_val (.bool m25) hS (wanted_yes rfl rfl rfl eg) ?_ rfl
      rw [← hm25.out]
      have hcn := BigFrame.eval_const a'; have hfn := BigFrame.eval_func a'; clear hs hdep; generalize a'.eval = ev at *; go_simp; try rfl
    · exact g_not hS (wanted_no rfl rfl rfl eg (by decide)) rfl
  · go_light; intro listed a' w' hs hS hun hdep
    have eg : a'.eval (.tmp 22) = (.bool m21) := hs.eval 9 _ 22 rfl (hdep ⟨9, .guard⟩ (by simp) rfl) rfl
    have e25 : a'.eval (.tmp 25) = (if m21 = false then .bool m25 else undef) := hs.eval 12 _ 25 rfl (hdep ⟨12, .data⟩ (by simp) rfl) rfl
    cases m21
    · replace e25 := e25.trans (if_pos rfl)
      exact g_val (.bool m25) hS (wanted_yes rfl rfl rfl eg) (op_move rfl e25) rfl
    · exact g_not hS (wanted_no rfl rfl rfl eg (by decide)) rfl
  · go_light; intro listed a' w' hs hS hun hdep
    have eg : a'.eval (.tmp 26) = (if m21 = false then .bool m25 else undef) := hs.eval 13 _ 26 rfl (hdep ⟨13, .guard⟩ (by simp) rfl) rfl
    have e6 : a'.eval (.tmp 6) = .pointer (some ⟨w.heap.size, 0, none⟩) := (hs.out 6 (by kernel_rfl)).trans (rfl)
    cases m21
    · replace eg := eg.trans (if_pos rfl)
      cases m25
      · exact g_not hS (wanted_no rfl rfl rfl eg (by decide)) rfl
      · refine g_val (.pointer (some ⟨w.heap.size, 1, none⟩)) hS (wanted_yes rfl rfl rfl eg) ?_ rfl
        have hcn := BigFrame.eval_const a'; have hfn := BigFrame.eval_func a'; clear hs hdep; generalize a'.eval = ev at *; go_simp
    · replace eg := eg.trans (if_neg (by decide))
      exact g_not hS (wanted_un rfl rfl rfl eg) rfl
  · go_light; intro listed a' w' hs hS hun hdep
    have eg : a'.eval (.tmp 26) = (if m21 = false then .bool m25 else undef) := hs.eval 13 _ 26 rfl (hdep ⟨13, .guard⟩ (by simp) rfl) rfl
    have e27 : a'.eval (.tmp 27) = (if m21 = false then (if m25 = true then .pointer (some ⟨w.heap.size, 1, none⟩) else undef) else undef) := hs.eval 14 _ 27 rfl (hdep ⟨14, .data⟩ (by simp) rfl) rfl
    cases m21
    · replace eg := eg.trans (if_pos rfl)
      cases m25
      · exact g_not hS (wanted_no rfl rfl rfl eg (by decide)) rfl
      · replace e27 := e27.trans (if_pos rfl)
        replace e27 := e27.trans (if_pos rfl)
        exact g_val (.int .i64 lb) hS (wanted_yes rfl rfl rfl eg) (op_ld1 (.int .i64 lb) rfl e27 (L0.out.below hS) 1 (by first | rfl | simp) rfl Try.underlying3 rfl) rfl
    · replace eg := eg.trans (if_neg (by decide))
      exact g_not hS (wanted_un rfl rfl rfl eg) rfl
  · go_light; intro listed a' w' hs hS hun hdep
    have eg : a'.eval (.tmp 26) = (if m21 = false then .bool m25 else undef) := hs.eval 13 _ 26 rfl (hdep ⟨13, .guard⟩ (by simp) rfl) rfl
    have e2 : a'.eval (.tmp 2) = .int .i64 ql := (hs.out 2 (by kernel_rfl)).trans (rfl)
    cases m21
    · replace eg := eg.trans (if_pos rfl)
      cases m25
      · exact g_not hS (wanted_no rfl rfl rfl eg (by decide)) rfl
      · exact g_val (.int .i64 ql) hS (wanted_yes rfl rfl rfl eg) (op_move rfl e2) rfl
    · replace eg := eg.trans (if_neg (by decide))
      exact g_not hS (wanted_un rfl rfl rfl eg) rfl
  · go_light; intro listed a' w' hs hS hun hdep
    have eg : a'.eval (.tmp 26) = (if m21 = false then .bool m25 else undef) := hs.eval 13 _ 26 rfl (hdep ⟨13, .guard⟩ (by simp) rfl) rfl
    have e28 : a'.eval (.tmp 28) = (if m21 = false then (if m25 = true then .int .i64 lb else undef) else undef) := hs.eval 15 _ 28 rfl (hdep ⟨15, .data⟩ (by simp) rfl) rfl
    have e29 : a'.eval (.tmp 29) = (if m21 = false then (if m25 = true then .int .i64 ql else undef) else undef) := hs.eval 16 _ 29 rfl (hdep ⟨16, .data⟩ (by simp) rfl) rfl
    cases m21
    · replace eg := eg.trans (if_pos rfl)
      cases m25
      · exact g_not hS (wanted_no rfl rfl rfl eg (by decide)) rfl
      · replace e28 := e28.trans (if_pos rfl)
        replace e28 := e28.trans (if_pos rfl)
        replace e29 := e29.trans (if_pos rfl)
        replace e29 := e29.trans (if_pos rfl)
        refine g_val (.bool m30) hS (wanted_yes rfl rfl rfl eg) ?_ rfl
        rw [← hm30.out]
        have hcn := BigFrame.eval_const a'; have hfn := BigFrame.eval_func a'; clear hs hdep; generalize a'.eval = ev at *; go_simp; try rfl
    · replace eg := eg.trans (if_neg (by decide))
      exact g_not hS (wanted_un rfl rfl rfl eg) rfl
  · go_light; intro listed a' w' hs hS hun hdep
    have eg : a'.eval (.tmp 22) = (.bool m21) := hs.eval 9 _ 22 rfl (hdep ⟨9, .guard⟩ (by simp) rfl) rfl
    have e26 : a'.eval (.tmp 26) = (if m21 = false then .bool m25 else undef) := hs.eval 13 _ 26 rfl (hdep ⟨13, .data⟩ (by simp) rfl) rfl
    have e30 : a'.eval (.tmp 30) = (if m21 = false then (if m25 = true then .bool m30 else undef) else undef) := hs.eval 17 _ 30 rfl (hdep ⟨17, .data⟩ (by simp) rfl) rfl
    cases m21
    · replace e26 := e26.trans (if_pos rfl)
      replace e30 := e30.trans (if_pos rfl)
      refine g_val (.bool m31) hS (wanted_yes rfl rfl rfl eg) ?_ rfl
      cases m25
      · replace e30 := e30.trans (if_neg (by decide))
        exact (op_pick_f rfl e26 (BigFrame.eval_const a' _)).trans (by rw [← hm31.out]; first | rfl | simp)
      · replace e30 := e30.trans (if_pos rfl)
        exact (op_pick_t rfl e26 e30).trans (by rw [← hm31.out]; first | rfl | simp)
    · exact g_not hS (wanted_no rfl rfl rfl eg (by decide)) rfl
  · go_light; intro listed a' w' hs hS hun hdep
    have e22 : a'.eval (.tmp 22) = (.bool m21) := hs.eval 9 _ 22 rfl (hdep ⟨9, .data⟩ (by simp) rfl) rfl
    have e31 : a'.eval (.tmp 31) = (if m21 = false then .bool m31 else undef) := hs.eval 18 _ 31 rfl (hdep ⟨18, .data⟩ (by simp) rfl) rfl
    refine g_val (.bool m32) hS rfl ?_ rfl
    cases m21
    · replace e31 := e31.trans (if_pos rfl)
      exact (op_pick_f rfl e22 e31).trans (by rw [← hm32.out]; first | rfl | simp)
    · replace e31 := e31.trans (if_neg (by decide))
      exact (op_pick_t rfl e22 (BigFrame.eval_const a' _)).trans (by rw [← hm32.out]; first | rfl | simp)
  · go_light; intro listed a' w' hs hS hun hdep
    have e32 : a'.eval (.tmp 32) = (.bool m32) := hs.eval 19 _ 32 rfl (hdep ⟨19, .data⟩ (by simp) rfl) rfl
    exact g_val (.bool m32) hS rfl (op_move rfl e32) rfl
  · go_light; intro listed a' w' hs hS hun hdep
    have eg : a'.eval (.tmp 33) = (.bool m32) := hs.eval 20 _ 33 rfl (hdep ⟨20, .guard⟩ (by simp) rfl) rfl
    have e6 : a'.eval (.tmp 6) = .pointer (some ⟨w.heap.size, 0, none⟩) := (hs.out 6 (by kernel_rfl)).trans (rfl)
    cases m32
    · refine g_val (.pointer (some ⟨w.heap.size, 6, none⟩)) hS (wanted_yes rfl rfl rfl eg) ?_ rfl
      have hcn := BigFrame.eval_const a'; have hfn := BigFrame.eval_func a'; clear hs hdep; generalize a'.eval = ev at *; go_simp
    · exact g_not hS (wanted_no rfl rfl rfl eg (by decide)) rfl
  · go_light; intro listed a' w' hs hS hun hdep
    have eg : a'.eval (.tmp 33) = (.bool m32) := hs.eval 20 _ 33 rfl (hdep ⟨20, .guard⟩ (by simp) rfl) rfl
    have e34 : a'.eval (.tmp 34) = (if m32 = false then .pointer (some ⟨w.heap.size, 6, none⟩) else undef) := hs.eval 21 _ 34 rfl (hdep ⟨21, .data⟩ (by simp) rfl) rfl
    cases m32
    · replace e34 := e34.trans (if_pos rfl)
      exact g_val (.int .i64 p) hS (wanted_yes rfl rfl rfl eg) (op_ld1 (.int .i64 p) rfl e34 (L0.out.below hS) 6 (by first | rfl | simp) rfl Try.underlying3 rfl) rfl
    · exact g_not hS (wanted_no rfl rfl rfl eg (by decide)) rfl
  · go_light; intro listed a' w' hs hS hun hdep
    have eg : a'.eval (.tmp 33) = (.bool m32) := hs.eval 20 _ 33 rfl (hdep ⟨20, .guard⟩ (by simp) rfl) rfl
    have e35 : a'.eval (.tmp 35) = (if m32 = false then .int .i64 p else undef) := hs.eval 22 _ 35 rfl (hdep ⟨22, .data⟩ (by simp) rfl) rfl
    cases m32
    · replace e35 := e35.trans (if_pos rfl)
      refine g_val (.bool m36) hS (wanted_yes rfl rfl rfl eg) ?_ rfl
      rw [← hm36.out]
      have hcn := BigFrame.eval_const a'; have hfn := BigFrame.eval_func a'; clear hs hdep; generalize a'.eval = ev at *; go_simp; try rfl
    · exact g_not hS (wanted_no rfl rfl rfl eg (by decide)) rfl
  · go_light; intro listed a' w' hs hS hun hdep
    have eg : a'.eval (.tmp 33) = (.bool m32) := hs.eval 20 _ 33 rfl (hdep ⟨20, .guard⟩ (by simp) rfl) rfl
    have e36 : a'.eval (.tmp 36) = (if m32 = false then .bool m36 else undef) := hs.eval 23 _ 36 rfl (hdep ⟨23, .data⟩ (by simp) rfl) rfl
    cases m32
    · replace e36 := e36.trans (if_pos rfl)
      exact g_val (.bool m36) hS (wanted_yes rfl rfl rfl eg) (op_move rfl e36) rfl
    · exact g_not hS (wanted_no rfl rfl rfl eg (by decide)) rfl
  · go_light; intro listed a' w' hs hS hun hdep
    have eg : a'.eval (.tmp 37) = (if m32 = false then .bool m36 else undef) := hs.eval 24 _ 37 rfl (hdep ⟨24, .guard⟩ (by simp) rfl) rfl
    have e6 : a'.eval (.tmp 6) = .pointer (some ⟨w.heap.size, 0, none⟩) := (hs.out 6 (by kernel_rfl)).trans (rfl)
    cases m32
    · replace eg := eg.trans (if_pos rfl)
      cases m36
      · exact g_not hS (wanted_no rfl rfl rfl eg (by decide)) rfl
      · refine g_val (.pointer (some ⟨w.heap.size, 6, none⟩)) hS (wanted_yes rfl rfl rfl eg) ?_ rfl
        have hcn := BigFrame.eval_const a'; have hfn := BigFrame.eval_func a'; clear hs hdep; generalize a'.eval = ev at *; go_simp
    · replace eg := eg.trans (if_neg (by decide))
      exact g_not hS (wanted_un rfl rfl rfl eg) rfl
  · go_light; intro listed a' w' hs hS hun hdep
    have eg : a'.eval (.tmp 37) = (if m32 = false then .bool m36 else undef) := hs.eval 24 _ 37 rfl (hdep ⟨24, .guard⟩ (by simp) rfl) rfl
    have e38 : a'.eval (.tmp 38) = (if m32 = false then (if m36 = true then .pointer (some ⟨w.heap.size, 6, none⟩) else undef) else undef) := hs.eval 25 _ 38 rfl (hdep ⟨25, .data⟩ (by simp) rfl) rfl
    cases m32
    · replace eg := eg.trans (if_pos rfl)
      cases m36
      · exact g_not hS (wanted_no rfl rfl rfl eg (by decide)) rfl
      · replace e38 := e38.trans (if_pos rfl)
        replace e38 := e38.trans (if_pos rfl)
        exact g_val (.int .i64 p) hS (wanted_yes rfl rfl rfl eg) (op_ld1 (.int .i64 p) rfl e38 (L0.out.below hS) 6 (by first | rfl | simp) rfl Try.underlying3 rfl) rfl
    · replace eg := eg.trans (if_neg (by decide))
      exact g_not hS (wanted_un rfl rfl rfl eg) rfl
  · go_light; intro listed a' w' hs hS hun hdep
    have eg : a'.eval (.tmp 37) = (if m32 = false then .bool m36 else undef) := hs.eval 24 _ 37 rfl (hdep ⟨24, .guard⟩ (by simp) rfl) rfl
    have e3 : a'.eval (.tmp 3) = .int .i64 qp := (hs.out 3 (by kernel_rfl)).trans (rfl)
    cases m32
    · replace eg := eg.trans (if_pos rfl)
      cases m36
      · exact g_not hS (wanted_no rfl rfl rfl eg (by decide)) rfl
      · exact g_val (.int .i64 qp) hS (wanted_yes rfl rfl rfl eg) (op_move rfl e3) rfl
    · replace eg := eg.trans (if_neg (by decide))
      exact g_not hS (wanted_un rfl rfl rfl eg) rfl
  · go_light; intro listed a' w' hs hS hun hdep
    have eg : a'.eval (.tmp 37) = (if m32 = false then .bool m36 else undef) := hs.eval 24 _ 37 rfl (hdep ⟨24, .guard⟩ (by simp) rfl) rfl
    have e39 : a'.eval (.tmp 39) = (if m32 = false then (if m36 = true then .int .i64 p else undef) else undef) := hs.eval 26 _ 39 rfl (hdep ⟨26, .data⟩ (by simp) rfl) rfl
    have e40 : a'.eval (.tmp 40) = (if m32 = false then (if m36 = true then .int .i64 qp else undef) else undef) := hs.eval 27 _ 40 rfl (hdep ⟨27, .data⟩ (by simp) rfl) rfl
    cases m32
    · replace eg := eg.trans (if_pos rfl)
      cases m36
      · exact g_not hS (wanted_no rfl rfl rfl eg (by decide)) rfl
      · replace e39 := e39.trans (if_pos rfl)
        replace e39 := e39.trans (if_pos rfl)
        replace e40 := e40.trans (if_pos rfl)
        replace e40 := e40.trans (if_pos rfl)
        refine g_val (.bool m41) hS (wanted_yes rfl rfl rfl eg) ?_ rfl
        rw [← hm41.out]
        have hcn := BigFrame.eval_const a'; have hfn := BigFrame.eval_func a'; clear hs hdep; generalize a'.eval = ev at *; go_simp; try rfl
    · replace eg := eg.trans (if_neg (by decide))
      exact g_not hS (wanted_un rfl rfl rfl eg) rfl
  · go_light; intro listed a' w' hs hS hun hdep
    have eg : a'.eval (.tmp 33) = (.bool m32) := hs.eval 20 _ 33 rfl (hdep ⟨20, .guard⟩ (by simp) rfl) rfl
    have e37 : a'.eval (.tmp 37) = (if m32 = false then .bool m36 else undef) := hs.eval 24 _ 37 rfl (hdep ⟨24, .data⟩ (by simp) rfl) rfl
    have e41 : a'.eval (.tmp 41) = (if m32 = false then (if m36 = true then .bool m41 else undef) else undef) := hs.eval 28 _ 41 rfl (hdep ⟨28, .data⟩ (by simp) rfl) rfl
    cases m32
    · replace e37 := e37.trans (if_pos rfl)
      replace e41 := e41.trans (if_pos rfl)
      refine g_val (.bool m42) hS (wanted_yes rfl rfl rfl eg) ?_ rfl
      cases m36
      · replace e41 := e41.trans (if_neg (by decide))
        exact (op_pick_f rfl e37 (BigFrame.eval_const a' _)).trans (by rw [← hm42.out]; first | rfl | simp)
      · replace e41 := e41.trans (if_pos rfl)
        exact (op_pick_t rfl e37 e41).trans (by rw [← hm42.out]; first | rfl | simp)
    · exact g_not hS (wanted_no rfl rfl rfl eg (by decide)) rfl
  · go_light; intro listed a' w' hs hS hun hdep
    have e33 : a'.eval (.tmp 33) = (.bool m32) := hs.eval 20 _ 33 rfl (hdep ⟨20, .data⟩ (by simp) rfl) rfl
    have e42 : a'.eval (.tmp 42) = (if m32 = false then .bool m42 else undef) := hs.eval 29 _ 42 rfl (hdep ⟨29, .data⟩ (by simp) rfl) rfl
    refine g_val (.bool m43) hS rfl ?_ rfl
    cases m32
    · replace e42 := e42.trans (if_pos rfl)
      exact (op_pick_f rfl e33 e42).trans (by rw [← hm43.out]; first | rfl | simp)
    · replace e42 := e42.trans (if_neg (by decide))
      exact (op_pick_t rfl e33 (BigFrame.eval_const a' _)).trans (by rw [← hm43.out]; first | rfl | simp)
  · intro vs w3 hlen hV hS
    obtain ⟨v0, v1, v2, v3, v4, v5, v6, v7, v8, v9, v10, v11, v12, v13, v14, v15, v16, v17, v18, v19, v20, v21, v22, v23, v24, v25, v26, v27, v28, v29, v30, rfl⟩ := vs_31 vs (hlen.trans rfl)
    have q0 : v0 = .pointer (some ⟨w.heap.size, 0, none⟩) := hV 0 _ rfl
    have q1 : v1 = .int .i64 i := hV 1 _ rfl
    have q2 : v2 = .bool m15 := hV 2 _ rfl
    have q3 : v3 = .bool m15 := hV 3 _ rfl
    have q8 : v8 = .bool m21 := hV 8 _ rfl
    have q9 : v9 = .bool m21 := hV 9 _ rfl
    have q19 : v19 = .bool m32 := hV 19 _ rfl
    have q20 : v20 = .bool m32 := hV 20 _ rfl
    have q30 : v30 = .bool m43 := hV 30 _ rfl
    have hbel : Below W0.heap.size W0 w3 := hS
    subst q0 q1 q2 q3 q8 q9 q19 q20 q30
    clear hV hS hlen
    simp only [lays, Act.put, List.setIfInBounds_toArray, List.set_cons_zero, List.set_cons_succ, List.drop_succ_cons, List.drop_zero, List.take_succ_cons, List.take_zero]
    have HX : Hid (((!(i == -1) && !(i == qi)) || (!(lb == -1) && !(lb == ql)) || (!(p == -1) && !(p == qp))) = m43) := Lib.hid (by rw [← hm43.out, ← hm42.out, ← hm41.out, ← hm36.out, ← hm32.out, ← hm31.out, ← hm30.out, ← hm25.out, ← hm21.out, ← hm20.out, ← hm15.out])
    have L3 := Lib.hid (L0.out.below hbel)
    have hb3 := hb0.trans (hbel.mono hb0.size)
    have HM1 := Lib.hid HM.out
    rw [HX.out] at HM1
    clear hbel L0 hm15 hm20 hm21 hm25 hm30 hm31 hm32 hm36 hm41 hm42 hm43 hb0  HM HX
    cases m43
    · go_upto_region 3 with fail
      obtain ⟨n47, hn47⟩ : ∃ x, (A.holds sa sb qs) = x := ⟨_, rfl⟩
      replace hn47 := Lib.hid hn47
      have C47 := Lib.hid (fun (w' : World) (hb : Below w3.heap.size w3 w') => show Calls Try.prog 32 #[.agg #[.int .u32 sa, .int .i64 sb], .int .u32 qs] w' (fun e w'' => e = .returned (.bool n47) ∧ Below w'.heap.size w' w'') from (by rw [← hn47.out]; exact refholds_any sa sb qs w' Hsa.out Hqs.out))
      obtain ⟨n52, hn52⟩ : ∃ x, (A.holds da db qd) = x := ⟨_, rfl⟩
      replace hn52 := Lib.hid hn52
      have C52 := Lib.hid (fun (w' : World) (hb : Below w3.heap.size w3 w') => show Calls Try.prog 32 #[.agg #[.int .u32 da, .int .i64 db], .int .u32 qd] w' (fun e w'' => e = .returned (.bool n52) ∧ Below w'.heap.size w' w'') from (by rw [← hn52.out]; exact refholds_any da db qd w' Hda.out Hqd.out))
      obtain ⟨n53, hn53⟩ : ∃ x, (n47 && n52) = x := ⟨_, rfl⟩
      replace hn53 := Lib.hid hn53
      refine region_seq 10 (VG w3.heap.size [.val (.pointer (some ⟨w.heap.size, 2, none⟩)), .val (.agg #[.int .u32 sa, .int .i64 sb]), .val (.int .u32 qs), .val (.bool n47), .val (.bool n47), .val (if n47 = true then .pointer (some ⟨w.heap.size, 4, none⟩) else undef), .val (if n47 = true then .agg #[.int .u32 da, .int .i64 db] else undef), .val (if n47 = true then .int .u32 qd else undef), .val (if n47 = true then .bool n52 else undef), .val (.bool n53)]) (BS w3) (by kernel_rfl) (Below.refl _ _) ⟨?_, ?_, ?_, ?_, ?_, ?_, ?_, ?_, ?_, ?_, trivial⟩ ?_
      · go_light; intro listed a' w' hs hS hun hdep
        have e6 : a'.eval (.tmp 6) = .pointer (some ⟨w.heap.size, 0, none⟩) := (hs.out 6 (by kernel_rfl)).trans (rfl)
        refine g_val (.pointer (some ⟨w.heap.size, 2, none⟩)) hS rfl ?_ rfl
        have hcn := BigFrame.eval_const a'; have hfn := BigFrame.eval_func a'; clear hs hdep; generalize a'.eval = ev at *; go_simp
      · go_light; intro listed a' w' hs hS hun hdep
        have e44 : a'.eval (.tmp 44) = (.pointer (some ⟨w.heap.size, 2, none⟩)) := hs.eval 0 _ 44 rfl (hdep ⟨0, .data⟩ (by simp) rfl) rfl
        exact g_val (.agg #[.int .u32 sa, .int .i64 sb]) hS rfl (op_ld [.int .u32 sa, .int .i64 sb] rfl e44 (L3.out.below hS) 2 (by first | rfl | simp) rfl Try.underlying32 rfl (by kernel_rfl)) rfl
      · go_light; intro listed a' w' hs hS hun hdep
        have e4 : a'.eval (.tmp 4) = .int .u32 qs := (hs.out 4 (by kernel_rfl)).trans (rfl)
        exact g_val (.int .u32 qs) hS rfl (op_move rfl e4) rfl
      · go_light; intro listed a' w' hs hS hun hdep
        have e45 : a'.eval (.tmp 45) = (.agg #[.int .u32 sa, .int .i64 sb]) := hs.eval 1 _ 45 rfl (hdep ⟨1, .data⟩ (by simp) rfl) rfl
        have e46 : a'.eval (.tmp 46) = (.int .u32 qs) := hs.eval 2 _ 46 rfl (hdep ⟨2, .data⟩ (by simp) rfl) rfl
        refine g_call 32 #[.agg #[.int .u32 sa, .int .i64 sb], .int .u32 qs] hS rfl ?_ ?_
        · have hcn := BigFrame.eval_const a'; have hfn := BigFrame.eval_func a'; clear hs hdep; generalize a'.eval = ev at *; go_simp
        · exact c_val (C47.out w' hS) rfl
      · go_light; intro listed a' w' hs hS hun hdep
        have e47 : a'.eval (.tmp 47) = (.bool n47) := hs.eval 3 _ 47 rfl (hdep ⟨3, .data⟩ (by simp) rfl) rfl
        exact g_val (.bool n47) hS rfl (op_move rfl e47) rfl
      · go_light; intro listed a' w' hs hS hun hdep
        have eg : a'.eval (.tmp 48) = (.bool n47) := hs.eval 4 _ 48 rfl (hdep ⟨4, .guard⟩ (by simp) rfl) rfl
        have e6 : a'.eval (.tmp 6) = .pointer (some ⟨w.heap.size, 0, none⟩) := (hs.out 6 (by kernel_rfl)).trans (rfl)
        cases n47
        · exact g_not hS (wanted_no rfl rfl rfl eg (by decide)) rfl
        · refine g_val (.pointer (some ⟨w.heap.size, 4, none⟩)) hS (wanted_yes rfl rfl rfl eg) ?_ rfl
          have hcn := BigFrame.eval_const a'; have hfn := BigFrame.eval_func a'; clear hs hdep; generalize a'.eval = ev at *; go_simp
      · go_light; intro listed a' w' hs hS hun hdep
        have eg : a'.eval (.tmp 48) = (.bool n47) := hs.eval 4 _ 48 rfl (hdep ⟨4, .guard⟩ (by simp) rfl) rfl
        have e49 : a'.eval (.tmp 49) = (if n47 = true then .pointer (some ⟨w.heap.size, 4, none⟩) else undef) := hs.eval 5 _ 49 rfl (hdep ⟨5, .data⟩ (by simp) rfl) rfl
        cases n47
        · exact g_not hS (wanted_no rfl rfl rfl eg (by decide)) rfl
        · replace e49 := e49.trans (if_pos rfl)
          exact g_val (.agg #[.int .u32 da, .int .i64 db]) hS (wanted_yes rfl rfl rfl eg) (op_ld [.int .u32 da, .int .i64 db] rfl e49 (L3.out.below hS) 4 (by first | rfl | simp) rfl Try.underlying32 rfl (by kernel_rfl)) rfl
      · go_light; intro listed a' w' hs hS hun hdep
        have eg : a'.eval (.tmp 48) = (.bool n47) := hs.eval 4 _ 48 rfl (hdep ⟨4, .guard⟩ (by simp) rfl) rfl
        have e5 : a'.eval (.tmp 5) = .int .u32 qd := (hs.out 5 (by kernel_rfl)).trans (rfl)
        cases n47
        · exact g_not hS (wanted_no rfl rfl rfl eg (by decide)) rfl
        · exact g_val (.int .u32 qd) hS (wanted_yes rfl rfl rfl eg) (op_move rfl e5) rfl
      · go_light; intro listed a' w' hs hS hun hdep
        have eg : a'.eval (.tmp 48) = (.bool n47) := hs.eval 4 _ 48 rfl (hdep ⟨4, .guard⟩ (by simp) rfl) rfl
        have e50 : a'.eval (.tmp 50) = (if n47 = true then .agg #[.int .u32 da, .int .i64 db] else undef) := hs.eval 6 _ 50 rfl (hdep ⟨6, .data⟩ (by simp) rfl) rfl
        have e51 : a'.eval (.tmp 51) = (if n47 = true then .int .u32 qd else undef) := hs.eval 7 _ 51 rfl (hdep ⟨7, .data⟩ (by simp) rfl) rfl
        cases n47
        · exact g_not hS (wanted_no rfl rfl rfl eg (by decide)) rfl
        · replace e50 := e50.trans (if_pos rfl)
          replace e51 := e51.trans (if_pos rfl)
          refine g_call 32 #[.agg #[.int .u32 da, .int .i64 db], .int .u32 qd] hS (wanted_yes rfl rfl rfl eg) ?_ ?_
          · have hcn := BigFrame.eval_const a'; have hfn := BigFrame.eval_func a'; clear hs hdep; generalize a'.eval = ev at *; go_simp
          · exact c_val (C52.out w' hS) rfl
      · go_light; intro listed a' w' hs hS hun hdep
        have e48 : a'.eval (.tmp 48) = (.bool n47) := hs.eval 4 _ 48 rfl (hdep ⟨4, .data⟩ (by simp) rfl) rfl
        have e52 : a'.eval (.tmp 52) = (if n47 = true then .bool n52 else undef) := hs.eval 8 _ 52 rfl (hdep ⟨8, .data⟩ (by simp) rfl) rfl
        refine g_val (.bool n53) hS rfl ?_ rfl
        cases n47
        · replace e52 := e52.trans (if_neg (by decide))
          exact (op_pick_f rfl e48 (BigFrame.eval_const a' _)).trans (by rw [← hn53.out]; first | rfl | simp)
        · replace e52 := e52.trans (if_pos rfl)
          exact (op_pick_t rfl e48 e52).trans (by rw [← hn53.out]; first | rfl | simp)
      · intro vs w4 hlen hV hS
        obtain ⟨v0, v1, v2, v3, v4, v5, v6, v7, v8, v9, rfl⟩ := vs_10 vs (hlen.trans rfl)
        have q0 : v0 = .pointer (some ⟨w.heap.size, 2, none⟩) := hV 0 _ rfl
        have q1 : v1 = .agg #[.int .u32 sa, .int .i64 sb] := hV 1 _ rfl
        have q2 : v2 = .int .u32 qs := hV 2 _ rfl
        have q3 : v3 = .bool n47 := hV 3 _ rfl
        have q4 : v4 = .bool n47 := hV 4 _ rfl
        have q9 : v9 = .bool n53 := hV 9 _ rfl
        have hbel : Below w3.heap.size w3 w4 := hS
        subst q0 q1 q2 q3 q4 q9
        clear hV hS hlen
        simp only [lays, Act.put, List.setIfInBounds_toArray, List.set_cons_zero, List.set_cons_succ, List.drop_succ_cons, List.drop_zero, List.take_succ_cons, List.take_zero]
        go_wp2
        go_ret
        exact ⟨by rw [HM1.out]; simp only [Bool.not_false, Bool.true_and]; rw [← hn53.out, ← hn52.out, ← hn47.out]; rfl, hb3.trans (hbel.mono hb3.size)⟩
    · go_wp2
      go_ret
      exact ⟨by rw [HM1.out]; rfl, hb3⟩
#print axioms rgm_any
end Go.Proofs.Ytagfcfkkjllfpaa
