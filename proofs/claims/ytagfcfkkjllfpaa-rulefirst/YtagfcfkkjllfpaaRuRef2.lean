/- The document's answer: which rules match. -/
import Derived.Test.YtagfcfkkjllfpaaRuRef
namespace Go.Proofs.Ytagfcfkkjllfpaa
open Go.RowKit
set_option maxRecDepth 100000
set_option linter.unusedVariables false
open U

-- REGIONS
theorem vs_37 (vs : List Value) (h : vs.length = 37) : ∃ v0 v1 v2 v3 v4 v5 v6 v7 v8 v9 v10 v11 v12 v13 v14 v15 v16 v17 v18 v19 v20 v21 v22 v23 v24 v25 v26 v27 v28 v29 v30 v31 v32 v33 v34 v35 v36, vs = [v0, v1, v2, v3, v4, v5, v6, v7, v8, v9, v10, v11, v12, v13, v14, v15, v16, v17, v18, v19, v20, v21, v22, v23, v24, v25, v26, v27, v28, v29, v30, v31, v32, v33, v34, v35, v36] := by
  obtain ⟨v0, r0, rfl, h0⟩ := vs_cons vs h
  obtain ⟨v1, r1, rfl, h1⟩ := vs_cons r0 h0
  obtain ⟨v2, r2, rfl, h2⟩ := vs_cons r1 h1
  obtain ⟨v3, r3, rfl, h3⟩ := vs_cons r2 h2
  obtain ⟨v4, r4, rfl, h4⟩ := vs_cons r3 h3
  obtain ⟨v5, r5, rfl, h5⟩ := vs_cons r4 h4
  obtain ⟨v6, r6, rfl, h6⟩ := vs_cons r5 h5
  obtain ⟨v7, r7, rfl, h7⟩ := vs_cons r6 h6
  obtain ⟨v8, r8, rfl, h8⟩ := vs_cons r7 h7
  obtain ⟨v9, r9, rfl, h9⟩ := vs_cons r8 h8
  obtain ⟨v10, r10, rfl, h10⟩ := vs_cons r9 h9
  obtain ⟨v11, r11, rfl, h11⟩ := vs_cons r10 h10
  obtain ⟨v12, r12, rfl, h12⟩ := vs_cons r11 h11
  obtain ⟨v13, r13, rfl, h13⟩ := vs_cons r12 h12
  obtain ⟨v14, r14, rfl, h14⟩ := vs_cons r13 h13
  obtain ⟨v15, r15, rfl, h15⟩ := vs_cons r14 h14
  obtain ⟨v16, r16, rfl, h16⟩ := vs_cons r15 h15
  obtain ⟨v17, r17, rfl, h17⟩ := vs_cons r16 h16
  obtain ⟨v18, r18, rfl, h18⟩ := vs_cons r17 h17
  obtain ⟨v19, r19, rfl, h19⟩ := vs_cons r18 h18
  obtain ⟨v20, r20, rfl, h20⟩ := vs_cons r19 h19
  obtain ⟨v21, r21, rfl, h21⟩ := vs_cons r20 h20
  obtain ⟨v22, r22, rfl, h22⟩ := vs_cons r21 h21
  obtain ⟨v23, r23, rfl, h23⟩ := vs_cons r22 h22
  obtain ⟨v24, r24, rfl, h24⟩ := vs_cons r23 h23
  obtain ⟨v25, r25, rfl, h25⟩ := vs_cons r24 h24
  obtain ⟨v26, r26, rfl, h26⟩ := vs_cons r25 h25
  obtain ⟨v27, r27, rfl, h27⟩ := vs_cons r26 h26
  obtain ⟨v28, r28, rfl, h28⟩ := vs_cons r27 h27
  obtain ⟨v29, r29, rfl, h29⟩ := vs_cons r28 h28
  obtain ⟨v30, r30, rfl, h30⟩ := vs_cons r29 h29
  obtain ⟨v31, r31, rfl, h31⟩ := vs_cons r30 h30
  obtain ⟨v32, r32, rfl, h32⟩ := vs_cons r31 h31
  obtain ⟨v33, r33, rfl, h33⟩ := vs_cons r32 h32
  obtain ⟨v34, r34, rfl, h34⟩ := vs_cons r33 h33
  obtain ⟨v35, r35, rfl, h35⟩ := vs_cons r34 h34
  obtain ⟨v36, r36, rfl, h36⟩ := vs_cons r35 h35
  obtain rfl := List.eq_nil_of_length_eq_zero h36
  exact ⟨v0, v1, v2, v3, v4, v5, v6, v7, v8, v9, v10, v11, v12, v13, v14, v15, v16, v17, v18, v19, v20, v21, v22, v23, v24, v25, v26, v27, v28, v29, v30, v31, v32, v33, v34, v35, v36, rfl⟩

set_option maxHeartbeats 16000000 in
theorem refm_any (r : Ru) (a : U.Ask) (w : World) (hsa : r.sa < 4294967296) (hda : r.da < 4294967296) (has_ : a.s < 4294967296) (had : a.d < 4294967296) : Calls Try.prog 14 #[.agg r.v.toArray, .int .i64 a.i, .int .i64 a.o, .agg a.k.toArray] w fun e w' => e = .returned (.bool (r.m a)) ∧ Below w.heap.size w w' := by
  have HM := Lib.hid (m_steps r a)
  obtain ⟨i, o, sa, sb, da, db, p, slo, shi, dlo, dhi, al⟩ := r
  obtain ⟨ai, ao, as_, ad, ap, asp, adp⟩ := a
  have Hsa := Lib.hid hsa
  have Hda := Lib.hid hda
  have Has_ := Lib.hid has_
  have Had := Lib.hid had
  simp only [Ru.v, Ask.k] at *
  clear hsa hda has_ had
  go_enter Try.func14, Try.ntmps14
  go_upto_region 1 with fail
  have hb0 : Below w.heap.size w ((w.alloc (.cells #[.int .i64 i, .int .i64 o, .int .u32 sa, .int .i64 sb, .int .u32 da, .int .i64 db, .int .i64 p, .int .i64 slo, .int .i64 shi, .int .i64 dlo, .int .i64 dhi, .bool al] 34)).alloc (.cells #[.int .u32 as_, .int .u32 ad, .int .i64 ap, .int .i64 asp, .int .i64 adp] 25)) := below2 w _ _
  have L0 : Hid (Lies ((w.alloc (.cells #[.int .i64 i, .int .i64 o, .int .u32 sa, .int .i64 sb, .int .u32 da, .int .i64 db, .int .i64 p, .int .i64 slo, .int .i64 shi, .int .i64 dlo, .int .i64 dhi, .bool al] 34)).alloc (.cells #[.int .u32 as_, .int .u32 ad, .int .i64 ap, .int .i64 asp, .int .i64 adp] 25)) w.heap.size 0 [.int .i64 i, .int .i64 o, .int .u32 sa, .int .i64 sb, .int .u32 da, .int .i64 db, .int .i64 p, .int .i64 slo, .int .i64 shi, .int .i64 dlo, .int .i64 dhi, .bool al]) := Lib.hid ((Lies.new w [.int .i64 i, .int .i64 o, .int .u32 sa, .int .i64 sb, .int .u32 da, .int .i64 db, .int .i64 p, .int .i64 slo, .int .i64 shi, .int .i64 dlo, .int .i64 dhi, .bool al] _).alloc _)
  have L1 : Hid (Lies ((w.alloc (.cells #[.int .i64 i, .int .i64 o, .int .u32 sa, .int .i64 sb, .int .u32 da, .int .i64 db, .int .i64 p, .int .i64 slo, .int .i64 shi, .int .i64 dlo, .int .i64 dhi, .bool al] 34)).alloc (.cells #[.int .u32 as_, .int .u32 ad, .int .i64 ap, .int .i64 asp, .int .i64 adp] 25)) (w.heap.size + 1) 0 [.int .u32 as_, .int .u32 ad, .int .i64 ap, .int .i64 asp, .int .i64 adp]) := Lib.hid (Lies.newAt (by simp))
  generalize ((w.alloc (.cells #[.int .i64 i, .int .i64 o, .int .u32 sa, .int .i64 sb, .int .u32 da, .int .i64 db, .int .i64 p, .int .i64 slo, .int .i64 shi, .int .i64 dlo, .int .i64 dhi, .bool al] 34)).alloc (.cells #[.int .u32 as_, .int .u32 ad, .int .i64 ap, .int .i64 asp, .int .i64 adp] 25)) = W0 at *
  obtain ⟨m10, hm10⟩ : ∃ x, (((⟨i, o, sa, sb, da, db, p, slo, shi, dlo, dhi, al⟩ : Ru).ok)) = x := ⟨_, rfl⟩
  replace hm10 := Lib.hid hm10
  have C10 := Lib.hid (fun (w' : World) (hb : Below W0.heap.size W0 w') => show Calls Try.prog 12 #[.agg #[.int .i64 i, .int .i64 o, .int .u32 sa, .int .i64 sb, .int .u32 da, .int .i64 db, .int .i64 p, .int .i64 slo, .int .i64 shi, .int .i64 dlo, .int .i64 dhi, .bool al]] w' (fun e w'' => e = .returned (.bool m10) ∧ Below w'.heap.size w' w'') from (by rw [← hm10.out]; exact refok_any ⟨i, o, sa, sb, da, db, p, slo, shi, dlo, dhi, al⟩ w' Hsa.out Hda.out))
  obtain ⟨m11, hm11⟩ : ∃ x, (!m10) = x := ⟨_, rfl⟩
  replace hm11 := Lib.hid hm11
  obtain ⟨m15, hm15⟩ : ∃ x, (decide (0 ≤ i)) = x := ⟨_, rfl⟩
  replace hm15 := Lib.hid hm15
  obtain ⟨m20, hm20⟩ : ∃ x, (!(i == ai)) = x := ⟨_, rfl⟩
  replace hm20 := Lib.hid hm20
  obtain ⟨m21, hm21⟩ : ∃ x, (m15 && m20) = x := ⟨_, rfl⟩
  replace hm21 := Lib.hid hm21
  obtain ⟨m22, hm22⟩ : ∃ x, (m11 || m21) = x := ⟨_, rfl⟩
  replace hm22 := Lib.hid hm22
  obtain ⟨m26, hm26⟩ : ∃ x, (decide (0 ≤ o)) = x := ⟨_, rfl⟩
  replace hm26 := Lib.hid hm26
  obtain ⟨m31, hm31⟩ : ∃ x, (!(o == ao)) = x := ⟨_, rfl⟩
  replace hm31 := Lib.hid hm31
  obtain ⟨m32, hm32⟩ : ∃ x, (m26 && m31) = x := ⟨_, rfl⟩
  replace hm32 := Lib.hid hm32
  obtain ⟨m33, hm33⟩ : ∃ x, (m22 || m32) = x := ⟨_, rfl⟩
  replace hm33 := Lib.hid hm33
  obtain ⟨m37, hm37⟩ : ∃ x, (decide (0 ≤ p)) = x := ⟨_, rfl⟩
  replace hm37 := Lib.hid hm37
  obtain ⟨m43, hm43⟩ : ∃ x, (!(p == ap)) = x := ⟨_, rfl⟩
  replace hm43 := Lib.hid hm43
  obtain ⟨m44, hm44⟩ : ∃ x, (m37 && m43) = x := ⟨_, rfl⟩
  replace hm44 := Lib.hid hm44
  obtain ⟨m45, hm45⟩ : ∃ x, (m33 || m44) = x := ⟨_, rfl⟩
  replace hm45 := Lib.hid hm45
  refine region_seq 37 (VG W0.heap.size [.val (.agg #[.int .i64 i, .int .i64 o, .int .u32 sa, .int .i64 sb, .int .u32 da, .int .i64 db, .int .i64 p, .int .i64 slo, .int .i64 shi, .int .i64 dlo, .int .i64 dhi, .bool al]), .val (.bool m10), .val (.bool m11), .val (.bool m11), .val (if m11 = false then .pointer (some ⟨w.heap.size, 0, none⟩) else undef), .val (if m11 = false then .int .i64 i else undef), .val (if m11 = false then .bool m15 else undef), .val (if m11 = false then .bool m15 else undef), .val (if m11 = false then (if m15 = true then .pointer (some ⟨w.heap.size, 0, none⟩) else undef) else undef), .val (if m11 = false then (if m15 = true then .int .i64 i else undef) else undef), .val (if m11 = false then (if m15 = true then .int .i64 ai else undef) else undef), .val (if m11 = false then (if m15 = true then .bool m20 else undef) else undef), .val (if m11 = false then .bool m21 else undef), .val (.bool m22), .val (.bool m22), .val (if m22 = false then .pointer (some ⟨w.heap.size, 1, none⟩) else undef), .val (if m22 = false then .int .i64 o else undef), .val (if m22 = false then .bool m26 else undef), .val (if m22 = false then .bool m26 else undef), .val (if m22 = false then (if m26 = true then .pointer (some ⟨w.heap.size, 1, none⟩) else undef) else undef), .val (if m22 = false then (if m26 = true then .int .i64 o else undef) else undef), .val (if m22 = false then (if m26 = true then .int .i64 ao else undef) else undef), .val (if m22 = false then (if m26 = true then .bool m31 else undef) else undef), .val (if m22 = false then .bool m32 else undef), .val (.bool m33), .val (.bool m33), .val (if m33 = false then .pointer (some ⟨w.heap.size, 6, none⟩) else undef), .val (if m33 = false then .int .i64 p else undef), .val (if m33 = false then .bool m37 else undef), .val (if m33 = false then .bool m37 else undef), .val (if m33 = false then (if m37 = true then .pointer (some ⟨w.heap.size, 6, none⟩) else undef) else undef), .val (if m33 = false then (if m37 = true then .int .i64 p else undef) else undef), .val (if m33 = false then (if m37 = true then .pointer (some ⟨w.heap.size + 1, 2, none⟩) else undef) else undef), .val (if m33 = false then (if m37 = true then .int .i64 ap else undef) else undef), .val (if m33 = false then (if m37 = true then .bool m43 else undef) else undef), .val (if m33 = false then .bool m44 else undef), .val (.bool m45)]) (BS W0) (by kernel_rfl) (Below.refl _ _) ⟨?_, ?_, ?_, ?_, ?_, ?_, ?_, ?_, ?_, ?_, ?_, ?_, ?_, ?_, ?_, ?_, ?_, ?_, ?_, ?_, ?_, ?_, ?_, ?_, ?_, ?_, ?_, ?_, ?_, ?_, ?_, ?_, ?_, ?_, ?_, ?_, ?_, trivial⟩ ?_
  · go_light; intro listed a' w' hs hS hun hdep
    have e4 : a'.eval (.tmp 4) = .pointer (some ⟨w.heap.size, 0, none⟩) := (hs.out 4 (by kernel_rfl)).trans (rfl)
    exact g_val (.agg #[.int .i64 i, .int .i64 o, .int .u32 sa, .int .i64 sb, .int .u32 da, .int .i64 db, .int .i64 p, .int .i64 slo, .int .i64 shi, .int .i64 dlo, .int .i64 dhi, .bool al]) hS rfl (op_ld [.int .i64 i, .int .i64 o, .int .u32 sa, .int .i64 sb, .int .u32 da, .int .i64 db, .int .i64 p, .int .i64 slo, .int .i64 shi, .int .i64 dlo, .int .i64 dhi, .bool al] rfl e4 (L0.out.below hS) 0 (by first | rfl | simp) rfl Try.underlying34 rfl (by kernel_rfl)) rfl
  · go_light; intro listed a' w' hs hS hun hdep
    have e9 : a'.eval (.tmp 9) = (.agg #[.int .i64 i, .int .i64 o, .int .u32 sa, .int .i64 sb, .int .u32 da, .int .i64 db, .int .i64 p, .int .i64 slo, .int .i64 shi, .int .i64 dlo, .int .i64 dhi, .bool al]) := hs.eval 0 _ 9 rfl (hdep ⟨0, .data⟩ (by simp) rfl) rfl
    refine g_call 12 #[.agg #[.int .i64 i, .int .i64 o, .int .u32 sa, .int .i64 sb, .int .u32 da, .int .i64 db, .int .i64 p, .int .i64 slo, .int .i64 shi, .int .i64 dlo, .int .i64 dhi, .bool al]] hS rfl ?_ ?_
    · have hcn := BigFrame.eval_const a'; have hfn := BigFrame.eval_func a'; clear hs hdep; generalize a'.eval = ev at *; go_simp
    · exact c_val (C10.out w' hS) rfl
  · go_light; intro listed a' w' hs hS hun hdep
    have e10 : a'.eval (.tmp 10) = (.bool m10) := hs.eval 1 _ 10 rfl (hdep ⟨1, .data⟩ (by simp) rfl) rfl
    exact g_val (.bool m11) hS rfl ((op_not rfl e10).trans (by rw [hm11.out])) rfl
  · go_light; intro listed a' w' hs hS hun hdep
    have e11 : a'.eval (.tmp 11) = (.bool m11) := hs.eval 2 _ 11 rfl (hdep ⟨2, .data⟩ (by simp) rfl) rfl
    exact g_val (.bool m11) hS rfl (op_move rfl e11) rfl
  · go_light; intro listed a' w' hs hS hun hdep
    have eg : a'.eval (.tmp 12) = (.bool m11) := hs.eval 3 _ 12 rfl (hdep ⟨3, .guard⟩ (by simp) rfl) rfl
    have e4 : a'.eval (.tmp 4) = .pointer (some ⟨w.heap.size, 0, none⟩) := (hs.out 4 (by kernel_rfl)).trans (rfl)
    cases m11
    · refine g_val (.pointer (some ⟨w.heap.size, 0, none⟩)) hS (wanted_yes rfl rfl rfl eg) ?_ rfl
      have hcn := BigFrame.eval_const a'; have hfn := BigFrame.eval_func a'; clear hs hdep; generalize a'.eval = ev at *; go_simp
    · exact g_not hS (wanted_no rfl rfl rfl eg (by decide)) rfl
  · go_light; intro listed a' w' hs hS hun hdep
    have eg : a'.eval (.tmp 12) = (.bool m11) := hs.eval 3 _ 12 rfl (hdep ⟨3, .guard⟩ (by simp) rfl) rfl
    have e13 : a'.eval (.tmp 13) = (if m11 = false then .pointer (some ⟨w.heap.size, 0, none⟩) else undef) := hs.eval 4 _ 13 rfl (hdep ⟨4, .data⟩ (by simp) rfl) rfl
    cases m11
    · replace e13 := e13.trans (if_pos rfl)
      exact g_val (.int .i64 i) hS (wanted_yes rfl rfl rfl eg) (op_ld1 (.int .i64 i) rfl e13 (L0.out.below hS) 0 (by first | rfl | simp) rfl Try.underlying3 rfl) rfl
    · exact g_not hS (wanted_no rfl rfl rfl eg (by decide)) rfl
  · go_light; intro listed a' w' hs hS hun hdep
    have eg : a'.eval (.tmp 12) = (.bool m11) := hs.eval 3 _ 12 rfl (hdep ⟨3, .guard⟩ (by simp) rfl) rfl
    have e14 : a'.eval (.tmp 14) = (if m11 = false then .int .i64 i else undef) := hs.eval 5 _ 14 rfl (hdep ⟨5, .data⟩ (by simp) rfl) rfl
    cases m11
    · replace e14 := e14.trans (if_pos rfl)
      refine g_val (.bool m15) hS (wanted_yes rfl rfl rfl eg) ?_ rfl
      rw [← hm15.out]
      have hcn := BigFrame.eval_const a'; have hfn := BigFrame.eval_func a'; clear hs hdep; generalize a'.eval = ev at *; go_simp; try rfl
    · exact g_not hS (wanted_no rfl rfl rfl eg (by decide)) rfl
  · go_light; intro listed a' w' hs hS hun hdep
    have eg : a'.eval (.tmp 12) = (.bool m11) := hs.eval 3 _ 12 rfl (hdep ⟨3, .guard⟩ (by simp) rfl) rfl
    have e15 : a'.eval (.tmp 15) = (if m11 = false then .bool m15 else undef) := hs.eval 6 _ 15 rfl (hdep ⟨6, .data⟩ (by simp) rfl) rfl
    cases m11
    · replace e15 := e15.trans (if_pos rfl)
      exact g_val (.bool m15) hS (wanted_yes rfl rfl rfl eg) (op_move rfl e15) rfl
    · exact g_not hS (wanted_no rfl rfl rfl eg (by decide)) rfl
  · go_light; intro listed a' w' hs hS hun hdep
    have eg : a'.eval (.tmp 16) = (if m11 = false then .bool m15 else undef) := hs.eval 7 _ 16 rfl (hdep ⟨7, .guard⟩ (by simp) rfl) rfl
    have e4 : a'.eval (.tmp 4) = .pointer (some ⟨w.heap.size, 0, none⟩) := (hs.out 4 (by kernel_rfl)).trans (rfl)
    cases m11
    · replace eg := eg.trans (if_pos rfl)
      cases m15
      · exact g_not hS (wanted_no rfl rfl rfl eg (by decide)) rfl
      · refine g_val (.pointer (some ⟨w.heap.size, 0, none⟩)) hS (wanted_yes rfl rfl rfl eg) ?_ rfl
        have hcn := BigFrame.eval_const a'; have hfn := BigFrame.eval_func a'; clear hs hdep; generalize a'.eval = ev at *; go_simp
    · replace eg := eg.trans (if_neg (by decide))
      exact g_not hS (wanted_un rfl rfl rfl eg) rfl
  · go_light; intro listed a' w' hs hS hun hdep
    have eg : a'.eval (.tmp 16) = (if m11 = false then .bool m15 else undef) := hs.eval 7 _ 16 rfl (hdep ⟨7, .guard⟩ (by simp) rfl) rfl
    have e17 : a'.eval (.tmp 17) = (if m11 = false then (if m15 = true then .pointer (some ⟨w.heap.size, 0, none⟩) else undef) else undef) := hs.eval 8 _ 17 rfl (hdep ⟨8, .data⟩ (by simp) rfl) rfl
    cases m11
    · replace eg := eg.trans (if_pos rfl)
      cases m15
      · exact g_not hS (wanted_no rfl rfl rfl eg (by decide)) rfl
      · replace e17 := e17.trans (if_pos rfl)
        replace e17 := e17.trans (if_pos rfl)
        exact g_val (.int .i64 i) hS (wanted_yes rfl rfl rfl eg) (op_ld1 (.int .i64 i) rfl e17 (L0.out.below hS) 0 (by first | rfl | simp) rfl Try.underlying3 rfl) rfl
    · replace eg := eg.trans (if_neg (by decide))
      exact g_not hS (wanted_un rfl rfl rfl eg) rfl
  · go_light; intro listed a' w' hs hS hun hdep
    have eg : a'.eval (.tmp 16) = (if m11 = false then .bool m15 else undef) := hs.eval 7 _ 16 rfl (hdep ⟨7, .guard⟩ (by simp) rfl) rfl
    have e1 : a'.eval (.tmp 1) = .int .i64 ai := (hs.out 1 (by kernel_rfl)).trans (rfl)
    cases m11
    · replace eg := eg.trans (if_pos rfl)
      cases m15
      · exact g_not hS (wanted_no rfl rfl rfl eg (by decide)) rfl
      · exact g_val (.int .i64 ai) hS (wanted_yes rfl rfl rfl eg) (op_move rfl e1) rfl
    · replace eg := eg.trans (if_neg (by decide))
      exact g_not hS (wanted_un rfl rfl rfl eg) rfl
  · go_light; intro listed a' w' hs hS hun hdep
    have eg : a'.eval (.tmp 16) = (if m11 = false then .bool m15 else undef) := hs.eval 7 _ 16 rfl (hdep ⟨7, .guard⟩ (by simp) rfl) rfl
    have e18 : a'.eval (.tmp 18) = (if m11 = false then (if m15 = true then .int .i64 i else undef) else undef) := hs.eval 9 _ 18 rfl (hdep ⟨9, .data⟩ (by simp) rfl) rfl
    have e19 : a'.eval (.tmp 19) = (if m11 = false then (if m15 = true then .int .i64 ai else undef) else undef) := hs.eval 10 _ 19 rfl (hdep ⟨10, .data⟩ (by simp) rfl) rfl
    cases m11
    · replace eg := eg.trans (if_pos rfl)
      cases m15
      · exact g_not hS (wanted_no rfl rfl rfl eg (by decide)) rfl
      · replace e18 := e18.trans (if_pos rfl)
        replace e18 := e18.trans (if_pos rfl)
        replace e19 := e19.trans (if_pos rfl)
        replace e19 := e19.trans (if_pos rfl)
        refine g_val (.bool m20) hS (wanted_yes rfl rfl rfl eg) ?_ rfl
        rw [← hm20.out]
        have hcn := BigFrame.eval_const a'; have hfn := BigFrame.eval_func a'; clear hs hdep; generalize a'.eval = ev at *; go_simp; try rfl
    · replace eg := eg.trans (if_neg (by decide))
      exact g_not hS (wanted_un rfl rfl rfl eg) rfl
  · go_light; intro listed a' w' hs hS hun hdep
    have eg : a'.eval (.tmp 12) = (.bool m11) := hs.eval 3 _ 12 rfl (hdep ⟨3, .guard⟩ (by simp) rfl) rfl
    have e16 : a'.eval (.tmp 16) = (if m11 = false then .bool m15 else undef) := hs.eval 7 _ 16 rfl (hdep ⟨7, .data⟩ (by simp) rfl) rfl
    have e20 : a'.eval (.tmp 20) = (if m11 = false then (if m15 = true then .bool m20 else undef) else undef) := hs.eval 11 _ 20 rfl (hdep ⟨11, .data⟩ (by simp) rfl) rfl
    cases m11
    · replace e16 := e16.trans (if_pos rfl)
      replace e20 := e20.trans (if_pos rfl)
      refine g_val (.bool m21) hS (wanted_yes rfl rfl rfl eg) ?_ rfl
      cases m15
      · replace e20 := e20.trans (if_neg (by decide))
        exact (op_pick_f rfl e16 (BigFrame.eval_const a' _)).trans (by rw [← hm21.out]; first | rfl | simp)
      · replace e20 := e20.trans (if_pos rfl)
        exact (op_pick_t rfl e16 e20).trans (by rw [← hm21.out]; first | rfl | simp)
    · exact g_not hS (wanted_no rfl rfl rfl eg (by decide)) rfl
  · go_light; intro listed a' w' hs hS hun hdep
    have e12 : a'.eval (.tmp 12) = (.bool m11) := hs.eval 3 _ 12 rfl (hdep ⟨3, .data⟩ (by simp) rfl) rfl
    have e21 : a'.eval (.tmp 21) = (if m11 = false then .bool m21 else undef) := hs.eval 12 _ 21 rfl (hdep ⟨12, .data⟩ (by simp) rfl) rfl
    refine g_val (.bool m22) hS rfl ?_ rfl
    cases m11
    · replace e21 := e21.trans (if_pos rfl)
      exact (op_pick_f rfl e12 e21).trans (by rw [← hm22.out]; first | rfl | simp)
    · replace e21 := e21.trans (if_neg (by decide))
      exact (op_pick_t rfl e12 (BigFrame.eval_const a' _)).trans (by rw [← hm22.out]; first | rfl | simp)
  · go_light; intro listed a' w' hs hS hun hdep
    have e22 : a'.eval (.tmp 22) = (.bool m22) := hs.eval 13 _ 22 rfl (hdep ⟨13, .data⟩ (by simp) rfl) rfl
    exact g_val (.bool m22) hS rfl (op_move rfl e22) rfl
  · go_light; intro listed a' w' hs hS hun hdep
    have eg : a'.eval (.tmp 23) = (.bool m22) := hs.eval 14 _ 23 rfl (hdep ⟨14, .guard⟩ (by simp) rfl) rfl
    have e4 : a'.eval (.tmp 4) = .pointer (some ⟨w.heap.size, 0, none⟩) := (hs.out 4 (by kernel_rfl)).trans (rfl)
    cases m22
    · refine g_val (.pointer (some ⟨w.heap.size, 1, none⟩)) hS (wanted_yes rfl rfl rfl eg) ?_ rfl
      have hcn := BigFrame.eval_const a'; have hfn := BigFrame.eval_func a'; clear hs hdep; generalize a'.eval = ev at *; go_simp
    · exact g_not hS (wanted_no rfl rfl rfl eg (by decide)) rfl
  · go_light; intro listed a' w' hs hS hun hdep
    have eg : a'.eval (.tmp 23) = (.bool m22) := hs.eval 14 _ 23 rfl (hdep ⟨14, .guard⟩ (by simp) rfl) rfl
    have e24 : a'.eval (.tmp 24) = (if m22 = false then .pointer (some ⟨w.heap.size, 1, none⟩) else undef) := hs.eval 15 _ 24 rfl (hdep ⟨15, .data⟩ (by simp) rfl) rfl
    cases m22
    · replace e24 := e24.trans (if_pos rfl)
      exact g_val (.int .i64 o) hS (wanted_yes rfl rfl rfl eg) (op_ld1 (.int .i64 o) rfl e24 (L0.out.below hS) 1 (by first | rfl | simp) rfl Try.underlying3 rfl) rfl
    · exact g_not hS (wanted_no rfl rfl rfl eg (by decide)) rfl
  · go_light; intro listed a' w' hs hS hun hdep
    have eg : a'.eval (.tmp 23) = (.bool m22) := hs.eval 14 _ 23 rfl (hdep ⟨14, .guard⟩ (by simp) rfl) rfl
    have e25 : a'.eval (.tmp 25) = (if m22 = false then .int .i64 o else undef) := hs.eval 16 _ 25 rfl (hdep ⟨16, .data⟩ (by simp) rfl) rfl
    cases m22
    · replace e25 := e25.trans (if_pos rfl)
      refine g_val (.bool m26) hS (wanted_yes rfl rfl rfl eg) ?_ rfl
      rw [← hm26.out]
      have hcn := BigFrame.eval_const a'; have hfn := BigFrame.eval_func a'; clear hs hdep; generalize a'.eval = ev at *; go_simp; try rfl
    · exact g_not hS (wanted_no rfl rfl rfl eg (by decide)) rfl
  · go_light; intro listed a' w' hs hS hun hdep
    have eg : a'.eval (.tmp 23) = (.bool m22) := hs.eval 14 _ 23 rfl (hdep ⟨14, .guard⟩ (by simp) rfl) rfl
    have e26 : a'.eval (.tmp 26) = (if m22 = false then .bool m26 else undef) := hs.eval 17 _ 26 rfl (hdep ⟨17, .data⟩ (by simp) rfl) rfl
    cases m22
    · replace e26 := e26.trans (if_pos rfl)
      exact g_val (.bool m26) hS (wanted_yes rfl rfl rfl eg) (op_move rfl e26) rfl
    · exact g_not hS (wanted_no rfl rfl rfl eg (by decide)) rfl
  · go_light; intro listed a' w' hs hS hun hdep
    have eg : a'.eval (.tmp 27) = (if m22 = false then .bool m26 else undef) := hs.eval 18 _ 27 rfl (hdep ⟨18, .guard⟩ (by simp) rfl) rfl
    have e4 : a'.eval (.tmp 4) = .pointer (some ⟨w.heap.size, 0, none⟩) := (hs.out 4 (by kernel_rfl)).trans (rfl)
    cases m22
    · replace eg := eg.trans (if_pos rfl)
      cases m26
      · exact g_not hS (wanted_no rfl rfl rfl eg (by decide)) rfl
      · refine g_val (.pointer (some ⟨w.heap.size, 1, none⟩)) hS (wanted_yes rfl rfl rfl eg) ?_ rfl
        have hcn := BigFrame.eval_const a'; have hfn := BigFrame.eval_func a'; clear hs hdep; generalize a'.eval = ev at *; go_simp
    · replace eg := eg.trans (if_neg (by decide))
      exact g_not hS (wanted_un rfl rfl rfl eg) rfl
  · go_light; intro listed a' w' hs hS hun hdep
    have eg : a'.eval (.tmp 27) = (if m22 = false then .bool m26 else undef) := hs.eval 18 _ 27 rfl (hdep ⟨18, .guard⟩ (by simp) rfl) rfl
    have e28 : a'.eval (.tmp 28) = (if m22 = false then (if m26 = true then .pointer (some ⟨w.heap.size, 1, none⟩) else undef) else undef) := hs.eval 19 _ 28 rfl (hdep ⟨19, .data⟩ (by simp) rfl) rfl
    cases m22
    · replace eg := eg.trans (if_pos rfl)
      cases m26
      · exact g_not hS (wanted_no rfl rfl rfl eg (by decide)) rfl
      · replace e28 := e28.trans (if_pos rfl)
        replace e28 := e28.trans (if_pos rfl)
        exact g_val (.int .i64 o) hS (wanted_yes rfl rfl rfl eg) (op_ld1 (.int .i64 o) rfl e28 (L0.out.below hS) 1 (by first | rfl | simp) rfl Try.underlying3 rfl) rfl
    · replace eg := eg.trans (if_neg (by decide))
      exact g_not hS (wanted_un rfl rfl rfl eg) rfl
  · go_light; intro listed a' w' hs hS hun hdep
    have eg : a'.eval (.tmp 27) = (if m22 = false then .bool m26 else undef) := hs.eval 18 _ 27 rfl (hdep ⟨18, .guard⟩ (by simp) rfl) rfl
    have e2 : a'.eval (.tmp 2) = .int .i64 ao := (hs.out 2 (by kernel_rfl)).trans (rfl)
    cases m22
    · replace eg := eg.trans (if_pos rfl)
      cases m26
      · exact g_not hS (wanted_no rfl rfl rfl eg (by decide)) rfl
      · exact g_val (.int .i64 ao) hS (wanted_yes rfl rfl rfl eg) (op_move rfl e2) rfl
    · replace eg := eg.trans (if_neg (by decide))
      exact g_not hS (wanted_un rfl rfl rfl eg) rfl
  · go_light; intro listed a' w' hs hS hun hdep
    have eg : a'.eval (.tmp 27) = (if m22 = false then .bool m26 else undef) := hs.eval 18 _ 27 rfl (hdep ⟨18, .guard⟩ (by simp) rfl) rfl
    have e29 : a'.eval (.tmp 29) = (if m22 = false then (if m26 = true then .int .i64 o else undef) else undef) := hs.eval 20 _ 29 rfl (hdep ⟨20, .data⟩ (by simp) rfl) rfl
    have e30 : a'.eval (.tmp 30) = (if m22 = false then (if m26 = true then .int .i64 ao else undef) else undef) := hs.eval 21 _ 30 rfl (hdep ⟨21, .data⟩ (by simp) rfl) rfl
    cases m22
    · replace eg := eg.trans (if_pos rfl)
      cases m26
      · exact g_not hS (wanted_no rfl rfl rfl eg (by decide)) rfl
      · replace e29 := e29.trans (if_pos rfl)
        replace e29 := e29.trans (if_pos rfl)
        replace e30 := e30.trans (if_pos rfl)
        replace e30 := e30.trans (if_pos rfl)
        refine g_val (.bool m31) hS (wanted_yes rfl rfl rfl eg) ?_ rfl
        rw [← hm31.out]
        have hcn := BigFrame.eval_const a'; have hfn := BigFrame.eval_func a'; clear hs hdep; generalize a'.eval = ev at *; go_simp; try rfl
    · replace eg := eg.trans (if_neg (by decide))
      exact g_not hS (wanted_un rfl rfl rfl eg) rfl
  · go_light; intro listed a' w' hs hS hun hdep
    have eg : a'.eval (.tmp 23) = (.bool m22) := hs.eval 14 _ 23 rfl (hdep ⟨14, .guard⟩ (by simp) rfl) rfl
    have e27 : a'.eval (.tmp 27) = (if m22 = false then .bool m26 else undef) := hs.eval 18 _ 27 rfl (hdep ⟨18, .data⟩ (by simp) rfl) rfl
    have e31 : a'.eval (.tmp 31) = (if m22 = false then (if m26 = true then .bool m31 else undef) else undef) := hs.eval 22 _ 31 rfl (hdep ⟨22, .data⟩ (by simp) rfl) rfl
    cases m22
    · replace e27 := e27.trans (if_pos rfl)
      replace e31 := e31.trans (if_pos rfl)
      refine g_val (.bool m32) hS (wanted_yes rfl rfl rfl eg) ?_ rfl
      cases m26
      · replace e31 := e31.trans (if_neg (by decide))
        exact (op_pick_f rfl e27 (BigFrame.eval_const a' _)).trans (by rw [← hm32.out]; first | rfl | simp)
      · replace e31 := e31.trans (if_pos rfl)
        exact (op_pick_t rfl e27 e31).trans (by rw [← hm32.out]; first | rfl | simp)
    · exact g_not hS (wanted_no rfl rfl rfl eg (by decide)) rfl
  · go_light; intro listed a' w' hs hS hun hdep
    have e23 : a'.eval (.tmp 23) = (.bool m22) := hs.eval 14 _ 23 rfl (hdep ⟨14, .data⟩ (by simp) rfl) rfl
    have e32 : a'.eval (.tmp 32) = (if m22 = false then .bool m32 else undef) := hs.eval 23 _ 32 rfl (hdep ⟨23, .data⟩ (by simp) rfl) rfl
    refine g_val (.bool m33) hS rfl ?_ rfl
    cases m22
    · replace e32 := e32.trans (if_pos rfl)
      exact (op_pick_f rfl e23 e32).trans (by rw [← hm33.out]; first | rfl | simp)
    · replace e32 := e32.trans (if_neg (by decide))
      exact (op_pick_t rfl e23 (BigFrame.eval_const a' _)).trans (by rw [← hm33.out]; first | rfl | simp)
  · go_light; intro listed a' w' hs hS hun hdep
    have e33 : a'.eval (.tmp 33) = (.bool m33) := hs.eval 24 _ 33 rfl (hdep ⟨24, .data⟩ (by simp) rfl) rfl
    exact g_val (.bool m33) hS rfl (op_move rfl e33) rfl
  · go_light; intro listed a' w' hs hS hun hdep
    have eg : a'.eval (.tmp 34) = (.bool m33) := hs.eval 25 _ 34 rfl (hdep ⟨25, .guard⟩ (by simp) rfl) rfl
    have e4 : a'.eval (.tmp 4) = .pointer (some ⟨w.heap.size, 0, none⟩) := (hs.out 4 (by kernel_rfl)).trans (rfl)
    cases m33
    · refine g_val (.pointer (some ⟨w.heap.size, 6, none⟩)) hS (wanted_yes rfl rfl rfl eg) ?_ rfl
      have hcn := BigFrame.eval_const a'; have hfn := BigFrame.eval_func a'; clear hs hdep; generalize a'.eval = ev at *; go_simp
    · exact g_not hS (wanted_no rfl rfl rfl eg (by decide)) rfl
  · go_light; intro listed a' w' hs hS hun hdep
    have eg : a'.eval (.tmp 34) = (.bool m33) := hs.eval 25 _ 34 rfl (hdep ⟨25, .guard⟩ (by simp) rfl) rfl
    have e35 : a'.eval (.tmp 35) = (if m33 = false then .pointer (some ⟨w.heap.size, 6, none⟩) else undef) := hs.eval 26 _ 35 rfl (hdep ⟨26, .data⟩ (by simp) rfl) rfl
    cases m33
    · replace e35 := e35.trans (if_pos rfl)
      exact g_val (.int .i64 p) hS (wanted_yes rfl rfl rfl eg) (op_ld1 (.int .i64 p) rfl e35 (L0.out.below hS) 6 (by first | rfl | simp) rfl Try.underlying3 rfl) rfl
    · exact g_not hS (wanted_no rfl rfl rfl eg (by decide)) rfl
  · go_light; intro listed a' w' hs hS hun hdep
    have eg : a'.eval (.tmp 34) = (.bool m33) := hs.eval 25 _ 34 rfl (hdep ⟨25, .guard⟩ (by simp) rfl) rfl
    have e36 : a'.eval (.tmp 36) = (if m33 = false then .int .i64 p else undef) := hs.eval 27 _ 36 rfl (hdep ⟨27, .data⟩ (by simp) rfl) rfl
    cases m33
    · replace e36 := e36.trans (if_pos rfl)
      refine g_val (.bool m37) hS (wanted_yes rfl rfl rfl eg) ?_ rfl
      rw [← hm37.out]
      have hcn := BigFrame.eval_const a'; have hfn := BigFrame.eval_func a'; clear hs hdep; generalize a'.eval = ev at *; go_simp; try rfl
    · exact g_not hS (wanted_no rfl rfl rfl eg (by decide)) rfl
  · go_light; intro listed a' w' hs hS hun hdep
    have eg : a'.eval (.tmp 34) = (.bool m33) := hs.eval 25 _ 34 rfl (hdep ⟨25, .guard⟩ (by simp) rfl) rfl
    have e37 : a'.eval (.tmp 37) = (if m33 = false then .bool m37 else undef) := hs.eval 28 _ 37 rfl (hdep ⟨28, .data⟩ (by simp) rfl) rfl
    cases m33
    · replace e37 := e37.trans (if_pos rfl)
      exact g_val (.bool m37) hS (wanted_yes rfl rfl rfl eg) (op_move rfl e37) rfl
    · exact g_not hS (wanted_no rfl rfl rfl eg (by decide)) rfl
  · go_light; intro listed a' w' hs hS hun hdep
    have eg : a'.eval (.tmp 38) = (if m33 = false then .bool m37 else undef) := hs.eval 29 _ 38 rfl (hdep ⟨29, .guard⟩ (by simp) rfl) rfl
    have e4 : a'.eval (.tmp 4) = .pointer (some ⟨w.heap.size, 0, none⟩) := (hs.out 4 (by kernel_rfl)).trans (rfl)
    cases m33
    · replace eg := eg.trans (if_pos rfl)
      cases m37
      · exact g_not hS (wanted_no rfl rfl rfl eg (by decide)) rfl
      · refine g_val (.pointer (some ⟨w.heap.size, 6, none⟩)) hS (wanted_yes rfl rfl rfl eg) ?_ rfl
        have hcn := BigFrame.eval_const a'; have hfn := BigFrame.eval_func a'; clear hs hdep; generalize a'.eval = ev at *; go_simp
    · replace eg := eg.trans (if_neg (by decide))
      exact g_not hS (wanted_un rfl rfl rfl eg) rfl
  · go_light; intro listed a' w' hs hS hun hdep
    have eg : a'.eval (.tmp 38) = (if m33 = false then .bool m37 else undef) := hs.eval 29 _ 38 rfl (hdep ⟨29, .guard⟩ (by simp) rfl) rfl
    have e39 : a'.eval (.tmp 39) = (if m33 = false then (if m37 = true then .pointer (some ⟨w.heap.size, 6, none⟩) else undef) else undef) := hs.eval 30 _ 39 rfl (hdep ⟨30, .data⟩ (by simp) rfl) rfl
    cases m33
    · replace eg := eg.trans (if_pos rfl)
      cases m37
      · exact g_not hS (wanted_no rfl rfl rfl eg (by decide)) rfl
      · replace e39 := e39.trans (if_pos rfl)
        replace e39 := e39.trans (if_pos rfl)
        exact g_val (.int .i64 p) hS (wanted_yes rfl rfl rfl eg) (op_ld1 (.int .i64 p) rfl e39 (L0.out.below hS) 6 (by first | rfl | simp) rfl Try.underlying3 rfl) rfl
    · replace eg := eg.trans (if_neg (by decide))
      exact g_not hS (wanted_un rfl rfl rfl eg) rfl
  · go_light; intro listed a' w' hs hS hun hdep
    have eg : a'.eval (.tmp 38) = (if m33 = false then .bool m37 else undef) := hs.eval 29 _ 38 rfl (hdep ⟨29, .guard⟩ (by simp) rfl) rfl
    have e7 : a'.eval (.tmp 7) = .pointer (some ⟨w.heap.size + 1, 0, none⟩) := (hs.out 7 (by kernel_rfl)).trans (rfl)
    cases m33
    · replace eg := eg.trans (if_pos rfl)
      cases m37
      · exact g_not hS (wanted_no rfl rfl rfl eg (by decide)) rfl
      · refine g_val (.pointer (some ⟨w.heap.size + 1, 2, none⟩)) hS (wanted_yes rfl rfl rfl eg) ?_ rfl
        have hcn := BigFrame.eval_const a'; have hfn := BigFrame.eval_func a'; clear hs hdep; generalize a'.eval = ev at *; go_simp
    · replace eg := eg.trans (if_neg (by decide))
      exact g_not hS (wanted_un rfl rfl rfl eg) rfl
  · go_light; intro listed a' w' hs hS hun hdep
    have eg : a'.eval (.tmp 38) = (if m33 = false then .bool m37 else undef) := hs.eval 29 _ 38 rfl (hdep ⟨29, .guard⟩ (by simp) rfl) rfl
    have e41 : a'.eval (.tmp 41) = (if m33 = false then (if m37 = true then .pointer (some ⟨w.heap.size + 1, 2, none⟩) else undef) else undef) := hs.eval 32 _ 41 rfl (hdep ⟨32, .data⟩ (by simp) rfl) rfl
    cases m33
    · replace eg := eg.trans (if_pos rfl)
      cases m37
      · exact g_not hS (wanted_no rfl rfl rfl eg (by decide)) rfl
      · replace e41 := e41.trans (if_pos rfl)
        replace e41 := e41.trans (if_pos rfl)
        exact g_val (.int .i64 ap) hS (wanted_yes rfl rfl rfl eg) (op_ld1 (.int .i64 ap) rfl e41 (L1.out.below hS) 2 (by first | rfl | simp) rfl Try.underlying3 rfl) rfl
    · replace eg := eg.trans (if_neg (by decide))
      exact g_not hS (wanted_un rfl rfl rfl eg) rfl
  · go_light; intro listed a' w' hs hS hun hdep
    have eg : a'.eval (.tmp 38) = (if m33 = false then .bool m37 else undef) := hs.eval 29 _ 38 rfl (hdep ⟨29, .guard⟩ (by simp) rfl) rfl
    have e40 : a'.eval (.tmp 40) = (if m33 = false then (if m37 = true then .int .i64 p else undef) else undef) := hs.eval 31 _ 40 rfl (hdep ⟨31, .data⟩ (by simp) rfl) rfl
    have e42 : a'.eval (.tmp 42) = (if m33 = false then (if m37 = true then .int .i64 ap else undef) else undef) := hs.eval 33 _ 42 rfl (hdep ⟨33, .data⟩ (by simp) rfl) rfl
    cases m33
    · replace eg := eg.trans (if_pos rfl)
      cases m37
      · exact g_not hS (wanted_no rfl rfl rfl eg (by decide)) rfl
      · replace e40 := e40.trans (if_pos rfl)
        replace e40 := e40.trans (if_pos rfl)
        replace e42 := e42.trans (if_pos rfl)
        replace e42 := e42.trans (if_pos rfl)
        refine g_val (.bool m43) hS (wanted_yes rfl rfl rfl eg) ?_ rfl
        rw [← hm43.out]
        have hcn := BigFrame.eval_const a'; have hfn := BigFrame.eval_func a'; clear hs hdep; generalize a'.eval = ev at *; go_simp; try rfl
    · replace eg := eg.trans (if_neg (by decide))
      exact g_not hS (wanted_un rfl rfl rfl eg) rfl
  · go_light; intro listed a' w' hs hS hun hdep
    have eg : a'.eval (.tmp 34) = (.bool m33) := hs.eval 25 _ 34 rfl (hdep ⟨25, .guard⟩ (by simp) rfl) rfl
    have e38 : a'.eval (.tmp 38) = (if m33 = false then .bool m37 else undef) := hs.eval 29 _ 38 rfl (hdep ⟨29, .data⟩ (by simp) rfl) rfl
    have e43 : a'.eval (.tmp 43) = (if m33 = false then (if m37 = true then .bool m43 else undef) else undef) := hs.eval 34 _ 43 rfl (hdep ⟨34, .data⟩ (by simp) rfl) rfl
    cases m33
    · replace e38 := e38.trans (if_pos rfl)
      replace e43 := e43.trans (if_pos rfl)
      refine g_val (.bool m44) hS (wanted_yes rfl rfl rfl eg) ?_ rfl
      cases m37
      · replace e43 := e43.trans (if_neg (by decide))
        exact (op_pick_f rfl e38 (BigFrame.eval_const a' _)).trans (by rw [← hm44.out]; first | rfl | simp)
      · replace e43 := e43.trans (if_pos rfl)
        exact (op_pick_t rfl e38 e43).trans (by rw [← hm44.out]; first | rfl | simp)
    · exact g_not hS (wanted_no rfl rfl rfl eg (by decide)) rfl
  · go_light; intro listed a' w' hs hS hun hdep
    have e34 : a'.eval (.tmp 34) = (.bool m33) := hs.eval 25 _ 34 rfl (hdep ⟨25, .data⟩ (by simp) rfl) rfl
    have e44 : a'.eval (.tmp 44) = (if m33 = false then .bool m44 else undef) := hs.eval 35 _ 44 rfl (hdep ⟨35, .data⟩ (by simp) rfl) rfl
    refine g_val (.bool m45) hS rfl ?_ rfl
    cases m33
    · replace e44 := e44.trans (if_pos rfl)
      exact (op_pick_f rfl e34 e44).trans (by rw [← hm45.out]; first | rfl | simp)
    · replace e44 := e44.trans (if_neg (by decide))
      exact (op_pick_t rfl e34 (BigFrame.eval_const a' _)).trans (by rw [← hm45.out]; first | rfl | simp)
  · intro vs w3 hlen hV hS
    obtain ⟨v0, v1, v2, v3, v4, v5, v6, v7, v8, v9, v10, v11, v12, v13, v14, v15, v16, v17, v18, v19, v20, v21, v22, v23, v24, v25, v26, v27, v28, v29, v30, v31, v32, v33, v34, v35, v36, rfl⟩ := vs_37 vs (hlen.trans rfl)
    have q0 : v0 = .agg #[.int .i64 i, .int .i64 o, .int .u32 sa, .int .i64 sb, .int .u32 da, .int .i64 db, .int .i64 p, .int .i64 slo, .int .i64 shi, .int .i64 dlo, .int .i64 dhi, .bool al] := hV 0 _ rfl
    have q1 : v1 = .bool m10 := hV 1 _ rfl
    have q2 : v2 = .bool m11 := hV 2 _ rfl
    have q3 : v3 = .bool m11 := hV 3 _ rfl
    have q13 : v13 = .bool m22 := hV 13 _ rfl
    have q14 : v14 = .bool m22 := hV 14 _ rfl
    have q24 : v24 = .bool m33 := hV 24 _ rfl
    have q25 : v25 = .bool m33 := hV 25 _ rfl
    have q36 : v36 = .bool m45 := hV 36 _ rfl
    have hbel : Below W0.heap.size W0 w3 := hS
    subst q0 q1 q2 q3 q13 q14 q24 q25 q36
    clear hV hS hlen
    simp only [lays, Act.put, List.setIfInBounds_toArray, List.set_cons_zero, List.set_cons_succ, List.drop_succ_cons, List.drop_zero, List.take_succ_cons, List.take_zero]
    have HX : Hid ((!(⟨i, o, sa, sb, da, db, p, slo, shi, dlo, dhi, al⟩ : Ru).ok || (decide (0 ≤ i) && !(i == ai)) || (decide (0 ≤ o) && !(o == ao)) || (decide (0 ≤ p) && !(p == ap))) = m45) := Lib.hid (by rw [← hm45.out, ← hm44.out, ← hm43.out, ← hm37.out, ← hm33.out, ← hm32.out, ← hm31.out, ← hm26.out, ← hm22.out, ← hm21.out, ← hm20.out, ← hm15.out, ← hm11.out, ← hm10.out])
    have M0 := Lib.hid (L0.out.below hbel)
    have M1 := Lib.hid (L1.out.below hbel)
    have hb3 := hb0.trans (hbel.mono hb0.size)
    clear hbel L0 L1 hm10 hm11 hm15 hm20 hm21 hm22 hm26 hm31 hm32 hm33 hm37 hm43 hm44 hm45 hb0 C10
    have HM1 := Lib.hid HM.out
    rw [HX.out] at HM1
    clear HM HX
    cases m45
    · go_upto_region 3 with fail
      obtain ⟨n50, hn50⟩ : ∃ x, (A.holds sa sb as_) = x := ⟨_, rfl⟩
      replace hn50 := Lib.hid hn50
      have C50 := Lib.hid (fun (w' : World) (hb : Below w3.heap.size w3 w') => show Calls Try.prog 32 #[.agg #[.int .u32 sa, .int .i64 sb], .int .u32 as_] w' (fun e w'' => e = .returned (.bool n50) ∧ Below w'.heap.size w' w'') from (by rw [← hn50.out]; exact refholds_any sa sb as_ w' Hsa.out Has_.out))
      obtain ⟨n51, hn51⟩ : ∃ x, (!n50) = x := ⟨_, rfl⟩
      replace hn51 := Lib.hid hn51
      obtain ⟨n57, hn57⟩ : ∃ x, (A.holds da db ad) = x := ⟨_, rfl⟩
      replace hn57 := Lib.hid hn57
      have C57 := Lib.hid (fun (w' : World) (hb : Below w3.heap.size w3 w') => show Calls Try.prog 32 #[.agg #[.int .u32 da, .int .i64 db], .int .u32 ad] w' (fun e w'' => e = .returned (.bool n57) ∧ Below w'.heap.size w' w'') from (by rw [← hn57.out]; exact refholds_any da db ad w' Hda.out Had.out))
      obtain ⟨n58, hn58⟩ : ∃ x, (!n57) = x := ⟨_, rfl⟩
      replace hn58 := Lib.hid hn58
      obtain ⟨n59, hn59⟩ : ∃ x, (n51 || n58) = x := ⟨_, rfl⟩
      replace hn59 := Lib.hid hn59
      refine region_seq 14 (VG w3.heap.size [.val (.pointer (some ⟨w.heap.size, 2, none⟩)), .val (.agg #[.int .u32 sa, .int .i64 sb]), .val (.pointer (some ⟨w.heap.size + 1, 0, none⟩)), .val (.int .u32 as_), .val (.bool n50), .val (.bool n51), .val (.bool n51), .val (if n51 = false then .pointer (some ⟨w.heap.size, 4, none⟩) else undef), .val (if n51 = false then .agg #[.int .u32 da, .int .i64 db] else undef), .val (if n51 = false then .pointer (some ⟨w.heap.size + 1, 1, none⟩) else undef), .val (if n51 = false then .int .u32 ad else undef), .val (if n51 = false then .bool n57 else undef), .val (if n51 = false then .bool n58 else undef), .val (.bool n59)]) (BS w3) (by kernel_rfl) (Below.refl _ _) ⟨?_, ?_, ?_, ?_, ?_, ?_, ?_, ?_, ?_, ?_, ?_, ?_, ?_, ?_, trivial⟩ ?_
      · go_light; intro listed a' w' hs hS hun hdep
        have e4 : a'.eval (.tmp 4) = .pointer (some ⟨w.heap.size, 0, none⟩) := (hs.out 4 (by kernel_rfl)).trans (rfl)
        refine g_val (.pointer (some ⟨w.heap.size, 2, none⟩)) hS rfl ?_ rfl
        have hcn := BigFrame.eval_const a'; have hfn := BigFrame.eval_func a'; clear hs hdep; generalize a'.eval = ev at *; go_simp
      · go_light; intro listed a' w' hs hS hun hdep
        have e46 : a'.eval (.tmp 46) = (.pointer (some ⟨w.heap.size, 2, none⟩)) := hs.eval 0 _ 46 rfl (hdep ⟨0, .data⟩ (by simp) rfl) rfl
        exact g_val (.agg #[.int .u32 sa, .int .i64 sb]) hS rfl (op_ld [.int .u32 sa, .int .i64 sb] rfl e46 (M0.out.below hS) 2 (by first | rfl | simp) rfl Try.underlying32 rfl (by kernel_rfl)) rfl
      · go_light; intro listed a' w' hs hS hun hdep
        have e7 : a'.eval (.tmp 7) = .pointer (some ⟨w.heap.size + 1, 0, none⟩) := (hs.out 7 (by kernel_rfl)).trans (rfl)
        refine g_val (.pointer (some ⟨w.heap.size + 1, 0, none⟩)) hS rfl ?_ rfl
        have hcn := BigFrame.eval_const a'; have hfn := BigFrame.eval_func a'; clear hs hdep; generalize a'.eval = ev at *; go_simp
      · go_light; intro listed a' w' hs hS hun hdep
        have e48 : a'.eval (.tmp 48) = (.pointer (some ⟨w.heap.size + 1, 0, none⟩)) := hs.eval 2 _ 48 rfl (hdep ⟨2, .data⟩ (by simp) rfl) rfl
        exact g_val (.int .u32 as_) hS rfl (op_ld1 (.int .u32 as_) rfl e48 (M1.out.below hS) 0 (by first | rfl | simp) rfl Try.underlying23 rfl) rfl
      · go_light; intro listed a' w' hs hS hun hdep
        have e47 : a'.eval (.tmp 47) = (.agg #[.int .u32 sa, .int .i64 sb]) := hs.eval 1 _ 47 rfl (hdep ⟨1, .data⟩ (by simp) rfl) rfl
        have e49 : a'.eval (.tmp 49) = (.int .u32 as_) := hs.eval 3 _ 49 rfl (hdep ⟨3, .data⟩ (by simp) rfl) rfl
        refine g_call 32 #[.agg #[.int .u32 sa, .int .i64 sb], .int .u32 as_] hS rfl ?_ ?_
        · have hcn := BigFrame.eval_const a'; have hfn := BigFrame.eval_func a'; clear hs hdep; generalize a'.eval = ev at *; go_simp
        · exact c_val (C50.out w' hS) rfl
      · go_light; intro listed a' w' hs hS hun hdep
        have e50 : a'.eval (.tmp 50) = (.bool n50) := hs.eval 4 _ 50 rfl (hdep ⟨4, .data⟩ (by simp) rfl) rfl
        exact g_val (.bool n51) hS rfl ((op_not rfl e50).trans (by rw [hn51.out])) rfl
      · go_light; intro listed a' w' hs hS hun hdep
        have e51 : a'.eval (.tmp 51) = (.bool n51) := hs.eval 5 _ 51 rfl (hdep ⟨5, .data⟩ (by simp) rfl) rfl
        exact g_val (.bool n51) hS rfl (op_move rfl e51) rfl
      · go_light; intro listed a' w' hs hS hun hdep
        have eg : a'.eval (.tmp 52) = (.bool n51) := hs.eval 6 _ 52 rfl (hdep ⟨6, .guard⟩ (by simp) rfl) rfl
        have e4 : a'.eval (.tmp 4) = .pointer (some ⟨w.heap.size, 0, none⟩) := (hs.out 4 (by kernel_rfl)).trans (rfl)
        cases n51
        · refine g_val (.pointer (some ⟨w.heap.size, 4, none⟩)) hS (wanted_yes rfl rfl rfl eg) ?_ rfl
          have hcn := BigFrame.eval_const a'; have hfn := BigFrame.eval_func a'; clear hs hdep; generalize a'.eval = ev at *; go_simp
        · exact g_not hS (wanted_no rfl rfl rfl eg (by decide)) rfl
      · go_light; intro listed a' w' hs hS hun hdep
        have eg : a'.eval (.tmp 52) = (.bool n51) := hs.eval 6 _ 52 rfl (hdep ⟨6, .guard⟩ (by simp) rfl) rfl
        have e53 : a'.eval (.tmp 53) = (if n51 = false then .pointer (some ⟨w.heap.size, 4, none⟩) else undef) := hs.eval 7 _ 53 rfl (hdep ⟨7, .data⟩ (by simp) rfl) rfl
        cases n51
        · replace e53 := e53.trans (if_pos rfl)
          exact g_val (.agg #[.int .u32 da, .int .i64 db]) hS (wanted_yes rfl rfl rfl eg) (op_ld [.int .u32 da, .int .i64 db] rfl e53 (M0.out.below hS) 4 (by first | rfl | simp) rfl Try.underlying32 rfl (by kernel_rfl)) rfl
        · exact g_not hS (wanted_no rfl rfl rfl eg (by decide)) rfl
      · go_light; intro listed a' w' hs hS hun hdep
        have eg : a'.eval (.tmp 52) = (.bool n51) := hs.eval 6 _ 52 rfl (hdep ⟨6, .guard⟩ (by simp) rfl) rfl
        have e7 : a'.eval (.tmp 7) = .pointer (some ⟨w.heap.size + 1, 0, none⟩) := (hs.out 7 (by kernel_rfl)).trans (rfl)
        cases n51
        · refine g_val (.pointer (some ⟨w.heap.size + 1, 1, none⟩)) hS (wanted_yes rfl rfl rfl eg) ?_ rfl
          have hcn := BigFrame.eval_const a'; have hfn := BigFrame.eval_func a'; clear hs hdep; generalize a'.eval = ev at *; go_simp
        · exact g_not hS (wanted_no rfl rfl rfl eg (by decide)) rfl
      · go_light; intro listed a' w' hs hS hun hdep
        have eg : a'.eval (.tmp 52) = (.bool n51) := hs.eval 6 _ 52 rfl (hdep ⟨6, .guard⟩ (by simp) rfl) rfl
        have e55 : a'.eval (.tmp 55) = (if n51 = false then .pointer (some ⟨w.heap.size + 1, 1, none⟩) else undef) := hs.eval 9 _ 55 rfl (hdep ⟨9, .data⟩ (by simp) rfl) rfl
        cases n51
        · replace e55 := e55.trans (if_pos rfl)
          exact g_val (.int .u32 ad) hS (wanted_yes rfl rfl rfl eg) (op_ld1 (.int .u32 ad) rfl e55 (M1.out.below hS) 1 (by first | rfl | simp) rfl Try.underlying23 rfl) rfl
        · exact g_not hS (wanted_no rfl rfl rfl eg (by decide)) rfl
      · go_light; intro listed a' w' hs hS hun hdep
        have eg : a'.eval (.tmp 52) = (.bool n51) := hs.eval 6 _ 52 rfl (hdep ⟨6, .guard⟩ (by simp) rfl) rfl
        have e54 : a'.eval (.tmp 54) = (if n51 = false then .agg #[.int .u32 da, .int .i64 db] else undef) := hs.eval 8 _ 54 rfl (hdep ⟨8, .data⟩ (by simp) rfl) rfl
        have e56 : a'.eval (.tmp 56) = (if n51 = false then .int .u32 ad else undef) := hs.eval 10 _ 56 rfl (hdep ⟨10, .data⟩ (by simp) rfl) rfl
        cases n51
        · replace e54 := e54.trans (if_pos rfl)
          replace e56 := e56.trans (if_pos rfl)
          refine g_call 32 #[.agg #[.int .u32 da, .int .i64 db], .int .u32 ad] hS (wanted_yes rfl rfl rfl eg) ?_ ?_
          · have hcn := BigFrame.eval_const a'; have hfn := BigFrame.eval_func a'; clear hs hdep; generalize a'.eval = ev at *; go_simp
          · exact c_val (C57.out w' hS) rfl
        · exact g_not hS (wanted_no rfl rfl rfl eg (by decide)) rfl
      · go_light; intro listed a' w' hs hS hun hdep
        have eg : a'.eval (.tmp 52) = (.bool n51) := hs.eval 6 _ 52 rfl (hdep ⟨6, .guard⟩ (by simp) rfl) rfl
        have e57 : a'.eval (.tmp 57) = (if n51 = false then .bool n57 else undef) := hs.eval 11 _ 57 rfl (hdep ⟨11, .data⟩ (by simp) rfl) rfl
        cases n51
        · replace e57 := e57.trans (if_pos rfl)
          exact g_val (.bool n58) hS (wanted_yes rfl rfl rfl eg) ((op_not rfl e57).trans (by rw [hn58.out])) rfl
        · exact g_not hS (wanted_no rfl rfl rfl eg (by decide)) rfl
      · go_light; intro listed a' w' hs hS hun hdep
        have e52 : a'.eval (.tmp 52) = (.bool n51) := hs.eval 6 _ 52 rfl (hdep ⟨6, .data⟩ (by simp) rfl) rfl
        have e58 : a'.eval (.tmp 58) = (if n51 = false then .bool n58 else undef) := hs.eval 12 _ 58 rfl (hdep ⟨12, .data⟩ (by simp) rfl) rfl
        refine g_val (.bool n59) hS rfl ?_ rfl
        cases n51
        · replace e58 := e58.trans (if_pos rfl)
          exact (op_pick_f rfl e52 e58).trans (by rw [← hn59.out]; first | rfl | simp)
        · replace e58 := e58.trans (if_neg (by decide))
          exact (op_pick_t rfl e52 (BigFrame.eval_const a' _)).trans (by rw [← hn59.out]; first | rfl | simp)
      · intro vs w4 hlen hV hS
        obtain ⟨v0, v1, v2, v3, v4, v5, v6, v7, v8, v9, v10, v11, v12, v13, rfl⟩ := vs_14 vs (hlen.trans rfl)
        have q0 : v0 = .pointer (some ⟨w.heap.size, 2, none⟩) := hV 0 _ rfl
        have q1 : v1 = .agg #[.int .u32 sa, .int .i64 sb] := hV 1 _ rfl
        have q2 : v2 = .pointer (some ⟨w.heap.size + 1, 0, none⟩) := hV 2 _ rfl
        have q3 : v3 = .int .u32 as_ := hV 3 _ rfl
        have q4 : v4 = .bool n50 := hV 4 _ rfl
        have q5 : v5 = .bool n51 := hV 5 _ rfl
        have q6 : v6 = .bool n51 := hV 6 _ rfl
        have q13 : v13 = .bool n59 := hV 13 _ rfl
        have hbel : Below w3.heap.size w3 w4 := hS
        subst q0 q1 q2 q3 q4 q5 q6 q13
        clear hV hS hlen
        simp only [lays, Act.put, List.setIfInBounds_toArray, List.set_cons_zero, List.set_cons_succ, List.drop_succ_cons, List.drop_zero, List.take_succ_cons, List.take_zero]
        have HX : Hid ((!A.holds sa sb as_ || !A.holds da db ad) = n59) := Lib.hid (by rw [← hn59.out, ← hn58.out, ← hn57.out, ← hn51.out, ← hn50.out])
        have N0 := Lib.hid (M0.out.below hbel)
        have N1 := Lib.hid (M1.out.below hbel)
        have hb4 := hb3.trans (hbel.mono hb3.size)
        clear hbel M0 M1 hn50 hn51 hn57 hn58 hn59 hb3 C50 C57
        rw [HX.out] at HM1
        clear HX
        cases n59
        · go_upto_region 5 with fail
          obtain ⟨p62, hp62⟩ : ∃ x, (!(ap == 6)) = x := ⟨_, rfl⟩
          replace hp62 := Lib.hid hp62
          obtain ⟨p66, hp66⟩ : ∃ x, (!(ap == 17)) = x := ⟨_, rfl⟩
          replace hp66 := Lib.hid hp66
          obtain ⟨p67, hp67⟩ : ∃ x, (p62 && p66) = x := ⟨_, rfl⟩
          replace hp67 := Lib.hid hp67
          obtain ⟨p71, hp71⟩ : ∃ x, (!(ap == 1)) = x := ⟨_, rfl⟩
          replace hp71 := Lib.hid hp71
          obtain ⟨p72, hp72⟩ : ∃ x, (p67 && p71) = x := ⟨_, rfl⟩
          replace hp72 := Lib.hid hp72
          refine region_seq 13 (VG w4.heap.size [.val (.pointer (some ⟨w.heap.size + 1, 2, none⟩)), .val (.int .i64 ap), .val (.bool p62), .val (.bool p62), .val (if p62 = true then .pointer (some ⟨w.heap.size + 1, 2, none⟩) else undef), .val (if p62 = true then .int .i64 ap else undef), .val (if p62 = true then .bool p66 else undef), .val (.bool p67), .val (.bool p67), .val (if p67 = true then .pointer (some ⟨w.heap.size + 1, 2, none⟩) else undef), .val (if p67 = true then .int .i64 ap else undef), .val (if p67 = true then .bool p71 else undef), .val (.bool p72)]) (BS w4) (by kernel_rfl) (Below.refl _ _) ⟨?_, ?_, ?_, ?_, ?_, ?_, ?_, ?_, ?_, ?_, ?_, ?_, ?_, trivial⟩ ?_
          · go_light; intro listed a' w' hs hS hun hdep
            have e7 : a'.eval (.tmp 7) = .pointer (some ⟨w.heap.size + 1, 0, none⟩) := (hs.out 7 (by kernel_rfl)).trans (rfl)
            refine g_val (.pointer (some ⟨w.heap.size + 1, 2, none⟩)) hS rfl ?_ rfl
            have hcn := BigFrame.eval_const a'; have hfn := BigFrame.eval_func a'; clear hs hdep; generalize a'.eval = ev at *; go_simp
          · go_light; intro listed a' w' hs hS hun hdep
            have e60 : a'.eval (.tmp 60) = (.pointer (some ⟨w.heap.size + 1, 2, none⟩)) := hs.eval 0 _ 60 rfl (hdep ⟨0, .data⟩ (by simp) rfl) rfl
            exact g_val (.int .i64 ap) hS rfl (op_ld1 (.int .i64 ap) rfl e60 (N1.out.below hS) 2 (by first | rfl | simp) rfl Try.underlying3 rfl) rfl
          · go_light; intro listed a' w' hs hS hun hdep
            have e61 : a'.eval (.tmp 61) = (.int .i64 ap) := hs.eval 1 _ 61 rfl (hdep ⟨1, .data⟩ (by simp) rfl) rfl
            refine g_val (.bool p62) hS rfl ?_ rfl
            rw [← hp62.out]
            have hcn := BigFrame.eval_const a'; have hfn := BigFrame.eval_func a'; clear hs hdep; generalize a'.eval = ev at *; go_simp; try rfl
          · go_light; intro listed a' w' hs hS hun hdep
            have e62 : a'.eval (.tmp 62) = (.bool p62) := hs.eval 2 _ 62 rfl (hdep ⟨2, .data⟩ (by simp) rfl) rfl
            exact g_val (.bool p62) hS rfl (op_move rfl e62) rfl
          · go_light; intro listed a' w' hs hS hun hdep
            have eg : a'.eval (.tmp 63) = (.bool p62) := hs.eval 3 _ 63 rfl (hdep ⟨3, .guard⟩ (by simp) rfl) rfl
            have e7 : a'.eval (.tmp 7) = .pointer (some ⟨w.heap.size + 1, 0, none⟩) := (hs.out 7 (by kernel_rfl)).trans (rfl)
            cases p62
            · exact g_not hS (wanted_no rfl rfl rfl eg (by decide)) rfl
            · refine g_val (.pointer (some ⟨w.heap.size + 1, 2, none⟩)) hS (wanted_yes rfl rfl rfl eg) ?_ rfl
              have hcn := BigFrame.eval_const a'; have hfn := BigFrame.eval_func a'; clear hs hdep; generalize a'.eval = ev at *; go_simp
          · go_light; intro listed a' w' hs hS hun hdep
            have eg : a'.eval (.tmp 63) = (.bool p62) := hs.eval 3 _ 63 rfl (hdep ⟨3, .guard⟩ (by simp) rfl) rfl
            have e64 : a'.eval (.tmp 64) = (if p62 = true then .pointer (some ⟨w.heap.size + 1, 2, none⟩) else undef) := hs.eval 4 _ 64 rfl (hdep ⟨4, .data⟩ (by simp) rfl) rfl
            cases p62
            · exact g_not hS (wanted_no rfl rfl rfl eg (by decide)) rfl
            · replace e64 := e64.trans (if_pos rfl)
              exact g_val (.int .i64 ap) hS (wanted_yes rfl rfl rfl eg) (op_ld1 (.int .i64 ap) rfl e64 (N1.out.below hS) 2 (by first | rfl | simp) rfl Try.underlying3 rfl) rfl
          · go_light; intro listed a' w' hs hS hun hdep
            have eg : a'.eval (.tmp 63) = (.bool p62) := hs.eval 3 _ 63 rfl (hdep ⟨3, .guard⟩ (by simp) rfl) rfl
            have e65 : a'.eval (.tmp 65) = (if p62 = true then .int .i64 ap else undef) := hs.eval 5 _ 65 rfl (hdep ⟨5, .data⟩ (by simp) rfl) rfl
            cases p62
            · exact g_not hS (wanted_no rfl rfl rfl eg (by decide)) rfl
            · replace e65 := e65.trans (if_pos rfl)
              refine g_val (.bool p66) hS (wanted_yes rfl rfl rfl eg) ?_ rfl
              rw [← hp66.out]
              have hcn := BigFrame.eval_const a'; have hfn := BigFrame.eval_func a'; clear hs hdep; generalize a'.eval = ev at *; go_simp; try rfl
          · go_light; intro listed a' w' hs hS hun hdep
            have e63 : a'.eval (.tmp 63) = (.bool p62) := hs.eval 3 _ 63 rfl (hdep ⟨3, .data⟩ (by simp) rfl) rfl
            have e66 : a'.eval (.tmp 66) = (if p62 = true then .bool p66 else undef) := hs.eval 6 _ 66 rfl (hdep ⟨6, .data⟩ (by simp) rfl) rfl
            refine g_val (.bool p67) hS rfl ?_ rfl
            cases p62
            · replace e66 := e66.trans (if_neg (by decide))
              exact (op_pick_f rfl e63 (BigFrame.eval_const a' _)).trans (by rw [← hp67.out]; first | rfl | simp)
            · replace e66 := e66.trans (if_pos rfl)
              exact (op_pick_t rfl e63 e66).trans (by rw [← hp67.out]; first | rfl | simp)
          · go_light; intro listed a' w' hs hS hun hdep
            have e67 : a'.eval (.tmp 67) = (.bool p67) := hs.eval 7 _ 67 rfl (hdep ⟨7, .data⟩ (by simp) rfl) rfl
            exact g_val (.bool p67) hS rfl (op_move rfl e67) rfl
          · go_light; intro listed a' w' hs hS hun hdep
            have eg : a'.eval (.tmp 68) = (.bool p67) := hs.eval 8 _ 68 rfl (hdep ⟨8, .guard⟩ (by simp) rfl) rfl
            have e7 : a'.eval (.tmp 7) = .pointer (some ⟨w.heap.size + 1, 0, none⟩) := (hs.out 7 (by kernel_rfl)).trans (rfl)
            cases p67
            · exact g_not hS (wanted_no rfl rfl rfl eg (by decide)) rfl
            · refine g_val (.pointer (some ⟨w.heap.size + 1, 2, none⟩)) hS (wanted_yes rfl rfl rfl eg) ?_ rfl
              have hcn := BigFrame.eval_const a'; have hfn := BigFrame.eval_func a'; clear hs hdep; generalize a'.eval = ev at *; go_simp
          · go_light; intro listed a' w' hs hS hun hdep
            have eg : a'.eval (.tmp 68) = (.bool p67) := hs.eval 8 _ 68 rfl (hdep ⟨8, .guard⟩ (by simp) rfl) rfl
            have e69 : a'.eval (.tmp 69) = (if p67 = true then .pointer (some ⟨w.heap.size + 1, 2, none⟩) else undef) := hs.eval 9 _ 69 rfl (hdep ⟨9, .data⟩ (by simp) rfl) rfl
            cases p67
            · exact g_not hS (wanted_no rfl rfl rfl eg (by decide)) rfl
            · replace e69 := e69.trans (if_pos rfl)
              exact g_val (.int .i64 ap) hS (wanted_yes rfl rfl rfl eg) (op_ld1 (.int .i64 ap) rfl e69 (N1.out.below hS) 2 (by first | rfl | simp) rfl Try.underlying3 rfl) rfl
          · go_light; intro listed a' w' hs hS hun hdep
            have eg : a'.eval (.tmp 68) = (.bool p67) := hs.eval 8 _ 68 rfl (hdep ⟨8, .guard⟩ (by simp) rfl) rfl
            have e70 : a'.eval (.tmp 70) = (if p67 = true then .int .i64 ap else undef) := hs.eval 10 _ 70 rfl (hdep ⟨10, .data⟩ (by simp) rfl) rfl
            cases p67
            · exact g_not hS (wanted_no rfl rfl rfl eg (by decide)) rfl
            · replace e70 := e70.trans (if_pos rfl)
              refine g_val (.bool p71) hS (wanted_yes rfl rfl rfl eg) ?_ rfl
              rw [← hp71.out]
              have hcn := BigFrame.eval_const a'; have hfn := BigFrame.eval_func a'; clear hs hdep; generalize a'.eval = ev at *; go_simp; try rfl
          · go_light; intro listed a' w' hs hS hun hdep
            have e68 : a'.eval (.tmp 68) = (.bool p67) := hs.eval 8 _ 68 rfl (hdep ⟨8, .data⟩ (by simp) rfl) rfl
            have e71 : a'.eval (.tmp 71) = (if p67 = true then .bool p71 else undef) := hs.eval 11 _ 71 rfl (hdep ⟨11, .data⟩ (by simp) rfl) rfl
            refine g_val (.bool p72) hS rfl ?_ rfl
            cases p67
            · replace e71 := e71.trans (if_neg (by decide))
              exact (op_pick_f rfl e68 (BigFrame.eval_const a' _)).trans (by rw [← hp72.out]; first | rfl | simp)
            · replace e71 := e71.trans (if_pos rfl)
              exact (op_pick_t rfl e68 e71).trans (by rw [← hp72.out]; first | rfl | simp)
          · intro vs w5 hlen hV hS
            obtain ⟨v0, v1, v2, v3, v4, v5, v6, v7, v8, v9, v10, v11, v12, rfl⟩ := vs_13 vs (hlen.trans rfl)
            have q0 : v0 = .pointer (some ⟨w.heap.size + 1, 2, none⟩) := hV 0 _ rfl
            have q1 : v1 = .int .i64 ap := hV 1 _ rfl
            have q2 : v2 = .bool p62 := hV 2 _ rfl
            have q3 : v3 = .bool p62 := hV 3 _ rfl
            have q7 : v7 = .bool p67 := hV 7 _ rfl
            have q8 : v8 = .bool p67 := hV 8 _ rfl
            have q12 : v12 = .bool p72 := hV 12 _ rfl
            have hbel : Below w4.heap.size w4 w5 := hS
            subst q0 q1 q2 q3 q7 q8 q12
            clear hV hS hlen
            simp only [lays, Act.put, List.setIfInBounds_toArray, List.set_cons_zero, List.set_cons_succ, List.drop_succ_cons, List.drop_zero, List.take_succ_cons, List.take_zero]
            have HX : Hid ((!(ap == 6) && !(ap == 17) && !(ap == 1)) = p72) := Lib.hid (by rw [← hp72.out, ← hp71.out, ← hp67.out, ← hp66.out, ← hp62.out])
            have O0 := Lib.hid (N0.out.below hbel)
            have O1 := Lib.hid (N1.out.below hbel)
            have hb5 := hb4.trans (hbel.mono hb4.size)
            clear hbel N0 N1 hp62 hp66 hp67 hp71 hp72 hb4
            rw [HX.out] at HM1
            clear HX
            cases p72
            · go_upto_region 7 with fail
              obtain ⟨q77, hq77⟩ : ∃ x, (decide (slo ≤ asp)) = x := ⟨_, rfl⟩
              replace hq77 := Lib.hid hq77
              obtain ⟨q83, hq83⟩ : ∃ x, (decide (asp ≤ shi)) = x := ⟨_, rfl⟩
              replace hq83 := Lib.hid hq83
              obtain ⟨q84, hq84⟩ : ∃ x, (q77 && q83) = x := ⟨_, rfl⟩
              replace hq84 := Lib.hid hq84
              obtain ⟨q90, hq90⟩ : ∃ x, (decide (dlo ≤ adp)) = x := ⟨_, rfl⟩
              replace hq90 := Lib.hid hq90
              obtain ⟨q91, hq91⟩ : ∃ x, (q84 && q90) = x := ⟨_, rfl⟩
              replace hq91 := Lib.hid hq91
              obtain ⟨q97, hq97⟩ : ∃ x, (decide (adp ≤ dhi)) = x := ⟨_, rfl⟩
              replace hq97 := Lib.hid hq97
              obtain ⟨q98, hq98⟩ : ∃ x, (q91 && q97) = x := ⟨_, rfl⟩
              replace hq98 := Lib.hid hq98
              refine region_seq 26 (VG w5.heap.size [.val (.pointer (some ⟨w.heap.size + 1, 3, none⟩)), .val (.int .i64 asp), .val (.pointer (some ⟨w.heap.size, 7, none⟩)), .val (.int .i64 slo), .val (.bool q77), .val (.bool q77), .val (if q77 = true then .pointer (some ⟨w.heap.size + 1, 3, none⟩) else undef), .val (if q77 = true then .int .i64 asp else undef), .val (if q77 = true then .pointer (some ⟨w.heap.size, 8, none⟩) else undef), .val (if q77 = true then .int .i64 shi else undef), .val (if q77 = true then .bool q83 else undef), .val (.bool q84), .val (.bool q84), .val (if q84 = true then .pointer (some ⟨w.heap.size + 1, 4, none⟩) else undef), .val (if q84 = true then .int .i64 adp else undef), .val (if q84 = true then .pointer (some ⟨w.heap.size, 9, none⟩) else undef), .val (if q84 = true then .int .i64 dlo else undef), .val (if q84 = true then .bool q90 else undef), .val (.bool q91), .val (.bool q91), .val (if q91 = true then .pointer (some ⟨w.heap.size + 1, 4, none⟩) else undef), .val (if q91 = true then .int .i64 adp else undef), .val (if q91 = true then .pointer (some ⟨w.heap.size, 10, none⟩) else undef), .val (if q91 = true then .int .i64 dhi else undef), .val (if q91 = true then .bool q97 else undef), .val (.bool q98)]) (BS w5) (by kernel_rfl) (Below.refl _ _) ⟨?_, ?_, ?_, ?_, ?_, ?_, ?_, ?_, ?_, ?_, ?_, ?_, ?_, ?_, ?_, ?_, ?_, ?_, ?_, ?_, ?_, ?_, ?_, ?_, ?_, ?_, trivial⟩ ?_
              · go_light; intro listed a' w' hs hS hun hdep
                have e7 : a'.eval (.tmp 7) = .pointer (some ⟨w.heap.size + 1, 0, none⟩) := (hs.out 7 (by kernel_rfl)).trans (rfl)
                refine g_val (.pointer (some ⟨w.heap.size + 1, 3, none⟩)) hS rfl ?_ rfl
                have hcn := BigFrame.eval_const a'; have hfn := BigFrame.eval_func a'; clear hs hdep; generalize a'.eval = ev at *; go_simp
              · go_light; intro listed a' w' hs hS hun hdep
                have e73 : a'.eval (.tmp 73) = (.pointer (some ⟨w.heap.size + 1, 3, none⟩)) := hs.eval 0 _ 73 rfl (hdep ⟨0, .data⟩ (by simp) rfl) rfl
                exact g_val (.int .i64 asp) hS rfl (op_ld1 (.int .i64 asp) rfl e73 (O1.out.below hS) 3 (by first | rfl | simp) rfl Try.underlying3 rfl) rfl
              · go_light; intro listed a' w' hs hS hun hdep
                have e4 : a'.eval (.tmp 4) = .pointer (some ⟨w.heap.size, 0, none⟩) := (hs.out 4 (by kernel_rfl)).trans (rfl)
                refine g_val (.pointer (some ⟨w.heap.size, 7, none⟩)) hS rfl ?_ rfl
                have hcn := BigFrame.eval_const a'; have hfn := BigFrame.eval_func a'; clear hs hdep; generalize a'.eval = ev at *; go_simp
              · go_light; intro listed a' w' hs hS hun hdep
                have e75 : a'.eval (.tmp 75) = (.pointer (some ⟨w.heap.size, 7, none⟩)) := hs.eval 2 _ 75 rfl (hdep ⟨2, .data⟩ (by simp) rfl) rfl
                exact g_val (.int .i64 slo) hS rfl (op_ld1 (.int .i64 slo) rfl e75 (O0.out.below hS) 7 (by first | rfl | simp) rfl Try.underlying3 rfl) rfl
              · go_light; intro listed a' w' hs hS hun hdep
                have e74 : a'.eval (.tmp 74) = (.int .i64 asp) := hs.eval 1 _ 74 rfl (hdep ⟨1, .data⟩ (by simp) rfl) rfl
                have e76 : a'.eval (.tmp 76) = (.int .i64 slo) := hs.eval 3 _ 76 rfl (hdep ⟨3, .data⟩ (by simp) rfl) rfl
                refine g_val (.bool q77) hS rfl ?_ rfl
                rw [← hq77.out]
                have hcn := BigFrame.eval_const a'; have hfn := BigFrame.eval_func a'; clear hs hdep; generalize a'.eval = ev at *; go_simp; try rfl
              · go_light; intro listed a' w' hs hS hun hdep
                have e77 : a'.eval (.tmp 77) = (.bool q77) := hs.eval 4 _ 77 rfl (hdep ⟨4, .data⟩ (by simp) rfl) rfl
                exact g_val (.bool q77) hS rfl (op_move rfl e77) rfl
              · go_light; intro listed a' w' hs hS hun hdep
                have eg : a'.eval (.tmp 78) = (.bool q77) := hs.eval 5 _ 78 rfl (hdep ⟨5, .guard⟩ (by simp) rfl) rfl
                have e7 : a'.eval (.tmp 7) = .pointer (some ⟨w.heap.size + 1, 0, none⟩) := (hs.out 7 (by kernel_rfl)).trans (rfl)
                cases q77
                · exact g_not hS (wanted_no rfl rfl rfl eg (by decide)) rfl
                · refine g_val (.pointer (some ⟨w.heap.size + 1, 3, none⟩)) hS (wanted_yes rfl rfl rfl eg) ?_ rfl
                  have hcn := BigFrame.eval_const a'; have hfn := BigFrame.eval_func a'; clear hs hdep; generalize a'.eval = ev at *; go_simp
              · go_light; intro listed a' w' hs hS hun hdep
                have eg : a'.eval (.tmp 78) = (.bool q77) := hs.eval 5 _ 78 rfl (hdep ⟨5, .guard⟩ (by simp) rfl) rfl
                have e79 : a'.eval (.tmp 79) = (if q77 = true then .pointer (some ⟨w.heap.size + 1, 3, none⟩) else undef) := hs.eval 6 _ 79 rfl (hdep ⟨6, .data⟩ (by simp) rfl) rfl
                cases q77
                · exact g_not hS (wanted_no rfl rfl rfl eg (by decide)) rfl
                · replace e79 := e79.trans (if_pos rfl)
                  exact g_val (.int .i64 asp) hS (wanted_yes rfl rfl rfl eg) (op_ld1 (.int .i64 asp) rfl e79 (O1.out.below hS) 3 (by first | rfl | simp) rfl Try.underlying3 rfl) rfl
              · go_light; intro listed a' w' hs hS hun hdep
                have eg : a'.eval (.tmp 78) = (.bool q77) := hs.eval 5 _ 78 rfl (hdep ⟨5, .guard⟩ (by simp) rfl) rfl
                have e4 : a'.eval (.tmp 4) = .pointer (some ⟨w.heap.size, 0, none⟩) := (hs.out 4 (by kernel_rfl)).trans (rfl)
                cases q77
                · exact g_not hS (wanted_no rfl rfl rfl eg (by decide)) rfl
                · refine g_val (.pointer (some ⟨w.heap.size, 8, none⟩)) hS (wanted_yes rfl rfl rfl eg) ?_ rfl
                  have hcn := BigFrame.eval_const a'; have hfn := BigFrame.eval_func a'; clear hs hdep; generalize a'.eval = ev at *; go_simp
              · go_light; intro listed a' w' hs hS hun hdep
                have eg : a'.eval (.tmp 78) = (.bool q77) := hs.eval 5 _ 78 rfl (hdep ⟨5, .guard⟩ (by simp) rfl) rfl
                have e81 : a'.eval (.tmp 81) = (if q77 = true then .pointer (some ⟨w.heap.size, 8, none⟩) else undef) := hs.eval 8 _ 81 rfl (hdep ⟨8, .data⟩ (by simp) rfl) rfl
                cases q77
                · exact g_not hS (wanted_no rfl rfl rfl eg (by decide)) rfl
                · replace e81 := e81.trans (if_pos rfl)
                  exact g_val (.int .i64 shi) hS (wanted_yes rfl rfl rfl eg) (op_ld1 (.int .i64 shi) rfl e81 (O0.out.below hS) 8 (by first | rfl | simp) rfl Try.underlying3 rfl) rfl
              · go_light; intro listed a' w' hs hS hun hdep
                have eg : a'.eval (.tmp 78) = (.bool q77) := hs.eval 5 _ 78 rfl (hdep ⟨5, .guard⟩ (by simp) rfl) rfl
                have e80 : a'.eval (.tmp 80) = (if q77 = true then .int .i64 asp else undef) := hs.eval 7 _ 80 rfl (hdep ⟨7, .data⟩ (by simp) rfl) rfl
                have e82 : a'.eval (.tmp 82) = (if q77 = true then .int .i64 shi else undef) := hs.eval 9 _ 82 rfl (hdep ⟨9, .data⟩ (by simp) rfl) rfl
                cases q77
                · exact g_not hS (wanted_no rfl rfl rfl eg (by decide)) rfl
                · replace e80 := e80.trans (if_pos rfl)
                  replace e82 := e82.trans (if_pos rfl)
                  refine g_val (.bool q83) hS (wanted_yes rfl rfl rfl eg) ?_ rfl
                  rw [← hq83.out]
                  have hcn := BigFrame.eval_const a'; have hfn := BigFrame.eval_func a'; clear hs hdep; generalize a'.eval = ev at *; go_simp; try rfl
              · go_light; intro listed a' w' hs hS hun hdep
                have e78 : a'.eval (.tmp 78) = (.bool q77) := hs.eval 5 _ 78 rfl (hdep ⟨5, .data⟩ (by simp) rfl) rfl
                have e83 : a'.eval (.tmp 83) = (if q77 = true then .bool q83 else undef) := hs.eval 10 _ 83 rfl (hdep ⟨10, .data⟩ (by simp) rfl) rfl
                refine g_val (.bool q84) hS rfl ?_ rfl
                cases q77
                · replace e83 := e83.trans (if_neg (by decide))
                  exact (op_pick_f rfl e78 (BigFrame.eval_const a' _)).trans (by rw [← hq84.out]; first | rfl | simp)
                · replace e83 := e83.trans (if_pos rfl)
                  exact (op_pick_t rfl e78 e83).trans (by rw [← hq84.out]; first | rfl | simp)
              · go_light; intro listed a' w' hs hS hun hdep
                have e84 : a'.eval (.tmp 84) = (.bool q84) := hs.eval 11 _ 84 rfl (hdep ⟨11, .data⟩ (by simp) rfl) rfl
                exact g_val (.bool q84) hS rfl (op_move rfl e84) rfl
              · go_light; intro listed a' w' hs hS hun hdep
                have eg : a'.eval (.tmp 85) = (.bool q84) := hs.eval 12 _ 85 rfl (hdep ⟨12, .guard⟩ (by simp) rfl) rfl
                have e7 : a'.eval (.tmp 7) = .pointer (some ⟨w.heap.size + 1, 0, none⟩) := (hs.out 7 (by kernel_rfl)).trans (rfl)
                cases q84
                · exact g_not hS (wanted_no rfl rfl rfl eg (by decide)) rfl
                · refine g_val (.pointer (some ⟨w.heap.size + 1, 4, none⟩)) hS (wanted_yes rfl rfl rfl eg) ?_ rfl
                  have hcn := BigFrame.eval_const a'; have hfn := BigFrame.eval_func a'; clear hs hdep; generalize a'.eval = ev at *; go_simp
              · go_light; intro listed a' w' hs hS hun hdep
                have eg : a'.eval (.tmp 85) = (.bool q84) := hs.eval 12 _ 85 rfl (hdep ⟨12, .guard⟩ (by simp) rfl) rfl
                have e86 : a'.eval (.tmp 86) = (if q84 = true then .pointer (some ⟨w.heap.size + 1, 4, none⟩) else undef) := hs.eval 13 _ 86 rfl (hdep ⟨13, .data⟩ (by simp) rfl) rfl
                cases q84
                · exact g_not hS (wanted_no rfl rfl rfl eg (by decide)) rfl
                · replace e86 := e86.trans (if_pos rfl)
                  exact g_val (.int .i64 adp) hS (wanted_yes rfl rfl rfl eg) (op_ld1 (.int .i64 adp) rfl e86 (O1.out.below hS) 4 (by first | rfl | simp) rfl Try.underlying3 rfl) rfl
              · go_light; intro listed a' w' hs hS hun hdep
                have eg : a'.eval (.tmp 85) = (.bool q84) := hs.eval 12 _ 85 rfl (hdep ⟨12, .guard⟩ (by simp) rfl) rfl
                have e4 : a'.eval (.tmp 4) = .pointer (some ⟨w.heap.size, 0, none⟩) := (hs.out 4 (by kernel_rfl)).trans (rfl)
                cases q84
                · exact g_not hS (wanted_no rfl rfl rfl eg (by decide)) rfl
                · refine g_val (.pointer (some ⟨w.heap.size, 9, none⟩)) hS (wanted_yes rfl rfl rfl eg) ?_ rfl
                  have hcn := BigFrame.eval_const a'; have hfn := BigFrame.eval_func a'; clear hs hdep; generalize a'.eval = ev at *; go_simp
              · go_light; intro listed a' w' hs hS hun hdep
                have eg : a'.eval (.tmp 85) = (.bool q84) := hs.eval 12 _ 85 rfl (hdep ⟨12, .guard⟩ (by simp) rfl) rfl
                have e88 : a'.eval (.tmp 88) = (if q84 = true then .pointer (some ⟨w.heap.size, 9, none⟩) else undef) := hs.eval 15 _ 88 rfl (hdep ⟨15, .data⟩ (by simp) rfl) rfl
                cases q84
                · exact g_not hS (wanted_no rfl rfl rfl eg (by decide)) rfl
                · replace e88 := e88.trans (if_pos rfl)
                  exact g_val (.int .i64 dlo) hS (wanted_yes rfl rfl rfl eg) (op_ld1 (.int .i64 dlo) rfl e88 (O0.out.below hS) 9 (by first | rfl | simp) rfl Try.underlying3 rfl) rfl
              · go_light; intro listed a' w' hs hS hun hdep
                have eg : a'.eval (.tmp 85) = (.bool q84) := hs.eval 12 _ 85 rfl (hdep ⟨12, .guard⟩ (by simp) rfl) rfl
                have e87 : a'.eval (.tmp 87) = (if q84 = true then .int .i64 adp else undef) := hs.eval 14 _ 87 rfl (hdep ⟨14, .data⟩ (by simp) rfl) rfl
                have e89 : a'.eval (.tmp 89) = (if q84 = true then .int .i64 dlo else undef) := hs.eval 16 _ 89 rfl (hdep ⟨16, .data⟩ (by simp) rfl) rfl
                cases q84
                · exact g_not hS (wanted_no rfl rfl rfl eg (by decide)) rfl
                · replace e87 := e87.trans (if_pos rfl)
                  replace e89 := e89.trans (if_pos rfl)
                  refine g_val (.bool q90) hS (wanted_yes rfl rfl rfl eg) ?_ rfl
                  rw [← hq90.out]
                  have hcn := BigFrame.eval_const a'; have hfn := BigFrame.eval_func a'; clear hs hdep; generalize a'.eval = ev at *; go_simp; try rfl
              · go_light; intro listed a' w' hs hS hun hdep
                have e85 : a'.eval (.tmp 85) = (.bool q84) := hs.eval 12 _ 85 rfl (hdep ⟨12, .data⟩ (by simp) rfl) rfl
                have e90 : a'.eval (.tmp 90) = (if q84 = true then .bool q90 else undef) := hs.eval 17 _ 90 rfl (hdep ⟨17, .data⟩ (by simp) rfl) rfl
                refine g_val (.bool q91) hS rfl ?_ rfl
                cases q84
                · replace e90 := e90.trans (if_neg (by decide))
                  exact (op_pick_f rfl e85 (BigFrame.eval_const a' _)).trans (by rw [← hq91.out]; first | rfl | simp)
                · replace e90 := e90.trans (if_pos rfl)
                  exact (op_pick_t rfl e85 e90).trans (by rw [← hq91.out]; first | rfl | simp)
              · go_light; intro listed a' w' hs hS hun hdep
                have e91 : a'.eval (.tmp 91) = (.bool q91) := hs.eval 18 _ 91 rfl (hdep ⟨18, .data⟩ (by simp) rfl) rfl
                exact g_val (.bool q91) hS rfl (op_move rfl e91) rfl
              · go_light; intro listed a' w' hs hS hun hdep
                have eg : a'.eval (.tmp 92) = (.bool q91) := hs.eval 19 _ 92 rfl (hdep ⟨19, .guard⟩ (by simp) rfl) rfl
                have e7 : a'.eval (.tmp 7) = .pointer (some ⟨w.heap.size + 1, 0, none⟩) := (hs.out 7 (by kernel_rfl)).trans (rfl)
                cases q91
                · exact g_not hS (wanted_no rfl rfl rfl eg (by decide)) rfl
                · refine g_val (.pointer (some ⟨w.heap.size + 1, 4, none⟩)) hS (wanted_yes rfl rfl rfl eg) ?_ rfl
                  have hcn := BigFrame.eval_const a'; have hfn := BigFrame.eval_func a'; clear hs hdep; generalize a'.eval = ev at *; go_simp
              · go_light; intro listed a' w' hs hS hun hdep
                have eg : a'.eval (.tmp 92) = (.bool q91) := hs.eval 19 _ 92 rfl (hdep ⟨19, .guard⟩ (by simp) rfl) rfl
                have e93 : a'.eval (.tmp 93) = (if q91 = true then .pointer (some ⟨w.heap.size + 1, 4, none⟩) else undef) := hs.eval 20 _ 93 rfl (hdep ⟨20, .data⟩ (by simp) rfl) rfl
                cases q91
                · exact g_not hS (wanted_no rfl rfl rfl eg (by decide)) rfl
                · replace e93 := e93.trans (if_pos rfl)
                  exact g_val (.int .i64 adp) hS (wanted_yes rfl rfl rfl eg) (op_ld1 (.int .i64 adp) rfl e93 (O1.out.below hS) 4 (by first | rfl | simp) rfl Try.underlying3 rfl) rfl
              · go_light; intro listed a' w' hs hS hun hdep
                have eg : a'.eval (.tmp 92) = (.bool q91) := hs.eval 19 _ 92 rfl (hdep ⟨19, .guard⟩ (by simp) rfl) rfl
                have e4 : a'.eval (.tmp 4) = .pointer (some ⟨w.heap.size, 0, none⟩) := (hs.out 4 (by kernel_rfl)).trans (rfl)
                cases q91
                · exact g_not hS (wanted_no rfl rfl rfl eg (by decide)) rfl
                · refine g_val (.pointer (some ⟨w.heap.size, 10, none⟩)) hS (wanted_yes rfl rfl rfl eg) ?_ rfl
                  have hcn := BigFrame.eval_const a'; have hfn := BigFrame.eval_func a'; clear hs hdep; generalize a'.eval = ev at *; go_simp
              · go_light; intro listed a' w' hs hS hun hdep
                have eg : a'.eval (.tmp 92) = (.bool q91) := hs.eval 19 _ 92 rfl (hdep ⟨19, .guard⟩ (by simp) rfl) rfl
                have e95 : a'.eval (.tmp 95) = (if q91 = true then .pointer (some ⟨w.heap.size, 10, none⟩) else undef) := hs.eval 22 _ 95 rfl (hdep ⟨22, .data⟩ (by simp) rfl) rfl
                cases q91
                · exact g_not hS (wanted_no rfl rfl rfl eg (by decide)) rfl
                · replace e95 := e95.trans (if_pos rfl)
                  exact g_val (.int .i64 dhi) hS (wanted_yes rfl rfl rfl eg) (op_ld1 (.int .i64 dhi) rfl e95 (O0.out.below hS) 10 (by first | rfl | simp) rfl Try.underlying3 rfl) rfl
              · go_light; intro listed a' w' hs hS hun hdep
                have eg : a'.eval (.tmp 92) = (.bool q91) := hs.eval 19 _ 92 rfl (hdep ⟨19, .guard⟩ (by simp) rfl) rfl
                have e94 : a'.eval (.tmp 94) = (if q91 = true then .int .i64 adp else undef) := hs.eval 21 _ 94 rfl (hdep ⟨21, .data⟩ (by simp) rfl) rfl
                have e96 : a'.eval (.tmp 96) = (if q91 = true then .int .i64 dhi else undef) := hs.eval 23 _ 96 rfl (hdep ⟨23, .data⟩ (by simp) rfl) rfl
                cases q91
                · exact g_not hS (wanted_no rfl rfl rfl eg (by decide)) rfl
                · replace e94 := e94.trans (if_pos rfl)
                  replace e96 := e96.trans (if_pos rfl)
                  refine g_val (.bool q97) hS (wanted_yes rfl rfl rfl eg) ?_ rfl
                  rw [← hq97.out]
                  have hcn := BigFrame.eval_const a'; have hfn := BigFrame.eval_func a'; clear hs hdep; generalize a'.eval = ev at *; go_simp; try rfl
              · go_light; intro listed a' w' hs hS hun hdep
                have e92 : a'.eval (.tmp 92) = (.bool q91) := hs.eval 19 _ 92 rfl (hdep ⟨19, .data⟩ (by simp) rfl) rfl
                have e97 : a'.eval (.tmp 97) = (if q91 = true then .bool q97 else undef) := hs.eval 24 _ 97 rfl (hdep ⟨24, .data⟩ (by simp) rfl) rfl
                refine g_val (.bool q98) hS rfl ?_ rfl
                cases q91
                · replace e97 := e97.trans (if_neg (by decide))
                  exact (op_pick_f rfl e92 (BigFrame.eval_const a' _)).trans (by rw [← hq98.out]; first | rfl | simp)
                · replace e97 := e97.trans (if_pos rfl)
                  exact (op_pick_t rfl e92 e97).trans (by rw [← hq98.out]; first | rfl | simp)
              · intro vs w6 hlen hV hS
                obtain ⟨v0, v1, v2, v3, v4, v5, v6, v7, v8, v9, v10, v11, v12, v13, v14, v15, v16, v17, v18, v19, v20, v21, v22, v23, v24, v25, rfl⟩ := vs_26 vs (hlen.trans rfl)
                have q0 : v0 = .pointer (some ⟨w.heap.size + 1, 3, none⟩) := hV 0 _ rfl
                have q1 : v1 = .int .i64 asp := hV 1 _ rfl
                have q2 : v2 = .pointer (some ⟨w.heap.size, 7, none⟩) := hV 2 _ rfl
                have q3 : v3 = .int .i64 slo := hV 3 _ rfl
                have q4 : v4 = .bool q77 := hV 4 _ rfl
                have q5 : v5 = .bool q77 := hV 5 _ rfl
                have q11 : v11 = .bool q84 := hV 11 _ rfl
                have q12 : v12 = .bool q84 := hV 12 _ rfl
                have q18 : v18 = .bool q91 := hV 18 _ rfl
                have q19 : v19 = .bool q91 := hV 19 _ rfl
                have q25 : v25 = .bool q98 := hV 25 _ rfl
                have hbel : Below w5.heap.size w5 w6 := hS
                subst q0 q1 q2 q3 q4 q5 q11 q12 q18 q19 q25
                clear hV hS hlen
                simp only [lays, Act.put, List.setIfInBounds_toArray, List.set_cons_zero, List.set_cons_succ, List.drop_succ_cons, List.drop_zero, List.take_succ_cons, List.take_zero]
                go_wp2
                go_ret
                exact ⟨by rw [HM1.out]; simp only [Bool.false_or, Bool.not_false, Bool.true_and]; rw [← hq98.out, ← hq97.out, ← hq91.out, ← hq90.out, ← hq84.out, ← hq83.out, ← hq77.out]; rfl, hb5.trans (hbel.mono hb5.size)⟩
            · go_wp2
              go_ret
              exact ⟨by rw [HM1.out]; rfl, hb5⟩
        · go_wp2
          go_ret
          exact ⟨by rw [HM1.out]; rfl, hb4⟩
    · go_wp2
      go_ret
      exact ⟨by rw [HM1.out]; rfl, hb3⟩
#print axioms refm_any
end Go.Proofs.Ytagfcfkkjllfpaa
