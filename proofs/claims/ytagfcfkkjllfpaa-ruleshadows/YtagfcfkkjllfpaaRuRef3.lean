/- The document's answer: which rule covers which. -/
import Derived.Test.YtagfcfkkjllfpaaRuRef
namespace Go.Proofs.Ytagfcfkkjllfpaa
open Go.RowKit
set_option maxRecDepth 100000
set_option linter.unusedVariables false
open U

-- REGIONS

set_option maxHeartbeats 16000000 in
theorem refcov_any (r s : Ru) (w : World) (hr : r.fine) (hs : s.fine) : Calls Try.prog 19 #[.agg r.v.toArray, .agg s.v.toArray] w fun e w' => e = .returned (.bool (cov r s)) ∧ Below w.heap.size w w' := by
  have HM := Lib.hid (cov_steps r s)
  obtain ⟨i, o, sa, sb, da, db, p, slo, shi, dlo, dhi, al⟩ := r
  obtain ⟨i2, o2, sa2, sb2, da2, db2, p2, slo2, shi2, dlo2, dhi2, al2⟩ := s
  have Hsa := Lib.hid hr.1
  have Hda := Lib.hid hr.2
  have Hsa2 := Lib.hid hs.1
  have Hda2 := Lib.hid hs.2
  simp only [Ru.v] at *
  clear hr hs
  go_enter Try.func19, Try.ntmps19
  go_upto_region 1 with fail
  have hb0 : Below w.heap.size w ((w.alloc (.cells #[.int .i64 i, .int .i64 o, .int .u32 sa, .int .i64 sb, .int .u32 da, .int .i64 db, .int .i64 p, .int .i64 slo, .int .i64 shi, .int .i64 dlo, .int .i64 dhi, .bool al] 34)).alloc (.cells #[.int .i64 i2, .int .i64 o2, .int .u32 sa2, .int .i64 sb2, .int .u32 da2, .int .i64 db2, .int .i64 p2, .int .i64 slo2, .int .i64 shi2, .int .i64 dlo2, .int .i64 dhi2, .bool al2] 34)) := below2 w _ _
  have L0 : Hid (Lies ((w.alloc (.cells #[.int .i64 i, .int .i64 o, .int .u32 sa, .int .i64 sb, .int .u32 da, .int .i64 db, .int .i64 p, .int .i64 slo, .int .i64 shi, .int .i64 dlo, .int .i64 dhi, .bool al] 34)).alloc (.cells #[.int .i64 i2, .int .i64 o2, .int .u32 sa2, .int .i64 sb2, .int .u32 da2, .int .i64 db2, .int .i64 p2, .int .i64 slo2, .int .i64 shi2, .int .i64 dlo2, .int .i64 dhi2, .bool al2] 34)) w.heap.size 0 [.int .i64 i, .int .i64 o, .int .u32 sa, .int .i64 sb, .int .u32 da, .int .i64 db, .int .i64 p, .int .i64 slo, .int .i64 shi, .int .i64 dlo, .int .i64 dhi, .bool al]) := Lib.hid ((Lies.new w [.int .i64 i, .int .i64 o, .int .u32 sa, .int .i64 sb, .int .u32 da, .int .i64 db, .int .i64 p, .int .i64 slo, .int .i64 shi, .int .i64 dlo, .int .i64 dhi, .bool al] _).alloc _)
  have L1 : Hid (Lies ((w.alloc (.cells #[.int .i64 i, .int .i64 o, .int .u32 sa, .int .i64 sb, .int .u32 da, .int .i64 db, .int .i64 p, .int .i64 slo, .int .i64 shi, .int .i64 dlo, .int .i64 dhi, .bool al] 34)).alloc (.cells #[.int .i64 i2, .int .i64 o2, .int .u32 sa2, .int .i64 sb2, .int .u32 da2, .int .i64 db2, .int .i64 p2, .int .i64 slo2, .int .i64 shi2, .int .i64 dlo2, .int .i64 dhi2, .bool al2] 34)) (w.heap.size + 1) 0 [.int .i64 i2, .int .i64 o2, .int .u32 sa2, .int .i64 sb2, .int .u32 da2, .int .i64 db2, .int .i64 p2, .int .i64 slo2, .int .i64 shi2, .int .i64 dlo2, .int .i64 dhi2, .bool al2]) := Lib.hid (Lies.newAt (by simp))
  generalize ((w.alloc (.cells #[.int .i64 i, .int .i64 o, .int .u32 sa, .int .i64 sb, .int .u32 da, .int .i64 db, .int .i64 p, .int .i64 slo, .int .i64 shi, .int .i64 dlo, .int .i64 dhi, .bool al] 34)).alloc (.cells #[.int .i64 i2, .int .i64 o2, .int .u32 sa2, .int .i64 sb2, .int .u32 da2, .int .i64 db2, .int .i64 p2, .int .i64 slo2, .int .i64 shi2, .int .i64 dlo2, .int .i64 dhi2, .bool al2] 34)) = W0 at *
  obtain ⟨m6, hm6⟩ : ∃ x, (((⟨i, o, sa, sb, da, db, p, slo, shi, dlo, dhi, al⟩ : Ru).ok)) = x := ⟨_, rfl⟩
  replace hm6 := Lib.hid hm6
  have C6 := Lib.hid (fun (w' : World) (hb : Below W0.heap.size W0 w') => show Calls Try.prog 12 #[.agg #[.int .i64 i, .int .i64 o, .int .u32 sa, .int .i64 sb, .int .u32 da, .int .i64 db, .int .i64 p, .int .i64 slo, .int .i64 shi, .int .i64 dlo, .int .i64 dhi, .bool al]] w' (fun e w'' => e = .returned (.bool m6) ∧ Below w'.heap.size w' w'') from (by rw [← hm6.out]; exact refok_any ⟨i, o, sa, sb, da, db, p, slo, shi, dlo, dhi, al⟩ w' Hsa.out Hda.out))
  obtain ⟨m7, hm7⟩ : ∃ x, (!m6) = x := ⟨_, rfl⟩
  replace hm7 := Lib.hid hm7
  obtain ⟨m10, hm10⟩ : ∃ x, (((⟨i2, o2, sa2, sb2, da2, db2, p2, slo2, shi2, dlo2, dhi2, al2⟩ : Ru).ok)) = x := ⟨_, rfl⟩
  replace hm10 := Lib.hid hm10
  have C10 := Lib.hid (fun (w' : World) (hb : Below W0.heap.size W0 w') => show Calls Try.prog 12 #[.agg #[.int .i64 i2, .int .i64 o2, .int .u32 sa2, .int .i64 sb2, .int .u32 da2, .int .i64 db2, .int .i64 p2, .int .i64 slo2, .int .i64 shi2, .int .i64 dlo2, .int .i64 dhi2, .bool al2]] w' (fun e w'' => e = .returned (.bool m10) ∧ Below w'.heap.size w' w'') from (by rw [← hm10.out]; exact refok_any ⟨i2, o2, sa2, sb2, da2, db2, p2, slo2, shi2, dlo2, dhi2, al2⟩ w' Hsa2.out Hda2.out))
  obtain ⟨m11, hm11⟩ : ∃ x, (!m10) = x := ⟨_, rfl⟩
  replace hm11 := Lib.hid hm11
  obtain ⟨m12, hm12⟩ : ∃ x, (m7 || m11) = x := ⟨_, rfl⟩
  replace hm12 := Lib.hid hm12
  obtain ⟨m18, hm18⟩ : ∃ x, (fits i i2) = x := ⟨_, rfl⟩
  replace hm18 := Lib.hid hm18
  have C18 := Lib.hid (fun (w' : World) (hb : Below W0.heap.size W0 w') => show Calls Try.prog 40 #[.int .i64 i, .int .i64 i2] w' (fun e w'' => e = .returned (.bool m18) ∧ Below w'.heap.size w' w'') from (by rw [← hm18.out]; exact same_below (wide_any i i2 w')))
  obtain ⟨m19, hm19⟩ : ∃ x, (!m18) = x := ⟨_, rfl⟩
  replace hm19 := Lib.hid hm19
  obtain ⟨m20, hm20⟩ : ∃ x, (m12 || m19) = x := ⟨_, rfl⟩
  replace hm20 := Lib.hid hm20
  obtain ⟨m26, hm26⟩ : ∃ x, (fits o o2) = x := ⟨_, rfl⟩
  replace hm26 := Lib.hid hm26
  have C26 := Lib.hid (fun (w' : World) (hb : Below W0.heap.size W0 w') => show Calls Try.prog 40 #[.int .i64 o, .int .i64 o2] w' (fun e w'' => e = .returned (.bool m26) ∧ Below w'.heap.size w' w'') from (by rw [← hm26.out]; exact same_below (wide_any o o2 w')))
  obtain ⟨m27, hm27⟩ : ∃ x, (!m26) = x := ⟨_, rfl⟩
  replace hm27 := Lib.hid hm27
  obtain ⟨m28, hm28⟩ : ∃ x, (m20 || m27) = x := ⟨_, rfl⟩
  replace hm28 := Lib.hid hm28
  obtain ⟨m34, hm34⟩ : ∃ x, (fits p p2) = x := ⟨_, rfl⟩
  replace hm34 := Lib.hid hm34
  have C34 := Lib.hid (fun (w' : World) (hb : Below W0.heap.size W0 w') => show Calls Try.prog 40 #[.int .i64 p, .int .i64 p2] w' (fun e w'' => e = .returned (.bool m34) ∧ Below w'.heap.size w' w'') from (by rw [← hm34.out]; exact same_below (wide_any p p2 w')))
  obtain ⟨m35, hm35⟩ : ∃ x, (!m34) = x := ⟨_, rfl⟩
  replace hm35 := Lib.hid hm35
  obtain ⟨m36, hm36⟩ : ∃ x, (m28 || m35) = x := ⟨_, rfl⟩
  replace hm36 := Lib.hid hm36
  refine region_seq 32 (VG W0.heap.size [.val (.agg #[.int .i64 i, .int .i64 o, .int .u32 sa, .int .i64 sb, .int .u32 da, .int .i64 db, .int .i64 p, .int .i64 slo, .int .i64 shi, .int .i64 dlo, .int .i64 dhi, .bool al]), .val (.bool m6), .val (.bool m7), .val (.bool m7), .val (if m7 = false then .agg #[.int .i64 i2, .int .i64 o2, .int .u32 sa2, .int .i64 sb2, .int .u32 da2, .int .i64 db2, .int .i64 p2, .int .i64 slo2, .int .i64 shi2, .int .i64 dlo2, .int .i64 dhi2, .bool al2] else undef), .val (if m7 = false then .bool m10 else undef), .val (if m7 = false then .bool m11 else undef), .val (.bool m12), .val (.bool m12), .val (if m12 = false then .pointer (some ⟨w.heap.size, 0, none⟩) else undef), .val (if m12 = false then .int .i64 i else undef), .val (if m12 = false then .pointer (some ⟨w.heap.size + 1, 0, none⟩) else undef), .val (if m12 = false then .int .i64 i2 else undef), .val (if m12 = false then .bool m18 else undef), .val (if m12 = false then .bool m19 else undef), .val (.bool m20), .val (.bool m20), .val (if m20 = false then .pointer (some ⟨w.heap.size, 1, none⟩) else undef), .val (if m20 = false then .int .i64 o else undef), .val (if m20 = false then .pointer (some ⟨w.heap.size + 1, 1, none⟩) else undef), .val (if m20 = false then .int .i64 o2 else undef), .val (if m20 = false then .bool m26 else undef), .val (if m20 = false then .bool m27 else undef), .val (.bool m28), .val (.bool m28), .val (if m28 = false then .pointer (some ⟨w.heap.size, 6, none⟩) else undef), .val (if m28 = false then .int .i64 p else undef), .val (if m28 = false then .pointer (some ⟨w.heap.size + 1, 6, none⟩) else undef), .val (if m28 = false then .int .i64 p2 else undef), .val (if m28 = false then .bool m34 else undef), .val (if m28 = false then .bool m35 else undef), .val (.bool m36)]) (BS W0) (by kernel_rfl) (Below.refl _ _) ⟨?_, ?_, ?_, ?_, ?_, ?_, ?_, ?_, ?_, ?_, ?_, ?_, ?_, ?_, ?_, ?_, ?_, ?_, ?_, ?_, ?_, ?_, ?_, ?_, ?_, ?_, ?_, ?_, ?_, ?_, ?_, ?_, trivial⟩ ?_
  · go_light; intro listed a' w' hs hS hun hdep
    have e2 : a'.eval (.tmp 2) = .pointer (some ⟨w.heap.size, 0, none⟩) := (hs.out 2 (by kernel_rfl)).trans (rfl)
    exact g_val (.agg #[.int .i64 i, .int .i64 o, .int .u32 sa, .int .i64 sb, .int .u32 da, .int .i64 db, .int .i64 p, .int .i64 slo, .int .i64 shi, .int .i64 dlo, .int .i64 dhi, .bool al]) hS rfl (op_ld [.int .i64 i, .int .i64 o, .int .u32 sa, .int .i64 sb, .int .u32 da, .int .i64 db, .int .i64 p, .int .i64 slo, .int .i64 shi, .int .i64 dlo, .int .i64 dhi, .bool al] rfl e2 (L0.out.below hS) 0 (by first | rfl | simp) rfl Try.underlying34 rfl (by kernel_rfl)) rfl
  · go_light; intro listed a' w' hs hS hun hdep
    have e5 : a'.eval (.tmp 5) = (.agg #[.int .i64 i, .int .i64 o, .int .u32 sa, .int .i64 sb, .int .u32 da, .int .i64 db, .int .i64 p, .int .i64 slo, .int .i64 shi, .int .i64 dlo, .int .i64 dhi, .bool al]) := hs.eval 0 _ 5 rfl (hdep ⟨0, .data⟩ (by simp) rfl) rfl
    refine g_call 12 #[.agg #[.int .i64 i, .int .i64 o, .int .u32 sa, .int .i64 sb, .int .u32 da, .int .i64 db, .int .i64 p, .int .i64 slo, .int .i64 shi, .int .i64 dlo, .int .i64 dhi, .bool al]] hS rfl ?_ ?_
    · have hcn := BigFrame.eval_const a'; have hfn := BigFrame.eval_func a'; clear hs hdep; generalize a'.eval = ev at *; go_simp
    · exact c_val (C6.out w' hS) rfl
  · go_light; intro listed a' w' hs hS hun hdep
    have e6 : a'.eval (.tmp 6) = (.bool m6) := hs.eval 1 _ 6 rfl (hdep ⟨1, .data⟩ (by simp) rfl) rfl
    exact g_val (.bool m7) hS rfl ((op_not rfl e6).trans (by rw [hm7.out])) rfl
  · go_light; intro listed a' w' hs hS hun hdep
    have e7 : a'.eval (.tmp 7) = (.bool m7) := hs.eval 2 _ 7 rfl (hdep ⟨2, .data⟩ (by simp) rfl) rfl
    exact g_val (.bool m7) hS rfl (op_move rfl e7) rfl
  · go_light; intro listed a' w' hs hS hun hdep
    have eg : a'.eval (.tmp 8) = (.bool m7) := hs.eval 3 _ 8 rfl (hdep ⟨3, .guard⟩ (by simp) rfl) rfl
    have e3 : a'.eval (.tmp 3) = .pointer (some ⟨w.heap.size + 1, 0, none⟩) := (hs.out 3 (by kernel_rfl)).trans (rfl)
    cases m7
    · exact g_val (.agg #[.int .i64 i2, .int .i64 o2, .int .u32 sa2, .int .i64 sb2, .int .u32 da2, .int .i64 db2, .int .i64 p2, .int .i64 slo2, .int .i64 shi2, .int .i64 dlo2, .int .i64 dhi2, .bool al2]) hS (wanted_yes rfl rfl rfl eg) (op_ld [.int .i64 i2, .int .i64 o2, .int .u32 sa2, .int .i64 sb2, .int .u32 da2, .int .i64 db2, .int .i64 p2, .int .i64 slo2, .int .i64 shi2, .int .i64 dlo2, .int .i64 dhi2, .bool al2] rfl e3 (L1.out.below hS) 0 (by first | rfl | simp) rfl Try.underlying34 rfl (by kernel_rfl)) rfl
    · exact g_not hS (wanted_no rfl rfl rfl eg (by decide)) rfl
  · go_light; intro listed a' w' hs hS hun hdep
    have eg : a'.eval (.tmp 8) = (.bool m7) := hs.eval 3 _ 8 rfl (hdep ⟨3, .guard⟩ (by simp) rfl) rfl
    have e9 : a'.eval (.tmp 9) = (if m7 = false then .agg #[.int .i64 i2, .int .i64 o2, .int .u32 sa2, .int .i64 sb2, .int .u32 da2, .int .i64 db2, .int .i64 p2, .int .i64 slo2, .int .i64 shi2, .int .i64 dlo2, .int .i64 dhi2, .bool al2] else undef) := hs.eval 4 _ 9 rfl (hdep ⟨4, .data⟩ (by simp) rfl) rfl
    cases m7
    · replace e9 := e9.trans (if_pos rfl)
      refine g_call 12 #[.agg #[.int .i64 i2, .int .i64 o2, .int .u32 sa2, .int .i64 sb2, .int .u32 da2, .int .i64 db2, .int .i64 p2, .int .i64 slo2, .int .i64 shi2, .int .i64 dlo2, .int .i64 dhi2, .bool al2]] hS (wanted_yes rfl rfl rfl eg) ?_ ?_
      · have hcn := BigFrame.eval_const a'; have hfn := BigFrame.eval_func a'; clear hs hdep; generalize a'.eval = ev at *; go_simp
      · exact c_val (C10.out w' hS) rfl
    · exact g_not hS (wanted_no rfl rfl rfl eg (by decide)) rfl
  · go_light; intro listed a' w' hs hS hun hdep
    have eg : a'.eval (.tmp 8) = (.bool m7) := hs.eval 3 _ 8 rfl (hdep ⟨3, .guard⟩ (by simp) rfl) rfl
    have e10 : a'.eval (.tmp 10) = (if m7 = false then .bool m10 else undef) := hs.eval 5 _ 10 rfl (hdep ⟨5, .data⟩ (by simp) rfl) rfl
    cases m7
    · replace e10 := e10.trans (if_pos rfl)
      exact g_val (.bool m11) hS (wanted_yes rfl rfl rfl eg) ((op_not rfl e10).trans (by rw [hm11.out])) rfl
    · exact g_not hS (wanted_no rfl rfl rfl eg (by decide)) rfl
  · go_light; intro listed a' w' hs hS hun hdep
    have e8 : a'.eval (.tmp 8) = (.bool m7) := hs.eval 3 _ 8 rfl (hdep ⟨3, .data⟩ (by simp) rfl) rfl
    have e11 : a'.eval (.tmp 11) = (if m7 = false then .bool m11 else undef) := hs.eval 6 _ 11 rfl (hdep ⟨6, .data⟩ (by simp) rfl) rfl
    refine g_val (.bool m12) hS rfl ?_ rfl
    cases m7
    · replace e11 := e11.trans (if_pos rfl)
      exact (op_pick_f rfl e8 e11).trans (by rw [← hm12.out]; first | rfl | simp)
    · replace e11 := e11.trans (if_neg (by decide))
      exact (op_pick_t rfl e8 (BigFrame.eval_const a' _)).trans (by rw [← hm12.out]; first | rfl | simp)
  · go_light; intro listed a' w' hs hS hun hdep
    have e12 : a'.eval (.tmp 12) = (.bool m12) := hs.eval 7 _ 12 rfl (hdep ⟨7, .data⟩ (by simp) rfl) rfl
    exact g_val (.bool m12) hS rfl (op_move rfl e12) rfl
  · go_light; intro listed a' w' hs hS hun hdep
    have eg : a'.eval (.tmp 13) = (.bool m12) := hs.eval 8 _ 13 rfl (hdep ⟨8, .guard⟩ (by simp) rfl) rfl
    have e2 : a'.eval (.tmp 2) = .pointer (some ⟨w.heap.size, 0, none⟩) := (hs.out 2 (by kernel_rfl)).trans (rfl)
    cases m12
    · refine g_val (.pointer (some ⟨w.heap.size, 0, none⟩)) hS (wanted_yes rfl rfl rfl eg) ?_ rfl
      have hcn := BigFrame.eval_const a'; have hfn := BigFrame.eval_func a'; clear hs hdep; generalize a'.eval = ev at *; go_simp
    · exact g_not hS (wanted_no rfl rfl rfl eg (by decide)) rfl
  · go_light; intro listed a' w' hs hS hun hdep
    have eg : a'.eval (.tmp 13) = (.bool m12) := hs.eval 8 _ 13 rfl (hdep ⟨8, .guard⟩ (by simp) rfl) rfl
    have e14 : a'.eval (.tmp 14) = (if m12 = false then .pointer (some ⟨w.heap.size, 0, none⟩) else undef) := hs.eval 9 _ 14 rfl (hdep ⟨9, .data⟩ (by simp) rfl) rfl
    cases m12
    · replace e14 := e14.trans (if_pos rfl)
      exact g_val (.int .i64 i) hS (wanted_yes rfl rfl rfl eg) (op_ld1 (.int .i64 i) rfl e14 (L0.out.below hS) 0 (by first | rfl | simp) rfl Try.underlying3 rfl) rfl
    · exact g_not hS (wanted_no rfl rfl rfl eg (by decide)) rfl
  · go_light; intro listed a' w' hs hS hun hdep
    have eg : a'.eval (.tmp 13) = (.bool m12) := hs.eval 8 _ 13 rfl (hdep ⟨8, .guard⟩ (by simp) rfl) rfl
    have e3 : a'.eval (.tmp 3) = .pointer (some ⟨w.heap.size + 1, 0, none⟩) := (hs.out 3 (by kernel_rfl)).trans (rfl)
    cases m12
    · refine g_val (.pointer (some ⟨w.heap.size + 1, 0, none⟩)) hS (wanted_yes rfl rfl rfl eg) ?_ rfl
      have hcn := BigFrame.eval_const a'; have hfn := BigFrame.eval_func a'; clear hs hdep; generalize a'.eval = ev at *; go_simp
    · exact g_not hS (wanted_no rfl rfl rfl eg (by decide)) rfl
  · go_light; intro listed a' w' hs hS hun hdep
    have eg : a'.eval (.tmp 13) = (.bool m12) := hs.eval 8 _ 13 rfl (hdep ⟨8, .guard⟩ (by simp) rfl) rfl
    have e16 : a'.eval (.tmp 16) = (if m12 = false then .pointer (some ⟨w.heap.size + 1, 0, none⟩) else undef) := hs.eval 11 _ 16 rfl (hdep ⟨11, .data⟩ (by simp) rfl) rfl
    cases m12
    · replace e16 := e16.trans (if_pos rfl)
      exact g_val (.int .i64 i2) hS (wanted_yes rfl rfl rfl eg) (op_ld1 (.int .i64 i2) rfl e16 (L1.out.below hS) 0 (by first | rfl | simp) rfl Try.underlying3 rfl) rfl
    · exact g_not hS (wanted_no rfl rfl rfl eg (by decide)) rfl
  · go_light; intro listed a' w' hs hS hun hdep
    have eg : a'.eval (.tmp 13) = (.bool m12) := hs.eval 8 _ 13 rfl (hdep ⟨8, .guard⟩ (by simp) rfl) rfl
    have e15 : a'.eval (.tmp 15) = (if m12 = false then .int .i64 i else undef) := hs.eval 10 _ 15 rfl (hdep ⟨10, .data⟩ (by simp) rfl) rfl
    have e17 : a'.eval (.tmp 17) = (if m12 = false then .int .i64 i2 else undef) := hs.eval 12 _ 17 rfl (hdep ⟨12, .data⟩ (by simp) rfl) rfl
    cases m12
    · replace e15 := e15.trans (if_pos rfl)
      replace e17 := e17.trans (if_pos rfl)
      refine g_call 40 #[.int .i64 i, .int .i64 i2] hS (wanted_yes rfl rfl rfl eg) ?_ ?_
      · have hcn := BigFrame.eval_const a'; have hfn := BigFrame.eval_func a'; clear hs hdep; generalize a'.eval = ev at *; go_simp
      · exact c_val (C18.out w' hS) rfl
    · exact g_not hS (wanted_no rfl rfl rfl eg (by decide)) rfl
  · go_light; intro listed a' w' hs hS hun hdep
    have eg : a'.eval (.tmp 13) = (.bool m12) := hs.eval 8 _ 13 rfl (hdep ⟨8, .guard⟩ (by simp) rfl) rfl
    have e18 : a'.eval (.tmp 18) = (if m12 = false then .bool m18 else undef) := hs.eval 13 _ 18 rfl (hdep ⟨13, .data⟩ (by simp) rfl) rfl
    cases m12
    · replace e18 := e18.trans (if_pos rfl)
      exact g_val (.bool m19) hS (wanted_yes rfl rfl rfl eg) ((op_not rfl e18).trans (by rw [hm19.out])) rfl
    · exact g_not hS (wanted_no rfl rfl rfl eg (by decide)) rfl
  · go_light; intro listed a' w' hs hS hun hdep
    have e13 : a'.eval (.tmp 13) = (.bool m12) := hs.eval 8 _ 13 rfl (hdep ⟨8, .data⟩ (by simp) rfl) rfl
    have e19 : a'.eval (.tmp 19) = (if m12 = false then .bool m19 else undef) := hs.eval 14 _ 19 rfl (hdep ⟨14, .data⟩ (by simp) rfl) rfl
    refine g_val (.bool m20) hS rfl ?_ rfl
    cases m12
    · replace e19 := e19.trans (if_pos rfl)
      exact (op_pick_f rfl e13 e19).trans (by rw [← hm20.out]; first | rfl | simp)
    · replace e19 := e19.trans (if_neg (by decide))
      exact (op_pick_t rfl e13 (BigFrame.eval_const a' _)).trans (by rw [← hm20.out]; first | rfl | simp)
  · go_light; intro listed a' w' hs hS hun hdep
    have e20 : a'.eval (.tmp 20) = (.bool m20) := hs.eval 15 _ 20 rfl (hdep ⟨15, .data⟩ (by simp) rfl) rfl
    exact g_val (.bool m20) hS rfl (op_move rfl e20) rfl
  · go_light; intro listed a' w' hs hS hun hdep
    have eg : a'.eval (.tmp 21) = (.bool m20) := hs.eval 16 _ 21 rfl (hdep ⟨16, .guard⟩ (by simp) rfl) rfl
    have e2 : a'.eval (.tmp 2) = .pointer (some ⟨w.heap.size, 0, none⟩) := (hs.out 2 (by kernel_rfl)).trans (rfl)
    cases m20
    · refine g_val (.pointer (some ⟨w.heap.size, 1, none⟩)) hS (wanted_yes rfl rfl rfl eg) ?_ rfl
      have hcn := BigFrame.eval_const a'; have hfn := BigFrame.eval_func a'; clear hs hdep; generalize a'.eval = ev at *; go_simp
    · exact g_not hS (wanted_no rfl rfl rfl eg (by decide)) rfl
  · go_light; intro listed a' w' hs hS hun hdep
    have eg : a'.eval (.tmp 21) = (.bool m20) := hs.eval 16 _ 21 rfl (hdep ⟨16, .guard⟩ (by simp) rfl) rfl
    have e22 : a'.eval (.tmp 22) = (if m20 = false then .pointer (some ⟨w.heap.size, 1, none⟩) else undef) := hs.eval 17 _ 22 rfl (hdep ⟨17, .data⟩ (by simp) rfl) rfl
    cases m20
    · replace e22 := e22.trans (if_pos rfl)
      exact g_val (.int .i64 o) hS (wanted_yes rfl rfl rfl eg) (op_ld1 (.int .i64 o) rfl e22 (L0.out.below hS) 1 (by first | rfl | simp) rfl Try.underlying3 rfl) rfl
    · exact g_not hS (wanted_no rfl rfl rfl eg (by decide)) rfl
  · go_light; intro listed a' w' hs hS hun hdep
    have eg : a'.eval (.tmp 21) = (.bool m20) := hs.eval 16 _ 21 rfl (hdep ⟨16, .guard⟩ (by simp) rfl) rfl
    have e3 : a'.eval (.tmp 3) = .pointer (some ⟨w.heap.size + 1, 0, none⟩) := (hs.out 3 (by kernel_rfl)).trans (rfl)
    cases m20
    · refine g_val (.pointer (some ⟨w.heap.size + 1, 1, none⟩)) hS (wanted_yes rfl rfl rfl eg) ?_ rfl
      have hcn := BigFrame.eval_const a'; have hfn := BigFrame.eval_func a'; clear hs hdep; generalize a'.eval = ev at *; go_simp
    · exact g_not hS (wanted_no rfl rfl rfl eg (by decide)) rfl
  · go_light; intro listed a' w' hs hS hun hdep
    have eg : a'.eval (.tmp 21) = (.bool m20) := hs.eval 16 _ 21 rfl (hdep ⟨16, .guard⟩ (by simp) rfl) rfl
    have e24 : a'.eval (.tmp 24) = (if m20 = false then .pointer (some ⟨w.heap.size + 1, 1, none⟩) else undef) := hs.eval 19 _ 24 rfl (hdep ⟨19, .data⟩ (by simp) rfl) rfl
    cases m20
    · replace e24 := e24.trans (if_pos rfl)
      exact g_val (.int .i64 o2) hS (wanted_yes rfl rfl rfl eg) (op_ld1 (.int .i64 o2) rfl e24 (L1.out.below hS) 1 (by first | rfl | simp) rfl Try.underlying3 rfl) rfl
    · exact g_not hS (wanted_no rfl rfl rfl eg (by decide)) rfl
  · go_light; intro listed a' w' hs hS hun hdep
    have eg : a'.eval (.tmp 21) = (.bool m20) := hs.eval 16 _ 21 rfl (hdep ⟨16, .guard⟩ (by simp) rfl) rfl
    have e23 : a'.eval (.tmp 23) = (if m20 = false then .int .i64 o else undef) := hs.eval 18 _ 23 rfl (hdep ⟨18, .data⟩ (by simp) rfl) rfl
    have e25 : a'.eval (.tmp 25) = (if m20 = false then .int .i64 o2 else undef) := hs.eval 20 _ 25 rfl (hdep ⟨20, .data⟩ (by simp) rfl) rfl
    cases m20
    · replace e23 := e23.trans (if_pos rfl)
      replace e25 := e25.trans (if_pos rfl)
      refine g_call 40 #[.int .i64 o, .int .i64 o2] hS (wanted_yes rfl rfl rfl eg) ?_ ?_
      · have hcn := BigFrame.eval_const a'; have hfn := BigFrame.eval_func a'; clear hs hdep; generalize a'.eval = ev at *; go_simp
      · exact c_val (C26.out w' hS) rfl
    · exact g_not hS (wanted_no rfl rfl rfl eg (by decide)) rfl
  · go_light; intro listed a' w' hs hS hun hdep
    have eg : a'.eval (.tmp 21) = (.bool m20) := hs.eval 16 _ 21 rfl (hdep ⟨16, .guard⟩ (by simp) rfl) rfl
    have e26 : a'.eval (.tmp 26) = (if m20 = false then .bool m26 else undef) := hs.eval 21 _ 26 rfl (hdep ⟨21, .data⟩ (by simp) rfl) rfl
    cases m20
    · replace e26 := e26.trans (if_pos rfl)
      exact g_val (.bool m27) hS (wanted_yes rfl rfl rfl eg) ((op_not rfl e26).trans (by rw [hm27.out])) rfl
    · exact g_not hS (wanted_no rfl rfl rfl eg (by decide)) rfl
  · go_light; intro listed a' w' hs hS hun hdep
    have e21 : a'.eval (.tmp 21) = (.bool m20) := hs.eval 16 _ 21 rfl (hdep ⟨16, .data⟩ (by simp) rfl) rfl
    have e27 : a'.eval (.tmp 27) = (if m20 = false then .bool m27 else undef) := hs.eval 22 _ 27 rfl (hdep ⟨22, .data⟩ (by simp) rfl) rfl
    refine g_val (.bool m28) hS rfl ?_ rfl
    cases m20
    · replace e27 := e27.trans (if_pos rfl)
      exact (op_pick_f rfl e21 e27).trans (by rw [← hm28.out]; first | rfl | simp)
    · replace e27 := e27.trans (if_neg (by decide))
      exact (op_pick_t rfl e21 (BigFrame.eval_const a' _)).trans (by rw [← hm28.out]; first | rfl | simp)
  · go_light; intro listed a' w' hs hS hun hdep
    have e28 : a'.eval (.tmp 28) = (.bool m28) := hs.eval 23 _ 28 rfl (hdep ⟨23, .data⟩ (by simp) rfl) rfl
    exact g_val (.bool m28) hS rfl (op_move rfl e28) rfl
  · go_light; intro listed a' w' hs hS hun hdep
    have eg : a'.eval (.tmp 29) = (.bool m28) := hs.eval 24 _ 29 rfl (hdep ⟨24, .guard⟩ (by simp) rfl) rfl
    have e2 : a'.eval (.tmp 2) = .pointer (some ⟨w.heap.size, 0, none⟩) := (hs.out 2 (by kernel_rfl)).trans (rfl)
    cases m28
    · refine g_val (.pointer (some ⟨w.heap.size, 6, none⟩)) hS (wanted_yes rfl rfl rfl eg) ?_ rfl
      have hcn := BigFrame.eval_const a'; have hfn := BigFrame.eval_func a'; clear hs hdep; generalize a'.eval = ev at *; go_simp
    · exact g_not hS (wanted_no rfl rfl rfl eg (by decide)) rfl
  · go_light; intro listed a' w' hs hS hun hdep
    have eg : a'.eval (.tmp 29) = (.bool m28) := hs.eval 24 _ 29 rfl (hdep ⟨24, .guard⟩ (by simp) rfl) rfl
    have e30 : a'.eval (.tmp 30) = (if m28 = false then .pointer (some ⟨w.heap.size, 6, none⟩) else undef) := hs.eval 25 _ 30 rfl (hdep ⟨25, .data⟩ (by simp) rfl) rfl
    cases m28
    · replace e30 := e30.trans (if_pos rfl)
      exact g_val (.int .i64 p) hS (wanted_yes rfl rfl rfl eg) (op_ld1 (.int .i64 p) rfl e30 (L0.out.below hS) 6 (by first | rfl | simp) rfl Try.underlying3 rfl) rfl
    · exact g_not hS (wanted_no rfl rfl rfl eg (by decide)) rfl
  · go_light; intro listed a' w' hs hS hun hdep
    have eg : a'.eval (.tmp 29) = (.bool m28) := hs.eval 24 _ 29 rfl (hdep ⟨24, .guard⟩ (by simp) rfl) rfl
    have e3 : a'.eval (.tmp 3) = .pointer (some ⟨w.heap.size + 1, 0, none⟩) := (hs.out 3 (by kernel_rfl)).trans (rfl)
    cases m28
    · refine g_val (.pointer (some ⟨w.heap.size + 1, 6, none⟩)) hS (wanted_yes rfl rfl rfl eg) ?_ rfl
      have hcn := BigFrame.eval_const a'; have hfn := BigFrame.eval_func a'; clear hs hdep; generalize a'.eval = ev at *; go_simp
    · exact g_not hS (wanted_no rfl rfl rfl eg (by decide)) rfl
  · go_light; intro listed a' w' hs hS hun hdep
    have eg : a'.eval (.tmp 29) = (.bool m28) := hs.eval 24 _ 29 rfl (hdep ⟨24, .guard⟩ (by simp) rfl) rfl
    have e32 : a'.eval (.tmp 32) = (if m28 = false then .pointer (some ⟨w.heap.size + 1, 6, none⟩) else undef) := hs.eval 27 _ 32 rfl (hdep ⟨27, .data⟩ (by simp) rfl) rfl
    cases m28
    · replace e32 := e32.trans (if_pos rfl)
      exact g_val (.int .i64 p2) hS (wanted_yes rfl rfl rfl eg) (op_ld1 (.int .i64 p2) rfl e32 (L1.out.below hS) 6 (by first | rfl | simp) rfl Try.underlying3 rfl) rfl
    · exact g_not hS (wanted_no rfl rfl rfl eg (by decide)) rfl
  · go_light; intro listed a' w' hs hS hun hdep
    have eg : a'.eval (.tmp 29) = (.bool m28) := hs.eval 24 _ 29 rfl (hdep ⟨24, .guard⟩ (by simp) rfl) rfl
    have e31 : a'.eval (.tmp 31) = (if m28 = false then .int .i64 p else undef) := hs.eval 26 _ 31 rfl (hdep ⟨26, .data⟩ (by simp) rfl) rfl
    have e33 : a'.eval (.tmp 33) = (if m28 = false then .int .i64 p2 else undef) := hs.eval 28 _ 33 rfl (hdep ⟨28, .data⟩ (by simp) rfl) rfl
    cases m28
    · replace e31 := e31.trans (if_pos rfl)
      replace e33 := e33.trans (if_pos rfl)
      refine g_call 40 #[.int .i64 p, .int .i64 p2] hS (wanted_yes rfl rfl rfl eg) ?_ ?_
      · have hcn := BigFrame.eval_const a'; have hfn := BigFrame.eval_func a'; clear hs hdep; generalize a'.eval = ev at *; go_simp
      · exact c_val (C34.out w' hS) rfl
    · exact g_not hS (wanted_no rfl rfl rfl eg (by decide)) rfl
  · go_light; intro listed a' w' hs hS hun hdep
    have eg : a'.eval (.tmp 29) = (.bool m28) := hs.eval 24 _ 29 rfl (hdep ⟨24, .guard⟩ (by simp) rfl) rfl
    have e34 : a'.eval (.tmp 34) = (if m28 = false then .bool m34 else undef) := hs.eval 29 _ 34 rfl (hdep ⟨29, .data⟩ (by simp) rfl) rfl
    cases m28
    · replace e34 := e34.trans (if_pos rfl)
      exact g_val (.bool m35) hS (wanted_yes rfl rfl rfl eg) ((op_not rfl e34).trans (by rw [hm35.out])) rfl
    · exact g_not hS (wanted_no rfl rfl rfl eg (by decide)) rfl
  · go_light; intro listed a' w' hs hS hun hdep
    have e29 : a'.eval (.tmp 29) = (.bool m28) := hs.eval 24 _ 29 rfl (hdep ⟨24, .data⟩ (by simp) rfl) rfl
    have e35 : a'.eval (.tmp 35) = (if m28 = false then .bool m35 else undef) := hs.eval 30 _ 35 rfl (hdep ⟨30, .data⟩ (by simp) rfl) rfl
    refine g_val (.bool m36) hS rfl ?_ rfl
    cases m28
    · replace e35 := e35.trans (if_pos rfl)
      exact (op_pick_f rfl e29 e35).trans (by rw [← hm36.out]; first | rfl | simp)
    · replace e35 := e35.trans (if_neg (by decide))
      exact (op_pick_t rfl e29 (BigFrame.eval_const a' _)).trans (by rw [← hm36.out]; first | rfl | simp)
  · intro vs w3 hlen hV hS
    obtain ⟨v0, v1, v2, v3, v4, v5, v6, v7, v8, v9, v10, v11, v12, v13, v14, v15, v16, v17, v18, v19, v20, v21, v22, v23, v24, v25, v26, v27, v28, v29, v30, v31, rfl⟩ := vs_32 vs (hlen.trans rfl)
    have q0 : v0 = .agg #[.int .i64 i, .int .i64 o, .int .u32 sa, .int .i64 sb, .int .u32 da, .int .i64 db, .int .i64 p, .int .i64 slo, .int .i64 shi, .int .i64 dlo, .int .i64 dhi, .bool al] := hV 0 _ rfl
    have q1 : v1 = .bool m6 := hV 1 _ rfl
    have q2 : v2 = .bool m7 := hV 2 _ rfl
    have q3 : v3 = .bool m7 := hV 3 _ rfl
    have q7 : v7 = .bool m12 := hV 7 _ rfl
    have q8 : v8 = .bool m12 := hV 8 _ rfl
    have q15 : v15 = .bool m20 := hV 15 _ rfl
    have q16 : v16 = .bool m20 := hV 16 _ rfl
    have q23 : v23 = .bool m28 := hV 23 _ rfl
    have q24 : v24 = .bool m28 := hV 24 _ rfl
    have q31 : v31 = .bool m36 := hV 31 _ rfl
    have hbel : Below W0.heap.size W0 w3 := hS
    subst q0 q1 q2 q3 q7 q8 q15 q16 q23 q24 q31
    clear hV hS hlen
    simp only [lays, Act.put, List.setIfInBounds_toArray, List.set_cons_zero, List.set_cons_succ, List.drop_succ_cons, List.drop_zero, List.take_succ_cons, List.take_zero]
    have HX : Hid ((!(⟨i, o, sa, sb, da, db, p, slo, shi, dlo, dhi, al⟩ : Ru).ok || !(⟨i2, o2, sa2, sb2, da2, db2, p2, slo2, shi2, dlo2, dhi2, al2⟩ : Ru).ok || !fits i i2 || !fits o o2 || !fits p p2) = m36) := Lib.hid (by rw [← hm36.out, ← hm35.out, ← hm34.out, ← hm28.out, ← hm27.out, ← hm26.out, ← hm20.out, ← hm19.out, ← hm18.out, ← hm12.out, ← hm11.out, ← hm10.out, ← hm7.out, ← hm6.out])
    have M0 := Lib.hid (L0.out.below hbel)
    have M1 := Lib.hid (L1.out.below hbel)
    have hb3 := hb0.trans (hbel.mono hb0.size)
    clear hbel L0 L1 hm6 hm7 hm10 hm11 hm12 hm18 hm19 hm20 hm26 hm27 hm28 hm34 hm35 hm36 hb0 C6 C10 C18 C26 C34
    have HM1 := Lib.hid HM.out
    rw [HX.out] at HM1
    clear HM HX
    cases m36
    · go_upto_region 3 with fail
      obtain ⟨n41, hn41⟩ : ∃ x, (A.within sa2 sb2 sa sb) = x := ⟨_, rfl⟩
      replace hn41 := Lib.hid hn41
      have C41 := Lib.hid (fun (w' : World) (hb : Below w3.heap.size w3 w') => show Calls Try.prog 41 #[.agg #[.int .u32 sa2, .int .i64 sb2], .agg #[.int .u32 sa, .int .i64 sb]] w' (fun e w'' => e = .returned (.bool n41) ∧ Below w'.heap.size w' w'') from (by rw [← hn41.out]; exact refwithin_any sa2 sb2 sa sb w' Hsa2.out Hsa.out))
      obtain ⟨n42, hn42⟩ : ∃ x, (!n41) = x := ⟨_, rfl⟩
      replace hn42 := Lib.hid hn42
      obtain ⟨n48, hn48⟩ : ∃ x, (A.within da2 db2 da db) = x := ⟨_, rfl⟩
      replace hn48 := Lib.hid hn48
      have C48 := Lib.hid (fun (w' : World) (hb : Below w3.heap.size w3 w') => show Calls Try.prog 41 #[.agg #[.int .u32 da2, .int .i64 db2], .agg #[.int .u32 da, .int .i64 db]] w' (fun e w'' => e = .returned (.bool n48) ∧ Below w'.heap.size w' w'') from (by rw [← hn48.out]; exact refwithin_any da2 db2 da db w' Hda2.out Hda.out))
      obtain ⟨n49, hn49⟩ : ∃ x, (!n48) = x := ⟨_, rfl⟩
      replace hn49 := Lib.hid hn49
      obtain ⟨n50, hn50⟩ : ∃ x, (n42 || n49) = x := ⟨_, rfl⟩
      replace hn50 := Lib.hid hn50
      refine region_seq 14 (VG w3.heap.size [.val (.pointer (some ⟨w.heap.size + 1, 2, none⟩)), .val (.agg #[.int .u32 sa2, .int .i64 sb2]), .val (.pointer (some ⟨w.heap.size, 2, none⟩)), .val (.agg #[.int .u32 sa, .int .i64 sb]), .val (.bool n41), .val (.bool n42), .val (.bool n42), .val (if n42 = false then .pointer (some ⟨w.heap.size + 1, 4, none⟩) else undef), .val (if n42 = false then .agg #[.int .u32 da2, .int .i64 db2] else undef), .val (if n42 = false then .pointer (some ⟨w.heap.size, 4, none⟩) else undef), .val (if n42 = false then .agg #[.int .u32 da, .int .i64 db] else undef), .val (if n42 = false then .bool n48 else undef), .val (if n42 = false then .bool n49 else undef), .val (.bool n50)]) (BS w3) (by kernel_rfl) (Below.refl _ _) ⟨?_, ?_, ?_, ?_, ?_, ?_, ?_, ?_, ?_, ?_, ?_, ?_, ?_, ?_, trivial⟩ ?_
      · go_light; intro listed a' w' hs hS hun hdep
        have e3 : a'.eval (.tmp 3) = .pointer (some ⟨w.heap.size + 1, 0, none⟩) := (hs.out 3 (by kernel_rfl)).trans (rfl)
        refine g_val (.pointer (some ⟨w.heap.size + 1, 2, none⟩)) hS rfl ?_ rfl
        have hcn := BigFrame.eval_const a'; have hfn := BigFrame.eval_func a'; clear hs hdep; generalize a'.eval = ev at *; go_simp
      · go_light; intro listed a' w' hs hS hun hdep
        have e37 : a'.eval (.tmp 37) = (.pointer (some ⟨w.heap.size + 1, 2, none⟩)) := hs.eval 0 _ 37 rfl (hdep ⟨0, .data⟩ (by simp) rfl) rfl
        exact g_val (.agg #[.int .u32 sa2, .int .i64 sb2]) hS rfl (op_ld [.int .u32 sa2, .int .i64 sb2] rfl e37 (M1.out.below hS) 2 (by first | rfl | simp) rfl Try.underlying32 rfl (by kernel_rfl)) rfl
      · go_light; intro listed a' w' hs hS hun hdep
        have e2 : a'.eval (.tmp 2) = .pointer (some ⟨w.heap.size, 0, none⟩) := (hs.out 2 (by kernel_rfl)).trans (rfl)
        refine g_val (.pointer (some ⟨w.heap.size, 2, none⟩)) hS rfl ?_ rfl
        have hcn := BigFrame.eval_const a'; have hfn := BigFrame.eval_func a'; clear hs hdep; generalize a'.eval = ev at *; go_simp
      · go_light; intro listed a' w' hs hS hun hdep
        have e39 : a'.eval (.tmp 39) = (.pointer (some ⟨w.heap.size, 2, none⟩)) := hs.eval 2 _ 39 rfl (hdep ⟨2, .data⟩ (by simp) rfl) rfl
        exact g_val (.agg #[.int .u32 sa, .int .i64 sb]) hS rfl (op_ld [.int .u32 sa, .int .i64 sb] rfl e39 (M0.out.below hS) 2 (by first | rfl | simp) rfl Try.underlying32 rfl (by kernel_rfl)) rfl
      · go_light; intro listed a' w' hs hS hun hdep
        have e38 : a'.eval (.tmp 38) = (.agg #[.int .u32 sa2, .int .i64 sb2]) := hs.eval 1 _ 38 rfl (hdep ⟨1, .data⟩ (by simp) rfl) rfl
        have e40 : a'.eval (.tmp 40) = (.agg #[.int .u32 sa, .int .i64 sb]) := hs.eval 3 _ 40 rfl (hdep ⟨3, .data⟩ (by simp) rfl) rfl
        refine g_call 41 #[.agg #[.int .u32 sa2, .int .i64 sb2], .agg #[.int .u32 sa, .int .i64 sb]] hS rfl ?_ ?_
        · have hcn := BigFrame.eval_const a'; have hfn := BigFrame.eval_func a'; clear hs hdep; generalize a'.eval = ev at *; go_simp
        · exact c_val (C41.out w' hS) rfl
      · go_light; intro listed a' w' hs hS hun hdep
        have e41 : a'.eval (.tmp 41) = (.bool n41) := hs.eval 4 _ 41 rfl (hdep ⟨4, .data⟩ (by simp) rfl) rfl
        exact g_val (.bool n42) hS rfl ((op_not rfl e41).trans (by rw [hn42.out])) rfl
      · go_light; intro listed a' w' hs hS hun hdep
        have e42 : a'.eval (.tmp 42) = (.bool n42) := hs.eval 5 _ 42 rfl (hdep ⟨5, .data⟩ (by simp) rfl) rfl
        exact g_val (.bool n42) hS rfl (op_move rfl e42) rfl
      · go_light; intro listed a' w' hs hS hun hdep
        have eg : a'.eval (.tmp 43) = (.bool n42) := hs.eval 6 _ 43 rfl (hdep ⟨6, .guard⟩ (by simp) rfl) rfl
        have e3 : a'.eval (.tmp 3) = .pointer (some ⟨w.heap.size + 1, 0, none⟩) := (hs.out 3 (by kernel_rfl)).trans (rfl)
        cases n42
        · refine g_val (.pointer (some ⟨w.heap.size + 1, 4, none⟩)) hS (wanted_yes rfl rfl rfl eg) ?_ rfl
          have hcn := BigFrame.eval_const a'; have hfn := BigFrame.eval_func a'; clear hs hdep; generalize a'.eval = ev at *; go_simp
        · exact g_not hS (wanted_no rfl rfl rfl eg (by decide)) rfl
      · go_light; intro listed a' w' hs hS hun hdep
        have eg : a'.eval (.tmp 43) = (.bool n42) := hs.eval 6 _ 43 rfl (hdep ⟨6, .guard⟩ (by simp) rfl) rfl
        have e44 : a'.eval (.tmp 44) = (if n42 = false then .pointer (some ⟨w.heap.size + 1, 4, none⟩) else undef) := hs.eval 7 _ 44 rfl (hdep ⟨7, .data⟩ (by simp) rfl) rfl
        cases n42
        · replace e44 := e44.trans (if_pos rfl)
          exact g_val (.agg #[.int .u32 da2, .int .i64 db2]) hS (wanted_yes rfl rfl rfl eg) (op_ld [.int .u32 da2, .int .i64 db2] rfl e44 (M1.out.below hS) 4 (by first | rfl | simp) rfl Try.underlying32 rfl (by kernel_rfl)) rfl
        · exact g_not hS (wanted_no rfl rfl rfl eg (by decide)) rfl
      · go_light; intro listed a' w' hs hS hun hdep
        have eg : a'.eval (.tmp 43) = (.bool n42) := hs.eval 6 _ 43 rfl (hdep ⟨6, .guard⟩ (by simp) rfl) rfl
        have e2 : a'.eval (.tmp 2) = .pointer (some ⟨w.heap.size, 0, none⟩) := (hs.out 2 (by kernel_rfl)).trans (rfl)
        cases n42
        · refine g_val (.pointer (some ⟨w.heap.size, 4, none⟩)) hS (wanted_yes rfl rfl rfl eg) ?_ rfl
          have hcn := BigFrame.eval_const a'; have hfn := BigFrame.eval_func a'; clear hs hdep; generalize a'.eval = ev at *; go_simp
        · exact g_not hS (wanted_no rfl rfl rfl eg (by decide)) rfl
      · go_light; intro listed a' w' hs hS hun hdep
        have eg : a'.eval (.tmp 43) = (.bool n42) := hs.eval 6 _ 43 rfl (hdep ⟨6, .guard⟩ (by simp) rfl) rfl
        have e46 : a'.eval (.tmp 46) = (if n42 = false then .pointer (some ⟨w.heap.size, 4, none⟩) else undef) := hs.eval 9 _ 46 rfl (hdep ⟨9, .data⟩ (by simp) rfl) rfl
        cases n42
        · replace e46 := e46.trans (if_pos rfl)
          exact g_val (.agg #[.int .u32 da, .int .i64 db]) hS (wanted_yes rfl rfl rfl eg) (op_ld [.int .u32 da, .int .i64 db] rfl e46 (M0.out.below hS) 4 (by first | rfl | simp) rfl Try.underlying32 rfl (by kernel_rfl)) rfl
        · exact g_not hS (wanted_no rfl rfl rfl eg (by decide)) rfl
      · go_light; intro listed a' w' hs hS hun hdep
        have eg : a'.eval (.tmp 43) = (.bool n42) := hs.eval 6 _ 43 rfl (hdep ⟨6, .guard⟩ (by simp) rfl) rfl
        have e45 : a'.eval (.tmp 45) = (if n42 = false then .agg #[.int .u32 da2, .int .i64 db2] else undef) := hs.eval 8 _ 45 rfl (hdep ⟨8, .data⟩ (by simp) rfl) rfl
        have e47 : a'.eval (.tmp 47) = (if n42 = false then .agg #[.int .u32 da, .int .i64 db] else undef) := hs.eval 10 _ 47 rfl (hdep ⟨10, .data⟩ (by simp) rfl) rfl
        cases n42
        · replace e45 := e45.trans (if_pos rfl)
          replace e47 := e47.trans (if_pos rfl)
          refine g_call 41 #[.agg #[.int .u32 da2, .int .i64 db2], .agg #[.int .u32 da, .int .i64 db]] hS (wanted_yes rfl rfl rfl eg) ?_ ?_
          · have hcn := BigFrame.eval_const a'; have hfn := BigFrame.eval_func a'; clear hs hdep; generalize a'.eval = ev at *; go_simp
          · exact c_val (C48.out w' hS) rfl
        · exact g_not hS (wanted_no rfl rfl rfl eg (by decide)) rfl
      · go_light; intro listed a' w' hs hS hun hdep
        have eg : a'.eval (.tmp 43) = (.bool n42) := hs.eval 6 _ 43 rfl (hdep ⟨6, .guard⟩ (by simp) rfl) rfl
        have e48 : a'.eval (.tmp 48) = (if n42 = false then .bool n48 else undef) := hs.eval 11 _ 48 rfl (hdep ⟨11, .data⟩ (by simp) rfl) rfl
        cases n42
        · replace e48 := e48.trans (if_pos rfl)
          exact g_val (.bool n49) hS (wanted_yes rfl rfl rfl eg) ((op_not rfl e48).trans (by rw [hn49.out])) rfl
        · exact g_not hS (wanted_no rfl rfl rfl eg (by decide)) rfl
      · go_light; intro listed a' w' hs hS hun hdep
        have e43 : a'.eval (.tmp 43) = (.bool n42) := hs.eval 6 _ 43 rfl (hdep ⟨6, .data⟩ (by simp) rfl) rfl
        have e49 : a'.eval (.tmp 49) = (if n42 = false then .bool n49 else undef) := hs.eval 12 _ 49 rfl (hdep ⟨12, .data⟩ (by simp) rfl) rfl
        refine g_val (.bool n50) hS rfl ?_ rfl
        cases n42
        · replace e49 := e49.trans (if_pos rfl)
          exact (op_pick_f rfl e43 e49).trans (by rw [← hn50.out]; first | rfl | simp)
        · replace e49 := e49.trans (if_neg (by decide))
          exact (op_pick_t rfl e43 (BigFrame.eval_const a' _)).trans (by rw [← hn50.out]; first | rfl | simp)
      · intro vs w4 hlen hV hS
        obtain ⟨v0, v1, v2, v3, v4, v5, v6, v7, v8, v9, v10, v11, v12, v13, rfl⟩ := vs_14 vs (hlen.trans rfl)
        have q0 : v0 = .pointer (some ⟨w.heap.size + 1, 2, none⟩) := hV 0 _ rfl
        have q1 : v1 = .agg #[.int .u32 sa2, .int .i64 sb2] := hV 1 _ rfl
        have q2 : v2 = .pointer (some ⟨w.heap.size, 2, none⟩) := hV 2 _ rfl
        have q3 : v3 = .agg #[.int .u32 sa, .int .i64 sb] := hV 3 _ rfl
        have q4 : v4 = .bool n41 := hV 4 _ rfl
        have q5 : v5 = .bool n42 := hV 5 _ rfl
        have q6 : v6 = .bool n42 := hV 6 _ rfl
        have q13 : v13 = .bool n50 := hV 13 _ rfl
        have hbel : Below w3.heap.size w3 w4 := hS
        subst q0 q1 q2 q3 q4 q5 q6 q13
        clear hV hS hlen
        simp only [lays, Act.put, List.setIfInBounds_toArray, List.set_cons_zero, List.set_cons_succ, List.drop_succ_cons, List.drop_zero, List.take_succ_cons, List.take_zero]
        have HX : Hid ((!A.within sa2 sb2 sa sb || !A.within da2 db2 da db) = n50) := Lib.hid (by rw [← hn50.out, ← hn49.out, ← hn48.out, ← hn42.out, ← hn41.out])
        have N0 := Lib.hid (M0.out.below hbel)
        have N1 := Lib.hid (M1.out.below hbel)
        have hb4 := hb3.trans (hbel.mono hb3.size)
        clear hbel M0 M1 hn41 hn42 hn48 hn49 hn50 hb3 C41 C48
        rw [HX.out] at HM1
        clear HX
        cases n50
        · go_upto_region 5 with fail
          obtain ⟨p55, hp55⟩ : ∃ x, (decide (slo ≤ slo2)) = x := ⟨_, rfl⟩
          replace hp55 := Lib.hid hp55
          obtain ⟨p61, hp61⟩ : ∃ x, (decide (shi2 ≤ shi)) = x := ⟨_, rfl⟩
          replace hp61 := Lib.hid hp61
          obtain ⟨p62, hp62⟩ : ∃ x, (p55 && p61) = x := ⟨_, rfl⟩
          replace hp62 := Lib.hid hp62
          obtain ⟨p68, hp68⟩ : ∃ x, (decide (dlo ≤ dlo2)) = x := ⟨_, rfl⟩
          replace hp68 := Lib.hid hp68
          obtain ⟨p69, hp69⟩ : ∃ x, (p62 && p68) = x := ⟨_, rfl⟩
          replace hp69 := Lib.hid hp69
          obtain ⟨p75, hp75⟩ : ∃ x, (decide (dhi2 ≤ dhi)) = x := ⟨_, rfl⟩
          replace hp75 := Lib.hid hp75
          obtain ⟨p76, hp76⟩ : ∃ x, (p69 && p75) = x := ⟨_, rfl⟩
          replace hp76 := Lib.hid hp76
          refine region_seq 26 (VG w4.heap.size [.val (.pointer (some ⟨w.heap.size, 7, none⟩)), .val (.int .i64 slo), .val (.pointer (some ⟨w.heap.size + 1, 7, none⟩)), .val (.int .i64 slo2), .val (.bool p55), .val (.bool p55), .val (if p55 = true then .pointer (some ⟨w.heap.size, 8, none⟩) else undef), .val (if p55 = true then .int .i64 shi else undef), .val (if p55 = true then .pointer (some ⟨w.heap.size + 1, 8, none⟩) else undef), .val (if p55 = true then .int .i64 shi2 else undef), .val (if p55 = true then .bool p61 else undef), .val (.bool p62), .val (.bool p62), .val (if p62 = true then .pointer (some ⟨w.heap.size, 9, none⟩) else undef), .val (if p62 = true then .int .i64 dlo else undef), .val (if p62 = true then .pointer (some ⟨w.heap.size + 1, 9, none⟩) else undef), .val (if p62 = true then .int .i64 dlo2 else undef), .val (if p62 = true then .bool p68 else undef), .val (.bool p69), .val (.bool p69), .val (if p69 = true then .pointer (some ⟨w.heap.size, 10, none⟩) else undef), .val (if p69 = true then .int .i64 dhi else undef), .val (if p69 = true then .pointer (some ⟨w.heap.size + 1, 10, none⟩) else undef), .val (if p69 = true then .int .i64 dhi2 else undef), .val (if p69 = true then .bool p75 else undef), .val (.bool p76)]) (BS w4) (by kernel_rfl) (Below.refl _ _) ⟨?_, ?_, ?_, ?_, ?_, ?_, ?_, ?_, ?_, ?_, ?_, ?_, ?_, ?_, ?_, ?_, ?_, ?_, ?_, ?_, ?_, ?_, ?_, ?_, ?_, ?_, trivial⟩ ?_
          · go_light; intro listed a' w' hs hS hun hdep
            have e2 : a'.eval (.tmp 2) = .pointer (some ⟨w.heap.size, 0, none⟩) := (hs.out 2 (by kernel_rfl)).trans (rfl)
            refine g_val (.pointer (some ⟨w.heap.size, 7, none⟩)) hS rfl ?_ rfl
            have hcn := BigFrame.eval_const a'; have hfn := BigFrame.eval_func a'; clear hs hdep; generalize a'.eval = ev at *; go_simp
          · go_light; intro listed a' w' hs hS hun hdep
            have e51 : a'.eval (.tmp 51) = (.pointer (some ⟨w.heap.size, 7, none⟩)) := hs.eval 0 _ 51 rfl (hdep ⟨0, .data⟩ (by simp) rfl) rfl
            exact g_val (.int .i64 slo) hS rfl (op_ld1 (.int .i64 slo) rfl e51 (N0.out.below hS) 7 (by first | rfl | simp) rfl Try.underlying3 rfl) rfl
          · go_light; intro listed a' w' hs hS hun hdep
            have e3 : a'.eval (.tmp 3) = .pointer (some ⟨w.heap.size + 1, 0, none⟩) := (hs.out 3 (by kernel_rfl)).trans (rfl)
            refine g_val (.pointer (some ⟨w.heap.size + 1, 7, none⟩)) hS rfl ?_ rfl
            have hcn := BigFrame.eval_const a'; have hfn := BigFrame.eval_func a'; clear hs hdep; generalize a'.eval = ev at *; go_simp
          · go_light; intro listed a' w' hs hS hun hdep
            have e53 : a'.eval (.tmp 53) = (.pointer (some ⟨w.heap.size + 1, 7, none⟩)) := hs.eval 2 _ 53 rfl (hdep ⟨2, .data⟩ (by simp) rfl) rfl
            exact g_val (.int .i64 slo2) hS rfl (op_ld1 (.int .i64 slo2) rfl e53 (N1.out.below hS) 7 (by first | rfl | simp) rfl Try.underlying3 rfl) rfl
          · go_light; intro listed a' w' hs hS hun hdep
            have e52 : a'.eval (.tmp 52) = (.int .i64 slo) := hs.eval 1 _ 52 rfl (hdep ⟨1, .data⟩ (by simp) rfl) rfl
            have e54 : a'.eval (.tmp 54) = (.int .i64 slo2) := hs.eval 3 _ 54 rfl (hdep ⟨3, .data⟩ (by simp) rfl) rfl
            refine g_val (.bool p55) hS rfl ?_ rfl
            rw [← hp55.out]
            have hcn := BigFrame.eval_const a'; have hfn := BigFrame.eval_func a'; clear hs hdep; generalize a'.eval = ev at *; go_simp; try rfl
          · go_light; intro listed a' w' hs hS hun hdep
            have e55 : a'.eval (.tmp 55) = (.bool p55) := hs.eval 4 _ 55 rfl (hdep ⟨4, .data⟩ (by simp) rfl) rfl
            exact g_val (.bool p55) hS rfl (op_move rfl e55) rfl
          · go_light; intro listed a' w' hs hS hun hdep
            have eg : a'.eval (.tmp 56) = (.bool p55) := hs.eval 5 _ 56 rfl (hdep ⟨5, .guard⟩ (by simp) rfl) rfl
            have e2 : a'.eval (.tmp 2) = .pointer (some ⟨w.heap.size, 0, none⟩) := (hs.out 2 (by kernel_rfl)).trans (rfl)
            cases p55
            · exact g_not hS (wanted_no rfl rfl rfl eg (by decide)) rfl
            · refine g_val (.pointer (some ⟨w.heap.size, 8, none⟩)) hS (wanted_yes rfl rfl rfl eg) ?_ rfl
              have hcn := BigFrame.eval_const a'; have hfn := BigFrame.eval_func a'; clear hs hdep; generalize a'.eval = ev at *; go_simp
          · go_light; intro listed a' w' hs hS hun hdep
            have eg : a'.eval (.tmp 56) = (.bool p55) := hs.eval 5 _ 56 rfl (hdep ⟨5, .guard⟩ (by simp) rfl) rfl
            have e57 : a'.eval (.tmp 57) = (if p55 = true then .pointer (some ⟨w.heap.size, 8, none⟩) else undef) := hs.eval 6 _ 57 rfl (hdep ⟨6, .data⟩ (by simp) rfl) rfl
            cases p55
            · exact g_not hS (wanted_no rfl rfl rfl eg (by decide)) rfl
            · replace e57 := e57.trans (if_pos rfl)
              exact g_val (.int .i64 shi) hS (wanted_yes rfl rfl rfl eg) (op_ld1 (.int .i64 shi) rfl e57 (N0.out.below hS) 8 (by first | rfl | simp) rfl Try.underlying3 rfl) rfl
          · go_light; intro listed a' w' hs hS hun hdep
            have eg : a'.eval (.tmp 56) = (.bool p55) := hs.eval 5 _ 56 rfl (hdep ⟨5, .guard⟩ (by simp) rfl) rfl
            have e3 : a'.eval (.tmp 3) = .pointer (some ⟨w.heap.size + 1, 0, none⟩) := (hs.out 3 (by kernel_rfl)).trans (rfl)
            cases p55
            · exact g_not hS (wanted_no rfl rfl rfl eg (by decide)) rfl
            · refine g_val (.pointer (some ⟨w.heap.size + 1, 8, none⟩)) hS (wanted_yes rfl rfl rfl eg) ?_ rfl
              have hcn := BigFrame.eval_const a'; have hfn := BigFrame.eval_func a'; clear hs hdep; generalize a'.eval = ev at *; go_simp
          · go_light; intro listed a' w' hs hS hun hdep
            have eg : a'.eval (.tmp 56) = (.bool p55) := hs.eval 5 _ 56 rfl (hdep ⟨5, .guard⟩ (by simp) rfl) rfl
            have e59 : a'.eval (.tmp 59) = (if p55 = true then .pointer (some ⟨w.heap.size + 1, 8, none⟩) else undef) := hs.eval 8 _ 59 rfl (hdep ⟨8, .data⟩ (by simp) rfl) rfl
            cases p55
            · exact g_not hS (wanted_no rfl rfl rfl eg (by decide)) rfl
            · replace e59 := e59.trans (if_pos rfl)
              exact g_val (.int .i64 shi2) hS (wanted_yes rfl rfl rfl eg) (op_ld1 (.int .i64 shi2) rfl e59 (N1.out.below hS) 8 (by first | rfl | simp) rfl Try.underlying3 rfl) rfl
          · go_light; intro listed a' w' hs hS hun hdep
            have eg : a'.eval (.tmp 56) = (.bool p55) := hs.eval 5 _ 56 rfl (hdep ⟨5, .guard⟩ (by simp) rfl) rfl
            have e58 : a'.eval (.tmp 58) = (if p55 = true then .int .i64 shi else undef) := hs.eval 7 _ 58 rfl (hdep ⟨7, .data⟩ (by simp) rfl) rfl
            have e60 : a'.eval (.tmp 60) = (if p55 = true then .int .i64 shi2 else undef) := hs.eval 9 _ 60 rfl (hdep ⟨9, .data⟩ (by simp) rfl) rfl
            cases p55
            · exact g_not hS (wanted_no rfl rfl rfl eg (by decide)) rfl
            · replace e58 := e58.trans (if_pos rfl)
              replace e60 := e60.trans (if_pos rfl)
              refine g_val (.bool p61) hS (wanted_yes rfl rfl rfl eg) ?_ rfl
              rw [← hp61.out]
              have hcn := BigFrame.eval_const a'; have hfn := BigFrame.eval_func a'; clear hs hdep; generalize a'.eval = ev at *; go_simp; try rfl
          · go_light; intro listed a' w' hs hS hun hdep
            have e56 : a'.eval (.tmp 56) = (.bool p55) := hs.eval 5 _ 56 rfl (hdep ⟨5, .data⟩ (by simp) rfl) rfl
            have e61 : a'.eval (.tmp 61) = (if p55 = true then .bool p61 else undef) := hs.eval 10 _ 61 rfl (hdep ⟨10, .data⟩ (by simp) rfl) rfl
            refine g_val (.bool p62) hS rfl ?_ rfl
            cases p55
            · replace e61 := e61.trans (if_neg (by decide))
              exact (op_pick_f rfl e56 (BigFrame.eval_const a' _)).trans (by rw [← hp62.out]; first | rfl | simp)
            · replace e61 := e61.trans (if_pos rfl)
              exact (op_pick_t rfl e56 e61).trans (by rw [← hp62.out]; first | rfl | simp)
          · go_light; intro listed a' w' hs hS hun hdep
            have e62 : a'.eval (.tmp 62) = (.bool p62) := hs.eval 11 _ 62 rfl (hdep ⟨11, .data⟩ (by simp) rfl) rfl
            exact g_val (.bool p62) hS rfl (op_move rfl e62) rfl
          · go_light; intro listed a' w' hs hS hun hdep
            have eg : a'.eval (.tmp 63) = (.bool p62) := hs.eval 12 _ 63 rfl (hdep ⟨12, .guard⟩ (by simp) rfl) rfl
            have e2 : a'.eval (.tmp 2) = .pointer (some ⟨w.heap.size, 0, none⟩) := (hs.out 2 (by kernel_rfl)).trans (rfl)
            cases p62
            · exact g_not hS (wanted_no rfl rfl rfl eg (by decide)) rfl
            · refine g_val (.pointer (some ⟨w.heap.size, 9, none⟩)) hS (wanted_yes rfl rfl rfl eg) ?_ rfl
              have hcn := BigFrame.eval_const a'; have hfn := BigFrame.eval_func a'; clear hs hdep; generalize a'.eval = ev at *; go_simp
          · go_light; intro listed a' w' hs hS hun hdep
            have eg : a'.eval (.tmp 63) = (.bool p62) := hs.eval 12 _ 63 rfl (hdep ⟨12, .guard⟩ (by simp) rfl) rfl
            have e64 : a'.eval (.tmp 64) = (if p62 = true then .pointer (some ⟨w.heap.size, 9, none⟩) else undef) := hs.eval 13 _ 64 rfl (hdep ⟨13, .data⟩ (by simp) rfl) rfl
            cases p62
            · exact g_not hS (wanted_no rfl rfl rfl eg (by decide)) rfl
            · replace e64 := e64.trans (if_pos rfl)
              exact g_val (.int .i64 dlo) hS (wanted_yes rfl rfl rfl eg) (op_ld1 (.int .i64 dlo) rfl e64 (N0.out.below hS) 9 (by first | rfl | simp) rfl Try.underlying3 rfl) rfl
          · go_light; intro listed a' w' hs hS hun hdep
            have eg : a'.eval (.tmp 63) = (.bool p62) := hs.eval 12 _ 63 rfl (hdep ⟨12, .guard⟩ (by simp) rfl) rfl
            have e3 : a'.eval (.tmp 3) = .pointer (some ⟨w.heap.size + 1, 0, none⟩) := (hs.out 3 (by kernel_rfl)).trans (rfl)
            cases p62
            · exact g_not hS (wanted_no rfl rfl rfl eg (by decide)) rfl
            · refine g_val (.pointer (some ⟨w.heap.size + 1, 9, none⟩)) hS (wanted_yes rfl rfl rfl eg) ?_ rfl
              have hcn := BigFrame.eval_const a'; have hfn := BigFrame.eval_func a'; clear hs hdep; generalize a'.eval = ev at *; go_simp
          · go_light; intro listed a' w' hs hS hun hdep
            have eg : a'.eval (.tmp 63) = (.bool p62) := hs.eval 12 _ 63 rfl (hdep ⟨12, .guard⟩ (by simp) rfl) rfl
            have e66 : a'.eval (.tmp 66) = (if p62 = true then .pointer (some ⟨w.heap.size + 1, 9, none⟩) else undef) := hs.eval 15 _ 66 rfl (hdep ⟨15, .data⟩ (by simp) rfl) rfl
            cases p62
            · exact g_not hS (wanted_no rfl rfl rfl eg (by decide)) rfl
            · replace e66 := e66.trans (if_pos rfl)
              exact g_val (.int .i64 dlo2) hS (wanted_yes rfl rfl rfl eg) (op_ld1 (.int .i64 dlo2) rfl e66 (N1.out.below hS) 9 (by first | rfl | simp) rfl Try.underlying3 rfl) rfl
          · go_light; intro listed a' w' hs hS hun hdep
            have eg : a'.eval (.tmp 63) = (.bool p62) := hs.eval 12 _ 63 rfl (hdep ⟨12, .guard⟩ (by simp) rfl) rfl
            have e65 : a'.eval (.tmp 65) = (if p62 = true then .int .i64 dlo else undef) := hs.eval 14 _ 65 rfl (hdep ⟨14, .data⟩ (by simp) rfl) rfl
            have e67 : a'.eval (.tmp 67) = (if p62 = true then .int .i64 dlo2 else undef) := hs.eval 16 _ 67 rfl (hdep ⟨16, .data⟩ (by simp) rfl) rfl
            cases p62
            · exact g_not hS (wanted_no rfl rfl rfl eg (by decide)) rfl
            · replace e65 := e65.trans (if_pos rfl)
              replace e67 := e67.trans (if_pos rfl)
              refine g_val (.bool p68) hS (wanted_yes rfl rfl rfl eg) ?_ rfl
              rw [← hp68.out]
              have hcn := BigFrame.eval_const a'; have hfn := BigFrame.eval_func a'; clear hs hdep; generalize a'.eval = ev at *; go_simp; try rfl
          · go_light; intro listed a' w' hs hS hun hdep
            have e63 : a'.eval (.tmp 63) = (.bool p62) := hs.eval 12 _ 63 rfl (hdep ⟨12, .data⟩ (by simp) rfl) rfl
            have e68 : a'.eval (.tmp 68) = (if p62 = true then .bool p68 else undef) := hs.eval 17 _ 68 rfl (hdep ⟨17, .data⟩ (by simp) rfl) rfl
            refine g_val (.bool p69) hS rfl ?_ rfl
            cases p62
            · replace e68 := e68.trans (if_neg (by decide))
              exact (op_pick_f rfl e63 (BigFrame.eval_const a' _)).trans (by rw [← hp69.out]; first | rfl | simp)
            · replace e68 := e68.trans (if_pos rfl)
              exact (op_pick_t rfl e63 e68).trans (by rw [← hp69.out]; first | rfl | simp)
          · go_light; intro listed a' w' hs hS hun hdep
            have e69 : a'.eval (.tmp 69) = (.bool p69) := hs.eval 18 _ 69 rfl (hdep ⟨18, .data⟩ (by simp) rfl) rfl
            exact g_val (.bool p69) hS rfl (op_move rfl e69) rfl
          · go_light; intro listed a' w' hs hS hun hdep
            have eg : a'.eval (.tmp 70) = (.bool p69) := hs.eval 19 _ 70 rfl (hdep ⟨19, .guard⟩ (by simp) rfl) rfl
            have e2 : a'.eval (.tmp 2) = .pointer (some ⟨w.heap.size, 0, none⟩) := (hs.out 2 (by kernel_rfl)).trans (rfl)
            cases p69
            · exact g_not hS (wanted_no rfl rfl rfl eg (by decide)) rfl
            · refine g_val (.pointer (some ⟨w.heap.size, 10, none⟩)) hS (wanted_yes rfl rfl rfl eg) ?_ rfl
              have hcn := BigFrame.eval_const a'; have hfn := BigFrame.eval_func a'; clear hs hdep; generalize a'.eval = ev at *; go_simp
          · go_light; intro listed a' w' hs hS hun hdep
            have eg : a'.eval (.tmp 70) = (.bool p69) := hs.eval 19 _ 70 rfl (hdep ⟨19, .guard⟩ (by simp) rfl) rfl
            have e71 : a'.eval (.tmp 71) = (if p69 = true then .pointer (some ⟨w.heap.size, 10, none⟩) else undef) := hs.eval 20 _ 71 rfl (hdep ⟨20, .data⟩ (by simp) rfl) rfl
            cases p69
            · exact g_not hS (wanted_no rfl rfl rfl eg (by decide)) rfl
            · replace e71 := e71.trans (if_pos rfl)
              exact g_val (.int .i64 dhi) hS (wanted_yes rfl rfl rfl eg) (op_ld1 (.int .i64 dhi) rfl e71 (N0.out.below hS) 10 (by first | rfl | simp) rfl Try.underlying3 rfl) rfl
          · go_light; intro listed a' w' hs hS hun hdep
            have eg : a'.eval (.tmp 70) = (.bool p69) := hs.eval 19 _ 70 rfl (hdep ⟨19, .guard⟩ (by simp) rfl) rfl
            have e3 : a'.eval (.tmp 3) = .pointer (some ⟨w.heap.size + 1, 0, none⟩) := (hs.out 3 (by kernel_rfl)).trans (rfl)
            cases p69
            · exact g_not hS (wanted_no rfl rfl rfl eg (by decide)) rfl
            · refine g_val (.pointer (some ⟨w.heap.size + 1, 10, none⟩)) hS (wanted_yes rfl rfl rfl eg) ?_ rfl
              have hcn := BigFrame.eval_const a'; have hfn := BigFrame.eval_func a'; clear hs hdep; generalize a'.eval = ev at *; go_simp
          · go_light; intro listed a' w' hs hS hun hdep
            have eg : a'.eval (.tmp 70) = (.bool p69) := hs.eval 19 _ 70 rfl (hdep ⟨19, .guard⟩ (by simp) rfl) rfl
            have e73 : a'.eval (.tmp 73) = (if p69 = true then .pointer (some ⟨w.heap.size + 1, 10, none⟩) else undef) := hs.eval 22 _ 73 rfl (hdep ⟨22, .data⟩ (by simp) rfl) rfl
            cases p69
            · exact g_not hS (wanted_no rfl rfl rfl eg (by decide)) rfl
            · replace e73 := e73.trans (if_pos rfl)
              exact g_val (.int .i64 dhi2) hS (wanted_yes rfl rfl rfl eg) (op_ld1 (.int .i64 dhi2) rfl e73 (N1.out.below hS) 10 (by first | rfl | simp) rfl Try.underlying3 rfl) rfl
          · go_light; intro listed a' w' hs hS hun hdep
            have eg : a'.eval (.tmp 70) = (.bool p69) := hs.eval 19 _ 70 rfl (hdep ⟨19, .guard⟩ (by simp) rfl) rfl
            have e72 : a'.eval (.tmp 72) = (if p69 = true then .int .i64 dhi else undef) := hs.eval 21 _ 72 rfl (hdep ⟨21, .data⟩ (by simp) rfl) rfl
            have e74 : a'.eval (.tmp 74) = (if p69 = true then .int .i64 dhi2 else undef) := hs.eval 23 _ 74 rfl (hdep ⟨23, .data⟩ (by simp) rfl) rfl
            cases p69
            · exact g_not hS (wanted_no rfl rfl rfl eg (by decide)) rfl
            · replace e72 := e72.trans (if_pos rfl)
              replace e74 := e74.trans (if_pos rfl)
              refine g_val (.bool p75) hS (wanted_yes rfl rfl rfl eg) ?_ rfl
              rw [← hp75.out]
              have hcn := BigFrame.eval_const a'; have hfn := BigFrame.eval_func a'; clear hs hdep; generalize a'.eval = ev at *; go_simp; try rfl
          · go_light; intro listed a' w' hs hS hun hdep
            have e70 : a'.eval (.tmp 70) = (.bool p69) := hs.eval 19 _ 70 rfl (hdep ⟨19, .data⟩ (by simp) rfl) rfl
            have e75 : a'.eval (.tmp 75) = (if p69 = true then .bool p75 else undef) := hs.eval 24 _ 75 rfl (hdep ⟨24, .data⟩ (by simp) rfl) rfl
            refine g_val (.bool p76) hS rfl ?_ rfl
            cases p69
            · replace e75 := e75.trans (if_neg (by decide))
              exact (op_pick_f rfl e70 (BigFrame.eval_const a' _)).trans (by rw [← hp76.out]; first | rfl | simp)
            · replace e75 := e75.trans (if_pos rfl)
              exact (op_pick_t rfl e70 e75).trans (by rw [← hp76.out]; first | rfl | simp)
          · intro vs w5 hlen hV hS
            obtain ⟨v0, v1, v2, v3, v4, v5, v6, v7, v8, v9, v10, v11, v12, v13, v14, v15, v16, v17, v18, v19, v20, v21, v22, v23, v24, v25, rfl⟩ := vs_26 vs (hlen.trans rfl)
            have q0 : v0 = .pointer (some ⟨w.heap.size, 7, none⟩) := hV 0 _ rfl
            have q1 : v1 = .int .i64 slo := hV 1 _ rfl
            have q2 : v2 = .pointer (some ⟨w.heap.size + 1, 7, none⟩) := hV 2 _ rfl
            have q3 : v3 = .int .i64 slo2 := hV 3 _ rfl
            have q4 : v4 = .bool p55 := hV 4 _ rfl
            have q5 : v5 = .bool p55 := hV 5 _ rfl
            have q11 : v11 = .bool p62 := hV 11 _ rfl
            have q12 : v12 = .bool p62 := hV 12 _ rfl
            have q18 : v18 = .bool p69 := hV 18 _ rfl
            have q19 : v19 = .bool p69 := hV 19 _ rfl
            have q25 : v25 = .bool p76 := hV 25 _ rfl
            have hbel : Below w4.heap.size w4 w5 := hS
            subst q0 q1 q2 q3 q4 q5 q11 q12 q18 q19 q25
            clear hV hS hlen
            simp only [lays, Act.put, List.setIfInBounds_toArray, List.set_cons_zero, List.set_cons_succ, List.drop_succ_cons, List.drop_zero, List.take_succ_cons, List.take_zero]
            go_wp2
            go_ret
            exact ⟨by rw [HM1.out]; simp only [Bool.not_false, Bool.true_and]; rw [← hp76.out, ← hp75.out, ← hp69.out, ← hp68.out, ← hp62.out, ← hp61.out, ← hp55.out]; rfl, hb4.trans (hbel.mono hb4.size)⟩
        · go_wp2
          go_ret
          exact ⟨by rw [HM1.out]; rfl, hb4⟩
    · go_wp2
      go_ret
      exact ⟨by rw [HM1.out]; rfl, hb3⟩
#print axioms refcov_any
end Go.Proofs.Ytagfcfkkjllfpaa
