/- RuleCovers, walked whole. -/
import Derived.Test.YtagfcfkkjllfpaaRuMore
import Derived.Test.YtagfcfkkjllfpaaRuCov
import Derived.Test.YtagfcfkkjllfpaaRuRef3
namespace Go.Proofs.Ytagfcfkkjllfpaa
open Go.RowKit
set_option maxRecDepth 100000
set_option linter.unusedVariables false
open U

-- REGIONS
theorem vs_7 (vs : List Value) (h : vs.length = 7) : ∃ v0 v1 v2 v3 v4 v5 v6, vs = [v0, v1, v2, v3, v4, v5, v6] := by
  obtain ⟨v0, r0, rfl, h0⟩ := vs_cons vs h
  obtain ⟨v1, r1, rfl, h1⟩ := vs_cons r0 h0
  obtain ⟨v2, r2, rfl, h2⟩ := vs_cons r1 h1
  obtain ⟨v3, r3, rfl, h3⟩ := vs_cons r2 h2
  obtain ⟨v4, r4, rfl, h4⟩ := vs_cons r3 h3
  obtain ⟨v5, r5, rfl, h5⟩ := vs_cons r4 h4
  obtain ⟨v6, r6, rfl, h6⟩ := vs_cons r5 h5
  obtain rfl := List.eq_nil_of_length_eq_zero h6
  exact ⟨v0, v1, v2, v3, v4, v5, v6, rfl⟩

set_option maxHeartbeats 8000000 in
theorem rcovers_law (r s : Ru) (a : U.Ask) (w : World) (hr : r.fine) (hs : s.fine) (ha : a.fine) : Calls Try.prog 4 #[.agg r.v.toArray, .agg s.v.toArray, .agg a.v.toArray] w fun e w' => e = .returned (.bool true) ∧ Below w.heap.size w w' := by
  have HImp := Lib.hid (cov_m (r := r) (s := s) (a := a))
  have HC := Lib.hid (fun w' => covers_any r s w' hr hs)
  have HM1 := Lib.hid (fun w' => Matches_any s a w' hs ha)
  have HM2 := Lib.hid (fun w' => Matches_any r a w' hr ha)
  obtain ⟨i, o, sa, sb, da, db, p, slo, shi, dlo, dhi, al⟩ := r
  obtain ⟨i2, o2, sa2, sb2, da2, db2, p2, slo2, shi2, dlo2, dhi2, al2⟩ := s
  obtain ⟨ai, ao, as_, ad, ap, asp, adp⟩ := a
  have Hsa := Lib.hid hr.1
  have Hda := Lib.hid hr.2
  have Hsa2 := Lib.hid hs.1
  have Hda2 := Lib.hid hs.2
  simp only [Ru.v, Ask.v] at *
  clear hr hs ha
  go_enter Try.func4, Try.ntmps4
  go_wp2
  have hb0 : Below w.heap.size w (((w.alloc (.cells #[.int .i64 i, .int .i64 o, .int .u32 sa, .int .i64 sb, .int .u32 da, .int .i64 db, .int .i64 p, .int .i64 slo, .int .i64 shi, .int .i64 dlo, .int .i64 dhi, .bool al] 34)).alloc (.cells #[.int .i64 i2, .int .i64 o2, .int .u32 sa2, .int .i64 sb2, .int .u32 da2, .int .i64 db2, .int .i64 p2, .int .i64 slo2, .int .i64 shi2, .int .i64 dlo2, .int .i64 dhi2, .bool al2] 34)).alloc (.cells #[.int .i64 ai, .int .i64 ao, .int .u32 as_, .int .u32 ad, .int .i64 ap, .int .i64 asp, .int .i64 adp] 27)) := (below2 w _ _).alloc (by simp; omega) _
  have L0 : Hid (Lies (((w.alloc (.cells #[.int .i64 i, .int .i64 o, .int .u32 sa, .int .i64 sb, .int .u32 da, .int .i64 db, .int .i64 p, .int .i64 slo, .int .i64 shi, .int .i64 dlo, .int .i64 dhi, .bool al] 34)).alloc (.cells #[.int .i64 i2, .int .i64 o2, .int .u32 sa2, .int .i64 sb2, .int .u32 da2, .int .i64 db2, .int .i64 p2, .int .i64 slo2, .int .i64 shi2, .int .i64 dlo2, .int .i64 dhi2, .bool al2] 34)).alloc (.cells #[.int .i64 ai, .int .i64 ao, .int .u32 as_, .int .u32 ad, .int .i64 ap, .int .i64 asp, .int .i64 adp] 27)) w.heap.size 0 [.int .i64 i, .int .i64 o, .int .u32 sa, .int .i64 sb, .int .u32 da, .int .i64 db, .int .i64 p, .int .i64 slo, .int .i64 shi, .int .i64 dlo, .int .i64 dhi, .bool al]) := Lib.hid (((Lies.new w [.int .i64 i, .int .i64 o, .int .u32 sa, .int .i64 sb, .int .u32 da, .int .i64 db, .int .i64 p, .int .i64 slo, .int .i64 shi, .int .i64 dlo, .int .i64 dhi, .bool al] _).alloc _).alloc _)
  have L1 : Hid (Lies (((w.alloc (.cells #[.int .i64 i, .int .i64 o, .int .u32 sa, .int .i64 sb, .int .u32 da, .int .i64 db, .int .i64 p, .int .i64 slo, .int .i64 shi, .int .i64 dlo, .int .i64 dhi, .bool al] 34)).alloc (.cells #[.int .i64 i2, .int .i64 o2, .int .u32 sa2, .int .i64 sb2, .int .u32 da2, .int .i64 db2, .int .i64 p2, .int .i64 slo2, .int .i64 shi2, .int .i64 dlo2, .int .i64 dhi2, .bool al2] 34)).alloc (.cells #[.int .i64 ai, .int .i64 ao, .int .u32 as_, .int .u32 ad, .int .i64 ap, .int .i64 asp, .int .i64 adp] 27)) (w.heap.size + 1) 0 [.int .i64 i2, .int .i64 o2, .int .u32 sa2, .int .i64 sb2, .int .u32 da2, .int .i64 db2, .int .i64 p2, .int .i64 slo2, .int .i64 shi2, .int .i64 dlo2, .int .i64 dhi2, .bool al2]) := Lib.hid ((Lies.newAt (by simp)).alloc _)
  have L2 : Hid (Lies (((w.alloc (.cells #[.int .i64 i, .int .i64 o, .int .u32 sa, .int .i64 sb, .int .u32 da, .int .i64 db, .int .i64 p, .int .i64 slo, .int .i64 shi, .int .i64 dlo, .int .i64 dhi, .bool al] 34)).alloc (.cells #[.int .i64 i2, .int .i64 o2, .int .u32 sa2, .int .i64 sb2, .int .u32 da2, .int .i64 db2, .int .i64 p2, .int .i64 slo2, .int .i64 shi2, .int .i64 dlo2, .int .i64 dhi2, .bool al2] 34)).alloc (.cells #[.int .i64 ai, .int .i64 ao, .int .u32 as_, .int .u32 ad, .int .i64 ap, .int .i64 asp, .int .i64 adp] 27)) (w.heap.size + 1 + 1) 0 [.int .i64 ai, .int .i64 ao, .int .u32 as_, .int .u32 ad, .int .i64 ap, .int .i64 asp, .int .i64 adp]) := Lib.hid (Lies.newAt (by simp))
  generalize (((w.alloc (.cells #[.int .i64 i, .int .i64 o, .int .u32 sa, .int .i64 sb, .int .u32 da, .int .i64 db, .int .i64 p, .int .i64 slo, .int .i64 shi, .int .i64 dlo, .int .i64 dhi, .bool al] 34)).alloc (.cells #[.int .i64 i2, .int .i64 o2, .int .u32 sa2, .int .i64 sb2, .int .u32 da2, .int .i64 db2, .int .i64 p2, .int .i64 slo2, .int .i64 shi2, .int .i64 dlo2, .int .i64 dhi2, .bool al2] 34)).alloc (.cells #[.int .i64 ai, .int .i64 ao, .int .u32 as_, .int .u32 ad, .int .i64 ap, .int .i64 asp, .int .i64 adp] 27)) = W0 at *
  obtain ⟨m9, hm9⟩ : ∃ x, (cov ⟨i, o, sa, sb, da, db, p, slo, shi, dlo, dhi, al⟩ ⟨i2, o2, sa2, sb2, da2, db2, p2, slo2, shi2, dlo2, dhi2, al2⟩) = x := ⟨_, rfl⟩
  replace hm9 := Lib.hid hm9
  have C9 := Lib.hid (fun (w' : World) (hb : Below W0.heap.size W0 w') => show Calls Try.prog 18 #[.agg #[.int .i64 i, .int .i64 o, .int .u32 sa, .int .i64 sb, .int .u32 da, .int .i64 db, .int .i64 p, .int .i64 slo, .int .i64 shi, .int .i64 dlo, .int .i64 dhi, .bool al], .agg #[.int .i64 i2, .int .i64 o2, .int .u32 sa2, .int .i64 sb2, .int .u32 da2, .int .i64 db2, .int .i64 p2, .int .i64 slo2, .int .i64 shi2, .int .i64 dlo2, .int .i64 dhi2, .bool al2]] w' (fun e w'' => e = .returned (.bool m9) ∧ Below w'.heap.size w' w'') from (by rw [← hm9.out]; exact covers_any ⟨i, o, sa, sb, da, db, p, slo, shi, dlo, dhi, al⟩ ⟨i2, o2, sa2, sb2, da2, db2, p2, slo2, shi2, dlo2, dhi2, al2⟩ w' ⟨Hsa.out, Hda.out⟩ ⟨Hsa2.out, Hda2.out⟩))
  obtain ⟨m12, hm12⟩ : ∃ x, (cov ⟨i, o, sa, sb, da, db, p, slo, shi, dlo, dhi, al⟩ ⟨i2, o2, sa2, sb2, da2, db2, p2, slo2, shi2, dlo2, dhi2, al2⟩) = x := ⟨_, rfl⟩
  replace hm12 := Lib.hid hm12
  have C12 := Lib.hid (fun (w' : World) (hb : Below W0.heap.size W0 w') => show Calls Try.prog 19 #[.agg #[.int .i64 i, .int .i64 o, .int .u32 sa, .int .i64 sb, .int .u32 da, .int .i64 db, .int .i64 p, .int .i64 slo, .int .i64 shi, .int .i64 dlo, .int .i64 dhi, .bool al], .agg #[.int .i64 i2, .int .i64 o2, .int .u32 sa2, .int .i64 sb2, .int .u32 da2, .int .i64 db2, .int .i64 p2, .int .i64 slo2, .int .i64 shi2, .int .i64 dlo2, .int .i64 dhi2, .bool al2]] w' (fun e w'' => e = .returned (.bool m12) ∧ Below w'.heap.size w' w'') from (by rw [← hm12.out]; exact refcov_any ⟨i, o, sa, sb, da, db, p, slo, shi, dlo, dhi, al⟩ ⟨i2, o2, sa2, sb2, da2, db2, p2, slo2, shi2, dlo2, dhi2, al2⟩ w' ⟨Hsa.out, Hda.out⟩ ⟨Hsa2.out, Hda2.out⟩))
  obtain ⟨m13, hm13⟩ : ∃ x, (!(m9 == m12)) = x := ⟨_, rfl⟩
  replace hm13 := Lib.hid hm13
  refine region_gen (VG W0.heap.size [.val (.agg #[.int .i64 i, .int .i64 o, .int .u32 sa, .int .i64 sb, .int .u32 da, .int .i64 db, .int .i64 p, .int .i64 slo, .int .i64 shi, .int .i64 dlo, .int .i64 dhi, .bool al]), .val (.agg #[.int .i64 i2, .int .i64 o2, .int .u32 sa2, .int .i64 sb2, .int .u32 da2, .int .i64 db2, .int .i64 p2, .int .i64 slo2, .int .i64 shi2, .int .i64 dlo2, .int .i64 dhi2, .bool al2]), .val (.bool m9), .val (.agg #[.int .i64 i, .int .i64 o, .int .u32 sa, .int .i64 sb, .int .u32 da, .int .i64 db, .int .i64 p, .int .i64 slo, .int .i64 shi, .int .i64 dlo, .int .i64 dhi, .bool al]), .val (.agg #[.int .i64 i2, .int .i64 o2, .int .u32 sa2, .int .i64 sb2, .int .u32 da2, .int .i64 db2, .int .i64 p2, .int .i64 slo2, .int .i64 shi2, .int .i64 dlo2, .int .i64 dhi2, .bool al2]), .val (.bool m12), .val (.bool m13)]) (BS W0) (by kernel_rfl) (by kernel_rfl) (Below.refl _ _).drew ⟨?_, ?_, ?_, ?_, ?_, ?_, ?_, trivial⟩ ?_
  · go_light; intro listed a' w' hs hS hun hdep
    have e3 : a'.eval (.tmp 3) = .pointer (some ⟨w.heap.size, 0, none⟩) := (hs.out 3 (by kernel_rfl)).trans (rfl)
    exact g_val (.agg #[.int .i64 i, .int .i64 o, .int .u32 sa, .int .i64 sb, .int .u32 da, .int .i64 db, .int .i64 p, .int .i64 slo, .int .i64 shi, .int .i64 dlo, .int .i64 dhi, .bool al]) hS rfl (op_ld [.int .i64 i, .int .i64 o, .int .u32 sa, .int .i64 sb, .int .u32 da, .int .i64 db, .int .i64 p, .int .i64 slo, .int .i64 shi, .int .i64 dlo, .int .i64 dhi, .bool al] rfl e3 (L0.out.below hS) 0 (by first | rfl | simp) rfl Try.underlying34 rfl (by kernel_rfl)) rfl
  · go_light; intro listed a' w' hs hS hun hdep
    have e4 : a'.eval (.tmp 4) = .pointer (some ⟨w.heap.size + 1, 0, none⟩) := (hs.out 4 (by kernel_rfl)).trans (rfl)
    exact g_val (.agg #[.int .i64 i2, .int .i64 o2, .int .u32 sa2, .int .i64 sb2, .int .u32 da2, .int .i64 db2, .int .i64 p2, .int .i64 slo2, .int .i64 shi2, .int .i64 dlo2, .int .i64 dhi2, .bool al2]) hS rfl (op_ld [.int .i64 i2, .int .i64 o2, .int .u32 sa2, .int .i64 sb2, .int .u32 da2, .int .i64 db2, .int .i64 p2, .int .i64 slo2, .int .i64 shi2, .int .i64 dlo2, .int .i64 dhi2, .bool al2] rfl e4 (L1.out.below hS) 0 (by first | rfl | simp) rfl Try.underlying34 rfl (by kernel_rfl)) rfl
  · go_light; intro listed a' w' hs hS hun hdep
    have e7 : a'.eval (.tmp 7) = (.agg #[.int .i64 i, .int .i64 o, .int .u32 sa, .int .i64 sb, .int .u32 da, .int .i64 db, .int .i64 p, .int .i64 slo, .int .i64 shi, .int .i64 dlo, .int .i64 dhi, .bool al]) := hs.eval 0 _ 7 rfl (hdep ⟨0, .data⟩ (by simp) rfl) rfl
    have e8 : a'.eval (.tmp 8) = (.agg #[.int .i64 i2, .int .i64 o2, .int .u32 sa2, .int .i64 sb2, .int .u32 da2, .int .i64 db2, .int .i64 p2, .int .i64 slo2, .int .i64 shi2, .int .i64 dlo2, .int .i64 dhi2, .bool al2]) := hs.eval 1 _ 8 rfl (hdep ⟨1, .data⟩ (by simp) rfl) rfl
    refine g_call 18 #[.agg #[.int .i64 i, .int .i64 o, .int .u32 sa, .int .i64 sb, .int .u32 da, .int .i64 db, .int .i64 p, .int .i64 slo, .int .i64 shi, .int .i64 dlo, .int .i64 dhi, .bool al], .agg #[.int .i64 i2, .int .i64 o2, .int .u32 sa2, .int .i64 sb2, .int .u32 da2, .int .i64 db2, .int .i64 p2, .int .i64 slo2, .int .i64 shi2, .int .i64 dlo2, .int .i64 dhi2, .bool al2]] hS rfl ?_ ?_
    · have hcn := BigFrame.eval_const a'; have hfn := BigFrame.eval_func a'; clear hs hdep; generalize a'.eval = ev at *; go_simp
    · exact c_val (C9.out w' hS) rfl
  · go_light; intro listed a' w' hs hS hun hdep
    have e3 : a'.eval (.tmp 3) = .pointer (some ⟨w.heap.size, 0, none⟩) := (hs.out 3 (by kernel_rfl)).trans (rfl)
    exact g_val (.agg #[.int .i64 i, .int .i64 o, .int .u32 sa, .int .i64 sb, .int .u32 da, .int .i64 db, .int .i64 p, .int .i64 slo, .int .i64 shi, .int .i64 dlo, .int .i64 dhi, .bool al]) hS rfl (op_ld [.int .i64 i, .int .i64 o, .int .u32 sa, .int .i64 sb, .int .u32 da, .int .i64 db, .int .i64 p, .int .i64 slo, .int .i64 shi, .int .i64 dlo, .int .i64 dhi, .bool al] rfl e3 (L0.out.below hS) 0 (by first | rfl | simp) rfl Try.underlying34 rfl (by kernel_rfl)) rfl
  · go_light; intro listed a' w' hs hS hun hdep
    have e4 : a'.eval (.tmp 4) = .pointer (some ⟨w.heap.size + 1, 0, none⟩) := (hs.out 4 (by kernel_rfl)).trans (rfl)
    exact g_val (.agg #[.int .i64 i2, .int .i64 o2, .int .u32 sa2, .int .i64 sb2, .int .u32 da2, .int .i64 db2, .int .i64 p2, .int .i64 slo2, .int .i64 shi2, .int .i64 dlo2, .int .i64 dhi2, .bool al2]) hS rfl (op_ld [.int .i64 i2, .int .i64 o2, .int .u32 sa2, .int .i64 sb2, .int .u32 da2, .int .i64 db2, .int .i64 p2, .int .i64 slo2, .int .i64 shi2, .int .i64 dlo2, .int .i64 dhi2, .bool al2] rfl e4 (L1.out.below hS) 0 (by first | rfl | simp) rfl Try.underlying34 rfl (by kernel_rfl)) rfl
  · go_light; intro listed a' w' hs hS hun hdep
    have e10 : a'.eval (.tmp 10) = (.agg #[.int .i64 i, .int .i64 o, .int .u32 sa, .int .i64 sb, .int .u32 da, .int .i64 db, .int .i64 p, .int .i64 slo, .int .i64 shi, .int .i64 dlo, .int .i64 dhi, .bool al]) := hs.eval 3 _ 10 rfl (hdep ⟨3, .data⟩ (by simp) rfl) rfl
    have e11 : a'.eval (.tmp 11) = (.agg #[.int .i64 i2, .int .i64 o2, .int .u32 sa2, .int .i64 sb2, .int .u32 da2, .int .i64 db2, .int .i64 p2, .int .i64 slo2, .int .i64 shi2, .int .i64 dlo2, .int .i64 dhi2, .bool al2]) := hs.eval 4 _ 11 rfl (hdep ⟨4, .data⟩ (by simp) rfl) rfl
    refine g_call 19 #[.agg #[.int .i64 i, .int .i64 o, .int .u32 sa, .int .i64 sb, .int .u32 da, .int .i64 db, .int .i64 p, .int .i64 slo, .int .i64 shi, .int .i64 dlo, .int .i64 dhi, .bool al], .agg #[.int .i64 i2, .int .i64 o2, .int .u32 sa2, .int .i64 sb2, .int .u32 da2, .int .i64 db2, .int .i64 p2, .int .i64 slo2, .int .i64 shi2, .int .i64 dlo2, .int .i64 dhi2, .bool al2]] hS rfl ?_ ?_
    · have hcn := BigFrame.eval_const a'; have hfn := BigFrame.eval_func a'; clear hs hdep; generalize a'.eval = ev at *; go_simp
    · exact c_val (C12.out w' hS) rfl
  · go_light; intro listed a' w' hs hS hun hdep
    have e9 : a'.eval (.tmp 9) = (.bool m9) := hs.eval 2 _ 9 rfl (hdep ⟨2, .data⟩ (by simp) rfl) rfl
    have e12 : a'.eval (.tmp 12) = (.bool m12) := hs.eval 5 _ 12 rfl (hdep ⟨5, .data⟩ (by simp) rfl) rfl
    exact g_val (.bool m13) hS rfl ((op_neqb rfl e9 e12 Try.underlying4).trans (by rw [hm13.out])) rfl
  · intro vs w3 hlen hV listed hall hS
    obtain ⟨v0, v1, v2, v3, v4, v5, v6, rfl⟩ := vs_7 vs (hlen.trans rfl)
    have q0 : v0 = .agg #[.int .i64 i, .int .i64 o, .int .u32 sa, .int .i64 sb, .int .u32 da, .int .i64 db, .int .i64 p, .int .i64 slo, .int .i64 shi, .int .i64 dlo, .int .i64 dhi, .bool al] := hV 0 _ rfl
    have q1 : v1 = .agg #[.int .i64 i2, .int .i64 o2, .int .u32 sa2, .int .i64 sb2, .int .u32 da2, .int .i64 db2, .int .i64 p2, .int .i64 slo2, .int .i64 shi2, .int .i64 dlo2, .int .i64 dhi2, .bool al2] := hV 1 _ rfl
    have q2 : v2 = .bool m9 := hV 2 _ rfl
    have q3 : v3 = .agg #[.int .i64 i, .int .i64 o, .int .u32 sa, .int .i64 sb, .int .u32 da, .int .i64 db, .int .i64 p, .int .i64 slo, .int .i64 shi, .int .i64 dlo, .int .i64 dhi, .bool al] := hV 3 _ rfl
    have q4 : v4 = .agg #[.int .i64 i2, .int .i64 o2, .int .u32 sa2, .int .i64 sb2, .int .u32 da2, .int .i64 db2, .int .i64 p2, .int .i64 slo2, .int .i64 shi2, .int .i64 dlo2, .int .i64 dhi2, .bool al2] := hV 4 _ rfl
    have q5 : v5 = .bool m12 := hV 5 _ rfl
    have q6 : v6 = .bool m13 := hV 6 _ rfl
    have hbel : Below W0.heap.size W0 w3 := hS
    subst q0 q1 q2 q3 q4 q5 q6
    clear hV hS hlen hall
    clear listed
    simp only [lays, Act.put, List.setIfInBounds_toArray, List.set_cons_zero, List.set_cons_succ]
    have h13 : m13 = false := by rw [← hm13.out, ← hm12.out, ← hm9.out]; simp
    have M0 := Lib.hid (L0.out.below hbel)
    have M1 := Lib.hid (L1.out.below hbel)
    have M2 := Lib.hid (L2.out.below hbel)
    have hb3 := hb0.trans (hbel.mono hb0.size)
    clear hm9 hm12 hm13 hbel C9 C12 L0 L1 L2 hb0
    subst h13
    generalize cov ⟨i, o, sa, sb, da, db, p, slo, shi, dlo, dhi, al⟩ ⟨i2, o2, sa2, sb2, da2, db2, p2, slo2, shi2, dlo2, dhi2, al2⟩ = c at *
    generalize (⟨i2, o2, sa2, sb2, da2, db2, p2, slo2, shi2, dlo2, dhi2, al2⟩ : Ru).m ⟨ai, ao, as_, ad, ap, asp, adp⟩ = x at *
    generalize (⟨i, o, sa, sb, da, db, p, slo, shi, dlo, dhi, al⟩ : Ru).m ⟨ai, ao, as_, ad, ap, asp, adp⟩ = y at *
    have c0 := M0.out.at0 0 _ _ rfl rfl
    have d0 := M1.out.at0 0 _ _ rfl rfl
    clear c0 d0
    have c0 := M0.out.at0 0 0 _ rfl (Nat.zero_add _)
    have d0 := M1.out.at0 0 0 _ rfl (Nat.zero_add _)
    have c1 := M0.out.at0 1 1 _ rfl (Nat.zero_add _)
    have d1 := M1.out.at0 1 1 _ rfl (Nat.zero_add _)
    have c2 := M0.out.at0 2 2 _ rfl (Nat.zero_add _)
    have d2 := M1.out.at0 2 2 _ rfl (Nat.zero_add _)
    have c3 := M0.out.at0 3 3 _ rfl (Nat.zero_add _)
    have d3 := M1.out.at0 3 3 _ rfl (Nat.zero_add _)
    have c4 := M0.out.at0 4 4 _ rfl (Nat.zero_add _)
    have d4 := M1.out.at0 4 4 _ rfl (Nat.zero_add _)
    have c5 := M0.out.at0 5 5 _ rfl (Nat.zero_add _)
    have d5 := M1.out.at0 5 5 _ rfl (Nat.zero_add _)
    have c6 := M0.out.at0 6 6 _ rfl (Nat.zero_add _)
    have d6 := M1.out.at0 6 6 _ rfl (Nat.zero_add _)
    have c7 := M0.out.at0 7 7 _ rfl (Nat.zero_add _)
    have d7 := M1.out.at0 7 7 _ rfl (Nat.zero_add _)
    have c8 := M0.out.at0 8 8 _ rfl (Nat.zero_add _)
    have d8 := M1.out.at0 8 8 _ rfl (Nat.zero_add _)
    have c9 := M0.out.at0 9 9 _ rfl (Nat.zero_add _)
    have d9 := M1.out.at0 9 9 _ rfl (Nat.zero_add _)
    have c10 := M0.out.at0 10 10 _ rfl (Nat.zero_add _)
    have d10 := M1.out.at0 10 10 _ rfl (Nat.zero_add _)
    have c11 := M0.out.at0 11 11 _ rfl (Nat.zero_add _)
    have d11 := M1.out.at0 11 11 _ rfl (Nat.zero_add _)
    go_wp2_with fail
    refine (HC.out _).mono ?_
    rintro e w4 ⟨rfl, hb4⟩
    have hbw4 := hb3.trans (hb4.mono hb3.size)
    have M0 := Lib.hid (M0.out.below hb4)
    have M1 := Lib.hid (M1.out.below hb4)
    have M2 := Lib.hid (M2.out.below hb4)
    clear c0 d0 c1 d1 c2 d2 c3 d3 c4 d4 c5 d5 c6 d6 c7 d7 c8 d8 c9 d9 c10 d10 c11 d11 hb4 hb3
    cases c
    · go_wp2_with fail
      refine (rule_awake _).mono ?_
      rintro e w5 ⟨rfl, hb5⟩
      have hbw5 := hbw4.trans (hb5.mono hbw4.size)
      go_wp2
      go_ret
      exact ⟨rfl, hbw5⟩
    · have HI := Lib.hid (HImp.out rfl)
      have d0 := M1.out.at0 0 0 _ rfl (Nat.zero_add _)
      have d1 := M1.out.at0 1 1 _ rfl (Nat.zero_add _)
      have d2 := M1.out.at0 2 2 _ rfl (Nat.zero_add _)
      have d3 := M1.out.at0 3 3 _ rfl (Nat.zero_add _)
      have d4 := M1.out.at0 4 4 _ rfl (Nat.zero_add _)
      have d5 := M1.out.at0 5 5 _ rfl (Nat.zero_add _)
      have d6 := M1.out.at0 6 6 _ rfl (Nat.zero_add _)
      have d7 := M1.out.at0 7 7 _ rfl (Nat.zero_add _)
      have d8 := M1.out.at0 8 8 _ rfl (Nat.zero_add _)
      have d9 := M1.out.at0 9 9 _ rfl (Nat.zero_add _)
      have d10 := M1.out.at0 10 10 _ rfl (Nat.zero_add _)
      have d11 := M1.out.at0 11 11 _ rfl (Nat.zero_add _)
      have f0 := M2.out.at0 0 0 _ rfl (Nat.zero_add _)
      have f1 := M2.out.at0 1 1 _ rfl (Nat.zero_add _)
      have f2 := M2.out.at0 2 2 _ rfl (Nat.zero_add _)
      have f3 := M2.out.at0 3 3 _ rfl (Nat.zero_add _)
      have f4 := M2.out.at0 4 4 _ rfl (Nat.zero_add _)
      have f5 := M2.out.at0 5 5 _ rfl (Nat.zero_add _)
      have f6 := M2.out.at0 6 6 _ rfl (Nat.zero_add _)
      go_wp2_with fail
      refine (HM1.out _).mono ?_
      rintro e w5 ⟨rfl, hb5⟩
      have hbw5 := hbw4.trans (hb5.mono hbw4.size)
      have M0 := Lib.hid (M0.out.below hb5)
      have M2 := Lib.hid (M2.out.below hb5)
      clear d0 d1 d2 d3 d4 d5 d6 d7 d8 d9 d10 d11 f0 f1 f2 f3 f4 f5 f6 hb5 hbw4
      cases x
      · go_wp2_with fail
        refine (rule_awake _).mono ?_
        rintro e w6 ⟨rfl, hb6⟩
        have hbw6 := hbw5.trans (hb6.mono hbw5.size)
        go_wp2
        go_ret
        exact ⟨rfl, hbw6⟩
      · have hy := HI.out rfl
        subst hy
        have d0 := M0.out.at0 0 0 _ rfl (Nat.zero_add _)
        have d1 := M0.out.at0 1 1 _ rfl (Nat.zero_add _)
        have d2 := M0.out.at0 2 2 _ rfl (Nat.zero_add _)
        have d3 := M0.out.at0 3 3 _ rfl (Nat.zero_add _)
        have d4 := M0.out.at0 4 4 _ rfl (Nat.zero_add _)
        have d5 := M0.out.at0 5 5 _ rfl (Nat.zero_add _)
        have d6 := M0.out.at0 6 6 _ rfl (Nat.zero_add _)
        have d7 := M0.out.at0 7 7 _ rfl (Nat.zero_add _)
        have d8 := M0.out.at0 8 8 _ rfl (Nat.zero_add _)
        have d9 := M0.out.at0 9 9 _ rfl (Nat.zero_add _)
        have d10 := M0.out.at0 10 10 _ rfl (Nat.zero_add _)
        have d11 := M0.out.at0 11 11 _ rfl (Nat.zero_add _)
        have f0 := M2.out.at0 0 0 _ rfl (Nat.zero_add _)
        have f1 := M2.out.at0 1 1 _ rfl (Nat.zero_add _)
        have f2 := M2.out.at0 2 2 _ rfl (Nat.zero_add _)
        have f3 := M2.out.at0 3 3 _ rfl (Nat.zero_add _)
        have f4 := M2.out.at0 4 4 _ rfl (Nat.zero_add _)
        have f5 := M2.out.at0 5 5 _ rfl (Nat.zero_add _)
        have f6 := M2.out.at0 6 6 _ rfl (Nat.zero_add _)
        go_wp2_with fail
        refine (HM2.out _).mono ?_
        rintro e w6 ⟨rfl, hb6⟩
        have hbw6 := hbw5.trans (hb6.mono hbw5.size)
        clear d0 d1 d2 d3 d4 d5 d6 d7 d8 d9 d10 d11 f0 f1 f2 f3 f4 f5 f6 hb6 hbw5
        go_wp2_with fail
        refine (rule_awake _).mono ?_
        rintro e w7 ⟨rfl, hb7⟩
        have hbw7 := hbw6.trans (hb7.mono hbw6.size)
        go_wp2
        go_ret
        exact ⟨rfl, hbw7⟩
#print axioms rcovers_law
end Go.Proofs.Ytagfcfkkjllfpaa
