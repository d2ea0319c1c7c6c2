/- Whether one rule covers another one. -/
import Derived.Test.YtagfcfkkjllfpaaRuFirst
namespace Go.Proofs.Ytagfcfkkjllfpaa
open Go.RowKit
set_option maxRecDepth 100000
set_option linter.unusedVariables false
open U

-- REGIONS
theorem vs_53 (vs : List Value) (h : vs.length = 53) : ∃ v0 v1 v2 v3 v4 v5 v6 v7 v8 v9 v10 v11 v12 v13 v14 v15 v16 v17 v18 v19 v20 v21 v22 v23 v24 v25 v26 v27 v28 v29 v30 v31 v32 v33 v34 v35 v36 v37 v38 v39 v40 v41 v42 v43 v44 v45 v46 v47 v48 v49 v50 v51 v52, vs = [v0, v1, v2, v3, v4, v5, v6, v7, v8, v9, v10, v11, v12, v13, v14, v15, v16, v17, v18, v19, v20, v21, v22, v23, v24, v25, v26, v27, v28, v29, v30, v31, v32, v33, v34, v35, v36, v37, v38, v39, v40, v41, v42, v43, v44, v45, v46, v47, v48, v49, v50, v51, v52] := by
  obtain ⟨v0, r0, rfl, h0⟩ := vs_cons vs h
  obtain ⟨v1, r1, rfl, h1⟩ := vs_cons r0 h0
  obtain ⟨v2, r2, rfl, h2⟩ := vs_cons r1 h1
  obtain ⟨v3, r3, rfl, h3⟩ := vs_cons r2 h2
  obtain ⟨v4, r4, rfl, h4⟩ := vs_cons r3 h3
  obtain ⟨v5, r5, rfl, h5⟩ := vs_cons r4 h4
  obtain ⟨v6, r6, rfl, h6⟩ := vs_cons r5 h5
  obtain ⟨v7, r7, rfl, h7⟩ := vs_cons r6 h6
  obtain ⟨v8, r8, rfl, h8⟩ := vs_cons r7 h7
  obtain ⟨v9, r9, rfl, h9⟩ := vs_cons r8 h8
  obtain ⟨v10, r10, rfl, h10⟩ := vs_cons r9 h9
  obtain ⟨v11, r11, rfl, h11⟩ := vs_cons r10 h10
  obtain ⟨v12, r12, rfl, h12⟩ := vs_cons r11 h11
  obtain ⟨v13, r13, rfl, h13⟩ := vs_cons r12 h12
  obtain ⟨v14, r14, rfl, h14⟩ := vs_cons r13 h13
  obtain ⟨v15, r15, rfl, h15⟩ := vs_cons r14 h14
  obtain ⟨v16, r16, rfl, h16⟩ := vs_cons r15 h15
  obtain ⟨v17, r17, rfl, h17⟩ := vs_cons r16 h16
  obtain ⟨v18, r18, rfl, h18⟩ := vs_cons r17 h17
  obtain ⟨v19, r19, rfl, h19⟩ := vs_cons r18 h18
  obtain ⟨v20, r20, rfl, h20⟩ := vs_cons r19 h19
  obtain ⟨v21, r21, rfl, h21⟩ := vs_cons r20 h20
  obtain ⟨v22, r22, rfl, h22⟩ := vs_cons r21 h21
  obtain ⟨v23, r23, rfl, h23⟩ := vs_cons r22 h22
  obtain ⟨v24, r24, rfl, h24⟩ := vs_cons r23 h23
  obtain ⟨v25, r25, rfl, h25⟩ := vs_cons r24 h24
  obtain ⟨v26, r26, rfl, h26⟩ := vs_cons r25 h25
  obtain ⟨v27, r27, rfl, h27⟩ := vs_cons r26 h26
  obtain ⟨v28, r28, rfl, h28⟩ := vs_cons r27 h27
  obtain ⟨v29, r29, rfl, h29⟩ := vs_cons r28 h28
  obtain ⟨v30, r30, rfl, h30⟩ := vs_cons r29 h29
  obtain ⟨v31, r31, rfl, h31⟩ := vs_cons r30 h30
  obtain ⟨v32, r32, rfl, h32⟩ := vs_cons r31 h31
  obtain ⟨v33, r33, rfl, h33⟩ := vs_cons r32 h32
  obtain ⟨v34, r34, rfl, h34⟩ := vs_cons r33 h33
  obtain ⟨v35, r35, rfl, h35⟩ := vs_cons r34 h34
  obtain ⟨v36, r36, rfl, h36⟩ := vs_cons r35 h35
  obtain ⟨v37, r37, rfl, h37⟩ := vs_cons r36 h36
  obtain ⟨v38, r38, rfl, h38⟩ := vs_cons r37 h37
  obtain ⟨v39, r39, rfl, h39⟩ := vs_cons r38 h38
  obtain ⟨v40, r40, rfl, h40⟩ := vs_cons r39 h39
  obtain ⟨v41, r41, rfl, h41⟩ := vs_cons r40 h40
  obtain ⟨v42, r42, rfl, h42⟩ := vs_cons r41 h41
  obtain ⟨v43, r43, rfl, h43⟩ := vs_cons r42 h42
  obtain ⟨v44, r44, rfl, h44⟩ := vs_cons r43 h43
  obtain ⟨v45, r45, rfl, h45⟩ := vs_cons r44 h44
  obtain ⟨v46, r46, rfl, h46⟩ := vs_cons r45 h45
  obtain ⟨v47, r47, rfl, h47⟩ := vs_cons r46 h46
  obtain ⟨v48, r48, rfl, h48⟩ := vs_cons r47 h47
  obtain ⟨v49, r49, rfl, h49⟩ := vs_cons r48 h48
  obtain ⟨v50, r50, rfl, h50⟩ := vs_cons r49 h49
  obtain ⟨v51, r51, rfl, h51⟩ := vs_cons r50 h50
  obtain ⟨v52, r52, rfl, h52⟩ := vs_cons r51 h51
  obtain rfl := List.eq_nil_of_length_eq_zero h52
  exact ⟨v0, v1, v2, v3, v4, v5, v6, v7, v8, v9, v10, v11, v12, v13, v14, v15, v16, v17, v18, v19, v20, v21, v22, v23, v24, v25, v26, v27, v28, v29, v30, v31, v32, v33, v34, v35, v36, v37, v38, v39, v40, v41, v42, v43, v44, v45, v46, v47, v48, v49, v50, v51, v52, rfl⟩

set_option maxHeartbeats 8000000 in
theorem covers_any (r s : Ru) (w : World) (hr : r.fine) (hs : s.fine) : Calls Try.prog 18 #[.agg r.v.toArray, .agg s.v.toArray] w fun e w' => e = .returned (.bool (cov r s)) ∧ Below w.heap.size w w' := by
  obtain ⟨i, o, sa, sb, da, db, p, slo, shi, dlo, dhi, al⟩ := r
  obtain ⟨i2, o2, sa2, sb2, da2, db2, p2, slo2, shi2, dlo2, dhi2, al2⟩ := s
  have Hsa := Lib.hid hr.1
  have Hda := Lib.hid hr.2
  have Hsa2 := Lib.hid hs.1
  have Hda2 := Lib.hid hs.2
  simp only [Ru.v] at *
  clear hr hs
  go_enter Try.func18, Try.ntmps18
  go_wp2
  have hb0 : Below w.heap.size w ((w.alloc (.cells #[.int .i64 i, .int .i64 o, .int .u32 sa, .int .i64 sb, .int .u32 da, .int .i64 db, .int .i64 p, .int .i64 slo, .int .i64 shi, .int .i64 dlo, .int .i64 dhi, .bool al] 34)).alloc (.cells #[.int .i64 i2, .int .i64 o2, .int .u32 sa2, .int .i64 sb2, .int .u32 da2, .int .i64 db2, .int .i64 p2, .int .i64 slo2, .int .i64 shi2, .int .i64 dlo2, .int .i64 dhi2, .bool al2] 34)) := below2 w _ _
  have L0 : Hid (Lies ((w.alloc (.cells #[.int .i64 i, .int .i64 o, .int .u32 sa, .int .i64 sb, .int .u32 da, .int .i64 db, .int .i64 p, .int .i64 slo, .int .i64 shi, .int .i64 dlo, .int .i64 dhi, .bool al] 34)).alloc (.cells #[.int .i64 i2, .int .i64 o2, .int .u32 sa2, .int .i64 sb2, .int .u32 da2, .int .i64 db2, .int .i64 p2, .int .i64 slo2, .int .i64 shi2, .int .i64 dlo2, .int .i64 dhi2, .bool al2] 34)) w.heap.size 0 [.int .i64 i, .int .i64 o, .int .u32 sa, .int .i64 sb, .int .u32 da, .int .i64 db, .int .i64 p, .int .i64 slo, .int .i64 shi, .int .i64 dlo, .int .i64 dhi, .bool al]) := Lib.hid ((Lies.new w [.int .i64 i, .int .i64 o, .int .u32 sa, .int .i64 sb, .int .u32 da, .int .i64 db, .int .i64 p, .int .i64 slo, .int .i64 shi, .int .i64 dlo, .int .i64 dhi, .bool al] _).alloc _)
  have L1 : Hid (Lies ((w.alloc (.cells #[.int .i64 i, .int .i64 o, .int .u32 sa, .int .i64 sb, .int .u32 da, .int .i64 db, .int .i64 p, .int .i64 slo, .int .i64 shi, .int .i64 dlo, .int .i64 dhi, .bool al] 34)).alloc (.cells #[.int .i64 i2, .int .i64 o2, .int .u32 sa2, .int .i64 sb2, .int .u32 da2, .int .i64 db2, .int .i64 p2, .int .i64 slo2, .int .i64 shi2, .int .i64 dlo2, .int .i64 dhi2, .bool al2] 34)) (w.heap.size + 1) 0 [.int .i64 i2, .int .i64 o2, .int .u32 sa2, .int .i64 sb2, .int .u32 da2, .int .i64 db2, .int .i64 p2, .int .i64 slo2, .int .i64 shi2, .int .i64 dlo2, .int .i64 dhi2, .bool al2]) := Lib.hid (Lies.newAt (by simp))
  generalize ((w.alloc (.cells #[.int .i64 i, .int .i64 o, .int .u32 sa, .int .i64 sb, .int .u32 da, .int .i64 db, .int .i64 p, .int .i64 slo, .int .i64 shi, .int .i64 dlo, .int .i64 dhi, .bool al] 34)).alloc (.cells #[.int .i64 i2, .int .i64 o2, .int .u32 sa2, .int .i64 sb2, .int .u32 da2, .int .i64 db2, .int .i64 p2, .int .i64 slo2, .int .i64 shi2, .int .i64 dlo2, .int .i64 dhi2, .bool al2] 34)) = W0 at *
  obtain ⟨m8, hm8⟩ : ∃ x, (([⟨i, o, sa, sb, da, db, p, slo, shi, dlo, dhi, al⟩, ⟨i2, o2, sa2, sb2, da2, db2, p2, slo2, shi2, dlo2, dhi2, al2⟩] : List Ru).all Ru.ok) = x := ⟨_, rfl⟩
  replace hm8 := Lib.hid hm8
  have C8 := Lib.hid (fun (w' : World) (hb : Below W0.heap.size W0 w') (r : Nat) (hr : w'.heap[r]? = some (.cells (#[.int .i64 i, .int .i64 o, .int .u32 sa, .int .i64 sb, .int .u32 da, .int .i64 db, .int .i64 p, .int .i64 slo, .int .i64 shi, .int .i64 dlo, .int .i64 dhi, .bool al, .int .i64 i2, .int .i64 o2, .int .u32 sa2, .int .i64 sb2, .int .u32 da2, .int .i64 db2, .int .i64 p2, .int .i64 slo2, .int .i64 shi2, .int .i64 dlo2, .int .i64 dhi2, .bool al2]) 34 (0, 0))) => show Calls Try.prog 17 #[.slice (some ⟨r, 0, none⟩) 2 2] w' (fun e w'' => e = .returned (.bool m8) ∧ Below w'.heap.size w' w'') from (by rw [← hm8.out]; exact Right_any (some ⟨r, 0, none⟩) 2 [⟨i, o, sa, sb, da, db, p, slo, shi, dlo, dhi, al⟩, ⟨i2, o2, sa2, sb2, da2, db2, p2, slo2, shi2, dlo2, dhi2, al2⟩] w' (RowsOf.of_block (fun _ => rfl) rfl hr) (by intro x hx; simp only [List.mem_cons, List.not_mem_nil, or_false] at hx; rcases hx with rfl | rfl <;> first | exact ⟨Hsa.out, Hda.out⟩ | exact ⟨Hsa2.out, Hda2.out⟩) (by simp)))
  obtain ⟨m14, hm14⟩ : ∃ x, (fits i i2) = x := ⟨_, rfl⟩
  replace hm14 := Lib.hid hm14
  have C14 := Lib.hid (fun (w' : World) (hb : Below W0.heap.size W0 w') => show Calls Try.prog 35 #[.int .i64 i, .int .i64 i2] w' (fun e w'' => e = .returned (.bool m14) ∧ Below w'.heap.size w' w'') from (by rw [← hm14.out]; exact same_below (fits_any i i2 w')))
  obtain ⟨m15, hm15⟩ : ∃ x, (m8 && m14) = x := ⟨_, rfl⟩
  replace hm15 := Lib.hid hm15
  obtain ⟨m21, hm21⟩ : ∃ x, (fits o o2) = x := ⟨_, rfl⟩
  replace hm21 := Lib.hid hm21
  have C21 := Lib.hid (fun (w' : World) (hb : Below W0.heap.size W0 w') => show Calls Try.prog 35 #[.int .i64 o, .int .i64 o2] w' (fun e w'' => e = .returned (.bool m21) ∧ Below w'.heap.size w' w'') from (by rw [← hm21.out]; exact same_below (fits_any o o2 w')))
  obtain ⟨m22, hm22⟩ : ∃ x, (m15 && m21) = x := ⟨_, rfl⟩
  replace hm22 := Lib.hid hm22
  obtain ⟨m28, hm28⟩ : ∃ x, (fits p p2) = x := ⟨_, rfl⟩
  replace hm28 := Lib.hid hm28
  have C28 := Lib.hid (fun (w' : World) (hb : Below W0.heap.size W0 w') => show Calls Try.prog 35 #[.int .i64 p, .int .i64 p2] w' (fun e w'' => e = .returned (.bool m28) ∧ Below w'.heap.size w' w'') from (by rw [← hm28.out]; exact same_below (fits_any p p2 w')))
  obtain ⟨m29, hm29⟩ : ∃ x, (m22 && m28) = x := ⟨_, rfl⟩
  replace hm29 := Lib.hid hm29
  obtain ⟨m35, hm35⟩ : ∃ x, (A.within sa2 sb2 sa sb) = x := ⟨_, rfl⟩
  replace hm35 := Lib.hid hm35
  have C35 := Lib.hid (fun (w' : World) (hb : Below W0.heap.size W0 w') => show Calls Try.prog 36 #[.agg #[.int .u32 sa2, .int .i64 sb2], .agg #[.int .u32 sa, .int .i64 sb]] w' (fun e w'' => e = .returned (.bool m35) ∧ Below w'.heap.size w' w'') from (by rw [← hm35.out]; exact within_any sa2 sb2 sa sb w' Hsa2.out))
  obtain ⟨m36, hm36⟩ : ∃ x, (m29 && m35) = x := ⟨_, rfl⟩
  replace hm36 := Lib.hid hm36
  obtain ⟨m42, hm42⟩ : ∃ x, (A.within da2 db2 da db) = x := ⟨_, rfl⟩
  replace hm42 := Lib.hid hm42
  have C42 := Lib.hid (fun (w' : World) (hb : Below W0.heap.size W0 w') => show Calls Try.prog 36 #[.agg #[.int .u32 da2, .int .i64 db2], .agg #[.int .u32 da, .int .i64 db]] w' (fun e w'' => e = .returned (.bool m42) ∧ Below w'.heap.size w' w'') from (by rw [← hm42.out]; exact within_any da2 db2 da db w' Hda2.out))
  obtain ⟨m43, hm43⟩ : ∃ x, (m36 && m42) = x := ⟨_, rfl⟩
  replace hm43 := Lib.hid hm43
  have C46 := Lib.hid (fun (w' : World) (hb : Below W0.heap.size W0 w') => show Calls Try.prog 37 #[.agg #[.int .i64 i2, .int .i64 o2, .int .u32 sa2, .int .i64 sb2, .int .u32 da2, .int .i64 db2, .int .i64 p2, .int .i64 slo2, .int .i64 shi2, .int .i64 dlo2, .int .i64 dhi2, .bool al2]] w' (fun e w'' => e = .returned (.agg #[.int .i64 slo2, .int .i64 shi2]) ∧ Below w'.heap.size w' w'') from (by exact sports_any ⟨i2, o2, sa2, sb2, da2, db2, p2, slo2, shi2, dlo2, dhi2, al2⟩ w'))
  have C48 := Lib.hid (fun (w' : World) (hb : Below W0.heap.size W0 w') => show Calls Try.prog 37 #[.agg #[.int .i64 i, .int .i64 o, .int .u32 sa, .int .i64 sb, .int .u32 da, .int .i64 db, .int .i64 p, .int .i64 slo, .int .i64 shi, .int .i64 dlo, .int .i64 dhi, .bool al]] w' (fun e w'' => e = .returned (.agg #[.int .i64 slo, .int .i64 shi]) ∧ Below w'.heap.size w' w'') from (by exact sports_any ⟨i, o, sa, sb, da, db, p, slo, shi, dlo, dhi, al⟩ w'))
  obtain ⟨m49, hm49⟩ : ∃ x, (wid slo2 shi2 slo shi) = x := ⟨_, rfl⟩
  replace hm49 := Lib.hid hm49
  have C49 := Lib.hid (fun (w' : World) (hb : Below W0.heap.size W0 w') => show Calls Try.prog 38 #[.agg #[.int .i64 slo2, .int .i64 shi2], .agg #[.int .i64 slo, .int .i64 shi]] w' (fun e w'' => e = .returned (.bool m49) ∧ Below w'.heap.size w' w'') from (by rw [← hm49.out]; exact within_span slo2 shi2 slo shi w'))
  obtain ⟨m50, hm50⟩ : ∃ x, (m43 && m49) = x := ⟨_, rfl⟩
  replace hm50 := Lib.hid hm50
  have C53 := Lib.hid (fun (w' : World) (hb : Below W0.heap.size W0 w') => show Calls Try.prog 39 #[.agg #[.int .i64 i2, .int .i64 o2, .int .u32 sa2, .int .i64 sb2, .int .u32 da2, .int .i64 db2, .int .i64 p2, .int .i64 slo2, .int .i64 shi2, .int .i64 dlo2, .int .i64 dhi2, .bool al2]] w' (fun e w'' => e = .returned (.agg #[.int .i64 dlo2, .int .i64 dhi2]) ∧ Below w'.heap.size w' w'') from (by exact dports_any ⟨i2, o2, sa2, sb2, da2, db2, p2, slo2, shi2, dlo2, dhi2, al2⟩ w'))
  have C55 := Lib.hid (fun (w' : World) (hb : Below W0.heap.size W0 w') => show Calls Try.prog 39 #[.agg #[.int .i64 i, .int .i64 o, .int .u32 sa, .int .i64 sb, .int .u32 da, .int .i64 db, .int .i64 p, .int .i64 slo, .int .i64 shi, .int .i64 dlo, .int .i64 dhi, .bool al]] w' (fun e w'' => e = .returned (.agg #[.int .i64 dlo, .int .i64 dhi]) ∧ Below w'.heap.size w' w'') from (by exact dports_any ⟨i, o, sa, sb, da, db, p, slo, shi, dlo, dhi, al⟩ w'))
  obtain ⟨m56, hm56⟩ : ∃ x, (wid dlo2 dhi2 dlo dhi) = x := ⟨_, rfl⟩
  replace hm56 := Lib.hid hm56
  have C56 := Lib.hid (fun (w' : World) (hb : Below W0.heap.size W0 w') => show Calls Try.prog 38 #[.agg #[.int .i64 dlo2, .int .i64 dhi2], .agg #[.int .i64 dlo, .int .i64 dhi]] w' (fun e w'' => e = .returned (.bool m56) ∧ Below w'.heap.size w' w'') from (by rw [← hm56.out]; exact within_span dlo2 dhi2 dlo dhi w'))
  obtain ⟨m57, hm57⟩ : ∃ x, (m50 && m56) = x := ⟨_, rfl⟩
  replace hm57 := Lib.hid hm57
  refine region_gen_tail 53 (VG W0.heap.size [.val (.agg #[.int .i64 i, .int .i64 o, .int .u32 sa, .int .i64 sb, .int .u32 da, .int .i64 db, .int .i64 p, .int .i64 slo, .int .i64 shi, .int .i64 dlo, .int .i64 dhi, .bool al]), .val (.agg #[.int .i64 i2, .int .i64 o2, .int .u32 sa2, .int .i64 sb2, .int .u32 da2, .int .i64 db2, .int .i64 p2, .int .i64 slo2, .int .i64 shi2, .int .i64 dlo2, .int .i64 dhi2, .bool al2]), .row (#[.int .i64 i, .int .i64 o, .int .u32 sa, .int .i64 sb, .int .u32 da, .int .i64 db, .int .i64 p, .int .i64 slo, .int .i64 shi, .int .i64 dlo, .int .i64 dhi, .bool al, .int .i64 i2, .int .i64 o2, .int .u32 sa2, .int .i64 sb2, .int .u32 da2, .int .i64 db2, .int .i64 p2, .int .i64 slo2, .int .i64 shi2, .int .i64 dlo2, .int .i64 dhi2, .bool al2]) 34 2, .val (.bool m8), .val (.bool m8), .val (if m8 = true then .pointer (some ⟨w.heap.size, 0, none⟩) else undef), .val (if m8 = true then .int .i64 i else undef), .val (if m8 = true then .pointer (some ⟨w.heap.size + 1, 0, none⟩) else undef), .val (if m8 = true then .int .i64 i2 else undef), .val (if m8 = true then .bool m14 else undef), .val (.bool m15), .val (.bool m15), .val (if m15 = true then .pointer (some ⟨w.heap.size, 1, none⟩) else undef), .val (if m15 = true then .int .i64 o else undef), .val (if m15 = true then .pointer (some ⟨w.heap.size + 1, 1, none⟩) else undef), .val (if m15 = true then .int .i64 o2 else undef), .val (if m15 = true then .bool m21 else undef), .val (.bool m22), .val (.bool m22), .val (if m22 = true then .pointer (some ⟨w.heap.size, 6, none⟩) else undef), .val (if m22 = true then .int .i64 p else undef), .val (if m22 = true then .pointer (some ⟨w.heap.size + 1, 6, none⟩) else undef), .val (if m22 = true then .int .i64 p2 else undef), .val (if m22 = true then .bool m28 else undef), .val (.bool m29), .val (.bool m29), .val (if m29 = true then .pointer (some ⟨w.heap.size + 1, 2, none⟩) else undef), .val (if m29 = true then .agg #[.int .u32 sa2, .int .i64 sb2] else undef), .val (if m29 = true then .pointer (some ⟨w.heap.size, 2, none⟩) else undef), .val (if m29 = true then .agg #[.int .u32 sa, .int .i64 sb] else undef), .val (if m29 = true then .bool m35 else undef), .val (.bool m36), .val (.bool m36), .val (if m36 = true then .pointer (some ⟨w.heap.size + 1, 4, none⟩) else undef), .val (if m36 = true then .agg #[.int .u32 da2, .int .i64 db2] else undef), .val (if m36 = true then .pointer (some ⟨w.heap.size, 4, none⟩) else undef), .val (if m36 = true then .agg #[.int .u32 da, .int .i64 db] else undef), .val (if m36 = true then .bool m42 else undef), .val (.bool m43), .val (.bool m43), .val (if m43 = true then .agg #[.int .i64 i2, .int .i64 o2, .int .u32 sa2, .int .i64 sb2, .int .u32 da2, .int .i64 db2, .int .i64 p2, .int .i64 slo2, .int .i64 shi2, .int .i64 dlo2, .int .i64 dhi2, .bool al2] else undef), .val (if m43 = true then .agg #[.int .i64 slo2, .int .i64 shi2] else undef), .val (if m43 = true then .agg #[.int .i64 i, .int .i64 o, .int .u32 sa, .int .i64 sb, .int .u32 da, .int .i64 db, .int .i64 p, .int .i64 slo, .int .i64 shi, .int .i64 dlo, .int .i64 dhi, .bool al] else undef), .val (if m43 = true then .agg #[.int .i64 slo, .int .i64 shi] else undef), .val (if m43 = true then .bool m49 else undef), .val (.bool m50), .val (.bool m50), .val (if m50 = true then .agg #[.int .i64 i2, .int .i64 o2, .int .u32 sa2, .int .i64 sb2, .int .u32 da2, .int .i64 db2, .int .i64 p2, .int .i64 slo2, .int .i64 shi2, .int .i64 dlo2, .int .i64 dhi2, .bool al2] else undef), .val (if m50 = true then .agg #[.int .i64 dlo2, .int .i64 dhi2] else undef), .val (if m50 = true then .agg #[.int .i64 i, .int .i64 o, .int .u32 sa, .int .i64 sb, .int .u32 da, .int .i64 db, .int .i64 p, .int .i64 slo, .int .i64 shi, .int .i64 dlo, .int .i64 dhi, .bool al] else undef), .val (if m50 = true then .agg #[.int .i64 dlo, .int .i64 dhi] else undef), .val (if m50 = true then .bool m56 else undef), .val (.bool m57)]) (BS W0) (by kernel_rfl) (by kernel_rfl) (by kernel_rfl) (Below.refl _ _).drew ⟨?_, ?_, ?_, ?_, ?_, ?_, ?_, ?_, ?_, ?_, ?_, ?_, ?_, ?_, ?_, ?_, ?_, ?_, ?_, ?_, ?_, ?_, ?_, ?_, ?_, ?_, ?_, ?_, ?_, ?_, ?_, ?_, ?_, ?_, ?_, ?_, ?_, ?_, ?_, ?_, ?_, ?_, ?_, ?_, ?_, ?_, ?_, ?_, ?_, ?_, ?_, ?_, ?_, trivial⟩ ?_
  · go_light; intro listed a' w' hs hS hun hdep
    have e2 : a'.eval (.tmp 2) = .pointer (some ⟨w.heap.size, 0, none⟩) := (hs.out 2 (by kernel_rfl)).trans (rfl)
    exact g_val (.agg #[.int .i64 i, .int .i64 o, .int .u32 sa, .int .i64 sb, .int .u32 da, .int .i64 db, .int .i64 p, .int .i64 slo, .int .i64 shi, .int .i64 dlo, .int .i64 dhi, .bool al]) hS rfl (op_ld [.int .i64 i, .int .i64 o, .int .u32 sa, .int .i64 sb, .int .u32 da, .int .i64 db, .int .i64 p, .int .i64 slo, .int .i64 shi, .int .i64 dlo, .int .i64 dhi, .bool al] rfl e2 (L0.out.below hS) 0 (by first | rfl | simp) rfl Try.underlying34 rfl (by kernel_rfl)) rfl
  · go_light; intro listed a' w' hs hS hun hdep
    have e3 : a'.eval (.tmp 3) = .pointer (some ⟨w.heap.size + 1, 0, none⟩) := (hs.out 3 (by kernel_rfl)).trans (rfl)
    exact g_val (.agg #[.int .i64 i2, .int .i64 o2, .int .u32 sa2, .int .i64 sb2, .int .u32 da2, .int .i64 db2, .int .i64 p2, .int .i64 slo2, .int .i64 shi2, .int .i64 dlo2, .int .i64 dhi2, .bool al2]) hS rfl (op_ld [.int .i64 i2, .int .i64 o2, .int .u32 sa2, .int .i64 sb2, .int .u32 da2, .int .i64 db2, .int .i64 p2, .int .i64 slo2, .int .i64 shi2, .int .i64 dlo2, .int .i64 dhi2, .bool al2] rfl e3 (L1.out.below hS) 0 (by first | rfl | simp) rfl Try.underlying34 rfl (by kernel_rfl)) rfl
  · go_light; intro listed a' w' hs hS hun hdep
    have e5 : a'.eval (.tmp 5) = (.agg #[.int .i64 i, .int .i64 o, .int .u32 sa, .int .i64 sb, .int .u32 da, .int .i64 db, .int .i64 p, .int .i64 slo, .int .i64 shi, .int .i64 dlo, .int .i64 dhi, .bool al]) := hs.eval 0 _ 5 rfl (hdep ⟨0, .data⟩ (by simp) rfl) rfl
    have e6 : a'.eval (.tmp 6) = (.agg #[.int .i64 i2, .int .i64 o2, .int .u32 sa2, .int .i64 sb2, .int .u32 da2, .int .i64 db2, .int .i64 p2, .int .i64 slo2, .int .i64 shi2, .int .i64 dlo2, .int .i64 dhi2, .bool al2]) := hs.eval 1 _ 6 rfl (hdep ⟨1, .data⟩ (by simp) rfl) rfl
    refine g_new (.slice (some ⟨w'.heap.size, 0, none⟩) 2 2) (.cells (#[.int .i64 i, .int .i64 o, .int .u32 sa, .int .i64 sb, .int .u32 da, .int .i64 db, .int .i64 p, .int .i64 slo, .int .i64 shi, .int .i64 dlo, .int .i64 dhi, .bool al, .int .i64 i2, .int .i64 o2, .int .u32 sa2, .int .i64 sb2, .int .u32 da2, .int .i64 db2, .int .i64 p2, .int .i64 slo2, .int .i64 shi2, .int .i64 dlo2, .int .i64 dhi2, .bool al2]) 34) hS rfl ?_ ⟨w'.heap.size, Below.size hS, rfl, heap_alloc_new w' _⟩
    have hcn := BigFrame.eval_const a'; have hfn := BigFrame.eval_func a'; clear hs hdep; generalize a'.eval = ev at *; go_simp
  · go_light; intro listed a' w' hs hS hun hdep
    obtain ⟨r7b, _, e7, k7⟩ : (.row (#[.int .i64 i, .int .i64 o, .int .u32 sa, .int .i64 sb, .int .u32 da, .int .i64 db, .int .i64 p, .int .i64 slo, .int .i64 shi, .int .i64 dlo, .int .i64 dhi, .bool al, .int .i64 i2, .int .i64 o2, .int .u32 sa2, .int .i64 sb2, .int .u32 da2, .int .i64 db2, .int .i64 p2, .int .i64 slo2, .int .i64 shi2, .int .i64 dlo2, .int .i64 dhi2, .bool al2]) 34 2 : GV).ok W0.heap.size (a'.eval (.tmp 7)) w' := hs.eval 2 _ 7 rfl (hdep ⟨2, .data⟩ (by simp) rfl) rfl
    refine g_call 17 #[.slice (some ⟨r7b, 0, none⟩) 2 2] hS rfl ?_ ?_
    · have hcn := BigFrame.eval_const a'; have hfn := BigFrame.eval_func a'; clear hs hdep; generalize a'.eval = ev at *; go_simp
    · exact c_val (C8.out w' hS _ k7) rfl
  · go_light; intro listed a' w' hs hS hun hdep
    have e8 : a'.eval (.tmp 8) = (.bool m8) := hs.eval 3 _ 8 rfl (hdep ⟨3, .data⟩ (by simp) rfl) rfl
    exact g_val (.bool m8) hS rfl (op_move rfl e8) rfl
  · go_light; intro listed a' w' hs hS hun hdep
    have eg : a'.eval (.tmp 9) = (.bool m8) := hs.eval 4 _ 9 rfl (hdep ⟨4, .guard⟩ (by simp) rfl) rfl
    have e2 : a'.eval (.tmp 2) = .pointer (some ⟨w.heap.size, 0, none⟩) := (hs.out 2 (by kernel_rfl)).trans (rfl)
    cases m8
    · exact g_not hS (wanted_no rfl rfl rfl eg (by decide)) rfl
    · refine g_val (.pointer (some ⟨w.heap.size, 0, none⟩)) hS (wanted_yes rfl rfl rfl eg) ?_ rfl
      have hcn := BigFrame.eval_const a'; have hfn := BigFrame.eval_func a'; clear hs hdep; generalize a'.eval = ev at *; go_simp
  · go_light; intro listed a' w' hs hS hun hdep
    have eg : a'.eval (.tmp 9) = (.bool m8) := hs.eval 4 _ 9 rfl (hdep ⟨4, .guard⟩ (by simp) rfl) rfl
    have e10 : a'.eval (.tmp 10) = (if m8 = true then .pointer (some ⟨w.heap.size, 0, none⟩) else undef) := hs.eval 5 _ 10 rfl (hdep ⟨5, .data⟩ (by simp) rfl) rfl
    cases m8
    · exact g_not hS (wanted_no rfl rfl rfl eg (by decide)) rfl
    · replace e10 := e10.trans (if_pos rfl)
      exact g_val (.int .i64 i) hS (wanted_yes rfl rfl rfl eg) (op_ld1 (.int .i64 i) rfl e10 (L0.out.below hS) 0 (by first | rfl | simp) rfl Try.underlying3 rfl) rfl
  · go_light; intro listed a' w' hs hS hun hdep
    have eg : a'.eval (.tmp 9) = (.bool m8) := hs.eval 4 _ 9 rfl (hdep ⟨4, .guard⟩ (by simp) rfl) rfl
    have e3 : a'.eval (.tmp 3) = .pointer (some ⟨w.heap.size + 1, 0, none⟩) := (hs.out 3 (by kernel_rfl)).trans (rfl)
    cases m8
    · exact g_not hS (wanted_no rfl rfl rfl eg (by decide)) rfl
    · refine g_val (.pointer (some ⟨w.heap.size + 1, 0, none⟩)) hS (wanted_yes rfl rfl rfl eg) ?_ rfl
      have hcn := BigFrame.eval_const a'; have hfn := BigFrame.eval_func a'; clear hs hdep; generalize a'.eval = ev at *; go_simp
  · go_light; intro listed a' w' hs hS hun hdep
    have eg : a'.eval (.tmp 9) = (.bool m8) := hs.eval 4 _ 9 rfl (hdep ⟨4, .guard⟩ (by simp) rfl) rfl
    have e12 : a'.eval (.tmp 12) = (if m8 = true then .pointer (some ⟨w.heap.size + 1, 0, none⟩) else undef) := hs.eval 7 _ 12 rfl (hdep ⟨7, .data⟩ (by simp) rfl) rfl
    cases m8
    · exact g_not hS (wanted_no rfl rfl rfl eg (by decide)) rfl
    · replace e12 := e12.trans (if_pos rfl)
      exact g_val (.int .i64 i2) hS (wanted_yes rfl rfl rfl eg) (op_ld1 (.int .i64 i2) rfl e12 (L1.out.below hS) 0 (by first | rfl | simp) rfl Try.underlying3 rfl) rfl
  · go_light; intro listed a' w' hs hS hun hdep
    have eg : a'.eval (.tmp 9) = (.bool m8) := hs.eval 4 _ 9 rfl (hdep ⟨4, .guard⟩ (by simp) rfl) rfl
    have e11 : a'.eval (.tmp 11) = (if m8 = true then .int .i64 i else undef) := hs.eval 6 _ 11 rfl (hdep ⟨6, .data⟩ (by simp) rfl) rfl
    have e13 : a'.eval (.tmp 13) = (if m8 = true then .int .i64 i2 else undef) := hs.eval 8 _ 13 rfl (hdep ⟨8, .data⟩ (by simp) rfl) rfl
    cases m8
    · exact g_not hS (wanted_no rfl rfl rfl eg (by decide)) rfl
    · replace e11 := e11.trans (if_pos rfl)
      replace e13 := e13.trans (if_pos rfl)
      refine g_call 35 #[.int .i64 i, .int .i64 i2] hS (wanted_yes rfl rfl rfl eg) ?_ ?_
      · have hcn := BigFrame.eval_const a'; have hfn := BigFrame.eval_func a'; clear hs hdep; generalize a'.eval = ev at *; go_simp
      · exact c_val (C14.out w' hS) rfl
  · go_light; intro listed a' w' hs hS hun hdep
    have e9 : a'.eval (.tmp 9) = (.bool m8) := hs.eval 4 _ 9 rfl (hdep ⟨4, .data⟩ (by simp) rfl) rfl
    have e14 : a'.eval (.tmp 14) = (if m8 = true then .bool m14 else undef) := hs.eval 9 _ 14 rfl (hdep ⟨9, .data⟩ (by simp) rfl) rfl
    refine g_val (.bool m15) hS rfl ?_ rfl
    cases m8
    · replace e14 := e14.trans (if_neg (by decide))
      exact (op_pick_f rfl e9 (BigFrame.eval_const a' _)).trans (by rw [← hm15.out]; first | rfl | simp)
    · replace e14 := e14.trans (if_pos rfl)
      exact (op_pick_t rfl e9 e14).trans (by rw [← hm15.out]; first | rfl | simp)
  · go_light; intro listed a' w' hs hS hun hdep
    have e15 : a'.eval (.tmp 15) = (.bool m15) := hs.eval 10 _ 15 rfl (hdep ⟨10, .data⟩ (by simp) rfl) rfl
    exact g_val (.bool m15) hS rfl (op_move rfl e15) rfl
  · go_light; intro listed a' w' hs hS hun hdep
    have eg : a'.eval (.tmp 16) = (.bool m15) := hs.eval 11 _ 16 rfl (hdep ⟨11, .guard⟩ (by simp) rfl) rfl
    have e2 : a'.eval (.tmp 2) = .pointer (some ⟨w.heap.size, 0, none⟩) := (hs.out 2 (by kernel_rfl)).trans (rfl)
    cases m15
    · exact g_not hS (wanted_no rfl rfl rfl eg (by decide)) rfl
    · refine g_val (.pointer (some ⟨w.heap.size, 1, none⟩)) hS (wanted_yes rfl rfl rfl eg) ?_ rfl
      have hcn := BigFrame.eval_const a'; have hfn := BigFrame.eval_func a'; clear hs hdep; generalize a'.eval = ev at *; go_simp
  · go_light; intro listed a' w' hs hS hun hdep
    have eg : a'.eval (.tmp 16) = (.bool m15) := hs.eval 11 _ 16 rfl (hdep ⟨11, .guard⟩ (by simp) rfl) rfl
    have e17 : a'.eval (.tmp 17) = (if m15 = true then .pointer (some ⟨w.heap.size, 1, none⟩) else undef) := hs.eval 12 _ 17 rfl (hdep ⟨12, .data⟩ (by simp) rfl) rfl
    cases m15
    · exact g_not hS (wanted_no rfl rfl rfl eg (by decide)) rfl
    · replace e17 := e17.trans (if_pos rfl)
      exact g_val (.int .i64 o) hS (wanted_yes rfl rfl rfl eg) (op_ld1 (.int .i64 o) rfl e17 (L0.out.below hS) 1 (by first | rfl | simp) rfl Try.underlying3 rfl) rfl
  · go_light; intro listed a' w' hs hS hun hdep
    have eg : a'.eval (.tmp 16) = (.bool m15) := hs.eval 11 _ 16 rfl (hdep ⟨11, .guard⟩ (by simp) rfl) rfl
    have e3 : a'.eval (.tmp 3) = .pointer (some ⟨w.heap.size + 1, 0, none⟩) := (hs.out 3 (by kernel_rfl)).trans (rfl)
    cases m15
    · exact g_not hS (wanted_no rfl rfl rfl eg (by decide)) rfl
    · refine g_val (.pointer (some ⟨w.heap.size + 1, 1, none⟩)) hS (wanted_yes rfl rfl rfl eg) ?_ rfl
      have hcn := BigFrame.eval_const a'; have hfn := BigFrame.eval_func a'; clear hs hdep; generalize a'.eval = ev at *; go_simp
  · go_light; intro listed a' w' hs hS hun hdep
    have eg : a'.eval (.tmp 16) = (.bool m15) := hs.eval 11 _ 16 rfl (hdep ⟨11, .guard⟩ (by simp) rfl) rfl
    have e19 : a'.eval (.tmp 19) = (if m15 = true then .pointer (some ⟨w.heap.size + 1, 1, none⟩) else undef) := hs.eval 14 _ 19 rfl (hdep ⟨14, .data⟩ (by simp) rfl) rfl
    cases m15
    · exact g_not hS (wanted_no rfl rfl rfl eg (by decide)) rfl
    · replace e19 := e19.trans (if_pos rfl)
      exact g_val (.int .i64 o2) hS (wanted_yes rfl rfl rfl eg) (op_ld1 (.int .i64 o2) rfl e19 (L1.out.below hS) 1 (by first | rfl | simp) rfl Try.underlying3 rfl) rfl
  · go_light; intro listed a' w' hs hS hun hdep
    have eg : a'.eval (.tmp 16) = (.bool m15) := hs.eval 11 _ 16 rfl (hdep ⟨11, .guard⟩ (by simp) rfl) rfl
    have e18 : a'.eval (.tmp 18) = (if m15 = true then .int .i64 o else undef) := hs.eval 13 _ 18 rfl (hdep ⟨13, .data⟩ (by simp) rfl) rfl
    have e20 : a'.eval (.tmp 20) = (if m15 = true then .int .i64 o2 else undef) := hs.eval 15 _ 20 rfl (hdep ⟨15, .data⟩ (by simp) rfl) rfl
    cases m15
    · exact g_not hS (wanted_no rfl rfl rfl eg (by decide)) rfl
    · replace e18 := e18.trans (if_pos rfl)
      replace e20 := e20.trans (if_pos rfl)
      refine g_call 35 #[.int .i64 o, .int .i64 o2] hS (wanted_yes rfl rfl rfl eg) ?_ ?_
      · have hcn := BigFrame.eval_const a'; have hfn := BigFrame.eval_func a'; clear hs hdep; generalize a'.eval = ev at *; go_simp
      · exact c_val (C21.out w' hS) rfl
  · go_light; intro listed a' w' hs hS hun hdep
    have e16 : a'.eval (.tmp 16) = (.bool m15) := hs.eval 11 _ 16 rfl (hdep ⟨11, .data⟩ (by simp) rfl) rfl
    have e21 : a'.eval (.tmp 21) = (if m15 = true then .bool m21 else undef) := hs.eval 16 _ 21 rfl (hdep ⟨16, .data⟩ (by simp) rfl) rfl
    refine g_val (.bool m22) hS rfl ?_ rfl
    cases m15
    · replace e21 := e21.trans (if_neg (by decide))
      exact (op_pick_f rfl e16 (BigFrame.eval_const a' _)).trans (by rw [← hm22.out]; first | rfl | simp)
    · replace e21 := e21.trans (if_pos rfl)
      exact (op_pick_t rfl e16 e21).trans (by rw [← hm22.out]; first | rfl | simp)
  · go_light; intro listed a' w' hs hS hun hdep
    have e22 : a'.eval (.tmp 22) = (.bool m22) := hs.eval 17 _ 22 rfl (hdep ⟨17, .data⟩ (by simp) rfl) rfl
    exact g_val (.bool m22) hS rfl (op_move rfl e22) rfl
  · go_light; intro listed a' w' hs hS hun hdep
    have eg : a'.eval (.tmp 23) = (.bool m22) := hs.eval 18 _ 23 rfl (hdep ⟨18, .guard⟩ (by simp) rfl) rfl
    have e2 : a'.eval (.tmp 2) = .pointer (some ⟨w.heap.size, 0, none⟩) := (hs.out 2 (by kernel_rfl)).trans (rfl)
    cases m22
    · exact g_not hS (wanted_no rfl rfl rfl eg (by decide)) rfl
    · refine g_val (.pointer (some ⟨w.heap.size, 6, none⟩)) hS (wanted_yes rfl rfl rfl eg) ?_ rfl
      have hcn := BigFrame.eval_const a'; have hfn := BigFrame.eval_func a'; clear hs hdep; generalize a'.eval = ev at *; go_simp
  · go_light; intro listed a' w' hs hS hun hdep
    have eg : a'.eval (.tmp 23) = (.bool m22) := hs.eval 18 _ 23 rfl (hdep ⟨18, .guard⟩ (by simp) rfl) rfl
    have e24 : a'.eval (.tmp 24) = (if m22 = true then .pointer (some ⟨w.heap.size, 6, none⟩) else undef) := hs.eval 19 _ 24 rfl (hdep ⟨19, .data⟩ (by simp) rfl) rfl
    cases m22
    · exact g_not hS (wanted_no rfl rfl rfl eg (by decide)) rfl
    · replace e24 := e24.trans (if_pos rfl)
      exact g_val (.int .i64 p) hS (wanted_yes rfl rfl rfl eg) (op_ld1 (.int .i64 p) rfl e24 (L0.out.below hS) 6 (by first | rfl | simp) rfl Try.underlying3 rfl) rfl
  · go_light; intro listed a' w' hs hS hun hdep
    have eg : a'.eval (.tmp 23) = (.bool m22) := hs.eval 18 _ 23 rfl (hdep ⟨18, .guard⟩ (by simp) rfl) rfl
    have e3 : a'.eval (.tmp 3) = .pointer (some ⟨w.heap.size + 1, 0, none⟩) := (hs.out 3 (by kernel_rfl)).trans (rfl)
    cases m22
    · exact g_not hS (wanted_no rfl rfl rfl eg (by decide)) rfl
    · refine g_val (.pointer (some ⟨w.heap.size + 1, 6, none⟩)) hS (wanted_yes rfl rfl rfl eg) ?_ rfl
      have hcn := BigFrame.eval_const a'; have hfn := BigFrame.eval_func a'; clear hs hdep; generalize a'.eval = ev at *; go_simp
  · go_light; intro listed a' w' hs hS hun hdep
    have eg : a'.eval (.tmp 23) = (.bool m22) := hs.eval 18 _ 23 rfl (hdep ⟨18, .guard⟩ (by simp) rfl) rfl
    have e26 : a'.eval (.tmp 26) = (if m22 = true then .pointer (some ⟨w.heap.size + 1, 6, none⟩) else undef) := hs.eval 21 _ 26 rfl (hdep ⟨21, .data⟩ (by simp) rfl) rfl
    cases m22
    · exact g_not hS (wanted_no rfl rfl rfl eg (by decide)) rfl
    · replace e26 := e26.trans (if_pos rfl)
      exact g_val (.int .i64 p2) hS (wanted_yes rfl rfl rfl eg) (op_ld1 (.int .i64 p2) rfl e26 (L1.out.below hS) 6 (by first | rfl | simp) rfl Try.underlying3 rfl) rfl
  · go_light; intro listed a' w' hs hS hun hdep
    have eg : a'.eval (.tmp 23) = (.bool m22) := hs.eval 18 _ 23 rfl (hdep ⟨18, .guard⟩ (by simp) rfl) rfl
    have e25 : a'.eval (.tmp 25) = (if m22 = true then .int .i64 p else undef) := hs.eval 20 _ 25 rfl (hdep ⟨20, .data⟩ (by simp) rfl) rfl
    have e27 : a'.eval (.tmp 27) = (if m22 = true then .int .i64 p2 else undef) := hs.eval 22 _ 27 rfl (hdep ⟨22, .data⟩ (by simp) rfl) rfl
    cases m22
    · exact g_not hS (wanted_no rfl rfl rfl eg (by decide)) rfl
    · replace e25 := e25.trans (if_pos rfl)
      replace e27 := e27.trans (if_pos rfl)
      refine g_call 35 #[.int .i64 p, .int .i64 p2] hS (wanted_yes rfl rfl rfl eg) ?_ ?_
      · have hcn := BigFrame.eval_const a'; have hfn := BigFrame.eval_func a'; clear hs hdep; generalize a'.eval = ev at *; go_simp
      · exact c_val (C28.out w' hS) rfl
  · go_light; intro listed a' w' hs hS hun hdep
    have e23 : a'.eval (.tmp 23) = (.bool m22) := hs.eval 18 _ 23 rfl (hdep ⟨18, .data⟩ (by simp) rfl) rfl
    have e28 : a'.eval (.tmp 28) = (if m22 = true then .bool m28 else undef) := hs.eval 23 _ 28 rfl (hdep ⟨23, .data⟩ (by simp) rfl) rfl
    refine g_val (.bool m29) hS rfl ?_ rfl
    cases m22
    · replace e28 := e28.trans (if_neg (by decide))
      exact (op_pick_f rfl e23 (BigFrame.eval_const a' _)).trans (by rw [← hm29.out]; first | rfl | simp)
    · replace e28 := e28.trans (if_pos rfl)
      exact (op_pick_t rfl e23 e28).trans (by rw [← hm29.out]; first | rfl | simp)
  · go_light; intro listed a' w' hs hS hun hdep
    have e29 : a'.eval (.tmp 29) = (.bool m29) := hs.eval 24 _ 29 rfl (hdep ⟨24, .data⟩ (by simp) rfl) rfl
    exact g_val (.bool m29) hS rfl (op_move rfl e29) rfl
  · go_light; intro listed a' w' hs hS hun hdep
    have eg : a'.eval (.tmp 30) = (.bool m29) := hs.eval 25 _ 30 rfl (hdep ⟨25, .guard⟩ (by simp) rfl) rfl
    have e3 : a'.eval (.tmp 3) = .pointer (some ⟨w.heap.size + 1, 0, none⟩) := (hs.out 3 (by kernel_rfl)).trans (rfl)
    cases m29
    · exact g_not hS (wanted_no rfl rfl rfl eg (by decide)) rfl
    · refine g_val (.pointer (some ⟨w.heap.size + 1, 2, none⟩)) hS (wanted_yes rfl rfl rfl eg) ?_ rfl
      have hcn := BigFrame.eval_const a'; have hfn := BigFrame.eval_func a'; clear hs hdep; generalize a'.eval = ev at *; go_simp
  · go_light; intro listed a' w' hs hS hun hdep
    have eg : a'.eval (.tmp 30) = (.bool m29) := hs.eval 25 _ 30 rfl (hdep ⟨25, .guard⟩ (by simp) rfl) rfl
    have e31 : a'.eval (.tmp 31) = (if m29 = true then .pointer (some ⟨w.heap.size + 1, 2, none⟩) else undef) := hs.eval 26 _ 31 rfl (hdep ⟨26, .data⟩ (by simp) rfl) rfl
    cases m29
    · exact g_not hS (wanted_no rfl rfl rfl eg (by decide)) rfl
    · replace e31 := e31.trans (if_pos rfl)
      exact g_val (.agg #[.int .u32 sa2, .int .i64 sb2]) hS (wanted_yes rfl rfl rfl eg) (op_ld [.int .u32 sa2, .int .i64 sb2] rfl e31 (L1.out.below hS) 2 (by first | rfl | simp) rfl Try.underlying32 rfl (by kernel_rfl)) rfl
  · go_light; intro listed a' w' hs hS hun hdep
    have eg : a'.eval (.tmp 30) = (.bool m29) := hs.eval 25 _ 30 rfl (hdep ⟨25, .guard⟩ (by simp) rfl) rfl
    have e2 : a'.eval (.tmp 2) = .pointer (some ⟨w.heap.size, 0, none⟩) := (hs.out 2 (by kernel_rfl)).trans (rfl)
    cases m29
    · exact g_not hS (wanted_no rfl rfl rfl eg (by decide)) rfl
    · refine g_val (.pointer (some ⟨w.heap.size, 2, none⟩)) hS (wanted_yes rfl rfl rfl eg) ?_ rfl
      have hcn := BigFrame.eval_const a'; have hfn := BigFrame.eval_func a'; clear hs hdep; generalize a'.eval = ev at *; go_simp
  · go_light; intro listed a' w' hs hS hun hdep
    have eg : a'.eval (.tmp 30) = (.bool m29) := hs.eval 25 _ 30 rfl (hdep ⟨25, .guard⟩ (by simp) rfl) rfl
    have e33 : a'.eval (.tmp 33) = (if m29 = true then .pointer (some ⟨w.heap.size, 2, none⟩) else undef) := hs.eval 28 _ 33 rfl (hdep ⟨28, .data⟩ (by simp) rfl) rfl
    cases m29
    · exact g_not hS (wanted_no rfl rfl rfl eg (by decide)) rfl
    · replace e33 := e33.trans (if_pos rfl)
      exact g_val (.agg #[.int .u32 sa, .int .i64 sb]) hS (wanted_yes rfl rfl rfl eg) (op_ld [.int .u32 sa, .int .i64 sb] rfl e33 (L0.out.below hS) 2 (by first | rfl | simp) rfl Try.underlying32 rfl (by kernel_rfl)) rfl
  · go_light; intro listed a' w' hs hS hun hdep
    have eg : a'.eval (.tmp 30) = (.bool m29) := hs.eval 25 _ 30 rfl (hdep ⟨25, .guard⟩ (by simp) rfl) rfl
    have e32 : a'.eval (.tmp 32) = (if m29 = true then .agg #[.int .u32 sa2, .int .i64 sb2] else undef) := hs.eval 27 _ 32 rfl (hdep ⟨27, .data⟩ (by simp) rfl) rfl
    have e34 : a'.eval (.tmp 34) = (if m29 = true then .agg #[.int .u32 sa, .int .i64 sb] else undef) := hs.eval 29 _ 34 rfl (hdep ⟨29, .data⟩ (by simp) rfl) rfl
    cases m29
    · exact g_not hS (wanted_no rfl rfl rfl eg (by decide)) rfl
    · replace e32 := e32.trans (if_pos rfl)
      replace e34 := e34.trans (if_pos rfl)
      refine g_call 36 #[.agg #[.int .u32 sa2, .int .i64 sb2], .agg #[.int .u32 sa, .int .i64 sb]] hS (wanted_yes rfl rfl rfl eg) ?_ ?_
      · have hcn := BigFrame.eval_const a'; have hfn := BigFrame.eval_func a'; clear hs hdep; generalize a'.eval = ev at *; go_simp
      · exact c_val (C35.out w' hS) rfl
  · go_light; intro listed a' w' hs hS hun hdep
    have e30 : a'.eval (.tmp 30) = (.bool m29) := hs.eval 25 _ 30 rfl (hdep ⟨25, .data⟩ (by simp) rfl) rfl
    have e35 : a'.eval (.tmp 35) = (if m29 = true then .bool m35 else undef) := hs.eval 30 _ 35 rfl (hdep ⟨30, .data⟩ (by simp) rfl) rfl
    refine g_val (.bool m36) hS rfl ?_ rfl
    cases m29
    · replace e35 := e35.trans (if_neg (by decide))
      exact (op_pick_f rfl e30 (BigFrame.eval_const a' _)).trans (by rw [← hm36.out]; first | rfl | simp)
    · replace e35 := e35.trans (if_pos rfl)
      exact (op_pick_t rfl e30 e35).trans (by rw [← hm36.out]; first | rfl | simp)
  · go_light; intro listed a' w' hs hS hun hdep
    have e36 : a'.eval (.tmp 36) = (.bool m36) := hs.eval 31 _ 36 rfl (hdep ⟨31, .data⟩ (by simp) rfl) rfl
    exact g_val (.bool m36) hS rfl (op_move rfl e36) rfl
  · go_light; intro listed a' w' hs hS hun hdep
    have eg : a'.eval (.tmp 37) = (.bool m36) := hs.eval 32 _ 37 rfl (hdep ⟨32, .guard⟩ (by simp) rfl) rfl
    have e3 : a'.eval (.tmp 3) = .pointer (some ⟨w.heap.size + 1, 0, none⟩) := (hs.out 3 (by kernel_rfl)).trans (rfl)
    cases m36
    · exact g_not hS (wanted_no rfl rfl rfl eg (by decide)) rfl
    · refine g_val (.pointer (some ⟨w.heap.size + 1, 4, none⟩)) hS (wanted_yes rfl rfl rfl eg) ?_ rfl
      have hcn := BigFrame.eval_const a'; have hfn := BigFrame.eval_func a'; clear hs hdep; generalize a'.eval = ev at *; go_simp
  · go_light; intro listed a' w' hs hS hun hdep
    have eg : a'.eval (.tmp 37) = (.bool m36) := hs.eval 32 _ 37 rfl (hdep ⟨32, .guard⟩ (by simp) rfl) rfl
    have e38 : a'.eval (.tmp 38) = (if m36 = true then .pointer (some ⟨w.heap.size + 1, 4, none⟩) else undef) := hs.eval 33 _ 38 rfl (hdep ⟨33, .data⟩ (by simp) rfl) rfl
    cases m36
    · exact g_not hS (wanted_no rfl rfl rfl eg (by decide)) rfl
    · replace e38 := e38.trans (if_pos rfl)
      exact g_val (.agg #[.int .u32 da2, .int .i64 db2]) hS (wanted_yes rfl rfl rfl eg) (op_ld [.int .u32 da2, .int .i64 db2] rfl e38 (L1.out.below hS) 4 (by first | rfl | simp) rfl Try.underlying32 rfl (by kernel_rfl)) rfl
  · go_light; intro listed a' w' hs hS hun hdep
    have eg : a'.eval (.tmp 37) = (.bool m36) := hs.eval 32 _ 37 rfl (hdep ⟨32, .guard⟩ (by simp) rfl) rfl
    have e2 : a'.eval (.tmp 2) = .pointer (some ⟨w.heap.size, 0, none⟩) := (hs.out 2 (by kernel_rfl)).trans (rfl)
    cases m36
    · exact g_not hS (wanted_no rfl rfl rfl eg (by decide)) rfl
    · refine g_val (.pointer (some ⟨w.heap.size, 4, none⟩)) hS (wanted_yes rfl rfl rfl eg) ?_ rfl
      have hcn := BigFrame.eval_const a'; have hfn := BigFrame.eval_func a'; clear hs hdep; generalize a'.eval = ev at *; go_simp
  · go_light; intro listed a' w' hs hS hun hdep
    have eg : a'.eval (.tmp 37) = (.bool m36) := hs.eval 32 _ 37 rfl (hdep ⟨32, .guard⟩ (by simp) rfl) rfl
    have e40 : a'.eval (.tmp 40) = (if m36 = true then .pointer (some ⟨w.heap.size, 4, none⟩) else undef) := hs.eval 35 _ 40 rfl (hdep ⟨35, .data⟩ (by simp) rfl) rfl
    cases m36
    · exact g_not hS (wanted_no rfl rfl rfl eg (by decide)) rfl
    · replace e40 := e40.trans (if_pos rfl)
      exact g_val (.agg #[.int .u32 da, .int .i64 db]) hS (wanted_yes rfl rfl rfl eg) (op_ld [.int .u32 da, .int .i64 db] rfl e40 (L0.out.below hS) 4 (by first | rfl | simp) rfl Try.underlying32 rfl (by kernel_rfl)) rfl
  · go_light; intro listed a' w' hs hS hun hdep
    have eg : a'.eval (.tmp 37) = (.bool m36) := hs.eval 32 _ 37 rfl (hdep ⟨32, .guard⟩ (by simp) rfl) rfl
    have e39 : a'.eval (.tmp 39) = (if m36 = true then .agg #[.int .u32 da2, .int .i64 db2] else undef) := hs.eval 34 _ 39 rfl (hdep ⟨34, .data⟩ (by simp) rfl) rfl
    have e41 : a'.eval (.tmp 41) = (if m36 = true then .agg #[.int .u32 da, .int .i64 db] else undef) := hs.eval 36 _ 41 rfl (hdep ⟨36, .data⟩ (by simp) rfl) rfl
    cases m36
    · exact g_not hS (wanted_no rfl rfl rfl eg (by decide)) rfl
    · replace e39 := e39.trans (if_pos rfl)
      replace e41 := e41.trans (if_pos rfl)
      refine g_call 36 #[.agg #[.int .u32 da2, .int .i64 db2], .agg #[.int .u32 da, .int .i64 db]] hS (wanted_yes rfl rfl rfl eg) ?_ ?_
      · have hcn := BigFrame.eval_const a'; have hfn := BigFrame.eval_func a'; clear hs hdep; generalize a'.eval = ev at *; go_simp
      · exact c_val (C42.out w' hS) rfl
  · go_light; intro listed a' w' hs hS hun hdep
    have e37 : a'.eval (.tmp 37) = (.bool m36) := hs.eval 32 _ 37 rfl (hdep ⟨32, .data⟩ (by simp) rfl) rfl
    have e42 : a'.eval (.tmp 42) = (if m36 = true then .bool m42 else undef) := hs.eval 37 _ 42 rfl (hdep ⟨37, .data⟩ (by simp) rfl) rfl
    refine g_val (.bool m43) hS rfl ?_ rfl
    cases m36
    · replace e42 := e42.trans (if_neg (by decide))
      exact (op_pick_f rfl e37 (BigFrame.eval_const a' _)).trans (by rw [← hm43.out]; first | rfl | simp)
    · replace e42 := e42.trans (if_pos rfl)
      exact (op_pick_t rfl e37 e42).trans (by rw [← hm43.out]; first | rfl | simp)
  · go_light; intro listed a' w' hs hS hun hdep
    have e43 : a'.eval (.tmp 43) = (.bool m43) := hs.eval 38 _ 43 rfl (hdep ⟨38, .data⟩ (by simp) rfl) rfl
    exact g_val (.bool m43) hS rfl (op_move rfl e43) rfl
  · go_light; intro listed a' w' hs hS hun hdep
    have eg : a'.eval (.tmp 44) = (.bool m43) := hs.eval 39 _ 44 rfl (hdep ⟨39, .guard⟩ (by simp) rfl) rfl
    have e3 : a'.eval (.tmp 3) = .pointer (some ⟨w.heap.size + 1, 0, none⟩) := (hs.out 3 (by kernel_rfl)).trans (rfl)
    cases m43
    · exact g_not hS (wanted_no rfl rfl rfl eg (by decide)) rfl
    · exact g_val (.agg #[.int .i64 i2, .int .i64 o2, .int .u32 sa2, .int .i64 sb2, .int .u32 da2, .int .i64 db2, .int .i64 p2, .int .i64 slo2, .int .i64 shi2, .int .i64 dlo2, .int .i64 dhi2, .bool al2]) hS (wanted_yes rfl rfl rfl eg) (op_ld [.int .i64 i2, .int .i64 o2, .int .u32 sa2, .int .i64 sb2, .int .u32 da2, .int .i64 db2, .int .i64 p2, .int .i64 slo2, .int .i64 shi2, .int .i64 dlo2, .int .i64 dhi2, .bool al2] rfl e3 (L1.out.below hS) 0 (by first | rfl | simp) rfl Try.underlying34 rfl (by kernel_rfl)) rfl
  · go_light; intro listed a' w' hs hS hun hdep
    have eg : a'.eval (.tmp 44) = (.bool m43) := hs.eval 39 _ 44 rfl (hdep ⟨39, .guard⟩ (by simp) rfl) rfl
    have e45 : a'.eval (.tmp 45) = (if m43 = true then .agg #[.int .i64 i2, .int .i64 o2, .int .u32 sa2, .int .i64 sb2, .int .u32 da2, .int .i64 db2, .int .i64 p2, .int .i64 slo2, .int .i64 shi2, .int .i64 dlo2, .int .i64 dhi2, .bool al2] else undef) := hs.eval 40 _ 45 rfl (hdep ⟨40, .data⟩ (by simp) rfl) rfl
    cases m43
    · exact g_not hS (wanted_no rfl rfl rfl eg (by decide)) rfl
    · replace e45 := e45.trans (if_pos rfl)
      refine g_call 37 #[.agg #[.int .i64 i2, .int .i64 o2, .int .u32 sa2, .int .i64 sb2, .int .u32 da2, .int .i64 db2, .int .i64 p2, .int .i64 slo2, .int .i64 shi2, .int .i64 dlo2, .int .i64 dhi2, .bool al2]] hS (wanted_yes rfl rfl rfl eg) ?_ ?_
      · have hcn := BigFrame.eval_const a'; have hfn := BigFrame.eval_func a'; clear hs hdep; generalize a'.eval = ev at *; go_simp
      · exact c_val (C46.out w' hS) rfl
  · go_light; intro listed a' w' hs hS hun hdep
    have eg : a'.eval (.tmp 44) = (.bool m43) := hs.eval 39 _ 44 rfl (hdep ⟨39, .guard⟩ (by simp) rfl) rfl
    have e2 : a'.eval (.tmp 2) = .pointer (some ⟨w.heap.size, 0, none⟩) := (hs.out 2 (by kernel_rfl)).trans (rfl)
    cases m43
    · exact g_not hS (wanted_no rfl rfl rfl eg (by decide)) rfl
    · exact g_val (.agg #[.int .i64 i, .int .i64 o, .int .u32 sa, .int .i64 sb, .int .u32 da, .int .i64 db, .int .i64 p, .int .i64 slo, .int .i64 shi, .int .i64 dlo, .int .i64 dhi, .bool al]) hS (wanted_yes rfl rfl rfl eg) (op_ld [.int .i64 i, .int .i64 o, .int .u32 sa, .int .i64 sb, .int .u32 da, .int .i64 db, .int .i64 p, .int .i64 slo, .int .i64 shi, .int .i64 dlo, .int .i64 dhi, .bool al] rfl e2 (L0.out.below hS) 0 (by first | rfl | simp) rfl Try.underlying34 rfl (by kernel_rfl)) rfl
  · go_light; intro listed a' w' hs hS hun hdep
    have eg : a'.eval (.tmp 44) = (.bool m43) := hs.eval 39 _ 44 rfl (hdep ⟨39, .guard⟩ (by simp) rfl) rfl
    have e47 : a'.eval (.tmp 47) = (if m43 = true then .agg #[.int .i64 i, .int .i64 o, .int .u32 sa, .int .i64 sb, .int .u32 da, .int .i64 db, .int .i64 p, .int .i64 slo, .int .i64 shi, .int .i64 dlo, .int .i64 dhi, .bool al] else undef) := hs.eval 42 _ 47 rfl (hdep ⟨42, .data⟩ (by simp) rfl) rfl
    cases m43
    · exact g_not hS (wanted_no rfl rfl rfl eg (by decide)) rfl
    · replace e47 := e47.trans (if_pos rfl)
      refine g_call 37 #[.agg #[.int .i64 i, .int .i64 o, .int .u32 sa, .int .i64 sb, .int .u32 da, .int .i64 db, .int .i64 p, .int .i64 slo, .int .i64 shi, .int .i64 dlo, .int .i64 dhi, .bool al]] hS (wanted_yes rfl rfl rfl eg) ?_ ?_
      · have hcn := BigFrame.eval_const a'; have hfn := BigFrame.eval_func a'; clear hs hdep; generalize a'.eval = ev at *; go_simp
      · exact c_val (C48.out w' hS) rfl
  · go_light; intro listed a' w' hs hS hun hdep
    have eg : a'.eval (.tmp 44) = (.bool m43) := hs.eval 39 _ 44 rfl (hdep ⟨39, .guard⟩ (by simp) rfl) rfl
    have e46 : a'.eval (.tmp 46) = (if m43 = true then .agg #[.int .i64 slo2, .int .i64 shi2] else undef) := hs.eval 41 _ 46 rfl (hdep ⟨41, .data⟩ (by simp) rfl) rfl
    have e48 : a'.eval (.tmp 48) = (if m43 = true then .agg #[.int .i64 slo, .int .i64 shi] else undef) := hs.eval 43 _ 48 rfl (hdep ⟨43, .data⟩ (by simp) rfl) rfl
    cases m43
    · exact g_not hS (wanted_no rfl rfl rfl eg (by decide)) rfl
    · replace e46 := e46.trans (if_pos rfl)
      replace e48 := e48.trans (if_pos rfl)
      refine g_call 38 #[.agg #[.int .i64 slo2, .int .i64 shi2], .agg #[.int .i64 slo, .int .i64 shi]] hS (wanted_yes rfl rfl rfl eg) ?_ ?_
      · have hcn := BigFrame.eval_const a'; have hfn := BigFrame.eval_func a'; clear hs hdep; generalize a'.eval = ev at *; go_simp
      · exact c_val (C49.out w' hS) rfl
  · go_light; intro listed a' w' hs hS hun hdep
    have e44 : a'.eval (.tmp 44) = (.bool m43) := hs.eval 39 _ 44 rfl (hdep ⟨39, .data⟩ (by simp) rfl) rfl
    have e49 : a'.eval (.tmp 49) = (if m43 = true then .bool m49 else undef) := hs.eval 44 _ 49 rfl (hdep ⟨44, .data⟩ (by simp) rfl) rfl
    refine g_val (.bool m50) hS rfl ?_ rfl
    cases m43
    · replace e49 := e49.trans (if_neg (by decide))
      exact (op_pick_f rfl e44 (BigFrame.eval_const a' _)).trans (by rw [← hm50.out]; first | rfl | simp)
    · replace e49 := e49.trans (if_pos rfl)
      exact (op_pick_t rfl e44 e49).trans (by rw [← hm50.out]; first | rfl | simp)
  · go_light; intro listed a' w' hs hS hun hdep
    have e50 : a'.eval (.tmp 50) = (.bool m50) := hs.eval 45 _ 50 rfl (hdep ⟨45, .data⟩ (by simp) rfl) rfl
    exact g_val (.bool m50) hS rfl (op_move rfl e50) rfl
  · go_light; intro listed a' w' hs hS hun hdep
    have eg : a'.eval (.tmp 51) = (.bool m50) := hs.eval 46 _ 51 rfl (hdep ⟨46, .guard⟩ (by simp) rfl) rfl
    have e3 : a'.eval (.tmp 3) = .pointer (some ⟨w.heap.size + 1, 0, none⟩) := (hs.out 3 (by kernel_rfl)).trans (rfl)
    cases m50
    · exact g_not hS (wanted_no rfl rfl rfl eg (by decide)) rfl
    · exact g_val (.agg #[.int .i64 i2, .int .i64 o2, .int .u32 sa2, .int .i64 sb2, .int .u32 da2, .int .i64 db2, .int .i64 p2, .int .i64 slo2, .int .i64 shi2, .int .i64 dlo2, .int .i64 dhi2, .bool al2]) hS (wanted_yes rfl rfl rfl eg) (op_ld [.int .i64 i2, .int .i64 o2, .int .u32 sa2, .int .i64 sb2, .int .u32 da2, .int .i64 db2, .int .i64 p2, .int .i64 slo2, .int .i64 shi2, .int .i64 dlo2, .int .i64 dhi2, .bool al2] rfl e3 (L1.out.below hS) 0 (by first | rfl | simp) rfl Try.underlying34 rfl (by kernel_rfl)) rfl
  · go_light; intro listed a' w' hs hS hun hdep
    have eg : a'.eval (.tmp 51) = (.bool m50) := hs.eval 46 _ 51 rfl (hdep ⟨46, .guard⟩ (by simp) rfl) rfl
    have e52 : a'.eval (.tmp 52) = (if m50 = true then .agg #[.int .i64 i2, .int .i64 o2, .int .u32 sa2, .int .i64 sb2, .int .u32 da2, .int .i64 db2, .int .i64 p2, .int .i64 slo2, .int .i64 shi2, .int .i64 dlo2, .int .i64 dhi2, .bool al2] else undef) := hs.eval 47 _ 52 rfl (hdep ⟨47, .data⟩ (by simp) rfl) rfl
    cases m50
    · exact g_not hS (wanted_no rfl rfl rfl eg (by decide)) rfl
    · replace e52 := e52.trans (if_pos rfl)
      refine g_call 39 #[.agg #[.int .i64 i2, .int .i64 o2, .int .u32 sa2, .int .i64 sb2, .int .u32 da2, .int .i64 db2, .int .i64 p2, .int .i64 slo2, .int .i64 shi2, .int .i64 dlo2, .int .i64 dhi2, .bool al2]] hS (wanted_yes rfl rfl rfl eg) ?_ ?_
      · have hcn := BigFrame.eval_const a'; have hfn := BigFrame.eval_func a'; clear hs hdep; generalize a'.eval = ev at *; go_simp
      · exact c_val (C53.out w' hS) rfl
  · go_light; intro listed a' w' hs hS hun hdep
    have eg : a'.eval (.tmp 51) = (.bool m50) := hs.eval 46 _ 51 rfl (hdep ⟨46, .guard⟩ (by simp) rfl) rfl
    have e2 : a'.eval (.tmp 2) = .pointer (some ⟨w.heap.size, 0, none⟩) := (hs.out 2 (by kernel_rfl)).trans (rfl)
    cases m50
    · exact g_not hS (wanted_no rfl rfl rfl eg (by decide)) rfl
    · exact g_val (.agg #[.int .i64 i, .int .i64 o, .int .u32 sa, .int .i64 sb, .int .u32 da, .int .i64 db, .int .i64 p, .int .i64 slo, .int .i64 shi, .int .i64 dlo, .int .i64 dhi, .bool al]) hS (wanted_yes rfl rfl rfl eg) (op_ld [.int .i64 i, .int .i64 o, .int .u32 sa, .int .i64 sb, .int .u32 da, .int .i64 db, .int .i64 p, .int .i64 slo, .int .i64 shi, .int .i64 dlo, .int .i64 dhi, .bool al] rfl e2 (L0.out.below hS) 0 (by first | rfl | simp) rfl Try.underlying34 rfl (by kernel_rfl)) rfl
  · go_light; intro listed a' w' hs hS hun hdep
    have eg : a'.eval (.tmp 51) = (.bool m50) := hs.eval 46 _ 51 rfl (hdep ⟨46, .guard⟩ (by simp) rfl) rfl
    have e54 : a'.eval (.tmp 54) = (if m50 = true then .agg #[.int .i64 i, .int .i64 o, .int .u32 sa, .int .i64 sb, .int .u32 da, .int .i64 db, .int .i64 p, .int .i64 slo, .int .i64 shi, .int .i64 dlo, .int .i64 dhi, .bool al] else undef) := hs.eval 49 _ 54 rfl (hdep ⟨49, .data⟩ (by simp) rfl) rfl
    cases m50
    · exact g_not hS (wanted_no rfl rfl rfl eg (by decide)) rfl
    · replace e54 := e54.trans (if_pos rfl)
      refine g_call 39 #[.agg #[.int .i64 i, .int .i64 o, .int .u32 sa, .int .i64 sb, .int .u32 da, .int .i64 db, .int .i64 p, .int .i64 slo, .int .i64 shi, .int .i64 dlo, .int .i64 dhi, .bool al]] hS (wanted_yes rfl rfl rfl eg) ?_ ?_
      · have hcn := BigFrame.eval_const a'; have hfn := BigFrame.eval_func a'; clear hs hdep; generalize a'.eval = ev at *; go_simp
      · exact c_val (C55.out w' hS) rfl
  · go_light; intro listed a' w' hs hS hun hdep
    have eg : a'.eval (.tmp 51) = (.bool m50) := hs.eval 46 _ 51 rfl (hdep ⟨46, .guard⟩ (by simp) rfl) rfl
    have e53 : a'.eval (.tmp 53) = (if m50 = true then .agg #[.int .i64 dlo2, .int .i64 dhi2] else undef) := hs.eval 48 _ 53 rfl (hdep ⟨48, .data⟩ (by simp) rfl) rfl
    have e55 : a'.eval (.tmp 55) = (if m50 = true then .agg #[.int .i64 dlo, .int .i64 dhi] else undef) := hs.eval 50 _ 55 rfl (hdep ⟨50, .data⟩ (by simp) rfl) rfl
    cases m50
    · exact g_not hS (wanted_no rfl rfl rfl eg (by decide)) rfl
    · replace e53 := e53.trans (if_pos rfl)
      replace e55 := e55.trans (if_pos rfl)
      refine g_call 38 #[.agg #[.int .i64 dlo2, .int .i64 dhi2], .agg #[.int .i64 dlo, .int .i64 dhi]] hS (wanted_yes rfl rfl rfl eg) ?_ ?_
      · have hcn := BigFrame.eval_const a'; have hfn := BigFrame.eval_func a'; clear hs hdep; generalize a'.eval = ev at *; go_simp
      · exact c_val (C56.out w' hS) rfl
  · go_light; intro listed a' w' hs hS hun hdep
    have e51 : a'.eval (.tmp 51) = (.bool m50) := hs.eval 46 _ 51 rfl (hdep ⟨46, .data⟩ (by simp) rfl) rfl
    have e56 : a'.eval (.tmp 56) = (if m50 = true then .bool m56 else undef) := hs.eval 51 _ 56 rfl (hdep ⟨51, .data⟩ (by simp) rfl) rfl
    refine g_val (.bool m57) hS rfl ?_ rfl
    cases m50
    · replace e56 := e56.trans (if_neg (by decide))
      exact (op_pick_f rfl e51 (BigFrame.eval_const a' _)).trans (by rw [← hm57.out]; first | rfl | simp)
    · replace e56 := e56.trans (if_pos rfl)
      exact (op_pick_t rfl e51 e56).trans (by rw [← hm57.out]; first | rfl | simp)
  · intro vs w3 hlen hV hS
    obtain ⟨v0, v1, v2, v3, v4, v5, v6, v7, v8, v9, v10, v11, v12, v13, v14, v15, v16, v17, v18, v19, v20, v21, v22, v23, v24, v25, v26, v27, v28, v29, v30, v31, v32, v33, v34, v35, v36, v37, v38, v39, v40, v41, v42, v43, v44, v45, v46, v47, v48, v49, v50, v51, v52, rfl⟩ := vs_53 vs (hlen.trans rfl)
    have q0 : v0 = .agg #[.int .i64 i, .int .i64 o, .int .u32 sa, .int .i64 sb, .int .u32 da, .int .i64 db, .int .i64 p, .int .i64 slo, .int .i64 shi, .int .i64 dlo, .int .i64 dhi, .bool al] := hV 0 _ rfl
    have q1 : v1 = .agg #[.int .i64 i2, .int .i64 o2, .int .u32 sa2, .int .i64 sb2, .int .u32 da2, .int .i64 db2, .int .i64 p2, .int .i64 slo2, .int .i64 shi2, .int .i64 dlo2, .int .i64 dhi2, .bool al2] := hV 1 _ rfl
    obtain ⟨b2, hge2, q2, hbk2⟩ : (.row (#[.int .i64 i, .int .i64 o, .int .u32 sa, .int .i64 sb, .int .u32 da, .int .i64 db, .int .i64 p, .int .i64 slo, .int .i64 shi, .int .i64 dlo, .int .i64 dhi, .bool al, .int .i64 i2, .int .i64 o2, .int .u32 sa2, .int .i64 sb2, .int .u32 da2, .int .i64 db2, .int .i64 p2, .int .i64 slo2, .int .i64 shi2, .int .i64 dlo2, .int .i64 dhi2, .bool al2]) 34 2 : GV).ok W0.heap.size v2 w3 := hV 2 _ rfl
    have q3 : v3 = .bool m8 := hV 3 _ rfl
    have q4 : v4 = .bool m8 := hV 4 _ rfl
    have q10 : v10 = .bool m15 := hV 10 _ rfl
    have q11 : v11 = .bool m15 := hV 11 _ rfl
    have q17 : v17 = .bool m22 := hV 17 _ rfl
    have q18 : v18 = .bool m22 := hV 18 _ rfl
    have q24 : v24 = .bool m29 := hV 24 _ rfl
    have q25 : v25 = .bool m29 := hV 25 _ rfl
    have q31 : v31 = .bool m36 := hV 31 _ rfl
    have q32 : v32 = .bool m36 := hV 32 _ rfl
    have q38 : v38 = .bool m43 := hV 38 _ rfl
    have q39 : v39 = .bool m43 := hV 39 _ rfl
    have q45 : v45 = .bool m50 := hV 45 _ rfl
    have q46 : v46 = .bool m50 := hV 46 _ rfl
    have q52 : v52 = .bool m57 := hV 52 _ rfl
    have hbel : Below W0.heap.size W0 w3 := hS
    subst q0 q1 q2 q3 q4 q10 q11 q17 q18 q24 q25 q31 q32 q38 q39 q45 q46 q52
    clear hV hS hlen
    simp only [lays, Act.put, List.setIfInBounds_toArray, List.set_cons_zero, List.set_cons_succ, List.drop_succ_cons, List.drop_zero, List.take_succ_cons, List.take_zero]
    go_wp2
    go_ret
    refine ⟨?_, hb0.trans (hbel.mono hb0.size)⟩
    unfold cov
    simp only []
    have hall : ([⟨i, o, sa, sb, da, db, p, slo, shi, dlo, dhi, al⟩, ⟨i2, o2, sa2, sb2, da2, db2, p2, slo2, shi2, dlo2, dhi2, al2⟩] : List Ru).all Ru.ok = ((⟨i, o, sa, sb, da, db, p, slo, shi, dlo, dhi, al⟩ : Ru).ok && (⟨i2, o2, sa2, sb2, da2, db2, p2, slo2, shi2, dlo2, dhi2, al2⟩ : Ru).ok) := by simp only [List.all_cons, List.all_nil, Bool.and_true]
    rw [← hall, ← hm57.out, ← hm56.out, ← hm50.out, ← hm49.out, ← hm43.out, ← hm42.out, ← hm36.out, ← hm35.out, ← hm29.out, ← hm28.out, ← hm22.out, ← hm21.out, ← hm15.out, ← hm14.out, ← hm8.out]
    rfl
#print axioms covers_any
end Go.Proofs.Ytagfcfkkjllfpaa
