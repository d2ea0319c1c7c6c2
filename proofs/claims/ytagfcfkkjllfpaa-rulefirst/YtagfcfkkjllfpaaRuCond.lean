/- What a rule asks of a question, as an array of bools. -/
import Derived.Test.YtagfcfkkjllfpaaRuLow
namespace Go.Proofs.Ytagfcfkkjllfpaa
open Go.RowKit
set_option maxRecDepth 100000
set_option linter.unusedVariables false
open U

-- REGIONS
theorem vs_50 (vs : List Value) (h : vs.length = 50) : ∃ v0 v1 v2 v3 v4 v5 v6 v7 v8 v9 v10 v11 v12 v13 v14 v15 v16 v17 v18 v19 v20 v21 v22 v23 v24 v25 v26 v27 v28 v29 v30 v31 v32 v33 v34 v35 v36 v37 v38 v39 v40 v41 v42 v43 v44 v45 v46 v47 v48 v49, vs = [v0, v1, v2, v3, v4, v5, v6, v7, v8, v9, v10, v11, v12, v13, v14, v15, v16, v17, v18, v19, v20, v21, v22, v23, v24, v25, v26, v27, v28, v29, v30, v31, v32, v33, v34, v35, v36, v37, v38, v39, v40, v41, v42, v43, v44, v45, v46, v47, v48, v49] := by
  obtain ⟨v0, r0, rfl, h0⟩ := vs_cons vs h
  obtain ⟨v1, r1, rfl, h1⟩ := vs_cons r0 h0
  obtain ⟨v2, r2, rfl, h2⟩ := vs_cons r1 h1
  obtain ⟨v3, r3, rfl, h3⟩ := vs_cons r2 h2
  obtain ⟨v4, r4, rfl, h4⟩ := vs_cons r3 h3
  obtain ⟨v5, r5, rfl, h5⟩ := vs_cons r4 h4
  obtain ⟨v6, r6, rfl, h6⟩ := vs_cons r5 h5
  obtain ⟨v7, r7, rfl, h7⟩ := vs_cons r6 h6
  obtain ⟨v8, r8, rfl, h8⟩ := vs_cons r7 h7
  obtain ⟨v9, r9, rfl, h9⟩ := vs_cons r8 h8
  obtain ⟨v10, r10, rfl, h10⟩ := vs_cons r9 h9
  obtain ⟨v11, r11, rfl, h11⟩ := vs_cons r10 h10
  obtain ⟨v12, r12, rfl, h12⟩ := vs_cons r11 h11
  obtain ⟨v13, r13, rfl, h13⟩ := vs_cons r12 h12
  obtain ⟨v14, r14, rfl, h14⟩ := vs_cons r13 h13
  obtain ⟨v15, r15, rfl, h15⟩ := vs_cons r14 h14
  obtain ⟨v16, r16, rfl, h16⟩ := vs_cons r15 h15
  obtain ⟨v17, r17, rfl, h17⟩ := vs_cons r16 h16
  obtain ⟨v18, r18, rfl, h18⟩ := vs_cons r17 h17
  obtain ⟨v19, r19, rfl, h19⟩ := vs_cons r18 h18
  obtain ⟨v20, r20, rfl, h20⟩ := vs_cons r19 h19
  obtain ⟨v21, r21, rfl, h21⟩ := vs_cons r20 h20
  obtain ⟨v22, r22, rfl, h22⟩ := vs_cons r21 h21
  obtain ⟨v23, r23, rfl, h23⟩ := vs_cons r22 h22
  obtain ⟨v24, r24, rfl, h24⟩ := vs_cons r23 h23
  obtain ⟨v25, r25, rfl, h25⟩ := vs_cons r24 h24
  obtain ⟨v26, r26, rfl, h26⟩ := vs_cons r25 h25
  obtain ⟨v27, r27, rfl, h27⟩ := vs_cons r26 h26
  obtain ⟨v28, r28, rfl, h28⟩ := vs_cons r27 h27
  obtain ⟨v29, r29, rfl, h29⟩ := vs_cons r28 h28
  obtain ⟨v30, r30, rfl, h30⟩ := vs_cons r29 h29
  obtain ⟨v31, r31, rfl, h31⟩ := vs_cons r30 h30
  obtain ⟨v32, r32, rfl, h32⟩ := vs_cons r31 h31
  obtain ⟨v33, r33, rfl, h33⟩ := vs_cons r32 h32
  obtain ⟨v34, r34, rfl, h34⟩ := vs_cons r33 h33
  obtain ⟨v35, r35, rfl, h35⟩ := vs_cons r34 h34
  obtain ⟨v36, r36, rfl, h36⟩ := vs_cons r35 h35
  obtain ⟨v37, r37, rfl, h37⟩ := vs_cons r36 h36
  obtain ⟨v38, r38, rfl, h38⟩ := vs_cons r37 h37
  obtain ⟨v39, r39, rfl, h39⟩ := vs_cons r38 h38
  obtain ⟨v40, r40, rfl, h40⟩ := vs_cons r39 h39
  obtain ⟨v41, r41, rfl, h41⟩ := vs_cons r40 h40
  obtain ⟨v42, r42, rfl, h42⟩ := vs_cons r41 h41
  obtain ⟨v43, r43, rfl, h43⟩ := vs_cons r42 h42
  obtain ⟨v44, r44, rfl, h44⟩ := vs_cons r43 h43
  obtain ⟨v45, r45, rfl, h45⟩ := vs_cons r44 h44
  obtain ⟨v46, r46, rfl, h46⟩ := vs_cons r45 h45
  obtain ⟨v47, r47, rfl, h47⟩ := vs_cons r46 h46
  obtain ⟨v48, r48, rfl, h48⟩ := vs_cons r47 h47
  obtain ⟨v49, r49, rfl, h49⟩ := vs_cons r48 h48
  obtain rfl := List.eq_nil_of_length_eq_zero h49
  exact ⟨v0, v1, v2, v3, v4, v5, v6, v7, v8, v9, v10, v11, v12, v13, v14, v15, v16, v17, v18, v19, v20, v21, v22, v23, v24, v25, v26, v27, v28, v29, v30, v31, v32, v33, v34, v35, v36, v37, v38, v39, v40, v41, v42, v43, v44, v45, v46, v47, v48, v49, rfl⟩

set_option maxHeartbeats 8000000 in
theorem conds_any (r : Ru) (a : U.Ask) (w : World) (hsa : r.sa < 4294967296) (hda : r.da < 4294967296) (has_ : a.s < 4294967296) (had : a.d < 4294967296) : Calls Try.prog 33 #[.agg r.v.toArray, .agg a.v.toArray] w fun e w' => e = .returned (.agg ((conds r a).map Value.bool).toArray) ∧ Below w.heap.size w w' := by
  obtain ⟨i, o, sa, sb, da, db, p, slo, shi, dlo, dhi, al⟩ := r
  obtain ⟨ai, ao, as_, ad, ap, asp, adp⟩ := a
  have Hsa := Lib.hid hsa
  have Hda := Lib.hid hda
  have Has_ := Lib.hid has_
  have Had := Lib.hid had
  simp only [Ru.v, Ask.v] at *
  clear hsa hda has_ had
  go_enter Try.func33, Try.ntmps33
  go_wp2
  have hb0 : Below w.heap.size w ((((w.alloc (.cells #[.int .i64 i, .int .i64 o, .int .u32 sa, .int .i64 sb, .int .u32 da, .int .i64 db, .int .i64 p, .int .i64 slo, .int .i64 shi, .int .i64 dlo, .int .i64 dhi, .bool al] 34)).alloc (.cells #[.int .i64 ai, .int .i64 ao, .int .u32 as_, .int .u32 ad, .int .i64 ap, .int .i64 asp, .int .i64 adp] 27)).alloc (.cells #[.bool false, .bool false, .bool false, .bool false, .bool false, .bool false, .bool false, .bool false] 62)).alloc (.cells #[.int .u32 as_, .int .u32 ad, .int .i64 ap, .int .i64 asp, .int .i64 adp] 25)) := (((below2 w _ _).alloc (by simp; omega) _).alloc (by simp; omega) _)
  have L0 : Hid (Lies ((((w.alloc (.cells #[.int .i64 i, .int .i64 o, .int .u32 sa, .int .i64 sb, .int .u32 da, .int .i64 db, .int .i64 p, .int .i64 slo, .int .i64 shi, .int .i64 dlo, .int .i64 dhi, .bool al] 34)).alloc (.cells #[.int .i64 ai, .int .i64 ao, .int .u32 as_, .int .u32 ad, .int .i64 ap, .int .i64 asp, .int .i64 adp] 27)).alloc (.cells #[.bool false, .bool false, .bool false, .bool false, .bool false, .bool false, .bool false, .bool false] 62)).alloc (.cells #[.int .u32 as_, .int .u32 ad, .int .i64 ap, .int .i64 asp, .int .i64 adp] 25)) w.heap.size 0 [.int .i64 i, .int .i64 o, .int .u32 sa, .int .i64 sb, .int .u32 da, .int .i64 db, .int .i64 p, .int .i64 slo, .int .i64 shi, .int .i64 dlo, .int .i64 dhi, .bool al]) := Lib.hid ((((Lies.new w [.int .i64 i, .int .i64 o, .int .u32 sa, .int .i64 sb, .int .u32 da, .int .i64 db, .int .i64 p, .int .i64 slo, .int .i64 shi, .int .i64 dlo, .int .i64 dhi, .bool al] _).alloc _).alloc _).alloc _)
  have L1 : Hid (Lies ((((w.alloc (.cells #[.int .i64 i, .int .i64 o, .int .u32 sa, .int .i64 sb, .int .u32 da, .int .i64 db, .int .i64 p, .int .i64 slo, .int .i64 shi, .int .i64 dlo, .int .i64 dhi, .bool al] 34)).alloc (.cells #[.int .i64 ai, .int .i64 ao, .int .u32 as_, .int .u32 ad, .int .i64 ap, .int .i64 asp, .int .i64 adp] 27)).alloc (.cells #[.bool false, .bool false, .bool false, .bool false, .bool false, .bool false, .bool false, .bool false] 62)).alloc (.cells #[.int .u32 as_, .int .u32 ad, .int .i64 ap, .int .i64 asp, .int .i64 adp] 25)) (w.heap.size + 1) 0 [.int .i64 ai, .int .i64 ao, .int .u32 as_, .int .u32 ad, .int .i64 ap, .int .i64 asp, .int .i64 adp]) := Lib.hid (((Lies.newAt (by simp)).alloc _).alloc _)
  have L3 : Hid (Lies ((((w.alloc (.cells #[.int .i64 i, .int .i64 o, .int .u32 sa, .int .i64 sb, .int .u32 da, .int .i64 db, .int .i64 p, .int .i64 slo, .int .i64 shi, .int .i64 dlo, .int .i64 dhi, .bool al] 34)).alloc (.cells #[.int .i64 ai, .int .i64 ao, .int .u32 as_, .int .u32 ad, .int .i64 ap, .int .i64 asp, .int .i64 adp] 27)).alloc (.cells #[.bool false, .bool false, .bool false, .bool false, .bool false, .bool false, .bool false, .bool false] 62)).alloc (.cells #[.int .u32 as_, .int .u32 ad, .int .i64 ap, .int .i64 asp, .int .i64 adp] 25)) (w.heap.size + 1 + 1 + 1) 0 [.int .u32 as_, .int .u32 ad, .int .i64 ap, .int .i64 asp, .int .i64 adp]) := Lib.hid (Lies.newAt (by simp))
  have H8 : Hid (((((w.alloc (.cells #[.int .i64 i, .int .i64 o, .int .u32 sa, .int .i64 sb, .int .u32 da, .int .i64 db, .int .i64 p, .int .i64 slo, .int .i64 shi, .int .i64 dlo, .int .i64 dhi, .bool al] 34)).alloc (.cells #[.int .i64 ai, .int .i64 ao, .int .u32 as_, .int .u32 ad, .int .i64 ap, .int .i64 asp, .int .i64 adp] 27)).alloc (.cells #[.bool false, .bool false, .bool false, .bool false, .bool false, .bool false, .bool false, .bool false] 62)).alloc (.cells #[.int .u32 as_, .int .u32 ad, .int .i64 ap, .int .i64 asp, .int .i64 adp] 25)).heap[w.heap.size + 1 + 1]? = some (.cells #[.bool false, .bool false, .bool false, .bool false, .bool false, .bool false, .bool false, .bool false] 62 (0, 0))) := Lib.hid (by
    rw [Below.heap_alloc _ _ _ (by simp)]
    have := heap_alloc_new ((w.alloc (.cells #[.int .i64 i, .int .i64 o, .int .u32 sa, .int .i64 sb, .int .u32 da, .int .i64 db, .int .i64 p, .int .i64 slo, .int .i64 shi, .int .i64 dlo, .int .i64 dhi, .bool al] 34)).alloc (.cells #[.int .i64 ai, .int .i64 ao, .int .u32 as_, .int .u32 ad, .int .i64 ap, .int .i64 asp, .int .i64 adp] 27)) (.cells #[.bool false, .bool false, .bool false, .bool false, .bool false, .bool false, .bool false, .bool false] 62)
    simpa using this)
  generalize ((((w.alloc (.cells #[.int .i64 i, .int .i64 o, .int .u32 sa, .int .i64 sb, .int .u32 da, .int .i64 db, .int .i64 p, .int .i64 slo, .int .i64 shi, .int .i64 dlo, .int .i64 dhi, .bool al] 34)).alloc (.cells #[.int .i64 ai, .int .i64 ao, .int .u32 as_, .int .u32 ad, .int .i64 ap, .int .i64 asp, .int .i64 adp] 27)).alloc (.cells #[.bool false, .bool false, .bool false, .bool false, .bool false, .bool false, .bool false, .bool false] 62)).alloc (.cells #[.int .u32 as_, .int .u32 ad, .int .i64 ap, .int .i64 asp, .int .i64 adp] 25)) = W0 at *
  obtain ⟨m9, hm9⟩ : ∃ x, (((⟨i, o, sa, sb, da, db, p, slo, shi, dlo, dhi, al⟩ : Ru).ok)) = x := ⟨_, rfl⟩
  replace hm9 := Lib.hid hm9
  have C9 := Lib.hid (fun (w' : World) (hb : Below W0.heap.size W0 w') => show Calls Try.prog 34 #[.agg #[.int .i64 i, .int .i64 o, .int .u32 sa, .int .i64 sb, .int .u32 da, .int .i64 db, .int .i64 p, .int .i64 slo, .int .i64 shi, .int .i64 dlo, .int .i64 dhi, .bool al]] w' (fun e w'' => e = .returned (.bool m9) ∧ Below w'.heap.size w' w'') from (by rw [← hm9.out]; exact ok_any ⟨i, o, sa, sb, da, db, p, slo, shi, dlo, dhi, al⟩ w' Hsa.out Hda.out))
  obtain ⟨m14, hm14⟩ : ∃ x, (fits i ai) = x := ⟨_, rfl⟩
  replace hm14 := Lib.hid hm14
  have C14 := Lib.hid (fun (w' : World) (hb : Below W0.heap.size W0 w') => show Calls Try.prog 35 #[.int .i64 i, .int .i64 ai] w' (fun e w'' => e = .returned (.bool m14) ∧ Below w'.heap.size w' w'') from (by rw [← hm14.out]; exact same_below (fits_any i ai w')))
  obtain ⟨m19, hm19⟩ : ∃ x, (fits o ao) = x := ⟨_, rfl⟩
  replace hm19 := Lib.hid hm19
  have C19 := Lib.hid (fun (w' : World) (hb : Below W0.heap.size W0 w') => show Calls Try.prog 35 #[.int .i64 o, .int .i64 ao] w' (fun e w'' => e = .returned (.bool m19) ∧ Below w'.heap.size w' w'') from (by rw [← hm19.out]; exact same_below (fits_any o ao w')))
  obtain ⟨m24, hm24⟩ : ∃ x, (fits p ap) = x := ⟨_, rfl⟩
  replace hm24 := Lib.hid hm24
  have C24 := Lib.hid (fun (w' : World) (hb : Below W0.heap.size W0 w') => show Calls Try.prog 35 #[.int .i64 p, .int .i64 ap] w' (fun e w'' => e = .returned (.bool m24) ∧ Below w'.heap.size w' w'') from (by rw [← hm24.out]; exact same_below (fits_any p ap w')))
  obtain ⟨m29, hm29⟩ : ∃ x, (A.holds sa sb as_) = x := ⟨_, rfl⟩
  replace hm29 := Lib.hid hm29
  have C29 := Lib.hid (fun (w' : World) (hb : Below W0.heap.size W0 w') => show Calls Try.prog 43 #[.agg #[.int .u32 sa, .int .i64 sb], .int .u32 as_] w' (fun e w'' => e = .returned (.bool m29) ∧ Below w'.heap.size w' w'') from (by rw [← hm29.out]; exact holds_any sa sb as_ w' Has_.out))
  obtain ⟨m34, hm34⟩ : ∃ x, (A.holds da db ad) = x := ⟨_, rfl⟩
  replace hm34 := Lib.hid hm34
  have C34 := Lib.hid (fun (w' : World) (hb : Below W0.heap.size W0 w') => show Calls Try.prog 43 #[.agg #[.int .u32 da, .int .i64 db], .int .u32 ad] w' (fun e w'' => e = .returned (.bool m34) ∧ Below w'.heap.size w' w'') from (by rw [← hm34.out]; exact holds_any da db ad w' Had.out))
  obtain ⟨m37, hm37⟩ : ∃ x, (hp ap) = x := ⟨_, rfl⟩
  replace hm37 := Lib.hid hm37
  have C37 := Lib.hid (fun (w' : World) (hb : Below W0.heap.size W0 w') => show Calls Try.prog 47 #[.int .i64 ap] w' (fun e w'' => e = .returned (.bool m37) ∧ Below w'.heap.size w' w'') from (by rw [← hm37.out]; exact same_below (hasPorts_any ap w')))
  obtain ⟨m38, hm38⟩ : ∃ x, (!m37) = x := ⟨_, rfl⟩
  replace hm38 := Lib.hid hm38
  have C41 := Lib.hid (fun (w' : World) (hb : Below W0.heap.size W0 w') => show Calls Try.prog 37 #[.agg #[.int .i64 i, .int .i64 o, .int .u32 sa, .int .i64 sb, .int .u32 da, .int .i64 db, .int .i64 p, .int .i64 slo, .int .i64 shi, .int .i64 dlo, .int .i64 dhi, .bool al]] w' (fun e w'' => e = .returned (.agg #[.int .i64 slo, .int .i64 shi]) ∧ Below w'.heap.size w' w'') from (by exact sports_any ⟨i, o, sa, sb, da, db, p, slo, shi, dlo, dhi, al⟩ w'))
  obtain ⟨m44, hm44⟩ : ∃ x, (inR slo shi asp) = x := ⟨_, rfl⟩
  replace hm44 := Lib.hid hm44
  have C44 := Lib.hid (fun (w' : World) (hb : Below W0.heap.size W0 w') => show Calls Try.prog 48 #[.agg #[.int .i64 slo, .int .i64 shi], .int .i64 asp] w' (fun e w'' => e = .returned (.bool m44) ∧ Below w'.heap.size w' w'') from (by rw [← hm44.out]; exact holds_span slo shi asp w'))
  obtain ⟨m45, hm45⟩ : ∃ x, (m38 || m44) = x := ⟨_, rfl⟩
  replace hm45 := Lib.hid hm45
  obtain ⟨m48, hm48⟩ : ∃ x, (hp ap) = x := ⟨_, rfl⟩
  replace hm48 := Lib.hid hm48
  have C48 := Lib.hid (fun (w' : World) (hb : Below W0.heap.size W0 w') => show Calls Try.prog 47 #[.int .i64 ap] w' (fun e w'' => e = .returned (.bool m48) ∧ Below w'.heap.size w' w'') from (by rw [← hm48.out]; exact same_below (hasPorts_any ap w')))
  obtain ⟨m49, hm49⟩ : ∃ x, (!m48) = x := ⟨_, rfl⟩
  replace hm49 := Lib.hid hm49
  have C52 := Lib.hid (fun (w' : World) (hb : Below W0.heap.size W0 w') => show Calls Try.prog 39 #[.agg #[.int .i64 i, .int .i64 o, .int .u32 sa, .int .i64 sb, .int .u32 da, .int .i64 db, .int .i64 p, .int .i64 slo, .int .i64 shi, .int .i64 dlo, .int .i64 dhi, .bool al]] w' (fun e w'' => e = .returned (.agg #[.int .i64 dlo, .int .i64 dhi]) ∧ Below w'.heap.size w' w'') from (by exact dports_any ⟨i, o, sa, sb, da, db, p, slo, shi, dlo, dhi, al⟩ w'))
  obtain ⟨m55, hm55⟩ : ∃ x, (inR dlo dhi adp) = x := ⟨_, rfl⟩
  replace hm55 := Lib.hid hm55
  have C55 := Lib.hid (fun (w' : World) (hb : Below W0.heap.size W0 w') => show Calls Try.prog 48 #[.agg #[.int .i64 dlo, .int .i64 dhi], .int .i64 adp] w' (fun e w'' => e = .returned (.bool m55) ∧ Below w'.heap.size w' w'') from (by rw [← hm55.out]; exact holds_span dlo dhi adp w'))
  obtain ⟨m56, hm56⟩ : ∃ x, (m49 || m55) = x := ⟨_, rfl⟩
  replace hm56 := Lib.hid hm56
  refine region_gen_tail 50 (VG W0.heap.size [.val (.agg #[.int .i64 i, .int .i64 o, .int .u32 sa, .int .i64 sb, .int .u32 da, .int .i64 db, .int .i64 p, .int .i64 slo, .int .i64 shi, .int .i64 dlo, .int .i64 dhi, .bool al]), .val (.bool m9), .val (.pointer (some ⟨w.heap.size, 0, none⟩)), .val (.int .i64 i), .val (.pointer (some ⟨w.heap.size + 1, 0, none⟩)), .val (.int .i64 ai), .val (.bool m14), .val (.pointer (some ⟨w.heap.size, 1, none⟩)), .val (.int .i64 o), .val (.pointer (some ⟨w.heap.size + 1, 1, none⟩)), .val (.int .i64 ao), .val (.bool m19), .val (.pointer (some ⟨w.heap.size, 6, none⟩)), .val (.int .i64 p), .val (.pointer (some ⟨w.heap.size + 1 + 1 + 1, 2, none⟩)), .val (.int .i64 ap), .val (.bool m24), .val (.pointer (some ⟨w.heap.size, 2, none⟩)), .val (.agg #[.int .u32 sa, .int .i64 sb]), .val (.pointer (some ⟨w.heap.size + 1 + 1 + 1, 0, none⟩)), .val (.int .u32 as_), .val (.bool m29), .val (.pointer (some ⟨w.heap.size, 4, none⟩)), .val (.agg #[.int .u32 da, .int .i64 db]), .val (.pointer (some ⟨w.heap.size + 1 + 1 + 1, 1, none⟩)), .val (.int .u32 ad), .val (.bool m34), .val (.pointer (some ⟨w.heap.size + 1 + 1 + 1, 2, none⟩)), .val (.int .i64 ap), .val (.bool m37), .val (.bool m38), .val (.bool m38), .val (if m38 = false then .agg #[.int .i64 i, .int .i64 o, .int .u32 sa, .int .i64 sb, .int .u32 da, .int .i64 db, .int .i64 p, .int .i64 slo, .int .i64 shi, .int .i64 dlo, .int .i64 dhi, .bool al] else undef), .val (if m38 = false then .agg #[.int .i64 slo, .int .i64 shi] else undef), .val (if m38 = false then .pointer (some ⟨w.heap.size + 1 + 1 + 1, 3, none⟩) else undef), .val (if m38 = false then .int .i64 asp else undef), .val (if m38 = false then .bool m44 else undef), .val (.bool m45), .val (.pointer (some ⟨w.heap.size + 1 + 1 + 1, 2, none⟩)), .val (.int .i64 ap), .val (.bool m48), .val (.bool m49), .val (.bool m49), .val (if m49 = false then .agg #[.int .i64 i, .int .i64 o, .int .u32 sa, .int .i64 sb, .int .u32 da, .int .i64 db, .int .i64 p, .int .i64 slo, .int .i64 shi, .int .i64 dlo, .int .i64 dhi, .bool al] else undef), .val (if m49 = false then .agg #[.int .i64 dlo, .int .i64 dhi] else undef), .val (if m49 = false then .pointer (some ⟨w.heap.size + 1 + 1 + 1, 4, none⟩) else undef), .val (if m49 = false then .int .i64 adp else undef), .val (if m49 = false then .bool m55 else undef), .val (.bool m56), .val (.agg #[.bool m9, .bool m14, .bool m19, .bool m24, .bool m29, .bool m34, .bool m45, .bool m56])]) (BS W0) (by kernel_rfl) (by kernel_rfl) (by kernel_rfl) (Below.refl _ _).drew ⟨?_, ?_, ?_, ?_, ?_, ?_, ?_, ?_, ?_, ?_, ?_, ?_, ?_, ?_, ?_, ?_, ?_, ?_, ?_, ?_, ?_, ?_, ?_, ?_, ?_, ?_, ?_, ?_, ?_, ?_, ?_, ?_, ?_, ?_, ?_, ?_, ?_, ?_, ?_, ?_, ?_, ?_, ?_, ?_, ?_, ?_, ?_, ?_, ?_, ?_, trivial⟩ ?_
  · go_light; intro listed a' w' hs hS hun hdep
    have e2 : a'.eval (.tmp 2) = .pointer (some ⟨w.heap.size, 0, none⟩) := (hs.out 2 (by kernel_rfl)).trans (rfl)
    exact g_val (.agg #[.int .i64 i, .int .i64 o, .int .u32 sa, .int .i64 sb, .int .u32 da, .int .i64 db, .int .i64 p, .int .i64 slo, .int .i64 shi, .int .i64 dlo, .int .i64 dhi, .bool al]) hS rfl (op_ld [.int .i64 i, .int .i64 o, .int .u32 sa, .int .i64 sb, .int .u32 da, .int .i64 db, .int .i64 p, .int .i64 slo, .int .i64 shi, .int .i64 dlo, .int .i64 dhi, .bool al] rfl e2 (L0.out.below hS) 0 (by first | rfl | simp) rfl Try.underlying34 rfl (by kernel_rfl)) rfl
  · go_light; intro listed a' w' hs hS hun hdep
    have e8 : a'.eval (.tmp 8) = (.agg #[.int .i64 i, .int .i64 o, .int .u32 sa, .int .i64 sb, .int .u32 da, .int .i64 db, .int .i64 p, .int .i64 slo, .int .i64 shi, .int .i64 dlo, .int .i64 dhi, .bool al]) := hs.eval 0 _ 8 rfl (hdep ⟨0, .data⟩ (by simp) rfl) rfl
    refine g_call 34 #[.agg #[.int .i64 i, .int .i64 o, .int .u32 sa, .int .i64 sb, .int .u32 da, .int .i64 db, .int .i64 p, .int .i64 slo, .int .i64 shi, .int .i64 dlo, .int .i64 dhi, .bool al]] hS rfl ?_ ?_
    · have hcn := BigFrame.eval_const a'; have hfn := BigFrame.eval_func a'; clear hs hdep; generalize a'.eval = ev at *; go_simp
    · exact c_val (C9.out w' hS) rfl
  · go_light; intro listed a' w' hs hS hun hdep
    have e2 : a'.eval (.tmp 2) = .pointer (some ⟨w.heap.size, 0, none⟩) := (hs.out 2 (by kernel_rfl)).trans (rfl)
    refine g_val (.pointer (some ⟨w.heap.size, 0, none⟩)) hS rfl ?_ rfl
    have hcn := BigFrame.eval_const a'; have hfn := BigFrame.eval_func a'; clear hs hdep; generalize a'.eval = ev at *; go_simp
  · go_light; intro listed a' w' hs hS hun hdep
    have e10 : a'.eval (.tmp 10) = (.pointer (some ⟨w.heap.size, 0, none⟩)) := hs.eval 2 _ 10 rfl (hdep ⟨2, .data⟩ (by simp) rfl) rfl
    exact g_val (.int .i64 i) hS rfl (op_ld1 (.int .i64 i) rfl e10 (L0.out.below hS) 0 (by first | rfl | simp) rfl Try.underlying3 rfl) rfl
  · go_light; intro listed a' w' hs hS hun hdep
    have e3 : a'.eval (.tmp 3) = .pointer (some ⟨w.heap.size + 1, 0, none⟩) := (hs.out 3 (by kernel_rfl)).trans (rfl)
    refine g_val (.pointer (some ⟨w.heap.size + 1, 0, none⟩)) hS rfl ?_ rfl
    have hcn := BigFrame.eval_const a'; have hfn := BigFrame.eval_func a'; clear hs hdep; generalize a'.eval = ev at *; go_simp
  · go_light; intro listed a' w' hs hS hun hdep
    have e12 : a'.eval (.tmp 12) = (.pointer (some ⟨w.heap.size + 1, 0, none⟩)) := hs.eval 4 _ 12 rfl (hdep ⟨4, .data⟩ (by simp) rfl) rfl
    exact g_val (.int .i64 ai) hS rfl (op_ld1 (.int .i64 ai) rfl e12 (L1.out.below hS) 0 (by first | rfl | simp) rfl Try.underlying3 rfl) rfl
  · go_light; intro listed a' w' hs hS hun hdep
    have e11 : a'.eval (.tmp 11) = (.int .i64 i) := hs.eval 3 _ 11 rfl (hdep ⟨3, .data⟩ (by simp) rfl) rfl
    have e13 : a'.eval (.tmp 13) = (.int .i64 ai) := hs.eval 5 _ 13 rfl (hdep ⟨5, .data⟩ (by simp) rfl) rfl
    refine g_call 35 #[.int .i64 i, .int .i64 ai] hS rfl ?_ ?_
    · have hcn := BigFrame.eval_const a'; have hfn := BigFrame.eval_func a'; clear hs hdep; generalize a'.eval = ev at *; go_simp
    · exact c_val (C14.out w' hS) rfl
  · go_light; intro listed a' w' hs hS hun hdep
    have e2 : a'.eval (.tmp 2) = .pointer (some ⟨w.heap.size, 0, none⟩) := (hs.out 2 (by kernel_rfl)).trans (rfl)
    refine g_val (.pointer (some ⟨w.heap.size, 1, none⟩)) hS rfl ?_ rfl
    have hcn := BigFrame.eval_const a'; have hfn := BigFrame.eval_func a'; clear hs hdep; generalize a'.eval = ev at *; go_simp
  · go_light; intro listed a' w' hs hS hun hdep
    have e15 : a'.eval (.tmp 15) = (.pointer (some ⟨w.heap.size, 1, none⟩)) := hs.eval 7 _ 15 rfl (hdep ⟨7, .data⟩ (by simp) rfl) rfl
    exact g_val (.int .i64 o) hS rfl (op_ld1 (.int .i64 o) rfl e15 (L0.out.below hS) 1 (by first | rfl | simp) rfl Try.underlying3 rfl) rfl
  · go_light; intro listed a' w' hs hS hun hdep
    have e3 : a'.eval (.tmp 3) = .pointer (some ⟨w.heap.size + 1, 0, none⟩) := (hs.out 3 (by kernel_rfl)).trans (rfl)
    refine g_val (.pointer (some ⟨w.heap.size + 1, 1, none⟩)) hS rfl ?_ rfl
    have hcn := BigFrame.eval_const a'; have hfn := BigFrame.eval_func a'; clear hs hdep; generalize a'.eval = ev at *; go_simp
  · go_light; intro listed a' w' hs hS hun hdep
    have e17 : a'.eval (.tmp 17) = (.pointer (some ⟨w.heap.size + 1, 1, none⟩)) := hs.eval 9 _ 17 rfl (hdep ⟨9, .data⟩ (by simp) rfl) rfl
    exact g_val (.int .i64 ao) hS rfl (op_ld1 (.int .i64 ao) rfl e17 (L1.out.below hS) 1 (by first | rfl | simp) rfl Try.underlying3 rfl) rfl
  · go_light; intro listed a' w' hs hS hun hdep
    have e16 : a'.eval (.tmp 16) = (.int .i64 o) := hs.eval 8 _ 16 rfl (hdep ⟨8, .data⟩ (by simp) rfl) rfl
    have e18 : a'.eval (.tmp 18) = (.int .i64 ao) := hs.eval 10 _ 18 rfl (hdep ⟨10, .data⟩ (by simp) rfl) rfl
    refine g_call 35 #[.int .i64 o, .int .i64 ao] hS rfl ?_ ?_
    · have hcn := BigFrame.eval_const a'; have hfn := BigFrame.eval_func a'; clear hs hdep; generalize a'.eval = ev at *; go_simp
    · exact c_val (C19.out w' hS) rfl
  · go_light; intro listed a' w' hs hS hun hdep
    have e2 : a'.eval (.tmp 2) = .pointer (some ⟨w.heap.size, 0, none⟩) := (hs.out 2 (by kernel_rfl)).trans (rfl)
    refine g_val (.pointer (some ⟨w.heap.size, 6, none⟩)) hS rfl ?_ rfl
    have hcn := BigFrame.eval_const a'; have hfn := BigFrame.eval_func a'; clear hs hdep; generalize a'.eval = ev at *; go_simp
  · go_light; intro listed a' w' hs hS hun hdep
    have e20 : a'.eval (.tmp 20) = (.pointer (some ⟨w.heap.size, 6, none⟩)) := hs.eval 12 _ 20 rfl (hdep ⟨12, .data⟩ (by simp) rfl) rfl
    exact g_val (.int .i64 p) hS rfl (op_ld1 (.int .i64 p) rfl e20 (L0.out.below hS) 6 (by first | rfl | simp) rfl Try.underlying3 rfl) rfl
  · go_light; intro listed a' w' hs hS hun hdep
    have e5 : a'.eval (.tmp 5) = .pointer (some ⟨w.heap.size + 1 + 1 + 1, 0, none⟩) := (hs.out 5 (by kernel_rfl)).trans (rfl)
    refine g_val (.pointer (some ⟨w.heap.size + 1 + 1 + 1, 2, none⟩)) hS rfl ?_ rfl
    have hcn := BigFrame.eval_const a'; have hfn := BigFrame.eval_func a'; clear hs hdep; generalize a'.eval = ev at *; go_simp
  · go_light; intro listed a' w' hs hS hun hdep
    have e22 : a'.eval (.tmp 22) = (.pointer (some ⟨w.heap.size + 1 + 1 + 1, 2, none⟩)) := hs.eval 14 _ 22 rfl (hdep ⟨14, .data⟩ (by simp) rfl) rfl
    exact g_val (.int .i64 ap) hS rfl (op_ld1 (.int .i64 ap) rfl e22 (L3.out.below hS) 2 (by first | rfl | simp) rfl Try.underlying3 rfl) rfl
  · go_light; intro listed a' w' hs hS hun hdep
    have e21 : a'.eval (.tmp 21) = (.int .i64 p) := hs.eval 13 _ 21 rfl (hdep ⟨13, .data⟩ (by simp) rfl) rfl
    have e23 : a'.eval (.tmp 23) = (.int .i64 ap) := hs.eval 15 _ 23 rfl (hdep ⟨15, .data⟩ (by simp) rfl) rfl
    refine g_call 35 #[.int .i64 p, .int .i64 ap] hS rfl ?_ ?_
    · have hcn := BigFrame.eval_const a'; have hfn := BigFrame.eval_func a'; clear hs hdep; generalize a'.eval = ev at *; go_simp
    · exact c_val (C24.out w' hS) rfl
  · go_light; intro listed a' w' hs hS hun hdep
    have e2 : a'.eval (.tmp 2) = .pointer (some ⟨w.heap.size, 0, none⟩) := (hs.out 2 (by kernel_rfl)).trans (rfl)
    refine g_val (.pointer (some ⟨w.heap.size, 2, none⟩)) hS rfl ?_ rfl
    have hcn := BigFrame.eval_const a'; have hfn := BigFrame.eval_func a'; clear hs hdep; generalize a'.eval = ev at *; go_simp
  · go_light; intro listed a' w' hs hS hun hdep
    have e25 : a'.eval (.tmp 25) = (.pointer (some ⟨w.heap.size, 2, none⟩)) := hs.eval 17 _ 25 rfl (hdep ⟨17, .data⟩ (by simp) rfl) rfl
    exact g_val (.agg #[.int .u32 sa, .int .i64 sb]) hS rfl (op_ld [.int .u32 sa, .int .i64 sb] rfl e25 (L0.out.below hS) 2 (by first | rfl | simp) rfl Try.underlying32 rfl (by kernel_rfl)) rfl
  · go_light; intro listed a' w' hs hS hun hdep
    have e5 : a'.eval (.tmp 5) = .pointer (some ⟨w.heap.size + 1 + 1 + 1, 0, none⟩) := (hs.out 5 (by kernel_rfl)).trans (rfl)
    refine g_val (.pointer (some ⟨w.heap.size + 1 + 1 + 1, 0, none⟩)) hS rfl ?_ rfl
    have hcn := BigFrame.eval_const a'; have hfn := BigFrame.eval_func a'; clear hs hdep; generalize a'.eval = ev at *; go_simp
  · go_light; intro listed a' w' hs hS hun hdep
    have e27 : a'.eval (.tmp 27) = (.pointer (some ⟨w.heap.size + 1 + 1 + 1, 0, none⟩)) := hs.eval 19 _ 27 rfl (hdep ⟨19, .data⟩ (by simp) rfl) rfl
    exact g_val (.int .u32 as_) hS rfl (op_ld1 (.int .u32 as_) rfl e27 (L3.out.below hS) 0 (by first | rfl | simp) rfl Try.underlying23 rfl) rfl
  · go_light; intro listed a' w' hs hS hun hdep
    have e26 : a'.eval (.tmp 26) = (.agg #[.int .u32 sa, .int .i64 sb]) := hs.eval 18 _ 26 rfl (hdep ⟨18, .data⟩ (by simp) rfl) rfl
    have e28 : a'.eval (.tmp 28) = (.int .u32 as_) := hs.eval 20 _ 28 rfl (hdep ⟨20, .data⟩ (by simp) rfl) rfl
    refine g_call 43 #[.agg #[.int .u32 sa, .int .i64 sb], .int .u32 as_] hS rfl ?_ ?_
    · have hcn := BigFrame.eval_const a'; have hfn := BigFrame.eval_func a'; clear hs hdep; generalize a'.eval = ev at *; go_simp
    · exact c_val (C29.out w' hS) rfl
  · go_light; intro listed a' w' hs hS hun hdep
    have e2 : a'.eval (.tmp 2) = .pointer (some ⟨w.heap.size, 0, none⟩) := (hs.out 2 (by kernel_rfl)).trans (rfl)
    refine g_val (.pointer (some ⟨w.heap.size, 4, none⟩)) hS rfl ?_ rfl
    have hcn := BigFrame.eval_const a'; have hfn := BigFrame.eval_func a'; clear hs hdep; generalize a'.eval = ev at *; go_simp
  · go_light; intro listed a' w' hs hS hun hdep
    have e30 : a'.eval (.tmp 30) = (.pointer (some ⟨w.heap.size, 4, none⟩)) := hs.eval 22 _ 30 rfl (hdep ⟨22, .data⟩ (by simp) rfl) rfl
    exact g_val (.agg #[.int .u32 da, .int .i64 db]) hS rfl (op_ld [.int .u32 da, .int .i64 db] rfl e30 (L0.out.below hS) 4 (by first | rfl | simp) rfl Try.underlying32 rfl (by kernel_rfl)) rfl
  · go_light; intro listed a' w' hs hS hun hdep
    have e5 : a'.eval (.tmp 5) = .pointer (some ⟨w.heap.size + 1 + 1 + 1, 0, none⟩) := (hs.out 5 (by kernel_rfl)).trans (rfl)
    refine g_val (.pointer (some ⟨w.heap.size + 1 + 1 + 1, 1, none⟩)) hS rfl ?_ rfl
    have hcn := BigFrame.eval_const a'; have hfn := BigFrame.eval_func a'; clear hs hdep; generalize a'.eval = ev at *; go_simp
  · go_light; intro listed a' w' hs hS hun hdep
    have e32 : a'.eval (.tmp 32) = (.pointer (some ⟨w.heap.size + 1 + 1 + 1, 1, none⟩)) := hs.eval 24 _ 32 rfl (hdep ⟨24, .data⟩ (by simp) rfl) rfl
    exact g_val (.int .u32 ad) hS rfl (op_ld1 (.int .u32 ad) rfl e32 (L3.out.below hS) 1 (by first | rfl | simp) rfl Try.underlying23 rfl) rfl
  · go_light; intro listed a' w' hs hS hun hdep
    have e31 : a'.eval (.tmp 31) = (.agg #[.int .u32 da, .int .i64 db]) := hs.eval 23 _ 31 rfl (hdep ⟨23, .data⟩ (by simp) rfl) rfl
    have e33 : a'.eval (.tmp 33) = (.int .u32 ad) := hs.eval 25 _ 33 rfl (hdep ⟨25, .data⟩ (by simp) rfl) rfl
    refine g_call 43 #[.agg #[.int .u32 da, .int .i64 db], .int .u32 ad] hS rfl ?_ ?_
    · have hcn := BigFrame.eval_const a'; have hfn := BigFrame.eval_func a'; clear hs hdep; generalize a'.eval = ev at *; go_simp
    · exact c_val (C34.out w' hS) rfl
  · go_light; intro listed a' w' hs hS hun hdep
    have e5 : a'.eval (.tmp 5) = .pointer (some ⟨w.heap.size + 1 + 1 + 1, 0, none⟩) := (hs.out 5 (by kernel_rfl)).trans (rfl)
    refine g_val (.pointer (some ⟨w.heap.size + 1 + 1 + 1, 2, none⟩)) hS rfl ?_ rfl
    have hcn := BigFrame.eval_const a'; have hfn := BigFrame.eval_func a'; clear hs hdep; generalize a'.eval = ev at *; go_simp
  · go_light; intro listed a' w' hs hS hun hdep
    have e35 : a'.eval (.tmp 35) = (.pointer (some ⟨w.heap.size + 1 + 1 + 1, 2, none⟩)) := hs.eval 27 _ 35 rfl (hdep ⟨27, .data⟩ (by simp) rfl) rfl
    exact g_val (.int .i64 ap) hS rfl (op_ld1 (.int .i64 ap) rfl e35 (L3.out.below hS) 2 (by first | rfl | simp) rfl Try.underlying3 rfl) rfl
  · go_light; intro listed a' w' hs hS hun hdep
    have e36 : a'.eval (.tmp 36) = (.int .i64 ap) := hs.eval 28 _ 36 rfl (hdep ⟨28, .data⟩ (by simp) rfl) rfl
    refine g_call 47 #[.int .i64 ap] hS rfl ?_ ?_
    · have hcn := BigFrame.eval_const a'; have hfn := BigFrame.eval_func a'; clear hs hdep; generalize a'.eval = ev at *; go_simp
    · exact c_val (C37.out w' hS) rfl
  · go_light; intro listed a' w' hs hS hun hdep
    have e37 : a'.eval (.tmp 37) = (.bool m37) := hs.eval 29 _ 37 rfl (hdep ⟨29, .data⟩ (by simp) rfl) rfl
    exact g_val (.bool m38) hS rfl ((op_not rfl e37).trans (by rw [hm38.out])) rfl
  · go_light; intro listed a' w' hs hS hun hdep
    have e38 : a'.eval (.tmp 38) = (.bool m38) := hs.eval 30 _ 38 rfl (hdep ⟨30, .data⟩ (by simp) rfl) rfl
    exact g_val (.bool m38) hS rfl (op_move rfl e38) rfl
  · go_light; intro listed a' w' hs hS hun hdep
    have eg : a'.eval (.tmp 39) = (.bool m38) := hs.eval 31 _ 39 rfl (hdep ⟨31, .guard⟩ (by simp) rfl) rfl
    have e2 : a'.eval (.tmp 2) = .pointer (some ⟨w.heap.size, 0, none⟩) := (hs.out 2 (by kernel_rfl)).trans (rfl)
    cases m38
    · exact g_val (.agg #[.int .i64 i, .int .i64 o, .int .u32 sa, .int .i64 sb, .int .u32 da, .int .i64 db, .int .i64 p, .int .i64 slo, .int .i64 shi, .int .i64 dlo, .int .i64 dhi, .bool al]) hS (wanted_yes rfl rfl rfl eg) (op_ld [.int .i64 i, .int .i64 o, .int .u32 sa, .int .i64 sb, .int .u32 da, .int .i64 db, .int .i64 p, .int .i64 slo, .int .i64 shi, .int .i64 dlo, .int .i64 dhi, .bool al] rfl e2 (L0.out.below hS) 0 (by first | rfl | simp) rfl Try.underlying34 rfl (by kernel_rfl)) rfl
    · exact g_not hS (wanted_no rfl rfl rfl eg (by decide)) rfl
  · go_light; intro listed a' w' hs hS hun hdep
    have eg : a'.eval (.tmp 39) = (.bool m38) := hs.eval 31 _ 39 rfl (hdep ⟨31, .guard⟩ (by simp) rfl) rfl
    have e40 : a'.eval (.tmp 40) = (if m38 = false then .agg #[.int .i64 i, .int .i64 o, .int .u32 sa, .int .i64 sb, .int .u32 da, .int .i64 db, .int .i64 p, .int .i64 slo, .int .i64 shi, .int .i64 dlo, .int .i64 dhi, .bool al] else undef) := hs.eval 32 _ 40 rfl (hdep ⟨32, .data⟩ (by simp) rfl) rfl
    cases m38
    · replace e40 := e40.trans (if_pos rfl)
      refine g_call 37 #[.agg #[.int .i64 i, .int .i64 o, .int .u32 sa, .int .i64 sb, .int .u32 da, .int .i64 db, .int .i64 p, .int .i64 slo, .int .i64 shi, .int .i64 dlo, .int .i64 dhi, .bool al]] hS (wanted_yes rfl rfl rfl eg) ?_ ?_
      · have hcn := BigFrame.eval_const a'; have hfn := BigFrame.eval_func a'; clear hs hdep; generalize a'.eval = ev at *; go_simp
      · exact c_val (C41.out w' hS) rfl
    · exact g_not hS (wanted_no rfl rfl rfl eg (by decide)) rfl
  · go_light; intro listed a' w' hs hS hun hdep
    have eg : a'.eval (.tmp 39) = (.bool m38) := hs.eval 31 _ 39 rfl (hdep ⟨31, .guard⟩ (by simp) rfl) rfl
    have e5 : a'.eval (.tmp 5) = .pointer (some ⟨w.heap.size + 1 + 1 + 1, 0, none⟩) := (hs.out 5 (by kernel_rfl)).trans (rfl)
    cases m38
    · refine g_val (.pointer (some ⟨w.heap.size + 1 + 1 + 1, 3, none⟩)) hS (wanted_yes rfl rfl rfl eg) ?_ rfl
      have hcn := BigFrame.eval_const a'; have hfn := BigFrame.eval_func a'; clear hs hdep; generalize a'.eval = ev at *; go_simp
    · exact g_not hS (wanted_no rfl rfl rfl eg (by decide)) rfl
  · go_light; intro listed a' w' hs hS hun hdep
    have eg : a'.eval (.tmp 39) = (.bool m38) := hs.eval 31 _ 39 rfl (hdep ⟨31, .guard⟩ (by simp) rfl) rfl
    have e42 : a'.eval (.tmp 42) = (if m38 = false then .pointer (some ⟨w.heap.size + 1 + 1 + 1, 3, none⟩) else undef) := hs.eval 34 _ 42 rfl (hdep ⟨34, .data⟩ (by simp) rfl) rfl
    cases m38
    · replace e42 := e42.trans (if_pos rfl)
      exact g_val (.int .i64 asp) hS (wanted_yes rfl rfl rfl eg) (op_ld1 (.int .i64 asp) rfl e42 (L3.out.below hS) 3 (by first | rfl | simp) rfl Try.underlying3 rfl) rfl
    · exact g_not hS (wanted_no rfl rfl rfl eg (by decide)) rfl
  · go_light; intro listed a' w' hs hS hun hdep
    have eg : a'.eval (.tmp 39) = (.bool m38) := hs.eval 31 _ 39 rfl (hdep ⟨31, .guard⟩ (by simp) rfl) rfl
    have e41 : a'.eval (.tmp 41) = (if m38 = false then .agg #[.int .i64 slo, .int .i64 shi] else undef) := hs.eval 33 _ 41 rfl (hdep ⟨33, .data⟩ (by simp) rfl) rfl
    have e43 : a'.eval (.tmp 43) = (if m38 = false then .int .i64 asp else undef) := hs.eval 35 _ 43 rfl (hdep ⟨35, .data⟩ (by simp) rfl) rfl
    cases m38
    · replace e41 := e41.trans (if_pos rfl)
      replace e43 := e43.trans (if_pos rfl)
      refine g_call 48 #[.agg #[.int .i64 slo, .int .i64 shi], .int .i64 asp] hS (wanted_yes rfl rfl rfl eg) ?_ ?_
      · have hcn := BigFrame.eval_const a'; have hfn := BigFrame.eval_func a'; clear hs hdep; generalize a'.eval = ev at *; go_simp
      · exact c_val (C44.out w' hS) rfl
    · exact g_not hS (wanted_no rfl rfl rfl eg (by decide)) rfl
  · go_light; intro listed a' w' hs hS hun hdep
    have e39 : a'.eval (.tmp 39) = (.bool m38) := hs.eval 31 _ 39 rfl (hdep ⟨31, .data⟩ (by simp) rfl) rfl
    have e44 : a'.eval (.tmp 44) = (if m38 = false then .bool m44 else undef) := hs.eval 36 _ 44 rfl (hdep ⟨36, .data⟩ (by simp) rfl) rfl
    refine g_val (.bool m45) hS rfl ?_ rfl
    cases m38
    · replace e44 := e44.trans (if_pos rfl)
      exact (op_pick_f rfl e39 e44).trans (by rw [← hm45.out]; first | rfl | simp)
    · replace e44 := e44.trans (if_neg (by decide))
      exact (op_pick_t rfl e39 (BigFrame.eval_const a' _)).trans (by rw [← hm45.out]; first | rfl | simp)
  · go_light; intro listed a' w' hs hS hun hdep
    have e5 : a'.eval (.tmp 5) = .pointer (some ⟨w.heap.size + 1 + 1 + 1, 0, none⟩) := (hs.out 5 (by kernel_rfl)).trans (rfl)
    refine g_val (.pointer (some ⟨w.heap.size + 1 + 1 + 1, 2, none⟩)) hS rfl ?_ rfl
    have hcn := BigFrame.eval_const a'; have hfn := BigFrame.eval_func a'; clear hs hdep; generalize a'.eval = ev at *; go_simp
  · go_light; intro listed a' w' hs hS hun hdep
    have e46 : a'.eval (.tmp 46) = (.pointer (some ⟨w.heap.size + 1 + 1 + 1, 2, none⟩)) := hs.eval 38 _ 46 rfl (hdep ⟨38, .data⟩ (by simp) rfl) rfl
    exact g_val (.int .i64 ap) hS rfl (op_ld1 (.int .i64 ap) rfl e46 (L3.out.below hS) 2 (by first | rfl | simp) rfl Try.underlying3 rfl) rfl
  · go_light; intro listed a' w' hs hS hun hdep
    have e47 : a'.eval (.tmp 47) = (.int .i64 ap) := hs.eval 39 _ 47 rfl (hdep ⟨39, .data⟩ (by simp) rfl) rfl
    refine g_call 47 #[.int .i64 ap] hS rfl ?_ ?_
    · have hcn := BigFrame.eval_const a'; have hfn := BigFrame.eval_func a'; clear hs hdep; generalize a'.eval = ev at *; go_simp
    · exact c_val (C48.out w' hS) rfl
  · go_light; intro listed a' w' hs hS hun hdep
    have e48 : a'.eval (.tmp 48) = (.bool m48) := hs.eval 40 _ 48 rfl (hdep ⟨40, .data⟩ (by simp) rfl) rfl
    exact g_val (.bool m49) hS rfl ((op_not rfl e48).trans (by rw [hm49.out])) rfl
  · go_light; intro listed a' w' hs hS hun hdep
    have e49 : a'.eval (.tmp 49) = (.bool m49) := hs.eval 41 _ 49 rfl (hdep ⟨41, .data⟩ (by simp) rfl) rfl
    exact g_val (.bool m49) hS rfl (op_move rfl e49) rfl
  · go_light; intro listed a' w' hs hS hun hdep
    have eg : a'.eval (.tmp 50) = (.bool m49) := hs.eval 42 _ 50 rfl (hdep ⟨42, .guard⟩ (by simp) rfl) rfl
    have e2 : a'.eval (.tmp 2) = .pointer (some ⟨w.heap.size, 0, none⟩) := (hs.out 2 (by kernel_rfl)).trans (rfl)
    cases m49
    · exact g_val (.agg #[.int .i64 i, .int .i64 o, .int .u32 sa, .int .i64 sb, .int .u32 da, .int .i64 db, .int .i64 p, .int .i64 slo, .int .i64 shi, .int .i64 dlo, .int .i64 dhi, .bool al]) hS (wanted_yes rfl rfl rfl eg) (op_ld [.int .i64 i, .int .i64 o, .int .u32 sa, .int .i64 sb, .int .u32 da, .int .i64 db, .int .i64 p, .int .i64 slo, .int .i64 shi, .int .i64 dlo, .int .i64 dhi, .bool al] rfl e2 (L0.out.below hS) 0 (by first | rfl | simp) rfl Try.underlying34 rfl (by kernel_rfl)) rfl
    · exact g_not hS (wanted_no rfl rfl rfl eg (by decide)) rfl
  · go_light; intro listed a' w' hs hS hun hdep
    have eg : a'.eval (.tmp 50) = (.bool m49) := hs.eval 42 _ 50 rfl (hdep ⟨42, .guard⟩ (by simp) rfl) rfl
    have e51 : a'.eval (.tmp 51) = (if m49 = false then .agg #[.int .i64 i, .int .i64 o, .int .u32 sa, .int .i64 sb, .int .u32 da, .int .i64 db, .int .i64 p, .int .i64 slo, .int .i64 shi, .int .i64 dlo, .int .i64 dhi, .bool al] else undef) := hs.eval 43 _ 51 rfl (hdep ⟨43, .data⟩ (by simp) rfl) rfl
    cases m49
    · replace e51 := e51.trans (if_pos rfl)
      refine g_call 39 #[.agg #[.int .i64 i, .int .i64 o, .int .u32 sa, .int .i64 sb, .int .u32 da, .int .i64 db, .int .i64 p, .int .i64 slo, .int .i64 shi, .int .i64 dlo, .int .i64 dhi, .bool al]] hS (wanted_yes rfl rfl rfl eg) ?_ ?_
      · have hcn := BigFrame.eval_const a'; have hfn := BigFrame.eval_func a'; clear hs hdep; generalize a'.eval = ev at *; go_simp
      · exact c_val (C52.out w' hS) rfl
    · exact g_not hS (wanted_no rfl rfl rfl eg (by decide)) rfl
  · go_light; intro listed a' w' hs hS hun hdep
    have eg : a'.eval (.tmp 50) = (.bool m49) := hs.eval 42 _ 50 rfl (hdep ⟨42, .guard⟩ (by simp) rfl) rfl
    have e5 : a'.eval (.tmp 5) = .pointer (some ⟨w.heap.size + 1 + 1 + 1, 0, none⟩) := (hs.out 5 (by kernel_rfl)).trans (rfl)
    cases m49
    · refine g_val (.pointer (some ⟨w.heap.size + 1 + 1 + 1, 4, none⟩)) hS (wanted_yes rfl rfl rfl eg) ?_ rfl
      have hcn := BigFrame.eval_const a'; have hfn := BigFrame.eval_func a'; clear hs hdep; generalize a'.eval = ev at *; go_simp
    · exact g_not hS (wanted_no rfl rfl rfl eg (by decide)) rfl
  · go_light; intro listed a' w' hs hS hun hdep
    have eg : a'.eval (.tmp 50) = (.bool m49) := hs.eval 42 _ 50 rfl (hdep ⟨42, .guard⟩ (by simp) rfl) rfl
    have e53 : a'.eval (.tmp 53) = (if m49 = false then .pointer (some ⟨w.heap.size + 1 + 1 + 1, 4, none⟩) else undef) := hs.eval 45 _ 53 rfl (hdep ⟨45, .data⟩ (by simp) rfl) rfl
    cases m49
    · replace e53 := e53.trans (if_pos rfl)
      exact g_val (.int .i64 adp) hS (wanted_yes rfl rfl rfl eg) (op_ld1 (.int .i64 adp) rfl e53 (L3.out.below hS) 4 (by first | rfl | simp) rfl Try.underlying3 rfl) rfl
    · exact g_not hS (wanted_no rfl rfl rfl eg (by decide)) rfl
  · go_light; intro listed a' w' hs hS hun hdep
    have eg : a'.eval (.tmp 50) = (.bool m49) := hs.eval 42 _ 50 rfl (hdep ⟨42, .guard⟩ (by simp) rfl) rfl
    have e52 : a'.eval (.tmp 52) = (if m49 = false then .agg #[.int .i64 dlo, .int .i64 dhi] else undef) := hs.eval 44 _ 52 rfl (hdep ⟨44, .data⟩ (by simp) rfl) rfl
    have e54 : a'.eval (.tmp 54) = (if m49 = false then .int .i64 adp else undef) := hs.eval 46 _ 54 rfl (hdep ⟨46, .data⟩ (by simp) rfl) rfl
    cases m49
    · replace e52 := e52.trans (if_pos rfl)
      replace e54 := e54.trans (if_pos rfl)
      refine g_call 48 #[.agg #[.int .i64 dlo, .int .i64 dhi], .int .i64 adp] hS (wanted_yes rfl rfl rfl eg) ?_ ?_
      · have hcn := BigFrame.eval_const a'; have hfn := BigFrame.eval_func a'; clear hs hdep; generalize a'.eval = ev at *; go_simp
      · exact c_val (C55.out w' hS) rfl
    · exact g_not hS (wanted_no rfl rfl rfl eg (by decide)) rfl
  · go_light; intro listed a' w' hs hS hun hdep
    have e50 : a'.eval (.tmp 50) = (.bool m49) := hs.eval 42 _ 50 rfl (hdep ⟨42, .data⟩ (by simp) rfl) rfl
    have e55 : a'.eval (.tmp 55) = (if m49 = false then .bool m55 else undef) := hs.eval 47 _ 55 rfl (hdep ⟨47, .data⟩ (by simp) rfl) rfl
    refine g_val (.bool m56) hS rfl ?_ rfl
    cases m49
    · replace e55 := e55.trans (if_pos rfl)
      exact (op_pick_f rfl e50 e55).trans (by rw [← hm56.out]; first | rfl | simp)
    · replace e55 := e55.trans (if_neg (by decide))
      exact (op_pick_t rfl e50 (BigFrame.eval_const a' _)).trans (by rw [← hm56.out]; first | rfl | simp)
  · go_light; intro listed a' w' hs hS hun hdep
    have e9 : a'.eval (.tmp 9) = (.bool m9) := hs.eval 1 _ 9 rfl (hdep ⟨1, .data⟩ (by simp) rfl) rfl
    have e14 : a'.eval (.tmp 14) = (.bool m14) := hs.eval 6 _ 14 rfl (hdep ⟨6, .data⟩ (by simp) rfl) rfl
    have e19 : a'.eval (.tmp 19) = (.bool m19) := hs.eval 11 _ 19 rfl (hdep ⟨11, .data⟩ (by simp) rfl) rfl
    have e24 : a'.eval (.tmp 24) = (.bool m24) := hs.eval 16 _ 24 rfl (hdep ⟨16, .data⟩ (by simp) rfl) rfl
    have e29 : a'.eval (.tmp 29) = (.bool m29) := hs.eval 21 _ 29 rfl (hdep ⟨21, .data⟩ (by simp) rfl) rfl
    have e34 : a'.eval (.tmp 34) = (.bool m34) := hs.eval 26 _ 34 rfl (hdep ⟨26, .data⟩ (by simp) rfl) rfl
    have e45 : a'.eval (.tmp 45) = (.bool m45) := hs.eval 37 _ 45 rfl (hdep ⟨37, .data⟩ (by simp) rfl) rfl
    have e56 : a'.eval (.tmp 56) = (.bool m56) := hs.eval 48 _ 56 rfl (hdep ⟨48, .data⟩ (by simp) rfl) rfl
    refine g_val (.agg #[.bool m9, .bool m14, .bool m19, .bool m24, .bool m29, .bool m34, .bool m45, .bool m56]) hS rfl ?_ rfl
    have hcn := BigFrame.eval_const a'; have hfn := BigFrame.eval_func a'; clear hs hdep; generalize a'.eval = ev at *; go_simp
  · intro vs w3 hlen hV hS
    obtain ⟨v0, v1, v2, v3, v4, v5, v6, v7, v8, v9, v10, v11, v12, v13, v14, v15, v16, v17, v18, v19, v20, v21, v22, v23, v24, v25, v26, v27, v28, v29, v30, v31, v32, v33, v34, v35, v36, v37, v38, v39, v40, v41, v42, v43, v44, v45, v46, v47, v48, v49, rfl⟩ := vs_50 vs (hlen.trans rfl)
    have q0 : v0 = .agg #[.int .i64 i, .int .i64 o, .int .u32 sa, .int .i64 sb, .int .u32 da, .int .i64 db, .int .i64 p, .int .i64 slo, .int .i64 shi, .int .i64 dlo, .int .i64 dhi, .bool al] := hV 0 _ rfl
    have q1 : v1 = .bool m9 := hV 1 _ rfl
    have q2 : v2 = .pointer (some ⟨w.heap.size, 0, none⟩) := hV 2 _ rfl
    have q3 : v3 = .int .i64 i := hV 3 _ rfl
    have q4 : v4 = .pointer (some ⟨w.heap.size + 1, 0, none⟩) := hV 4 _ rfl
    have q5 : v5 = .int .i64 ai := hV 5 _ rfl
    have q6 : v6 = .bool m14 := hV 6 _ rfl
    have q7 : v7 = .pointer (some ⟨w.heap.size, 1, none⟩) := hV 7 _ rfl
    have q8 : v8 = .int .i64 o := hV 8 _ rfl
    have q9 : v9 = .pointer (some ⟨w.heap.size + 1, 1, none⟩) := hV 9 _ rfl
    have q10 : v10 = .int .i64 ao := hV 10 _ rfl
    have q11 : v11 = .bool m19 := hV 11 _ rfl
    have q12 : v12 = .pointer (some ⟨w.heap.size, 6, none⟩) := hV 12 _ rfl
    have q13 : v13 = .int .i64 p := hV 13 _ rfl
    have q14 : v14 = .pointer (some ⟨w.heap.size + 1 + 1 + 1, 2, none⟩) := hV 14 _ rfl
    have q15 : v15 = .int .i64 ap := hV 15 _ rfl
    have q16 : v16 = .bool m24 := hV 16 _ rfl
    have q17 : v17 = .pointer (some ⟨w.heap.size, 2, none⟩) := hV 17 _ rfl
    have q18 : v18 = .agg #[.int .u32 sa, .int .i64 sb] := hV 18 _ rfl
    have q19 : v19 = .pointer (some ⟨w.heap.size + 1 + 1 + 1, 0, none⟩) := hV 19 _ rfl
    have q20 : v20 = .int .u32 as_ := hV 20 _ rfl
    have q21 : v21 = .bool m29 := hV 21 _ rfl
    have q22 : v22 = .pointer (some ⟨w.heap.size, 4, none⟩) := hV 22 _ rfl
    have q23 : v23 = .agg #[.int .u32 da, .int .i64 db] := hV 23 _ rfl
    have q24 : v24 = .pointer (some ⟨w.heap.size + 1 + 1 + 1, 1, none⟩) := hV 24 _ rfl
    have q25 : v25 = .int .u32 ad := hV 25 _ rfl
    have q26 : v26 = .bool m34 := hV 26 _ rfl
    have q27 : v27 = .pointer (some ⟨w.heap.size + 1 + 1 + 1, 2, none⟩) := hV 27 _ rfl
    have q28 : v28 = .int .i64 ap := hV 28 _ rfl
    have q29 : v29 = .bool m37 := hV 29 _ rfl
    have q30 : v30 = .bool m38 := hV 30 _ rfl
    have q31 : v31 = .bool m38 := hV 31 _ rfl
    have q37 : v37 = .bool m45 := hV 37 _ rfl
    have q38 : v38 = .pointer (some ⟨w.heap.size + 1 + 1 + 1, 2, none⟩) := hV 38 _ rfl
    have q39 : v39 = .int .i64 ap := hV 39 _ rfl
    have q40 : v40 = .bool m48 := hV 40 _ rfl
    have q41 : v41 = .bool m49 := hV 41 _ rfl
    have q42 : v42 = .bool m49 := hV 42 _ rfl
    have q48 : v48 = .bool m56 := hV 48 _ rfl
    have q49 : v49 = .agg #[.bool m9, .bool m14, .bool m19, .bool m24, .bool m29, .bool m34, .bool m45, .bool m56] := hV 49 _ rfl
    have hbel : Below W0.heap.size W0 w3 := hS
    subst q0 q1 q2 q3 q4 q5 q6 q7 q8 q9 q10 q11 q12 q13 q14 q15 q16 q17 q18 q19 q20 q21 q22 q23 q24 q25 q26 q27 q28 q29 q30 q31 q37 q38 q39 q40 q41 q42 q48 q49
    clear hV hS hlen
    simp only [lays, Act.put, List.setIfInBounds_toArray, List.set_cons_zero, List.set_cons_succ, List.drop_succ_cons, List.drop_zero, List.take_succ_cons, List.take_zero]
    have h8 := (hbel.block _ (heap_lt H8.out)).trans H8.out
    refine wpList_store_row rfl _ _ _ rfl (w.heap.size + 1 + 1) #[.bool m9, .bool m14, .bool m19, .bool m24, .bool m29, .bool m34, .bool m45, .bool m56] rfl rfl _ _ h8 (by kernel_rfl) rfl (by simp [Value.oneCell']) ?_
    have hb3 := below_setRow (hb0.trans (hbel.mono hb0.size)) (g := w.heap.size + 1 + 1) (by omega) #[.bool m9, .bool m14, .bool m19, .bool m24, .bool m29, .bool m34, .bool m45, .bool m56]
    have hr3 := setRow_heap w3 (w.heap.size + 1 + 1) _ #[.bool m9, .bool m14, .bool m19, .bool m24, .bool m29, .bool m34, .bool m45, .bool m56] _ _ h8
    generalize (w3.setRow (w.heap.size + 1 + 1) #[.bool m9, .bool m14, .bool m19, .bool m24, .bool m29, .bool m34, .bool m45, .bool m56]) = w4 at *
    go_wp2
    refine bodyPost_ret (v := .agg #[.bool m9, .bool m14, .bool m19, .bool m24, .bool m29, .bool m34, .bool m45, .bool m56]) (results_cell_row rfl _ _ _ _ _ (0, 0) _ rfl hr3 Try.underlying62 rfl (by kernel_rfl)) rfl ⟨?_, hb3⟩
    simp only [conds, List.map]
    rw [← hm56.out, ← hm55.out, ← hm49.out, ← hm48.out, ← hm45.out, ← hm44.out, ← hm38.out, ← hm37.out, ← hm34.out, ← hm29.out, ← hm24.out, ← hm19.out, ← hm14.out, ← hm9.out]
#print axioms conds_any
end Go.Proofs.Ytagfcfkkjllfpaa
