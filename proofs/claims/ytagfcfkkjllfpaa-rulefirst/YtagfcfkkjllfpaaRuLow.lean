/- The walks of spans, ports, what a rule asks for. -/
import Derived.Test.YtagfcfkkjllfpaaRuMath
import Derived.Test.YtagfcfkkjllfpaaAddrRef
import Derived.Test.YtagfcfkkjllfpaaQRows
import Derived.Test.YtagfcfkkjllfpaaQSeq
namespace Go.Proofs.Ytagfcfkkjllfpaa
open Go.RowKit
set_option maxRecDepth 100000
set_option linter.unusedVariables false
open U

theorem below1 (w : World) (O : Obj) : Below w.heap.size w (w.alloc O) := (Below.refl _ w).alloc (Nat.le_refl _) _
theorem below2 (w : World) (O O' : Obj) : Below w.heap.size w ((w.alloc O).alloc O') := (below1 w O).alloc (by simp) _

theorem below_setRow {n g : Nat} {w w' : World} (h : Below n w w') (hg : n ≤ g) (cs : Array Value) : Below n w (w'.setRow g cs) :=
  ⟨h.os, h.tape, h.output, by simpa using h.size, fun k hk => (setRow_other w' g k cs (by omega)).trans (h.block k hk)⟩

set_option maxHeartbeats 1000000 in
theorem holds_span (lo hi n : Int) (w : World) : Calls Try.prog 48 #[.agg #[.int .i64 lo, .int .i64 hi], .int .i64 n] w fun e w' => e = .returned (.bool (inR lo hi n)) ∧ Below w.heap.size w w' := by
  by_cases h1 : lo ≤ n
  · have H := Lib.hid (show inR lo hi n = decide (n ≤ hi) by simp [inR, h1])
    go_enter Try.func48, Try.ntmps48
    go_wp2
    go_ret
    exact ⟨by rw [H.out]; rfl, below1 _ _⟩
  · have H := Lib.hid (show inR lo hi n = false by simp [inR, h1])
    go_enter Try.func48, Try.ntmps48
    go_wp2
    go_ret
    exact ⟨by rw [H.out]; rfl, below1 _ _⟩

set_option maxHeartbeats 1000000 in
theorem within_span (l h a b : Int) (w : World) : Calls Try.prog 38 #[.agg #[.int .i64 l, .int .i64 h], .agg #[.int .i64 a, .int .i64 b]] w fun e w' => e = .returned (.bool (wid l h a b)) ∧ Below w.heap.size w w' := by
  have hb0 := below2 w (.cells #[.int .i64 l, .int .i64 h] 66) (.cells #[.int .i64 a, .int .i64 b] 66)
  by_cases h1 : l ≤ h
  · obtain ⟨p, hp⟩ : ∃ p, inR a b l = p := ⟨_, rfl⟩
    obtain ⟨q, hq⟩ : ∃ q, inR a b h = q := ⟨_, rfl⟩
    have H := Lib.hid (show wid l h a b = (p && q) by simp [wid, h1, hp, hq])
    have HP := Lib.hid (fun w' => holds_span a b l w')
    have HQ := Lib.hid (fun w' => holds_span a b h w')
    rw [hp] at HP
    rw [hq] at HQ
    clear hp hq
    go_enter Try.func38, Try.ntmps38
    go_wp2_with fail
    refine (HP.out _).mono ?_
    rintro e w1 ⟨rfl, hb1⟩
    have k0 := (hb1.cell (p := ⟨w.heap.size, 1, none⟩) (by simp; omega)).trans (show _ = some (.int .i64 h) by simp)
    have k1 := (hb1.cell (p := ⟨w.heap.size + 1, 0, none⟩) (by simp)).trans (show _ = some (.int .i64 a) by simp)
    have k2 := (hb1.cell (p := ⟨w.heap.size + 1, 1, none⟩) (by simp)).trans (show _ = some (.int .i64 b) by simp)
    have hbw := hb0.trans (hb1.mono hb0.size)
    clear hb1
    cases p
    · go_wp2
      go_ret
      exact ⟨by rw [H.out]; rfl, hbw⟩
    · go_wp2_with fail
      refine (HQ.out _).mono ?_
      rintro e w2 ⟨rfl, hb2⟩
      have hbw2 := hbw.trans (hb2.mono hbw.size)
      go_wp2
      go_ret
      exact ⟨by rw [H.out]; rfl, hbw2⟩
  · have H := Lib.hid (show wid l h a b = false by simp [wid, h1])
    go_enter Try.func38, Try.ntmps38
    go_wp2
    go_ret
    exact ⟨by rw [H.out]; rfl, hb0⟩

set_option maxHeartbeats 1000000 in
theorem sports_any (r : Ru) (w : World) : Calls Try.prog 37 #[.agg r.v.toArray] w fun e w' => e = .returned (.agg #[.int .i64 r.slo, .int .i64 r.shi]) ∧ Below w.heap.size w w' := by
  obtain ⟨i, o, sa, sb, da, db, p, slo, shi, dlo, dhi, al⟩ := r
  simp only [Ru.v]
  go_enter Try.func37, Try.ntmps37
  go_wp2
  exact bodyPost_ret (v := .agg #[.int .i64 slo, .int .i64 shi]) (by simp [results, Try.results37, go_sem]) rfl ⟨rfl, ((Below.refl _ w).alloc (Nat.le_refl _) _).alloc (by simp) _⟩

set_option maxHeartbeats 1000000 in
theorem dports_any (r : Ru) (w : World) : Calls Try.prog 39 #[.agg r.v.toArray] w fun e w' => e = .returned (.agg #[.int .i64 r.dlo, .int .i64 r.dhi]) ∧ Below w.heap.size w w' := by
  obtain ⟨i, o, sa, sb, da, db, p, slo, shi, dlo, dhi, al⟩ := r
  simp only [Ru.v]
  go_enter Try.func39, Try.ntmps39
  go_wp2
  exact bodyPost_ret (v := .agg #[.int .i64 dlo, .int .i64 dhi]) (by simp [results, Try.results39, go_sem]) rfl ⟨rfl, ((Below.refl _ w).alloc (Nat.le_refl _) _).alloc (by simp) _⟩

set_option maxHeartbeats 1000000 in
theorem fits_any (a n : Int) (w : World) : Calls Try.prog 35 #[.int .i64 a, .int .i64 n] w fun e w' => e = .returned (.bool (fits a n)) ∧ w = w' := by
  cases h : (a == (-1 : Int))
  · have H := Lib.hid (show fits a n = (a == n) by simp [fits, h])
    go_enter Try.func35, Try.ntmps35
    go_wp2
    go_ret
    exact ⟨by rw [H.out]; rfl, rfl⟩
  · have H := Lib.hid (show fits a n = true by simp [fits, h])
    go_enter Try.func35, Try.ntmps35
    go_wp2
    go_ret
    exact ⟨by rw [H.out]; rfl, rfl⟩

set_option maxHeartbeats 1000000 in
theorem hasPorts_any (p : Int) (w : World) : Calls Try.prog 47 #[.int .i64 p] w fun e w' => e = .returned (.bool (hp p)) ∧ w = w' := by
  cases h : (p == (6 : Int))
  · cases h1 : (p == (17 : Int))
    · cases h2 : (p == (1 : Int))
      · have H := Lib.hid (show hp p = false by simp [hp, h, h1, h2])
        go_enter Try.func47, Try.ntmps47
        go_wp2
        go_ret
        exact ⟨by rw [H.out]; rfl, rfl⟩
      · have H := Lib.hid (show hp p = true by simp [hp, h, h1, h2])
        go_enter Try.func47, Try.ntmps47
        go_wp2
        go_ret
        exact ⟨by rw [H.out]; rfl, rfl⟩
    · have H := Lib.hid (show hp p = true by simp [hp, h, h1])
      go_enter Try.func47, Try.ntmps47
      go_wp2
      go_ret
      exact ⟨by rw [H.out]; rfl, rfl⟩
  · have H := Lib.hid (show hp p = true by simp [hp, h])
    go_enter Try.func47, Try.ntmps47
    go_wp2
    go_ret
    exact ⟨by rw [H.out]; rfl, rfl⟩

set_option maxHeartbeats 1000000 in
theorem rspan_any (l h : Int) (w : World) : Calls Try.prog 31 #[.int .i64 l, .int .i64 h] w fun e w' => e = .returned (.bool (wid l h 0 65535)) ∧ w = w' := by
  by_cases h0 : 0 ≤ l
  · by_cases h1 : l ≤ h
    · by_cases h2 : h ≤ 65535
      · have H := Lib.hid (show wid l h 0 65535 = true by rw [wid_iff]; omega)
        go_enter Try.func31, Try.ntmps31
        go_wp2
        go_ret
        exact ⟨by rw [H.out]; rfl, rfl⟩
      · have H := Lib.hid (show wid l h 0 65535 = false by rw [Bool.eq_false_iff, Ne, wid_iff]; omega)
        go_enter Try.func31, Try.ntmps31
        go_wp2
        go_ret
        exact ⟨by rw [H.out]; rfl, rfl⟩
    · have H := Lib.hid (show wid l h 0 65535 = false by rw [Bool.eq_false_iff, Ne, wid_iff]; omega)
      go_enter Try.func31, Try.ntmps31
      go_wp2
      go_ret
      exact ⟨by rw [H.out]; rfl, rfl⟩
  · have H := Lib.hid (show wid l h 0 65535 = false by rw [Bool.eq_false_iff, Ne, wid_iff]; omega)
    go_enter Try.func31, Try.ntmps31
    go_wp2
    go_ret
    exact ⟨by rw [H.out]; rfl, rfl⟩

set_option maxHeartbeats 1000000 in
theorem wide_any (a n : Int) (w : World) : Calls Try.prog 40 #[.int .i64 a, .int .i64 n] w fun e w' => e = .returned (.bool (fits a n)) ∧ w = w' := by
  cases h : (a == (-1 : Int))
  · have H := Lib.hid (show fits a n = (a == n) by simp [fits, h])
    go_enter Try.func40, Try.ntmps40
    go_wp2
    go_ret
    exact ⟨by rw [H.out]; rfl, rfl⟩
  · have H := Lib.hid (show fits a n = true by simp [fits, h])
    go_enter Try.func40, Try.ntmps40
    go_wp2
    go_ret
    exact ⟨by rw [H.out]; rfl, rfl⟩

-- REGIONS
theorem vs_38 (vs : List Value) (h : vs.length = 38) : ∃ v0 v1 v2 v3 v4 v5 v6 v7 v8 v9 v10 v11 v12 v13 v14 v15 v16 v17 v18 v19 v20 v21 v22 v23 v24 v25 v26 v27 v28 v29 v30 v31 v32 v33 v34 v35 v36 v37, vs = [v0, v1, v2, v3, v4, v5, v6, v7, v8, v9, v10, v11, v12, v13, v14, v15, v16, v17, v18, v19, v20, v21, v22, v23, v24, v25, v26, v27, v28, v29, v30, v31, v32, v33, v34, v35, v36, v37] := by
  obtain ⟨v0, r0, rfl, h0⟩ := vs_cons vs h
  obtain ⟨v1, r1, rfl, h1⟩ := vs_cons r0 h0
  obtain ⟨v2, r2, rfl, h2⟩ := vs_cons r1 h1
  obtain ⟨v3, r3, rfl, h3⟩ := vs_cons r2 h2
  obtain ⟨v4, r4, rfl, h4⟩ := vs_cons r3 h3
  obtain ⟨v5, r5, rfl, h5⟩ := vs_cons r4 h4
  obtain ⟨v6, r6, rfl, h6⟩ := vs_cons r5 h5
  obtain ⟨v7, r7, rfl, h7⟩ := vs_cons r6 h6
  obtain ⟨v8, r8, rfl, h8⟩ := vs_cons r7 h7
  obtain ⟨v9, r9, rfl, h9⟩ := vs_cons r8 h8
  obtain ⟨v10, r10, rfl, h10⟩ := vs_cons r9 h9
  obtain ⟨v11, r11, rfl, h11⟩ := vs_cons r10 h10
  obtain ⟨v12, r12, rfl, h12⟩ := vs_cons r11 h11
  obtain ⟨v13, r13, rfl, h13⟩ := vs_cons r12 h12
  obtain ⟨v14, r14, rfl, h14⟩ := vs_cons r13 h13
  obtain ⟨v15, r15, rfl, h15⟩ := vs_cons r14 h14
  obtain ⟨v16, r16, rfl, h16⟩ := vs_cons r15 h15
  obtain ⟨v17, r17, rfl, h17⟩ := vs_cons r16 h16
  obtain ⟨v18, r18, rfl, h18⟩ := vs_cons r17 h17
  obtain ⟨v19, r19, rfl, h19⟩ := vs_cons r18 h18
  obtain ⟨v20, r20, rfl, h20⟩ := vs_cons r19 h19
  obtain ⟨v21, r21, rfl, h21⟩ := vs_cons r20 h20
  obtain ⟨v22, r22, rfl, h22⟩ := vs_cons r21 h21
  obtain ⟨v23, r23, rfl, h23⟩ := vs_cons r22 h22
  obtain ⟨v24, r24, rfl, h24⟩ := vs_cons r23 h23
  obtain ⟨v25, r25, rfl, h25⟩ := vs_cons r24 h24
  obtain ⟨v26, r26, rfl, h26⟩ := vs_cons r25 h25
  obtain ⟨v27, r27, rfl, h27⟩ := vs_cons r26 h26
  obtain ⟨v28, r28, rfl, h28⟩ := vs_cons r27 h27
  obtain ⟨v29, r29, rfl, h29⟩ := vs_cons r28 h28
  obtain ⟨v30, r30, rfl, h30⟩ := vs_cons r29 h29
  obtain ⟨v31, r31, rfl, h31⟩ := vs_cons r30 h30
  obtain ⟨v32, r32, rfl, h32⟩ := vs_cons r31 h31
  obtain ⟨v33, r33, rfl, h33⟩ := vs_cons r32 h32
  obtain ⟨v34, r34, rfl, h34⟩ := vs_cons r33 h33
  obtain ⟨v35, r35, rfl, h35⟩ := vs_cons r34 h34
  obtain ⟨v36, r36, rfl, h36⟩ := vs_cons r35 h35
  obtain ⟨v37, r37, rfl, h37⟩ := vs_cons r36 h36
  obtain rfl := List.eq_nil_of_length_eq_zero h37
  exact ⟨v0, v1, v2, v3, v4, v5, v6, v7, v8, v9, v10, v11, v12, v13, v14, v15, v16, v17, v18, v19, v20, v21, v22, v23, v24, v25, v26, v27, v28, v29, v30, v31, v32, v33, v34, v35, v36, v37, rfl⟩

set_option maxHeartbeats 4000000 in
theorem ok_any (r : Ru) (w : World) (hsa : r.sa < 4294967296) (hda : r.da < 4294967296) : Calls Try.prog 34 #[.agg r.v.toArray] w fun e w' => e = .returned (.bool r.ok) ∧ Below w.heap.size w w' := by
  obtain ⟨i, o, sa, sb, da, db, p, slo, shi, dlo, dhi, al⟩ := r
  have Hsa := Lib.hid hsa
  have Hda := Lib.hid hda
  simp only [Ru.v] at *
  clear hsa hda
  go_enter Try.func34, Try.ntmps34
  go_wp2
  have hb0 : Below w.heap.size w (((w.alloc (.cells #[.int .i64 i, .int .i64 o, .int .u32 sa, .int .i64 sb, .int .u32 da, .int .i64 db, .int .i64 p, .int .i64 slo, .int .i64 shi, .int .i64 dlo, .int .i64 dhi, .bool al] 34)).alloc (.cells #[.int .i64 (-1), .int .i64 7] 66)).alloc (.cells #[.int .i64 0, .int .i64 65535] 66)) := ((below2 w _ _).alloc (by simp; omega) _)
  have L0 : Hid (Lies (((w.alloc (.cells #[.int .i64 i, .int .i64 o, .int .u32 sa, .int .i64 sb, .int .u32 da, .int .i64 db, .int .i64 p, .int .i64 slo, .int .i64 shi, .int .i64 dlo, .int .i64 dhi, .bool al] 34)).alloc (.cells #[.int .i64 (-1), .int .i64 7] 66)).alloc (.cells #[.int .i64 0, .int .i64 65535] 66)) w.heap.size 0 [.int .i64 i, .int .i64 o, .int .u32 sa, .int .i64 sb, .int .u32 da, .int .i64 db, .int .i64 p, .int .i64 slo, .int .i64 shi, .int .i64 dlo, .int .i64 dhi, .bool al]) := Lib.hid (((Lies.new w [.int .i64 i, .int .i64 o, .int .u32 sa, .int .i64 sb, .int .u32 da, .int .i64 db, .int .i64 p, .int .i64 slo, .int .i64 shi, .int .i64 dlo, .int .i64 dhi, .bool al] _).alloc _).alloc _)
  have L1 : Hid (Lies (((w.alloc (.cells #[.int .i64 i, .int .i64 o, .int .u32 sa, .int .i64 sb, .int .u32 da, .int .i64 db, .int .i64 p, .int .i64 slo, .int .i64 shi, .int .i64 dlo, .int .i64 dhi, .bool al] 34)).alloc (.cells #[.int .i64 (-1), .int .i64 7] 66)).alloc (.cells #[.int .i64 0, .int .i64 65535] 66)) (w.heap.size + 1) 0 [.int .i64 (-1), .int .i64 7]) := Lib.hid ((Lies.newAt (by simp)).alloc _)
  have L2 : Hid (Lies (((w.alloc (.cells #[.int .i64 i, .int .i64 o, .int .u32 sa, .int .i64 sb, .int .u32 da, .int .i64 db, .int .i64 p, .int .i64 slo, .int .i64 shi, .int .i64 dlo, .int .i64 dhi, .bool al] 34)).alloc (.cells #[.int .i64 (-1), .int .i64 7] 66)).alloc (.cells #[.int .i64 0, .int .i64 65535] 66)) (w.heap.size + 1 + 1) 0 [.int .i64 0, .int .i64 65535]) := Lib.hid (Lies.newAt (by simp))
  generalize (((w.alloc (.cells #[.int .i64 i, .int .i64 o, .int .u32 sa, .int .i64 sb, .int .u32 da, .int .i64 db, .int .i64 p, .int .i64 slo, .int .i64 shi, .int .i64 dlo, .int .i64 dhi, .bool al] 34)).alloc (.cells #[.int .i64 (-1), .int .i64 7] 66)).alloc (.cells #[.int .i64 0, .int .i64 65535] 66)) = W0 at *
  obtain ⟨m10, hm10⟩ : ∃ x, (inR (-1) 7 i) = x := ⟨_, rfl⟩
  replace hm10 := Lib.hid hm10
  have C10 := Lib.hid (fun (w' : World) (hb : Below W0.heap.size W0 w') => show Calls Try.prog 48 #[.agg #[.int .i64 (-1), .int .i64 7], .int .i64 i] w' (fun e w'' => e = .returned (.bool m10) ∧ Below w'.heap.size w' w'') from (by rw [← hm10.out]; exact holds_span (-1) 7 i w'))
  obtain ⟨m15, hm15⟩ : ∃ x, (inR (-1) 7 o) = x := ⟨_, rfl⟩
  replace hm15 := Lib.hid hm15
  have C15 := Lib.hid (fun (w' : World) (hb : Below W0.heap.size W0 w') => show Calls Try.prog 48 #[.agg #[.int .i64 (-1), .int .i64 7], .int .i64 o] w' (fun e w'' => e = .returned (.bool m15) ∧ Below w'.heap.size w' w'') from (by rw [← hm15.out]; exact holds_span (-1) 7 o w'))
  obtain ⟨m16, hm16⟩ : ∃ x, (m10 && m15) = x := ⟨_, rfl⟩
  replace hm16 := Lib.hid hm16
  obtain ⟨m21, hm21⟩ : ∃ x, (inR (-1) 255 p) = x := ⟨_, rfl⟩
  replace hm21 := Lib.hid hm21
  have C21 := Lib.hid (fun (w' : World) (hb : Below W0.heap.size W0 w') => show Calls Try.prog 48 #[.agg #[.int .i64 (-1), .int .i64 255], .int .i64 p] w' (fun e w'' => e = .returned (.bool m21) ∧ Below w'.heap.size w' w'') from (by rw [← hm21.out]; exact holds_span (-1) 255 p w'))
  obtain ⟨m22, hm22⟩ : ∃ x, (m16 && m21) = x := ⟨_, rfl⟩
  replace hm22 := Lib.hid hm22
  obtain ⟨m26, hm26⟩ : ∃ x, (A.right sa sb) = x := ⟨_, rfl⟩
  replace hm26 := Lib.hid hm26
  have C26 := Lib.hid (fun (w' : World) (hb : Below W0.heap.size W0 w') => show Calls Try.prog 49 #[.agg #[.int .u32 sa, .int .i64 sb]] w' (fun e w'' => e = .returned (.bool m26) ∧ Below w'.heap.size w' w'') from (by rw [← hm26.out]; exact right_any sa sb w' Hsa.out))
  obtain ⟨m27, hm27⟩ : ∃ x, (m22 && m26) = x := ⟨_, rfl⟩
  replace hm27 := Lib.hid hm27
  obtain ⟨m31, hm31⟩ : ∃ x, (A.right da db) = x := ⟨_, rfl⟩
  replace hm31 := Lib.hid hm31
  have C31 := Lib.hid (fun (w' : World) (hb : Below W0.heap.size W0 w') => show Calls Try.prog 49 #[.agg #[.int .u32 da, .int .i64 db]] w' (fun e w'' => e = .returned (.bool m31) ∧ Below w'.heap.size w' w'') from (by rw [← hm31.out]; exact right_any da db w' Hda.out))
  obtain ⟨m32, hm32⟩ : ∃ x, (m27 && m31) = x := ⟨_, rfl⟩
  replace hm32 := Lib.hid hm32
  have C35 := Lib.hid (fun (w' : World) (hb : Below W0.heap.size W0 w') => show Calls Try.prog 37 #[.agg #[.int .i64 i, .int .i64 o, .int .u32 sa, .int .i64 sb, .int .u32 da, .int .i64 db, .int .i64 p, .int .i64 slo, .int .i64 shi, .int .i64 dlo, .int .i64 dhi, .bool al]] w' (fun e w'' => e = .returned (.agg #[.int .i64 slo, .int .i64 shi]) ∧ Below w'.heap.size w' w'') from (by exact sports_any ⟨i, o, sa, sb, da, db, p, slo, shi, dlo, dhi, al⟩ w'))
  obtain ⟨m37, hm37⟩ : ∃ x, (wid slo shi 0 65535) = x := ⟨_, rfl⟩
  replace hm37 := Lib.hid hm37
  have C37 := Lib.hid (fun (w' : World) (hb : Below W0.heap.size W0 w') => show Calls Try.prog 38 #[.agg #[.int .i64 slo, .int .i64 shi], .agg #[.int .i64 0, .int .i64 65535]] w' (fun e w'' => e = .returned (.bool m37) ∧ Below w'.heap.size w' w'') from (by rw [← hm37.out]; exact within_span slo shi 0 65535 w'))
  obtain ⟨m38, hm38⟩ : ∃ x, (m32 && m37) = x := ⟨_, rfl⟩
  replace hm38 := Lib.hid hm38
  have C41 := Lib.hid (fun (w' : World) (hb : Below W0.heap.size W0 w') => show Calls Try.prog 39 #[.agg #[.int .i64 i, .int .i64 o, .int .u32 sa, .int .i64 sb, .int .u32 da, .int .i64 db, .int .i64 p, .int .i64 slo, .int .i64 shi, .int .i64 dlo, .int .i64 dhi, .bool al]] w' (fun e w'' => e = .returned (.agg #[.int .i64 dlo, .int .i64 dhi]) ∧ Below w'.heap.size w' w'') from (by exact dports_any ⟨i, o, sa, sb, da, db, p, slo, shi, dlo, dhi, al⟩ w'))
  obtain ⟨m43, hm43⟩ : ∃ x, (wid dlo dhi 0 65535) = x := ⟨_, rfl⟩
  replace hm43 := Lib.hid hm43
  have C43 := Lib.hid (fun (w' : World) (hb : Below W0.heap.size W0 w') => show Calls Try.prog 38 #[.agg #[.int .i64 dlo, .int .i64 dhi], .agg #[.int .i64 0, .int .i64 65535]] w' (fun e w'' => e = .returned (.bool m43) ∧ Below w'.heap.size w' w'') from (by rw [← hm43.out]; exact within_span dlo dhi 0 65535 w'))
  obtain ⟨m44, hm44⟩ : ∃ x, (m38 && m43) = x := ⟨_, rfl⟩
  replace hm44 := Lib.hid hm44
  refine region_gen_tail 38 (VG W0.heap.size [.val (.agg #[.int .i64 (-1), .int .i64 7]), .val (.pointer (some ⟨w.heap.size, 0, none⟩)), .val (.int .i64 i), .val (.bool m10), .val (.bool m10), .val (if m10 = true then .agg #[.int .i64 (-1), .int .i64 7] else undef), .val (if m10 = true then .pointer (some ⟨w.heap.size, 1, none⟩) else undef), .val (if m10 = true then .int .i64 o else undef), .val (if m10 = true then .bool m15 else undef), .val (.bool m16), .val (.bool m16), .val (if m16 = true then .agg #[.int .i64 (-1), .int .i64 255] else undef), .val (if m16 = true then .pointer (some ⟨w.heap.size, 6, none⟩) else undef), .val (if m16 = true then .int .i64 p else undef), .val (if m16 = true then .bool m21 else undef), .val (.bool m22), .val (.bool m22), .val (if m22 = true then .pointer (some ⟨w.heap.size, 2, none⟩) else undef), .val (if m22 = true then .agg #[.int .u32 sa, .int .i64 sb] else undef), .val (if m22 = true then .bool m26 else undef), .val (.bool m27), .val (.bool m27), .val (if m27 = true then .pointer (some ⟨w.heap.size, 4, none⟩) else undef), .val (if m27 = true then .agg #[.int .u32 da, .int .i64 db] else undef), .val (if m27 = true then .bool m31 else undef), .val (.bool m32), .val (.bool m32), .val (if m32 = true then .agg #[.int .i64 i, .int .i64 o, .int .u32 sa, .int .i64 sb, .int .u32 da, .int .i64 db, .int .i64 p, .int .i64 slo, .int .i64 shi, .int .i64 dlo, .int .i64 dhi, .bool al] else undef), .val (if m32 = true then .agg #[.int .i64 slo, .int .i64 shi] else undef), .val (if m32 = true then .agg #[.int .i64 0, .int .i64 65535] else undef), .val (if m32 = true then .bool m37 else undef), .val (.bool m38), .val (.bool m38), .val (if m38 = true then .agg #[.int .i64 i, .int .i64 o, .int .u32 sa, .int .i64 sb, .int .u32 da, .int .i64 db, .int .i64 p, .int .i64 slo, .int .i64 shi, .int .i64 dlo, .int .i64 dhi, .bool al] else undef), .val (if m38 = true then .agg #[.int .i64 dlo, .int .i64 dhi] else undef), .val (if m38 = true then .agg #[.int .i64 0, .int .i64 65535] else undef), .val (if m38 = true then .bool m43 else undef), .val (.bool m44)]) (BS W0) (by kernel_rfl) (by kernel_rfl) (by kernel_rfl) (Below.refl _ _).drew ⟨?_, ?_, ?_, ?_, ?_, ?_, ?_, ?_, ?_, ?_, ?_, ?_, ?_, ?_, ?_, ?_, ?_, ?_, ?_, ?_, ?_, ?_, ?_, ?_, ?_, ?_, ?_, ?_, ?_, ?_, ?_, ?_, ?_, ?_, ?_, ?_, ?_, ?_, trivial⟩ ?_
  · go_light; intro listed a' w' hs hS hun hdep
    have e3 : a'.eval (.tmp 3) = .pointer (some ⟨w.heap.size + 1, 0, none⟩) := (hs.out 3 (by kernel_rfl)).trans (rfl)
    exact g_val (.agg #[.int .i64 (-1), .int .i64 7]) hS rfl (op_ld [.int .i64 (-1), .int .i64 7] rfl e3 (L1.out.below hS) 0 (by first | rfl | simp) rfl Try.underlying66 rfl (by kernel_rfl)) rfl
  · go_light; intro listed a' w' hs hS hun hdep
    have e1 : a'.eval (.tmp 1) = .pointer (some ⟨w.heap.size, 0, none⟩) := (hs.out 1 (by kernel_rfl)).trans (rfl)
    refine g_val (.pointer (some ⟨w.heap.size, 0, none⟩)) hS rfl ?_ rfl
    have hcn := BigFrame.eval_const a'; have hfn := BigFrame.eval_func a'; clear hs hdep; generalize a'.eval = ev at *; go_simp
  · go_light; intro listed a' w' hs hS hun hdep
    have e8 : a'.eval (.tmp 8) = (.pointer (some ⟨w.heap.size, 0, none⟩)) := hs.eval 1 _ 8 rfl (hdep ⟨1, .data⟩ (by simp) rfl) rfl
    exact g_val (.int .i64 i) hS rfl (op_ld1 (.int .i64 i) rfl e8 (L0.out.below hS) 0 (by first | rfl | simp) rfl Try.underlying3 rfl) rfl
  · go_light; intro listed a' w' hs hS hun hdep
    have e7 : a'.eval (.tmp 7) = (.agg #[.int .i64 (-1), .int .i64 7]) := hs.eval 0 _ 7 rfl (hdep ⟨0, .data⟩ (by simp) rfl) rfl
    have e9 : a'.eval (.tmp 9) = (.int .i64 i) := hs.eval 2 _ 9 rfl (hdep ⟨2, .data⟩ (by simp) rfl) rfl
    refine g_call 48 #[.agg #[.int .i64 (-1), .int .i64 7], .int .i64 i] hS rfl ?_ ?_
    · have hcn := BigFrame.eval_const a'; have hfn := BigFrame.eval_func a'; clear hs hdep; generalize a'.eval = ev at *; go_simp
    · exact c_val (C10.out w' hS) rfl
  · go_light; intro listed a' w' hs hS hun hdep
    have e10 : a'.eval (.tmp 10) = (.bool m10) := hs.eval 3 _ 10 rfl (hdep ⟨3, .data⟩ (by simp) rfl) rfl
    exact g_val (.bool m10) hS rfl (op_move rfl e10) rfl
  · go_light; intro listed a' w' hs hS hun hdep
    have eg : a'.eval (.tmp 11) = (.bool m10) := hs.eval 4 _ 11 rfl (hdep ⟨4, .guard⟩ (by simp) rfl) rfl
    have e3 : a'.eval (.tmp 3) = .pointer (some ⟨w.heap.size + 1, 0, none⟩) := (hs.out 3 (by kernel_rfl)).trans (rfl)
    cases m10
    · exact g_not hS (wanted_no rfl rfl rfl eg (by decide)) rfl
    · exact g_val (.agg #[.int .i64 (-1), .int .i64 7]) hS (wanted_yes rfl rfl rfl eg) (op_ld [.int .i64 (-1), .int .i64 7] rfl e3 (L1.out.below hS) 0 (by first | rfl | simp) rfl Try.underlying66 rfl (by kernel_rfl)) rfl
  · go_light; intro listed a' w' hs hS hun hdep
    have eg : a'.eval (.tmp 11) = (.bool m10) := hs.eval 4 _ 11 rfl (hdep ⟨4, .guard⟩ (by simp) rfl) rfl
    have e1 : a'.eval (.tmp 1) = .pointer (some ⟨w.heap.size, 0, none⟩) := (hs.out 1 (by kernel_rfl)).trans (rfl)
    cases m10
    · exact g_not hS (wanted_no rfl rfl rfl eg (by decide)) rfl
    · refine g_val (.pointer (some ⟨w.heap.size, 1, none⟩)) hS (wanted_yes rfl rfl rfl eg) ?_ rfl
      have hcn := BigFrame.eval_const a'; have hfn := BigFrame.eval_func a'; clear hs hdep; generalize a'.eval = ev at *; go_simp
  · go_light; intro listed a' w' hs hS hun hdep
    have eg : a'.eval (.tmp 11) = (.bool m10) := hs.eval 4 _ 11 rfl (hdep ⟨4, .guard⟩ (by simp) rfl) rfl
    have e13 : a'.eval (.tmp 13) = (if m10 = true then .pointer (some ⟨w.heap.size, 1, none⟩) else undef) := hs.eval 6 _ 13 rfl (hdep ⟨6, .data⟩ (by simp) rfl) rfl
    cases m10
    · exact g_not hS (wanted_no rfl rfl rfl eg (by decide)) rfl
    · replace e13 := e13.trans (if_pos rfl)
      exact g_val (.int .i64 o) hS (wanted_yes rfl rfl rfl eg) (op_ld1 (.int .i64 o) rfl e13 (L0.out.below hS) 1 (by first | rfl | simp) rfl Try.underlying3 rfl) rfl
  · go_light; intro listed a' w' hs hS hun hdep
    have eg : a'.eval (.tmp 11) = (.bool m10) := hs.eval 4 _ 11 rfl (hdep ⟨4, .guard⟩ (by simp) rfl) rfl
    have e12 : a'.eval (.tmp 12) = (if m10 = true then .agg #[.int .i64 (-1), .int .i64 7] else undef) := hs.eval 5 _ 12 rfl (hdep ⟨5, .data⟩ (by simp) rfl) rfl
    have e14 : a'.eval (.tmp 14) = (if m10 = true then .int .i64 o else undef) := hs.eval 7 _ 14 rfl (hdep ⟨7, .data⟩ (by simp) rfl) rfl
    cases m10
    · exact g_not hS (wanted_no rfl rfl rfl eg (by decide)) rfl
    · replace e12 := e12.trans (if_pos rfl)
      replace e14 := e14.trans (if_pos rfl)
      refine g_call 48 #[.agg #[.int .i64 (-1), .int .i64 7], .int .i64 o] hS (wanted_yes rfl rfl rfl eg) ?_ ?_
      · have hcn := BigFrame.eval_const a'; have hfn := BigFrame.eval_func a'; clear hs hdep; generalize a'.eval = ev at *; go_simp
      · exact c_val (C15.out w' hS) rfl
  · go_light; intro listed a' w' hs hS hun hdep
    have e11 : a'.eval (.tmp 11) = (.bool m10) := hs.eval 4 _ 11 rfl (hdep ⟨4, .data⟩ (by simp) rfl) rfl
    have e15 : a'.eval (.tmp 15) = (if m10 = true then .bool m15 else undef) := hs.eval 8 _ 15 rfl (hdep ⟨8, .data⟩ (by simp) rfl) rfl
    refine g_val (.bool m16) hS rfl ?_ rfl
    cases m10
    · replace e15 := e15.trans (if_neg (by decide))
      exact (op_pick_f rfl e11 (BigFrame.eval_const a' _)).trans (by rw [← hm16.out]; first | rfl | simp)
    · replace e15 := e15.trans (if_pos rfl)
      exact (op_pick_t rfl e11 e15).trans (by rw [← hm16.out]; first | rfl | simp)
  · go_light; intro listed a' w' hs hS hun hdep
    have e16 : a'.eval (.tmp 16) = (.bool m16) := hs.eval 9 _ 16 rfl (hdep ⟨9, .data⟩ (by simp) rfl) rfl
    exact g_val (.bool m16) hS rfl (op_move rfl e16) rfl
  · go_light; intro listed a' w' hs hS hun hdep
    have eg : a'.eval (.tmp 17) = (.bool m16) := hs.eval 10 _ 17 rfl (hdep ⟨10, .guard⟩ (by simp) rfl) rfl
    cases m16
    · exact g_not hS (wanted_no rfl rfl rfl eg (by decide)) rfl
    · refine g_val (.agg #[.int .i64 (-1), .int .i64 255]) hS (wanted_yes rfl rfl rfl eg) ?_ rfl
      have hcn := BigFrame.eval_const a'; have hfn := BigFrame.eval_func a'; clear hs hdep; generalize a'.eval = ev at *; go_simp
  · go_light; intro listed a' w' hs hS hun hdep
    have eg : a'.eval (.tmp 17) = (.bool m16) := hs.eval 10 _ 17 rfl (hdep ⟨10, .guard⟩ (by simp) rfl) rfl
    have e1 : a'.eval (.tmp 1) = .pointer (some ⟨w.heap.size, 0, none⟩) := (hs.out 1 (by kernel_rfl)).trans (rfl)
    cases m16
    · exact g_not hS (wanted_no rfl rfl rfl eg (by decide)) rfl
    · refine g_val (.pointer (some ⟨w.heap.size, 6, none⟩)) hS (wanted_yes rfl rfl rfl eg) ?_ rfl
      have hcn := BigFrame.eval_const a'; have hfn := BigFrame.eval_func a'; clear hs hdep; generalize a'.eval = ev at *; go_simp
  · go_light; intro listed a' w' hs hS hun hdep
    have eg : a'.eval (.tmp 17) = (.bool m16) := hs.eval 10 _ 17 rfl (hdep ⟨10, .guard⟩ (by simp) rfl) rfl
    have e19 : a'.eval (.tmp 19) = (if m16 = true then .pointer (some ⟨w.heap.size, 6, none⟩) else undef) := hs.eval 12 _ 19 rfl (hdep ⟨12, .data⟩ (by simp) rfl) rfl
    cases m16
    · exact g_not hS (wanted_no rfl rfl rfl eg (by decide)) rfl
    · replace e19 := e19.trans (if_pos rfl)
      exact g_val (.int .i64 p) hS (wanted_yes rfl rfl rfl eg) (op_ld1 (.int .i64 p) rfl e19 (L0.out.below hS) 6 (by first | rfl | simp) rfl Try.underlying3 rfl) rfl
  · go_light; intro listed a' w' hs hS hun hdep
    have eg : a'.eval (.tmp 17) = (.bool m16) := hs.eval 10 _ 17 rfl (hdep ⟨10, .guard⟩ (by simp) rfl) rfl
    have e18 : a'.eval (.tmp 18) = (if m16 = true then .agg #[.int .i64 (-1), .int .i64 255] else undef) := hs.eval 11 _ 18 rfl (hdep ⟨11, .data⟩ (by simp) rfl) rfl
    have e20 : a'.eval (.tmp 20) = (if m16 = true then .int .i64 p else undef) := hs.eval 13 _ 20 rfl (hdep ⟨13, .data⟩ (by simp) rfl) rfl
    cases m16
    · exact g_not hS (wanted_no rfl rfl rfl eg (by decide)) rfl
    · replace e18 := e18.trans (if_pos rfl)
      replace e20 := e20.trans (if_pos rfl)
      refine g_call 48 #[.agg #[.int .i64 (-1), .int .i64 255], .int .i64 p] hS (wanted_yes rfl rfl rfl eg) ?_ ?_
      · have hcn := BigFrame.eval_const a'; have hfn := BigFrame.eval_func a'; clear hs hdep; generalize a'.eval = ev at *; go_simp
      · exact c_val (C21.out w' hS) rfl
  · go_light; intro listed a' w' hs hS hun hdep
    have e17 : a'.eval (.tmp 17) = (.bool m16) := hs.eval 10 _ 17 rfl (hdep ⟨10, .data⟩ (by simp) rfl) rfl
    have e21 : a'.eval (.tmp 21) = (if m16 = true then .bool m21 else undef) := hs.eval 14 _ 21 rfl (hdep ⟨14, .data⟩ (by simp) rfl) rfl
    refine g_val (.bool m22) hS rfl ?_ rfl
    cases m16
    · replace e21 := e21.trans (if_neg (by decide))
      exact (op_pick_f rfl e17 (BigFrame.eval_const a' _)).trans (by rw [← hm22.out]; first | rfl | simp)
    · replace e21 := e21.trans (if_pos rfl)
      exact (op_pick_t rfl e17 e21).trans (by rw [← hm22.out]; first | rfl | simp)
  · go_light; intro listed a' w' hs hS hun hdep
    have e22 : a'.eval (.tmp 22) = (.bool m22) := hs.eval 15 _ 22 rfl (hdep ⟨15, .data⟩ (by simp) rfl) rfl
    exact g_val (.bool m22) hS rfl (op_move rfl e22) rfl
  · go_light; intro listed a' w' hs hS hun hdep
    have eg : a'.eval (.tmp 23) = (.bool m22) := hs.eval 16 _ 23 rfl (hdep ⟨16, .guard⟩ (by simp) rfl) rfl
    have e1 : a'.eval (.tmp 1) = .pointer (some ⟨w.heap.size, 0, none⟩) := (hs.out 1 (by kernel_rfl)).trans (rfl)
    cases m22
    · exact g_not hS (wanted_no rfl rfl rfl eg (by decide)) rfl
    · refine g_val (.pointer (some ⟨w.heap.size, 2, none⟩)) hS (wanted_yes rfl rfl rfl eg) ?_ rfl
      have hcn := BigFrame.eval_const a'; have hfn := BigFrame.eval_func a'; clear hs hdep; generalize a'.eval = ev at *; go_simp
  · go_light; intro listed a' w' hs hS hun hdep
    have eg : a'.eval (.tmp 23) = (.bool m22) := hs.eval 16 _ 23 rfl (hdep ⟨16, .guard⟩ (by simp) rfl) rfl
    have e24 : a'.eval (.tmp 24) = (if m22 = true then .pointer (some ⟨w.heap.size, 2, none⟩) else undef) := hs.eval 17 _ 24 rfl (hdep ⟨17, .data⟩ (by simp) rfl) rfl
    cases m22
    · exact g_not hS (wanted_no rfl rfl rfl eg (by decide)) rfl
    · replace e24 := e24.trans (if_pos rfl)
      exact g_val (.agg #[.int .u32 sa, .int .i64 sb]) hS (wanted_yes rfl rfl rfl eg) (op_ld [.int .u32 sa, .int .i64 sb] rfl e24 (L0.out.below hS) 2 (by first | rfl | simp) rfl Try.underlying32 rfl (by kernel_rfl)) rfl
  · go_light; intro listed a' w' hs hS hun hdep
    have eg : a'.eval (.tmp 23) = (.bool m22) := hs.eval 16 _ 23 rfl (hdep ⟨16, .guard⟩ (by simp) rfl) rfl
    have e25 : a'.eval (.tmp 25) = (if m22 = true then .agg #[.int .u32 sa, .int .i64 sb] else undef) := hs.eval 18 _ 25 rfl (hdep ⟨18, .data⟩ (by simp) rfl) rfl
    cases m22
    · exact g_not hS (wanted_no rfl rfl rfl eg (by decide)) rfl
    · replace e25 := e25.trans (if_pos rfl)
      refine g_call 49 #[.agg #[.int .u32 sa, .int .i64 sb]] hS (wanted_yes rfl rfl rfl eg) ?_ ?_
      · have hcn := BigFrame.eval_const a'; have hfn := BigFrame.eval_func a'; clear hs hdep; generalize a'.eval = ev at *; go_simp
      · exact c_val (C26.out w' hS) rfl
  · go_light; intro listed a' w' hs hS hun hdep
    have e23 : a'.eval (.tmp 23) = (.bool m22) := hs.eval 16 _ 23 rfl (hdep ⟨16, .data⟩ (by simp) rfl) rfl
    have e26 : a'.eval (.tmp 26) = (if m22 = true then .bool m26 else undef) := hs.eval 19 _ 26 rfl (hdep ⟨19, .data⟩ (by simp) rfl) rfl
    refine g_val (.bool m27) hS rfl ?_ rfl
    cases m22
    · replace e26 := e26.trans (if_neg (by decide))
      exact (op_pick_f rfl e23 (BigFrame.eval_const a' _)).trans (by rw [← hm27.out]; first | rfl | simp)
    · replace e26 := e26.trans (if_pos rfl)
      exact (op_pick_t rfl e23 e26).trans (by rw [← hm27.out]; first | rfl | simp)
  · go_light; intro listed a' w' hs hS hun hdep
    have e27 : a'.eval (.tmp 27) = (.bool m27) := hs.eval 20 _ 27 rfl (hdep ⟨20, .data⟩ (by simp) rfl) rfl
    exact g_val (.bool m27) hS rfl (op_move rfl e27) rfl
  · go_light; intro listed a' w' hs hS hun hdep
    have eg : a'.eval (.tmp 28) = (.bool m27) := hs.eval 21 _ 28 rfl (hdep ⟨21, .guard⟩ (by simp) rfl) rfl
    have e1 : a'.eval (.tmp 1) = .pointer (some ⟨w.heap.size, 0, none⟩) := (hs.out 1 (by kernel_rfl)).trans (rfl)
    cases m27
    · exact g_not hS (wanted_no rfl rfl rfl eg (by decide)) rfl
    · refine g_val (.pointer (some ⟨w.heap.size, 4, none⟩)) hS (wanted_yes rfl rfl rfl eg) ?_ rfl
      have hcn := BigFrame.eval_const a'; have hfn := BigFrame.eval_func a'; clear hs hdep; generalize a'.eval = ev at *; go_simp
  · go_light; intro listed a' w' hs hS hun hdep
    have eg : a'.eval (.tmp 28) = (.bool m27) := hs.eval 21 _ 28 rfl (hdep ⟨21, .guard⟩ (by simp) rfl) rfl
    have e29 : a'.eval (.tmp 29) = (if m27 = true then .pointer (some ⟨w.heap.size, 4, none⟩) else undef) := hs.eval 22 _ 29 rfl (hdep ⟨22, .data⟩ (by simp) rfl) rfl
    cases m27
    · exact g_not hS (wanted_no rfl rfl rfl eg (by decide)) rfl
    · replace e29 := e29.trans (if_pos rfl)
      exact g_val (.agg #[.int .u32 da, .int .i64 db]) hS (wanted_yes rfl rfl rfl eg) (op_ld [.int .u32 da, .int .i64 db] rfl e29 (L0.out.below hS) 4 (by first | rfl | simp) rfl Try.underlying32 rfl (by kernel_rfl)) rfl
  · go_light; intro listed a' w' hs hS hun hdep
    have eg : a'.eval (.tmp 28) = (.bool m27) := hs.eval 21 _ 28 rfl (hdep ⟨21, .guard⟩ (by simp) rfl) rfl
    have e30 : a'.eval (.tmp 30) = (if m27 = true then .agg #[.int .u32 da, .int .i64 db] else undef) := hs.eval 23 _ 30 rfl (hdep ⟨23, .data⟩ (by simp) rfl) rfl
    cases m27
    · exact g_not hS (wanted_no rfl rfl rfl eg (by decide)) rfl
    · replace e30 := e30.trans (if_pos rfl)
      refine g_call 49 #[.agg #[.int .u32 da, .int .i64 db]] hS (wanted_yes rfl rfl rfl eg) ?_ ?_
      · have hcn := BigFrame.eval_const a'; have hfn := BigFrame.eval_func a'; clear hs hdep; generalize a'.eval = ev at *; go_simp
      · exact c_val (C31.out w' hS) rfl
  · go_light; intro listed a' w' hs hS hun hdep
    have e28 : a'.eval (.tmp 28) = (.bool m27) := hs.eval 21 _ 28 rfl (hdep ⟨21, .data⟩ (by simp) rfl) rfl
    have e31 : a'.eval (.tmp 31) = (if m27 = true then .bool m31 else undef) := hs.eval 24 _ 31 rfl (hdep ⟨24, .data⟩ (by simp) rfl) rfl
    refine g_val (.bool m32) hS rfl ?_ rfl
    cases m27
    · replace e31 := e31.trans (if_neg (by decide))
      exact (op_pick_f rfl e28 (BigFrame.eval_const a' _)).trans (by rw [← hm32.out]; first | rfl | simp)
    · replace e31 := e31.trans (if_pos rfl)
      exact (op_pick_t rfl e28 e31).trans (by rw [← hm32.out]; first | rfl | simp)
  · go_light; intro listed a' w' hs hS hun hdep
    have e32 : a'.eval (.tmp 32) = (.bool m32) := hs.eval 25 _ 32 rfl (hdep ⟨25, .data⟩ (by simp) rfl) rfl
    exact g_val (.bool m32) hS rfl (op_move rfl e32) rfl
  · go_light; intro listed a' w' hs hS hun hdep
    have eg : a'.eval (.tmp 33) = (.bool m32) := hs.eval 26 _ 33 rfl (hdep ⟨26, .guard⟩ (by simp) rfl) rfl
    have e1 : a'.eval (.tmp 1) = .pointer (some ⟨w.heap.size, 0, none⟩) := (hs.out 1 (by kernel_rfl)).trans (rfl)
    cases m32
    · exact g_not hS (wanted_no rfl rfl rfl eg (by decide)) rfl
    · exact g_val (.agg #[.int .i64 i, .int .i64 o, .int .u32 sa, .int .i64 sb, .int .u32 da, .int .i64 db, .int .i64 p, .int .i64 slo, .int .i64 shi, .int .i64 dlo, .int .i64 dhi, .bool al]) hS (wanted_yes rfl rfl rfl eg) (op_ld [.int .i64 i, .int .i64 o, .int .u32 sa, .int .i64 sb, .int .u32 da, .int .i64 db, .int .i64 p, .int .i64 slo, .int .i64 shi, .int .i64 dlo, .int .i64 dhi, .bool al] rfl e1 (L0.out.below hS) 0 (by first | rfl | simp) rfl Try.underlying34 rfl (by kernel_rfl)) rfl
  · go_light; intro listed a' w' hs hS hun hdep
    have eg : a'.eval (.tmp 33) = (.bool m32) := hs.eval 26 _ 33 rfl (hdep ⟨26, .guard⟩ (by simp) rfl) rfl
    have e34 : a'.eval (.tmp 34) = (if m32 = true then .agg #[.int .i64 i, .int .i64 o, .int .u32 sa, .int .i64 sb, .int .u32 da, .int .i64 db, .int .i64 p, .int .i64 slo, .int .i64 shi, .int .i64 dlo, .int .i64 dhi, .bool al] else undef) := hs.eval 27 _ 34 rfl (hdep ⟨27, .data⟩ (by simp) rfl) rfl
    cases m32
    · exact g_not hS (wanted_no rfl rfl rfl eg (by decide)) rfl
    · replace e34 := e34.trans (if_pos rfl)
      refine g_call 37 #[.agg #[.int .i64 i, .int .i64 o, .int .u32 sa, .int .i64 sb, .int .u32 da, .int .i64 db, .int .i64 p, .int .i64 slo, .int .i64 shi, .int .i64 dlo, .int .i64 dhi, .bool al]] hS (wanted_yes rfl rfl rfl eg) ?_ ?_
      · have hcn := BigFrame.eval_const a'; have hfn := BigFrame.eval_func a'; clear hs hdep; generalize a'.eval = ev at *; go_simp
      · exact c_val (C35.out w' hS) rfl
  · go_light; intro listed a' w' hs hS hun hdep
    have eg : a'.eval (.tmp 33) = (.bool m32) := hs.eval 26 _ 33 rfl (hdep ⟨26, .guard⟩ (by simp) rfl) rfl
    have e4 : a'.eval (.tmp 4) = .pointer (some ⟨w.heap.size + 1 + 1, 0, none⟩) := (hs.out 4 (by kernel_rfl)).trans (rfl)
    cases m32
    · exact g_not hS (wanted_no rfl rfl rfl eg (by decide)) rfl
    · exact g_val (.agg #[.int .i64 0, .int .i64 65535]) hS (wanted_yes rfl rfl rfl eg) (op_ld [.int .i64 0, .int .i64 65535] rfl e4 (L2.out.below hS) 0 (by first | rfl | simp) rfl Try.underlying66 rfl (by kernel_rfl)) rfl
  · go_light; intro listed a' w' hs hS hun hdep
    have eg : a'.eval (.tmp 33) = (.bool m32) := hs.eval 26 _ 33 rfl (hdep ⟨26, .guard⟩ (by simp) rfl) rfl
    have e35 : a'.eval (.tmp 35) = (if m32 = true then .agg #[.int .i64 slo, .int .i64 shi] else undef) := hs.eval 28 _ 35 rfl (hdep ⟨28, .data⟩ (by simp) rfl) rfl
    have e36 : a'.eval (.tmp 36) = (if m32 = true then .agg #[.int .i64 0, .int .i64 65535] else undef) := hs.eval 29 _ 36 rfl (hdep ⟨29, .data⟩ (by simp) rfl) rfl
    cases m32
    · exact g_not hS (wanted_no rfl rfl rfl eg (by decide)) rfl
    · replace e35 := e35.trans (if_pos rfl)
      replace e36 := e36.trans (if_pos rfl)
      refine g_call 38 #[.agg #[.int .i64 slo, .int .i64 shi], .agg #[.int .i64 0, .int .i64 65535]] hS (wanted_yes rfl rfl rfl eg) ?_ ?_
      · have hcn := BigFrame.eval_const a'; have hfn := BigFrame.eval_func a'; clear hs hdep; generalize a'.eval = ev at *; go_simp
      · exact c_val (C37.out w' hS) rfl
  · go_light; intro listed a' w' hs hS hun hdep
    have e33 : a'.eval (.tmp 33) = (.bool m32) := hs.eval 26 _ 33 rfl (hdep ⟨26, .data⟩ (by simp) rfl) rfl
    have e37 : a'.eval (.tmp 37) = (if m32 = true then .bool m37 else undef) := hs.eval 30 _ 37 rfl (hdep ⟨30, .data⟩ (by simp) rfl) rfl
    refine g_val (.bool m38) hS rfl ?_ rfl
    cases m32
    · replace e37 := e37.trans (if_neg (by decide))
      exact (op_pick_f rfl e33 (BigFrame.eval_const a' _)).trans (by rw [← hm38.out]; first | rfl | simp)
    · replace e37 := e37.trans (if_pos rfl)
      exact (op_pick_t rfl e33 e37).trans (by rw [← hm38.out]; first | rfl | simp)
  · go_light; intro listed a' w' hs hS hun hdep
    have e38 : a'.eval (.tmp 38) = (.bool m38) := hs.eval 31 _ 38 rfl (hdep ⟨31, .data⟩ (by simp) rfl) rfl
    exact g_val (.bool m38) hS rfl (op_move rfl e38) rfl
  · go_light; intro listed a' w' hs hS hun hdep
    have eg : a'.eval (.tmp 39) = (.bool m38) := hs.eval 32 _ 39 rfl (hdep ⟨32, .guard⟩ (by simp) rfl) rfl
    have e1 : a'.eval (.tmp 1) = .pointer (some ⟨w.heap.size, 0, none⟩) := (hs.out 1 (by kernel_rfl)).trans (rfl)
    cases m38
    · exact g_not hS (wanted_no rfl rfl rfl eg (by decide)) rfl
    · exact g_val (.agg #[.int .i64 i, .int .i64 o, .int .u32 sa, .int .i64 sb, .int .u32 da, .int .i64 db, .int .i64 p, .int .i64 slo, .int .i64 shi, .int .i64 dlo, .int .i64 dhi, .bool al]) hS (wanted_yes rfl rfl rfl eg) (op_ld [.int .i64 i, .int .i64 o, .int .u32 sa, .int .i64 sb, .int .u32 da, .int .i64 db, .int .i64 p, .int .i64 slo, .int .i64 shi, .int .i64 dlo, .int .i64 dhi, .bool al] rfl e1 (L0.out.below hS) 0 (by first | rfl | simp) rfl Try.underlying34 rfl (by kernel_rfl)) rfl
  · go_light; intro listed a' w' hs hS hun hdep
    have eg : a'.eval (.tmp 39) = (.bool m38) := hs.eval 32 _ 39 rfl (hdep ⟨32, .guard⟩ (by simp) rfl) rfl
    have e40 : a'.eval (.tmp 40) = (if m38 = true then .agg #[.int .i64 i, .int .i64 o, .int .u32 sa, .int .i64 sb, .int .u32 da, .int .i64 db, .int .i64 p, .int .i64 slo, .int .i64 shi, .int .i64 dlo, .int .i64 dhi, .bool al] else undef) := hs.eval 33 _ 40 rfl (hdep ⟨33, .data⟩ (by simp) rfl) rfl
    cases m38
    · exact g_not hS (wanted_no rfl rfl rfl eg (by decide)) rfl
    · replace e40 := e40.trans (if_pos rfl)
      refine g_call 39 #[.agg #[.int .i64 i, .int .i64 o, .int .u32 sa, .int .i64 sb, .int .u32 da, .int .i64 db, .int .i64 p, .int .i64 slo, .int .i64 shi, .int .i64 dlo, .int .i64 dhi, .bool al]] hS (wanted_yes rfl rfl rfl eg) ?_ ?_
      · have hcn := BigFrame.eval_const a'; have hfn := BigFrame.eval_func a'; clear hs hdep; generalize a'.eval = ev at *; go_simp
      · exact c_val (C41.out w' hS) rfl
  · go_light; intro listed a' w' hs hS hun hdep
    have eg : a'.eval (.tmp 39) = (.bool m38) := hs.eval 32 _ 39 rfl (hdep ⟨32, .guard⟩ (by simp) rfl) rfl
    have e4 : a'.eval (.tmp 4) = .pointer (some ⟨w.heap.size + 1 + 1, 0, none⟩) := (hs.out 4 (by kernel_rfl)).trans (rfl)
    cases m38
    · exact g_not hS (wanted_no rfl rfl rfl eg (by decide)) rfl
    · exact g_val (.agg #[.int .i64 0, .int .i64 65535]) hS (wanted_yes rfl rfl rfl eg) (op_ld [.int .i64 0, .int .i64 65535] rfl e4 (L2.out.below hS) 0 (by first | rfl | simp) rfl Try.underlying66 rfl (by kernel_rfl)) rfl
  · go_light; intro listed a' w' hs hS hun hdep
    have eg : a'.eval (.tmp 39) = (.bool m38) := hs.eval 32 _ 39 rfl (hdep ⟨32, .guard⟩ (by simp) rfl) rfl
    have e41 : a'.eval (.tmp 41) = (if m38 = true then .agg #[.int .i64 dlo, .int .i64 dhi] else undef) := hs.eval 34 _ 41 rfl (hdep ⟨34, .data⟩ (by simp) rfl) rfl
    have e42 : a'.eval (.tmp 42) = (if m38 = true then .agg #[.int .i64 0, .int .i64 65535] else undef) := hs.eval 35 _ 42 rfl (hdep ⟨35, .data⟩ (by simp) rfl) rfl
    cases m38
    · exact g_not hS (wanted_no rfl rfl rfl eg (by decide)) rfl
    · replace e41 := e41.trans (if_pos rfl)
      replace e42 := e42.trans (if_pos rfl)
      refine g_call 38 #[.agg #[.int .i64 dlo, .int .i64 dhi], .agg #[.int .i64 0, .int .i64 65535]] hS (wanted_yes rfl rfl rfl eg) ?_ ?_
      · have hcn := BigFrame.eval_const a'; have hfn := BigFrame.eval_func a'; clear hs hdep; generalize a'.eval = ev at *; go_simp
      · exact c_val (C43.out w' hS) rfl
  · go_light; intro listed a' w' hs hS hun hdep
    have e39 : a'.eval (.tmp 39) = (.bool m38) := hs.eval 32 _ 39 rfl (hdep ⟨32, .data⟩ (by simp) rfl) rfl
    have e43 : a'.eval (.tmp 43) = (if m38 = true then .bool m43 else undef) := hs.eval 36 _ 43 rfl (hdep ⟨36, .data⟩ (by simp) rfl) rfl
    refine g_val (.bool m44) hS rfl ?_ rfl
    cases m38
    · replace e43 := e43.trans (if_neg (by decide))
      exact (op_pick_f rfl e39 (BigFrame.eval_const a' _)).trans (by rw [← hm44.out]; first | rfl | simp)
    · replace e43 := e43.trans (if_pos rfl)
      exact (op_pick_t rfl e39 e43).trans (by rw [← hm44.out]; first | rfl | simp)
  · intro vs w3 hlen hV hS
    obtain ⟨v0, v1, v2, v3, v4, v5, v6, v7, v8, v9, v10, v11, v12, v13, v14, v15, v16, v17, v18, v19, v20, v21, v22, v23, v24, v25, v26, v27, v28, v29, v30, v31, v32, v33, v34, v35, v36, v37, rfl⟩ := vs_38 vs (hlen.trans rfl)
    have q0 : v0 = .agg #[.int .i64 (-1), .int .i64 7] := hV 0 _ rfl
    have q1 : v1 = .pointer (some ⟨w.heap.size, 0, none⟩) := hV 1 _ rfl
    have q2 : v2 = .int .i64 i := hV 2 _ rfl
    have q3 : v3 = .bool m10 := hV 3 _ rfl
    have q4 : v4 = .bool m10 := hV 4 _ rfl
    have q9 : v9 = .bool m16 := hV 9 _ rfl
    have q10 : v10 = .bool m16 := hV 10 _ rfl
    have q15 : v15 = .bool m22 := hV 15 _ rfl
    have q16 : v16 = .bool m22 := hV 16 _ rfl
    have q20 : v20 = .bool m27 := hV 20 _ rfl
    have q21 : v21 = .bool m27 := hV 21 _ rfl
    have q25 : v25 = .bool m32 := hV 25 _ rfl
    have q26 : v26 = .bool m32 := hV 26 _ rfl
    have q31 : v31 = .bool m38 := hV 31 _ rfl
    have q32 : v32 = .bool m38 := hV 32 _ rfl
    have q37 : v37 = .bool m44 := hV 37 _ rfl
    have hbel : Below W0.heap.size W0 w3 := hS
    subst q0 q1 q2 q3 q4 q9 q10 q15 q16 q20 q21 q25 q26 q31 q32 q37
    clear hV hS hlen
    simp only [lays, Act.put, List.setIfInBounds_toArray, List.set_cons_zero, List.set_cons_succ, List.drop_succ_cons, List.drop_zero, List.take_succ_cons, List.take_zero]
    go_wp2
    go_ret
    exact ⟨by unfold Ru.ok; simp only []; rw [← hm44.out, ← hm43.out, ← hm38.out, ← hm37.out, ← hm32.out, ← hm31.out, ← hm27.out, ← hm26.out, ← hm22.out, ← hm21.out, ← hm16.out, ← hm15.out, ← hm10.out]; rfl, hb0.trans (hbel.mono hb0.size)⟩
#print axioms ok_any
end Go.Proofs.Ytagfcfkkjllfpaa
