/- DoiTells, walked whole. -/
import Derived.Test.YtdipoaekdafbeaaDoDL
namespace Go.Proofs.Ytdipoaekdafbeaa
open Go.RowKit Go.Maps
set_option maxRecDepth 100000
set_option linter.unusedVariables false
open D
namespace DoT
theorem vs_cons {n : Nat} (vs : List Value) (h : vs.length = n + 1) : ∃ v r, vs = v :: r ∧ r.length = n := by
  cases vs with
  | nil => simp at h
  | cons v r => exact ⟨v, r, rfl, by simpa using h⟩
theorem vs_38 (vs : List Value) (h : vs.length = 38) : ∃ v0 v1 v2 v3 v4 v5 v6 v7 v8 v9 v10 v11 v12 v13 v14 v15 v16 v17 v18 v19 v20 v21 v22 v23 v24 v25 v26 v27 v28 v29 v30 v31 v32 v33 v34 v35 v36 v37, vs = [v0, v1, v2, v3, v4, v5, v6, v7, v8, v9, v10, v11, v12, v13, v14, v15, v16, v17, v18, v19, v20, v21, v22, v23, v24, v25, v26, v27, v28, v29, v30, v31, v32, v33, v34, v35, v36, v37] := by
  obtain ⟨v0, r0, rfl, h0⟩ := vs_cons vs h
  obtain ⟨v1, r1, rfl, h1⟩ := vs_cons r0 h0
  obtain ⟨v2, r2, rfl, h2⟩ := vs_cons r1 h1
  obtain ⟨v3, r3, rfl, h3⟩ := vs_cons r2 h2
  obtain ⟨v4, r4, rfl, h4⟩ := vs_cons r3 h3
  obtain ⟨v5, r5, rfl, h5⟩ := vs_cons r4 h4
  obtain ⟨v6, r6, rfl, h6⟩ := vs_cons r5 h5
  obtain ⟨v7, r7, rfl, h7⟩ := vs_cons r6 h6
  obtain ⟨v8, r8, rfl, h8⟩ := vs_cons r7 h7
  obtain ⟨v9, r9, rfl, h9⟩ := vs_cons r8 h8
  obtain ⟨v10, r10, rfl, h10⟩ := vs_cons r9 h9
  obtain ⟨v11, r11, rfl, h11⟩ := vs_cons r10 h10
  obtain ⟨v12, r12, rfl, h12⟩ := vs_cons r11 h11
  obtain ⟨v13, r13, rfl, h13⟩ := vs_cons r12 h12
  obtain ⟨v14, r14, rfl, h14⟩ := vs_cons r13 h13
  obtain ⟨v15, r15, rfl, h15⟩ := vs_cons r14 h14
  obtain ⟨v16, r16, rfl, h16⟩ := vs_cons r15 h15
  obtain ⟨v17, r17, rfl, h17⟩ := vs_cons r16 h16
  obtain ⟨v18, r18, rfl, h18⟩ := vs_cons r17 h17
  obtain ⟨v19, r19, rfl, h19⟩ := vs_cons r18 h18
  obtain ⟨v20, r20, rfl, h20⟩ := vs_cons r19 h19
  obtain ⟨v21, r21, rfl, h21⟩ := vs_cons r20 h20
  obtain ⟨v22, r22, rfl, h22⟩ := vs_cons r21 h21
  obtain ⟨v23, r23, rfl, h23⟩ := vs_cons r22 h22
  obtain ⟨v24, r24, rfl, h24⟩ := vs_cons r23 h23
  obtain ⟨v25, r25, rfl, h25⟩ := vs_cons r24 h24
  obtain ⟨v26, r26, rfl, h26⟩ := vs_cons r25 h25
  obtain ⟨v27, r27, rfl, h27⟩ := vs_cons r26 h26
  obtain ⟨v28, r28, rfl, h28⟩ := vs_cons r27 h27
  obtain ⟨v29, r29, rfl, h29⟩ := vs_cons r28 h28
  obtain ⟨v30, r30, rfl, h30⟩ := vs_cons r29 h29
  obtain ⟨v31, r31, rfl, h31⟩ := vs_cons r30 h30
  obtain ⟨v32, r32, rfl, h32⟩ := vs_cons r31 h31
  obtain ⟨v33, r33, rfl, h33⟩ := vs_cons r32 h32
  obtain ⟨v34, r34, rfl, h34⟩ := vs_cons r33 h33
  obtain ⟨v35, r35, rfl, h35⟩ := vs_cons r34 h34
  obtain ⟨v36, r36, rfl, h36⟩ := vs_cons r35 h35
  obtain ⟨v37, r37, rfl, h37⟩ := vs_cons r36 h36
  obtain rfl := List.eq_nil_of_length_eq_zero h37
  exact ⟨v0, v1, v2, v3, v4, v5, v6, v7, v8, v9, v10, v11, v12, v13, v14, v15, v16, v17, v18, v19, v20, v21, v22, v23, v24, v25, v26, v27, v28, v29, v30, v31, v32, v33, v34, v35, v36, v37, rfl⟩

set_option maxHeartbeats 32000000 in
theorem tells_all (d : Dm) (z : Int) (n : Nat) (w : World) (h : DIn w d) (hn : n < 2 ^ 240) (hz : I64 z) :
    Calls Try.prog 3 #[.agg d.v, .agg (L.lv z n)] w fun e w' => e = .returned (.bool true) ∧ Below w.heap.size w w' := by
  have hdv := Lib.hid (show d.v = #[.int .u32 d.num, .slice d.la d.lv.length d.lc, .slice d.ca d.ct.length d.cc] from rfl)
  have hbw0 : Below w.heap.size w ((w.alloc (.cells d.v 25)).alloc (.cells (L.lv z n) 29)) := ((Below.refl _ w).alloc (Nat.le_refl _) _).alloc (by simp) _
  have k0 : ((w.alloc (.cells d.v 25)).alloc (.cells (L.lv z n) 29)).cell? ⟨w.heap.size, 0, none⟩ = some (.int .u32 d.num) := (Below.cell ((Below.refl (w.alloc (.cells d.v 25)).heap.size _).alloc (Nat.le_refl _) _) (p := ⟨w.heap.size, 0, none⟩) (by simp)).trans ((cell_of_row _ w.heap.size 0 _ _ (0, 0) (heap_alloc_new w (.cells d.v 25))).trans rfl)
  have k1 : ((w.alloc (.cells d.v 25)).alloc (.cells (L.lv z n) 29)).cell? ⟨w.heap.size, 1, none⟩ = some (.slice d.la d.lv.length d.lc) := (Below.cell ((Below.refl (w.alloc (.cells d.v 25)).heap.size _).alloc (Nat.le_refl _) _) (p := ⟨w.heap.size, 1, none⟩) (by simp)).trans ((cell_of_row _ w.heap.size 1 _ _ (0, 0) (heap_alloc_new w (.cells d.v 25))).trans rfl)
  have k2 : ((w.alloc (.cells d.v 25)).alloc (.cells (L.lv z n) 29)).cell? ⟨w.heap.size, 2, none⟩ = some (.slice d.ca d.ct.length d.cc) := (Below.cell ((Below.refl (w.alloc (.cells d.v 25)).heap.size _).alloc (Nat.le_refl _) _) (p := ⟨w.heap.size, 2, none⟩) (by simp)).trans ((cell_of_row _ w.heap.size 2 _ _ (0, 0) (heap_alloc_new w (.cells d.v 25))).trans rfl)
  have HG := Lib.hid (great_any d ((w.alloc (.cells d.v 25)).alloc (.cells (L.lv z n) 29)))
  by_cases hgr : 300 < d.lv.length ∨ 300 < d.ct.length
  · have hgt : (decide (300 < d.lv.length) || decide (300 < d.ct.length)) = true := by simpa using hgr
    rw [hdv.out] at hbw0 HG k0 k1 k2 ⊢
    rw [hgt] at HG
    clear hgt hgr
    go_enter Try.func3, Try.ntmps3
    go_wp2_with fail
    refine HG.out.mono ?_
    rintro e w1 ⟨rfl, hb1⟩
    have hbw1 := hbw0.trans (hb1.mono hbw0.size)
    go_wp2_with fail
    refine (doi_awake _).mono ?_
    rintro e w2 ⟨rfl, hb2⟩
    have hbw2 := hbw1.trans (hb2.mono hbw1.size)
    go_wp2
    go_ret
    exact ⟨rfl, hbw2⟩
  have hgt : (decide (300 < d.lv.length) || decide (300 < d.ct.length)) = false := by simpa using hgr
  have H0 := Lib.hid (DL.new d z n (h.ok (by omega) (by omega)))
  have HO0 := Lib.hid (fun w h => DOut_any d z n w h hn hz)
  have HB0 := Lib.hid (fun w h => DBack_any d z n w h hn hz)
  have HX0 := Lib.hid (fun w h => rtell_any false d z n w h hn)
  have HX1 := Lib.hid (fun w h => rtell_any true d z n w h hn)
  have HT0 := Lib.hid (fun w h => DTells_any d z n w h hn hz)
  have HRR := Lib.hid (fun w h => rright_any d w h)
  have HR0 : Hid (∀ (r : Nat) (w : World) (h : w.heap[r]? = some (.cells #[.int .u32 d.num, .slice d.la d.lv.length d.lc, .slice d.ca d.ct.length d.cc] 25 (0, 0))) (hok : DOk w d), Calls Try.prog 16 #[.slice (some ⟨r, 0, none⟩) 1 1] w fun e w' => e = .returned (.bool d.right) ∧ Below w.heap.size w w') := Lib.hid (fun r w h hok => by
    have := DRight_any (some ⟨r, 0, none⟩) 1 [d] w (DRow.one (d := d) h) (by simp) (fun k hk => by
      obtain rfl : k = 0 := by simp at hk; omega
      exact hok)
    rw [show allR [d] = d.right from by simp [allR]] at this
    exact this)
  have hm0 := d.tellN_lt z n false
  have hm1 := d.tellN_lt z n true
  rw [hdv.out] at hbw0 HG k0 k1 k2 H0 HO0 HB0 HX0 HX1 HT0 HRR ⊢
  rw [hgt] at HG
  clear hgt hgr h
  generalize d.tellZ z n false = y0 at *
  generalize d.tellN z n false = m0 at *
  generalize d.tellE z n false = E0 at *
  generalize d.tellZ z n true = y1 at *
  generalize d.tellN z n true = m1 at *
  generalize d.tellE z n true = E1 at *
  generalize d.right = q at *
  go_enter Try.func3, Try.ntmps3
  go_wp2_with fail
  refine HG.out.mono ?_
  rintro e w1 ⟨rfl, hb1⟩
  have H1 := Lib.hid (H0.out.below hb1)
  have hbw1 := hbw0.trans (hb1.mono hbw0.size)
  clear HG H0 hbw0 hb1 k0 k1 k2
  have k0 := H1.out.k0
  have k1 := H1.out.k1
  have k2 := H1.out.k2
  go_wp2_with (refine load_lab rfl rfl rfl H1.out.la ?_)
  refine (HO0.out _ H1.out.ok).mono ?_
  rintro e w2 ⟨rfl, hb2⟩
  have H2 := Lib.hid (H1.out.below hb2)
  have hbw2 := hbw1.trans (hb2.mono hbw1.size)
  have HN2 := Lib.hid (LabAt.new w2 0 0)
  clear hb2 H1 hbw1 HO0 k0 k1 k2
  go_wp2_with (first | (rw [L.zero31]; refine store_lab rfl rfl rfl rfl HN2.out ?_; intro w3 hs ho; have HA := Lib.hid hs; have HQ3 := Lib.hid (lab_new H2.out hs ho hbw2); have H3 := Lib.hid HQ3.out.1; have hbw3 := HQ3.out.2.1;  have k0 := H3.out.k0; have k1 := H3.out.k1; have k2 := H3.out.k2; clear hs ho) | (refine load_lab rfl rfl rfl H3.out.la ?_))
  clear HQ3 H2 hbw2 HN2
  refine (HB0.out _ H3.out.ok).mono ?_
  rintro e w4 ⟨rfl, hb4⟩
  have H4 := Lib.hid (H3.out.below hb4)
  have HA := Lib.hid (HA.out.below hb4 HA.out.lt)
  have hbw4 := hbw3.trans (hb4.mono hbw3.size)
  have HN4 := Lib.hid (LabAt.new w4 0 0)
  clear hb4 H3 hbw3 HB0 k0 k1 k2
  go_wp2_with (first | (rw [L.zero31]; refine store_lab rfl rfl rfl rfl HN4.out ?_; intro w5 hs ho; have HB := Lib.hid hs; have HQ5 := Lib.hid (lab_new H4.out hs ho hbw4); have H5 := Lib.hid HQ5.out.1; have hbw5 := HQ5.out.2.1; have HA := Lib.hid (HA.out.below HQ5.out.2.2 HA.out.lt); have k0 := H5.out.k0; have k1 := H5.out.k1; have k2 := H5.out.k2; clear hs ho) | (refine load_lab rfl rfl rfl H5.out.la ?_))
  clear HQ5 H4 hbw4 HN4
  refine (HX0.out _ H5.out.ok).mono ?_
  rintro e w6 ⟨rfl, hb6⟩
  have H6 := Lib.hid (H5.out.below hb6)
  have HA := Lib.hid (HA.out.below hb6 HA.out.lt)
  have HB := Lib.hid (HB.out.below hb6 HB.out.lt)
  have hbw6 := hbw5.trans (hb6.mono hbw5.size)
  have HN6 := Lib.hid (LabAt.new w6 0 0)
  clear hb6 H5 hbw5 HX0 k0 k1 k2
  go_wp2_with (first | (rw [L.zero31]; refine store_lab rfl rfl rfl rfl HN6.out ?_; intro w7 hs ho; have HC := Lib.hid hs; have HQ7 := Lib.hid (lab_new H6.out hs ho hbw6); have H7 := Lib.hid HQ7.out.1; have hbw7 := HQ7.out.2.1; have HA := Lib.hid (HA.out.below HQ7.out.2.2 HA.out.lt); have HB := Lib.hid (HB.out.below HQ7.out.2.2 HB.out.lt); have k0 := H7.out.k0; have k1 := H7.out.k1; have k2 := H7.out.k2; clear hs ho) | (refine load_lab rfl rfl rfl H7.out.la ?_))
  clear HQ7 H6 hbw6 HN6
  refine (HX1.out _ H7.out.ok).mono ?_
  rintro e w8 ⟨rfl, hb8⟩
  have H8 := Lib.hid (H7.out.below hb8)
  have HA := Lib.hid (HA.out.below hb8 HA.out.lt)
  have HB := Lib.hid (HB.out.below hb8 HB.out.lt)
  have HC := Lib.hid (HC.out.below hb8 HC.out.lt)
  have hbw8 := hbw7.trans (hb8.mono hbw7.size)
  have HN8 := Lib.hid (LabAt.new w8 0 0)
  clear hb8 H7 hbw7 HX1 k0 k1 k2
  go_wp2_with (first | (rw [L.zero31]; refine store_lab rfl rfl rfl rfl HN8.out ?_; intro w9 hs ho; have HD := Lib.hid hs; have HQ9 := Lib.hid (lab_new H8.out hs ho hbw8); have H9 := Lib.hid HQ9.out.1; have hbw9 := HQ9.out.2.1; have HA := Lib.hid (HA.out.below HQ9.out.2.2 HA.out.lt); have HB := Lib.hid (HB.out.below HQ9.out.2.2 HB.out.lt); have HC := Lib.hid (HC.out.below HQ9.out.2.2 HC.out.lt); have k0 := H9.out.k0; have k1 := H9.out.k1; have k2 := H9.out.k2; clear hs ho) | (refine load_lab rfl rfl rfl H9.out.la ?_))
  clear HQ9 H8 hbw8 HN8
  clear k0 k1 k2
  have HLl := Lib.hid H9.out.la
  refine region_gen (VG w9.heap.size [.val (.agg (L.lv y0 m0)), .val (.agg (L.lv y0 m0)), .val (.bool true), .val (.bool true), .val (.int .i64 E0), .val (.int .i64 E0), .val (.bool true), .val (.bool true), .val (.bool true), .val (.agg (L.lv y1 m1)), .val (.agg (L.lv y1 m1)), .val (.bool true), .val (.bool true), .val (.bool true), .val (.int .i64 E1), .val (.int .i64 E1), .val (.bool true), .val (.bool true), .val (.bool true), .val (.agg #[.int .u32 d.num, .slice d.la d.lv.length d.lc, .slice d.ca d.ct.length d.cc]), .val (.agg (L.lv z n)), .val (.bool (E0 == 0)), .val (.int .i64 E0), .val (.bool (E0 == 0)), .val (.bool true), .val (.bool true), .val (.bool true), .val (.agg #[.int .u32 d.num, .slice d.la d.lv.length d.lc, .slice d.ca d.ct.length d.cc]), .row (#[.int .u32 d.num, .slice d.la d.lv.length d.lc, .slice d.ca d.ct.length d.cc]) 25 1, .val (.bool q), .val (.agg #[.int .u32 d.num, .slice d.la d.lv.length d.lc, .slice d.ca d.ct.length d.cc]), .val (.bool q), .val (.bool true), .val (.bool true), .val (.bool true), .val (.bool true), .val (.bool true), .val (.bool true)]) (BS w9) (by kernel_rfl) (by kernel_rfl) (Below.refl _ _).drew ⟨?_, ?_, ?_, ?_, ?_, ?_, ?_, ?_, ?_, ?_, ?_, ?_, ?_, ?_, ?_, ?_, ?_, ?_, ?_, ?_, ?_, ?_, ?_, ?_, ?_, ?_, ?_, ?_, ?_, ?_, ?_, ?_, ?_, ?_, ?_, ?_, ?_, ?_, trivial⟩ ?_
  · go_light; intro listed a' w' hs hS hun hdep
    have e5 : a'.eval (.tmp 5) = .pointer (some ⟨w2.heap.size, 0, none⟩) := (hs.out 5 (by kernel_rfl)).trans (rfl)
    exact g_val (.agg (L.lv (y0) (m0))) hS rfl (run_op_load_lab rfl e5 (HA.out.below hS HA.out.lt)) rfl
  · go_light; intro listed a' w' hs hS hun hdep
    have e9 : a'.eval (.tmp 9) = .pointer (some ⟨w6.heap.size, 0, none⟩) := (hs.out 9 (by kernel_rfl)).trans (rfl)
    exact g_val (.agg (L.lv (y0) (m0))) hS rfl (run_op_load_lab rfl e9 (HC.out.below hS HC.out.lt)) rfl
  · go_light; intro listed a' w' hs hS hun hdep
    have e40 : a'.eval (.tmp 40) = .agg (L.lv y0 m0) := hs.eval 0 _ 40 rfl (hdep ⟨0, .data⟩ (by simp) rfl) rfl
    have e41 : a'.eval (.tmp 41) = .agg (L.lv y0 m0) := hs.eval 1 _ 41 rfl (hdep ⟨1, .data⟩ (by simp) rfl) rfl
    exact g_val (.bool true) hS rfl (run_op_same_lab rfl e40 e41 hm0) rfl
  · go_light; intro listed a' w' hs hS hun hdep
    have e42 : a'.eval (.tmp 42) = .bool true := hs.eval 2 _ 42 rfl (hdep ⟨2, .data⟩ (by simp) rfl) rfl
    refine g_val (.bool true) hS rfl ?_ rfl
    have hcn := BigFrame.eval_const a'
    have hfn := BigFrame.eval_func a'
    clear hs hdep
    generalize a'.eval = ev at *
    go_simp
  · go_light; intro listed a' w' hs hS hun hdep
    have eg : a'.eval (.tmp 43) = .bool true := hs.eval 3 _ 43 rfl (hdep ⟨3, .guard⟩ (by simp) rfl) rfl
    have e6 : a'.eval (.tmp 6) = .int .i64 E0 := (hs.out 6 (by kernel_rfl)).trans (rfl)
    refine g_val (.int .i64 E0) hS (wanted_yes rfl rfl rfl eg) ?_ rfl
    have hcn := BigFrame.eval_const a'
    have hfn := BigFrame.eval_func a'
    clear hs hdep
    generalize a'.eval = ev at *
    go_simp
  · go_light; intro listed a' w' hs hS hun hdep
    have eg : a'.eval (.tmp 43) = .bool true := hs.eval 3 _ 43 rfl (hdep ⟨3, .guard⟩ (by simp) rfl) rfl
    have e10 : a'.eval (.tmp 10) = .int .i64 E0 := (hs.out 10 (by kernel_rfl)).trans (rfl)
    refine g_val (.int .i64 E0) hS (wanted_yes rfl rfl rfl eg) ?_ rfl
    have hcn := BigFrame.eval_const a'
    have hfn := BigFrame.eval_func a'
    clear hs hdep
    generalize a'.eval = ev at *
    go_simp
  · go_light; intro listed a' w' hs hS hun hdep
    have eg : a'.eval (.tmp 43) = .bool true := hs.eval 3 _ 43 rfl (hdep ⟨3, .guard⟩ (by simp) rfl) rfl
    have e44 : a'.eval (.tmp 44) = .int .i64 E0 := hs.eval 4 _ 44 rfl (hdep ⟨4, .data⟩ (by simp) rfl) rfl
    have e45 : a'.eval (.tmp 45) = .int .i64 E0 := hs.eval 5 _ 45 rfl (hdep ⟨5, .data⟩ (by simp) rfl) rfl
    refine g_val (.bool true) hS (wanted_yes rfl rfl rfl eg) ?_ rfl
    have hcn := BigFrame.eval_const a'
    have hfn := BigFrame.eval_func a'
    clear hs hdep
    generalize a'.eval = ev at *
    go_simp
  · go_light; intro listed a' w' hs hS hun hdep
    have e43 : a'.eval (.tmp 43) = .bool true := hs.eval 3 _ 43 rfl (hdep ⟨3, .data⟩ (by simp) rfl) rfl
    have e46 : a'.eval (.tmp 46) = .bool true := hs.eval 6 _ 46 rfl (hdep ⟨6, .data⟩ (by simp) rfl) rfl
    refine g_val (.bool true) hS rfl ?_ rfl
    have hcn := BigFrame.eval_const a'
    have hfn := BigFrame.eval_func a'
    clear hs hdep
    generalize a'.eval = ev at *
    go_simp
  · go_light; intro listed a' w' hs hS hun hdep
    have e47 : a'.eval (.tmp 47) = .bool true := hs.eval 7 _ 47 rfl (hdep ⟨7, .data⟩ (by simp) rfl) rfl
    refine g_val (.bool true) hS rfl ?_ rfl
    have hcn := BigFrame.eval_const a'
    have hfn := BigFrame.eval_func a'
    clear hs hdep
    generalize a'.eval = ev at *
    go_simp
  · go_light; intro listed a' w' hs hS hun hdep
    have eg : a'.eval (.tmp 48) = .bool true := hs.eval 8 _ 48 rfl (hdep ⟨8, .guard⟩ (by simp) rfl) rfl
    have e7 : a'.eval (.tmp 7) = .pointer (some ⟨w4.heap.size, 0, none⟩) := (hs.out 7 (by kernel_rfl)).trans (rfl)
    exact g_val (.agg (L.lv (y1) (m1))) hS (wanted_yes rfl rfl rfl eg) (run_op_load_lab rfl e7 (HB.out.below hS HB.out.lt)) rfl
  · go_light; intro listed a' w' hs hS hun hdep
    have eg : a'.eval (.tmp 48) = .bool true := hs.eval 8 _ 48 rfl (hdep ⟨8, .guard⟩ (by simp) rfl) rfl
    have e11 : a'.eval (.tmp 11) = .pointer (some ⟨w8.heap.size, 0, none⟩) := (hs.out 11 (by kernel_rfl)).trans (rfl)
    exact g_val (.agg (L.lv (y1) (m1))) hS (wanted_yes rfl rfl rfl eg) (run_op_load_lab rfl e11 (HD.out.below hS HD.out.lt)) rfl
  · go_light; intro listed a' w' hs hS hun hdep
    have eg : a'.eval (.tmp 48) = .bool true := hs.eval 8 _ 48 rfl (hdep ⟨8, .guard⟩ (by simp) rfl) rfl
    have e49 : a'.eval (.tmp 49) = .agg (L.lv y1 m1) := hs.eval 9 _ 49 rfl (hdep ⟨9, .data⟩ (by simp) rfl) rfl
    have e50 : a'.eval (.tmp 50) = .agg (L.lv y1 m1) := hs.eval 10 _ 50 rfl (hdep ⟨10, .data⟩ (by simp) rfl) rfl
    exact g_val (.bool true) hS (wanted_yes rfl rfl rfl eg) (run_op_same_lab rfl e49 e50 hm1) rfl
  · go_light; intro listed a' w' hs hS hun hdep
    have e48 : a'.eval (.tmp 48) = .bool true := hs.eval 8 _ 48 rfl (hdep ⟨8, .data⟩ (by simp) rfl) rfl
    have e51 : a'.eval (.tmp 51) = .bool true := hs.eval 11 _ 51 rfl (hdep ⟨11, .data⟩ (by simp) rfl) rfl
    refine g_val (.bool true) hS rfl ?_ rfl
    have hcn := BigFrame.eval_const a'
    have hfn := BigFrame.eval_func a'
    clear hs hdep
    generalize a'.eval = ev at *
    go_simp
  · go_light; intro listed a' w' hs hS hun hdep
    have e52 : a'.eval (.tmp 52) = .bool true := hs.eval 12 _ 52 rfl (hdep ⟨12, .data⟩ (by simp) rfl) rfl
    refine g_val (.bool true) hS rfl ?_ rfl
    have hcn := BigFrame.eval_const a'
    have hfn := BigFrame.eval_func a'
    clear hs hdep
    generalize a'.eval = ev at *
    go_simp
  · go_light; intro listed a' w' hs hS hun hdep
    have eg : a'.eval (.tmp 53) = .bool true := hs.eval 13 _ 53 rfl (hdep ⟨13, .guard⟩ (by simp) rfl) rfl
    have e8 : a'.eval (.tmp 8) = .int .i64 E1 := (hs.out 8 (by kernel_rfl)).trans (rfl)
    refine g_val (.int .i64 E1) hS (wanted_yes rfl rfl rfl eg) ?_ rfl
    have hcn := BigFrame.eval_const a'
    have hfn := BigFrame.eval_func a'
    clear hs hdep
    generalize a'.eval = ev at *
    go_simp
  · go_light; intro listed a' w' hs hS hun hdep
    have eg : a'.eval (.tmp 53) = .bool true := hs.eval 13 _ 53 rfl (hdep ⟨13, .guard⟩ (by simp) rfl) rfl
    have e12 : a'.eval (.tmp 12) = .int .i64 E1 := (hs.out 12 (by kernel_rfl)).trans (rfl)
    refine g_val (.int .i64 E1) hS (wanted_yes rfl rfl rfl eg) ?_ rfl
    have hcn := BigFrame.eval_const a'
    have hfn := BigFrame.eval_func a'
    clear hs hdep
    generalize a'.eval = ev at *
    go_simp
  · go_light; intro listed a' w' hs hS hun hdep
    have eg : a'.eval (.tmp 53) = .bool true := hs.eval 13 _ 53 rfl (hdep ⟨13, .guard⟩ (by simp) rfl) rfl
    have e54 : a'.eval (.tmp 54) = .int .i64 E1 := hs.eval 14 _ 54 rfl (hdep ⟨14, .data⟩ (by simp) rfl) rfl
    have e55 : a'.eval (.tmp 55) = .int .i64 E1 := hs.eval 15 _ 55 rfl (hdep ⟨15, .data⟩ (by simp) rfl) rfl
    refine g_val (.bool true) hS (wanted_yes rfl rfl rfl eg) ?_ rfl
    have hcn := BigFrame.eval_const a'
    have hfn := BigFrame.eval_func a'
    clear hs hdep
    generalize a'.eval = ev at *
    go_simp
  · go_light; intro listed a' w' hs hS hun hdep
    have e53 : a'.eval (.tmp 53) = .bool true := hs.eval 13 _ 53 rfl (hdep ⟨13, .data⟩ (by simp) rfl) rfl
    have e56 : a'.eval (.tmp 56) = .bool true := hs.eval 16 _ 56 rfl (hdep ⟨16, .data⟩ (by simp) rfl) rfl
    refine g_val (.bool true) hS rfl ?_ rfl
    have hcn := BigFrame.eval_const a'
    have hfn := BigFrame.eval_func a'
    clear hs hdep
    generalize a'.eval = ev at *
    go_simp
  · go_light; intro listed a' w' hs hS hun hdep
    have e57 : a'.eval (.tmp 57) = .bool true := hs.eval 17 _ 57 rfl (hdep ⟨17, .data⟩ (by simp) rfl) rfl
    refine g_val (.bool true) hS rfl ?_ rfl
    have hcn := BigFrame.eval_const a'
    have hfn := BigFrame.eval_func a'
    clear hs hdep
    generalize a'.eval = ev at *
    go_simp
  · go_light; intro listed a' w' hs hS hun hdep
    have eg : a'.eval (.tmp 58) = .bool true := hs.eval 18 _ 58 rfl (hdep ⟨18, .guard⟩ (by simp) rfl) rfl
    have e2 : a'.eval (.tmp 2) = .pointer (some ⟨w.heap.size, 0, none⟩) := (hs.out 2 (by kernel_rfl)).trans (rfl)
    have kk0 := (H9.out.below hS).k0
    have kk1 := (H9.out.below hS).k1
    have kk2 := (H9.out.below hS).k2
    refine g_val (.agg #[.int .u32 d.num, .slice d.la d.lv.length d.lc, .slice d.ca d.ct.length d.cc]) hS (wanted_yes rfl rfl rfl eg) ?_ rfl
    have hcn := BigFrame.eval_const a'
    have hfn := BigFrame.eval_func a'
    clear hs hdep
    generalize a'.eval = ev at *
    go_simp
  · go_light; intro listed a' w' hs hS hun hdep
    have eg : a'.eval (.tmp 58) = .bool true := hs.eval 18 _ 58 rfl (hdep ⟨18, .guard⟩ (by simp) rfl) rfl
    have e3 : a'.eval (.tmp 3) = .pointer (some ⟨(w.heap.size + 1), 0, none⟩) := (hs.out 3 (by kernel_rfl)).trans (rfl)
    exact g_val (.agg (L.lv (z) (n))) hS (wanted_yes rfl rfl rfl eg) (run_op_load_lab rfl e3 (HLl.out.below hS HLl.out.lt)) rfl
  · go_light; intro listed a' w' hs hS hun hdep
    have eg : a'.eval (.tmp 58) = .bool true := hs.eval 18 _ 58 rfl (hdep ⟨18, .guard⟩ (by simp) rfl) rfl
    have e59 : a'.eval (.tmp 59) = .agg #[.int .u32 d.num, .slice d.la d.lv.length d.lc, .slice d.ca d.ct.length d.cc] := hs.eval 19 _ 59 rfl (hdep ⟨19, .data⟩ (by simp) rfl) rfl
    have e60 : a'.eval (.tmp 60) = .agg (L.lv z n) := hs.eval 20 _ 60 rfl (hdep ⟨20, .data⟩ (by simp) rfl) rfl
    refine g_call 15 #[.agg #[.int .u32 d.num, .slice d.la d.lv.length d.lc, .slice d.ca d.ct.length d.cc], .agg (L.lv z n)] hS (wanted_yes rfl rfl rfl eg) ?_ ?_
    · have hcn := BigFrame.eval_const a'; have hfn := BigFrame.eval_func a'; clear hs hdep; generalize a'.eval = ev at *; go_simp
    · exact c_val (HT0.out w' (H9.out.below hS).ok) rfl
  · go_light; intro listed a' w' hs hS hun hdep
    have eg : a'.eval (.tmp 58) = .bool true := hs.eval 18 _ 58 rfl (hdep ⟨18, .guard⟩ (by simp) rfl) rfl
    have e10 : a'.eval (.tmp 10) = .int .i64 E0 := (hs.out 10 (by kernel_rfl)).trans (rfl)
    refine g_val (.int .i64 E0) hS (wanted_yes rfl rfl rfl eg) ?_ rfl
    have hcn := BigFrame.eval_const a'
    have hfn := BigFrame.eval_func a'
    clear hs hdep
    generalize a'.eval = ev at *
    go_simp
  · go_light; intro listed a' w' hs hS hun hdep
    have eg : a'.eval (.tmp 58) = .bool true := hs.eval 18 _ 58 rfl (hdep ⟨18, .guard⟩ (by simp) rfl) rfl
    have e62 : a'.eval (.tmp 62) = .int .i64 E0 := hs.eval 22 _ 62 rfl (hdep ⟨22, .data⟩ (by simp) rfl) rfl
    refine g_val (.bool (E0 == 0)) hS (wanted_yes rfl rfl rfl eg) ?_ rfl
    have hcn := BigFrame.eval_const a'
    have hfn := BigFrame.eval_func a'
    clear hs hdep
    generalize a'.eval = ev at *
    go_simp
  · go_light; intro listed a' w' hs hS hun hdep
    have eg : a'.eval (.tmp 58) = .bool true := hs.eval 18 _ 58 rfl (hdep ⟨18, .guard⟩ (by simp) rfl) rfl
    have e61 : a'.eval (.tmp 61) = .bool (E0 == 0) := hs.eval 21 _ 61 rfl (hdep ⟨21, .data⟩ (by simp) rfl) rfl
    have e63 : a'.eval (.tmp 63) = .bool (E0 == 0) := hs.eval 23 _ 63 rfl (hdep ⟨23, .data⟩ (by simp) rfl) rfl
    refine g_val (.bool true) hS (wanted_yes rfl rfl rfl eg) ?_ rfl
    have hcn := BigFrame.eval_const a'
    have hfn := BigFrame.eval_func a'
    clear hs hdep
    generalize a'.eval = ev at *
    go_simp
  · go_light; intro listed a' w' hs hS hun hdep
    have e58 : a'.eval (.tmp 58) = .bool true := hs.eval 18 _ 58 rfl (hdep ⟨18, .data⟩ (by simp) rfl) rfl
    have e64 : a'.eval (.tmp 64) = .bool true := hs.eval 24 _ 64 rfl (hdep ⟨24, .data⟩ (by simp) rfl) rfl
    refine g_val (.bool true) hS rfl ?_ rfl
    have hcn := BigFrame.eval_const a'
    have hfn := BigFrame.eval_func a'
    clear hs hdep
    generalize a'.eval = ev at *
    go_simp
  · go_light; intro listed a' w' hs hS hun hdep
    have e65 : a'.eval (.tmp 65) = .bool true := hs.eval 25 _ 65 rfl (hdep ⟨25, .data⟩ (by simp) rfl) rfl
    refine g_val (.bool true) hS rfl ?_ rfl
    have hcn := BigFrame.eval_const a'
    have hfn := BigFrame.eval_func a'
    clear hs hdep
    generalize a'.eval = ev at *
    go_simp
  · go_light; intro listed a' w' hs hS hun hdep
    have eg : a'.eval (.tmp 66) = .bool true := hs.eval 26 _ 66 rfl (hdep ⟨26, .guard⟩ (by simp) rfl) rfl
    have e2 : a'.eval (.tmp 2) = .pointer (some ⟨w.heap.size, 0, none⟩) := (hs.out 2 (by kernel_rfl)).trans (rfl)
    have kk0 := (H9.out.below hS).k0
    have kk1 := (H9.out.below hS).k1
    have kk2 := (H9.out.below hS).k2
    refine g_val (.agg #[.int .u32 d.num, .slice d.la d.lv.length d.lc, .slice d.ca d.ct.length d.cc]) hS (wanted_yes rfl rfl rfl eg) ?_ rfl
    have hcn := BigFrame.eval_const a'
    have hfn := BigFrame.eval_func a'
    clear hs hdep
    generalize a'.eval = ev at *
    go_simp
  · go_light; intro listed a' w' hs hS hun hdep
    have eg : a'.eval (.tmp 66) = .bool true := hs.eval 26 _ 66 rfl (hdep ⟨26, .guard⟩ (by simp) rfl) rfl
    have e67 : a'.eval (.tmp 67) = .agg #[.int .u32 d.num, .slice d.la d.lv.length d.lc, .slice d.ca d.ct.length d.cc] := hs.eval 27 _ 67 rfl (hdep ⟨27, .data⟩ (by simp) rfl) rfl
    refine g_new (.slice (some ⟨w'.heap.size, 0, none⟩) 1 1) (.cells #[.int .u32 d.num, .slice d.la d.lv.length d.lc, .slice d.ca d.ct.length d.cc] 25) hS (wanted_yes rfl rfl rfl eg) ?_ ⟨w'.heap.size, Below.size hS, rfl, heap_alloc_new w' _⟩
    have hcn := BigFrame.eval_const a'
    have hfn := BigFrame.eval_func a'
    clear hs hdep
    generalize a'.eval = ev at *
    go_simp
  · go_light; intro listed a' w' hs hS hun hdep
    have eg : a'.eval (.tmp 66) = .bool true := hs.eval 26 _ 66 rfl (hdep ⟨26, .guard⟩ (by simp) rfl) rfl
    have r68 : (.row (#[.int .u32 d.num, .slice d.la d.lv.length d.lc, .slice d.ca d.ct.length d.cc]) 25 1 : GV).ok w9.heap.size (a'.eval (.tmp 68)) w' := hs.eval 28 _ 68 rfl (hdep ⟨28, .data⟩ (by simp) rfl)  rfl
    obtain ⟨b68, _, e68, k68⟩ := r68
    refine g_call 16 #[.slice (some ⟨b68, 0, none⟩) 1 1] hS (wanted_yes rfl rfl rfl eg) ?_ ?_
    · have hcn := BigFrame.eval_const a'; have hfn := BigFrame.eval_func a'; clear hs hdep; generalize a'.eval = ev at *; go_simp
    · exact c_val (HR0.out _ w' k68 ((H9.out.below hS).ok)) rfl
  · go_light; intro listed a' w' hs hS hun hdep
    have eg : a'.eval (.tmp 66) = .bool true := hs.eval 26 _ 66 rfl (hdep ⟨26, .guard⟩ (by simp) rfl) rfl
    have e2 : a'.eval (.tmp 2) = .pointer (some ⟨w.heap.size, 0, none⟩) := (hs.out 2 (by kernel_rfl)).trans (rfl)
    have kk0 := (H9.out.below hS).k0
    have kk1 := (H9.out.below hS).k1
    have kk2 := (H9.out.below hS).k2
    refine g_val (.agg #[.int .u32 d.num, .slice d.la d.lv.length d.lc, .slice d.ca d.ct.length d.cc]) hS (wanted_yes rfl rfl rfl eg) ?_ rfl
    have hcn := BigFrame.eval_const a'
    have hfn := BigFrame.eval_func a'
    clear hs hdep
    generalize a'.eval = ev at *
    go_simp
  · go_light; intro listed a' w' hs hS hun hdep
    have eg : a'.eval (.tmp 66) = .bool true := hs.eval 26 _ 66 rfl (hdep ⟨26, .guard⟩ (by simp) rfl) rfl
    have e70 : a'.eval (.tmp 70) = .agg #[.int .u32 d.num, .slice d.la d.lv.length d.lc, .slice d.ca d.ct.length d.cc] := hs.eval 30 _ 70 rfl (hdep ⟨30, .data⟩ (by simp) rfl) rfl
    refine g_call 17 #[.agg #[.int .u32 d.num, .slice d.la d.lv.length d.lc, .slice d.ca d.ct.length d.cc]] hS (wanted_yes rfl rfl rfl eg) ?_ ?_
    · have hcn := BigFrame.eval_const a'; have hfn := BigFrame.eval_func a'; clear hs hdep; generalize a'.eval = ev at *; go_simp
    · exact c_val (HRR.out w' (H9.out.below hS).ok) rfl
  · go_light; intro listed a' w' hs hS hun hdep
    have eg : a'.eval (.tmp 66) = .bool true := hs.eval 26 _ 66 rfl (hdep ⟨26, .guard⟩ (by simp) rfl) rfl
    have e69 : a'.eval (.tmp 69) = .bool q := hs.eval 29 _ 69 rfl (hdep ⟨29, .data⟩ (by simp) rfl) rfl
    have e71 : a'.eval (.tmp 71) = .bool q := hs.eval 31 _ 71 rfl (hdep ⟨31, .data⟩ (by simp) rfl) rfl
    refine g_val (.bool true) hS (wanted_yes rfl rfl rfl eg) ?_ rfl
    have hcn := BigFrame.eval_const a'
    have hfn := BigFrame.eval_func a'
    clear hs hdep
    generalize a'.eval = ev at *
    go_simp
  · go_light; intro listed a' w' hs hS hun hdep
    have e66 : a'.eval (.tmp 66) = .bool true := hs.eval 26 _ 66 rfl (hdep ⟨26, .data⟩ (by simp) rfl) rfl
    have e72 : a'.eval (.tmp 72) = .bool true := hs.eval 32 _ 72 rfl (hdep ⟨32, .data⟩ (by simp) rfl) rfl
    refine g_val (.bool true) hS rfl ?_ rfl
    have hcn := BigFrame.eval_const a'
    have hfn := BigFrame.eval_func a'
    clear hs hdep
    generalize a'.eval = ev at *
    go_simp
  · go_light; intro listed a' w' hs hS hun hdep
    have e73 : a'.eval (.tmp 73) = .bool true := hs.eval 33 _ 73 rfl (hdep ⟨33, .data⟩ (by simp) rfl) rfl
    refine g_val (.bool true) hS rfl ?_ rfl
    have hcn := BigFrame.eval_const a'
    have hfn := BigFrame.eval_func a'
    clear hs hdep
    generalize a'.eval = ev at *
    go_simp
  · go_light; intro listed a' w' hs hS hun hdep
    have eg : a'.eval (.tmp 74) = .bool true := hs.eval 34 _ 74 rfl (hdep ⟨34, .guard⟩ (by simp) rfl) rfl
    refine g_call 11 #[] hS (wanted_yes rfl rfl rfl eg) ?_ ?_
    · have hcn := BigFrame.eval_const a'; have hfn := BigFrame.eval_func a'; clear hs hdep; generalize a'.eval = ev at *; go_simp
    · exact c_val (doi_awake w') rfl
  · go_light; intro listed a' w' hs hS hun hdep
    have e74 : a'.eval (.tmp 74) = .bool true := hs.eval 34 _ 74 rfl (hdep ⟨34, .data⟩ (by simp) rfl) rfl
    have e75 : a'.eval (.tmp 75) = .bool true := hs.eval 35 _ 75 rfl (hdep ⟨35, .data⟩ (by simp) rfl) rfl
    refine g_val (.bool true) hS rfl ?_ rfl
    have hcn := BigFrame.eval_const a'
    have hfn := BigFrame.eval_func a'
    clear hs hdep
    generalize a'.eval = ev at *
    go_simp
  · go_light; intro listed a' w' hs hS hun hdep
    have e76 : a'.eval (.tmp 76) = .bool true := hs.eval 36 _ 76 rfl (hdep ⟨36, .data⟩ (by simp) rfl) rfl
    refine g_val (.bool true) hS rfl ?_ rfl
    have hcn := BigFrame.eval_const a'
    have hfn := BigFrame.eval_func a'
    clear hs hdep
    generalize a'.eval = ev at *
    go_simp
  · intro vs wE hlen hV listed hall hS
    obtain ⟨v0, v1, v2, v3, v4, v5, v6, v7, v8, v9, v10, v11, v12, v13, v14, v15, v16, v17, v18, v19, v20, v21, v22, v23, v24, v25, v26, v27, v28, v29, v30, v31, v32, v33, v34, v35, v36, v37, rfl⟩ := vs_38 vs (hlen.trans rfl)
    have q0 : v0 = .agg (L.lv y0 m0) := hV 0 _ rfl
    have q1 : v1 = .agg (L.lv y0 m0) := hV 1 _ rfl
    have q2 : v2 = .bool true := hV 2 _ rfl
    have q3 : v3 = .bool true := hV 3 _ rfl
    have q4 : v4 = .int .i64 E0 := hV 4 _ rfl
    have q5 : v5 = .int .i64 E0 := hV 5 _ rfl
    have q6 : v6 = .bool true := hV 6 _ rfl
    have q7 : v7 = .bool true := hV 7 _ rfl
    have q8 : v8 = .bool true := hV 8 _ rfl
    have q9 : v9 = .agg (L.lv y1 m1) := hV 9 _ rfl
    have q10 : v10 = .agg (L.lv y1 m1) := hV 10 _ rfl
    have q11 : v11 = .bool true := hV 11 _ rfl
    have q12 : v12 = .bool true := hV 12 _ rfl
    have q13 : v13 = .bool true := hV 13 _ rfl
    have q14 : v14 = .int .i64 E1 := hV 14 _ rfl
    have q15 : v15 = .int .i64 E1 := hV 15 _ rfl
    have q16 : v16 = .bool true := hV 16 _ rfl
    have q17 : v17 = .bool true := hV 17 _ rfl
    have q18 : v18 = .bool true := hV 18 _ rfl
    have q19 : v19 = .agg #[.int .u32 d.num, .slice d.la d.lv.length d.lc, .slice d.ca d.ct.length d.cc] := hV 19 _ rfl
    have q20 : v20 = .agg (L.lv z n) := hV 20 _ rfl
    have q21 : v21 = .bool (E0 == 0) := hV 21 _ rfl
    have q22 : v22 = .int .i64 E0 := hV 22 _ rfl
    have q23 : v23 = .bool (E0 == 0) := hV 23 _ rfl
    have q24 : v24 = .bool true := hV 24 _ rfl
    have q25 : v25 = .bool true := hV 25 _ rfl
    have q26 : v26 = .bool true := hV 26 _ rfl
    have q27 : v27 = .agg #[.int .u32 d.num, .slice d.la d.lv.length d.lc, .slice d.ca d.ct.length d.cc] := hV 27 _ rfl
    obtain ⟨b28, hge28, q28, hbk28⟩ : (.row (#[.int .u32 d.num, .slice d.la d.lv.length d.lc, .slice d.ca d.ct.length d.cc]) 25 1 : GV).ok w9.heap.size v28 wE := hV 28 _ rfl
    have q29 : v29 = .bool q := hV 29 _ rfl
    have q30 : v30 = .agg #[.int .u32 d.num, .slice d.la d.lv.length d.lc, .slice d.ca d.ct.length d.cc] := hV 30 _ rfl
    have q31 : v31 = .bool q := hV 31 _ rfl
    have q32 : v32 = .bool true := hV 32 _ rfl
    have q33 : v33 = .bool true := hV 33 _ rfl
    have q34 : v34 = .bool true := hV 34 _ rfl
    have q35 : v35 = .bool true := hV 35 _ rfl
    have q36 : v36 = .bool true := hV 36 _ rfl
    have q37 : v37 = .bool true := hV 37 _ rfl
    have hbel : Below w9.heap.size w9 wE := hS
    subst q0 q1 q2 q3 q4 q5 q6 q7 q8 q9 q10 q11 q12 q13 q14 q15 q16 q17 q18 q19 q20 q21 q22 q23 q24 q25 q26 q27 q28 q29 q30 q31 q32 q33 q34 q35 q36 q37
    clear hV hS hall
    simp only [lays, Act.put, List.setIfInBounds_toArray, List.set_cons_zero, List.set_cons_succ]
    have hbz := hbw9.trans (hbel.mono hbw9.size)
    go_wp2
    go_ret
    exact ⟨rfl, hbz⟩
#print axioms tells_all
end DoT
end Go.Proofs.Ytdipoaekdafbeaa
