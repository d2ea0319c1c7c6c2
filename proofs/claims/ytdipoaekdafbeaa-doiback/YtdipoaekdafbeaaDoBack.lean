/- DoiBack, walked whole. -/
import Derived.Test.YtdipoaekdafbeaaDoDL
namespace Go.Proofs.Ytdipoaekdafbeaa
open Go.RowKit Go.Maps
set_option maxRecDepth 100000
set_option linter.unusedVariables false
open D

theorem tellZ_i64 (d : Dm) (z : Int) (n : Nat) (b : Bool) (hz : I64 z) : I64 (d.tellZ z n b) := by
  unfold Dm.tellZ
  split
  · rename_i h1
    split
    · rename_i h2
      rw [Bool.and_eq_true] at h1
      unfold Dm.fit at h2
      rw [Bool.and_eq_true] at h2
      have hR := h1.1
      unfold Dm.right at hR
      rw [Bool.and_eq_true, decide_eq_true_eq] at hR
      have hl := h1.2
      unfold lr at hl
      rw [Bool.and_eq_true, decide_eq_true_eq, decide_eq_true_eq] at hl
      obtain ⟨_, k2, k3⟩ := num1_back hR.1 b z hl h2.1
      exact ⟨by omega, by omega⟩
    · exact ⟨by omega, by omega⟩
  · exact ⟨by omega, by omega⟩

set_option maxHeartbeats 16000000 in
theorem back_all (d : Dm) (z : Int) (n : Nat) (w : World) (h : DIn w d) (hn : n < 2 ^ 240) (hz : I64 z) :
    Calls Try.prog 4 #[.agg d.v, .agg (L.lv z n)] w fun e w' => e = .returned (.bool true) ∧ Below w.heap.size w w' := by
  have hdv := Lib.hid (show d.v = #[.int .u32 d.num, .slice d.la d.lv.length d.lc, .slice d.ca d.ct.length d.cc] from rfl)
  have hbw0 : Below w.heap.size w ((w.alloc (.cells d.v 25)).alloc (.cells (L.lv z n) 29)) := ((Below.refl _ w).alloc (Nat.le_refl _) _).alloc (by simp) _
  have k0 : ((w.alloc (.cells d.v 25)).alloc (.cells (L.lv z n) 29)).cell? ⟨w.heap.size, 0, none⟩ = some (.int .u32 d.num) := (Below.cell ((Below.refl (w.alloc (.cells d.v 25)).heap.size _).alloc (Nat.le_refl _) _) (p := ⟨w.heap.size, 0, none⟩) (by simp)).trans ((cell_of_row _ w.heap.size 0 _ _ (0, 0) (heap_alloc_new w (.cells d.v 25))).trans rfl)
  have k1 : ((w.alloc (.cells d.v 25)).alloc (.cells (L.lv z n) 29)).cell? ⟨w.heap.size, 1, none⟩ = some (.slice d.la d.lv.length d.lc) := (Below.cell ((Below.refl (w.alloc (.cells d.v 25)).heap.size _).alloc (Nat.le_refl _) _) (p := ⟨w.heap.size, 1, none⟩) (by simp)).trans ((cell_of_row _ w.heap.size 1 _ _ (0, 0) (heap_alloc_new w (.cells d.v 25))).trans rfl)
  have k2 : ((w.alloc (.cells d.v 25)).alloc (.cells (L.lv z n) 29)).cell? ⟨w.heap.size, 2, none⟩ = some (.slice d.ca d.ct.length d.cc) := (Below.cell ((Below.refl (w.alloc (.cells d.v 25)).heap.size _).alloc (Nat.le_refl _) _) (p := ⟨w.heap.size, 2, none⟩) (by simp)).trans ((cell_of_row _ w.heap.size 2 _ _ (0, 0) (heap_alloc_new w (.cells d.v 25))).trans rfl)
  have HG := Lib.hid (great_any d ((w.alloc (.cells d.v 25)).alloc (.cells (L.lv z n) 29)))
  by_cases hgr : 300 < d.lv.length ∨ 300 < d.ct.length
  · have hgt : (decide (300 < d.lv.length) || decide (300 < d.ct.length)) = true := by simpa using hgr
    rw [hdv.out] at hbw0 HG k0 k1 k2 ⊢
    rw [hgt] at HG
    clear hgt hgr
    go_enter Try.func4, Try.ntmps4
    go_wp2_with fail
    refine HG.out.mono ?_
    rintro e w1 ⟨rfl, hb1⟩
    have hbw1 := hbw0.trans (hb1.mono hbw0.size)
    go_wp2_with fail
    refine (doi_awake _).mono ?_
    rintro e w2 ⟨rfl, hb2⟩
    have hbw2 := hbw1.trans (hb2.mono hbw1.size)
    go_wp2
    go_ret
    exact ⟨rfl, hbw2⟩
  have hgt : (decide (300 < d.lv.length) || decide (300 < d.ct.length)) = false := by simpa using hgr
  have H0 := Lib.hid (DL.new d z n (h.ok (by omega) (by omega)))
  have HO0 := Lib.hid (fun w h => DOut_any d z n w h hn hz)
  have HB0 := Lib.hid (fun w h => DBack_any d z n w h hn hz)
  rw [hdv.out] at hbw0 HG k0 k1 k2 H0 HO0 HB0 ⊢
  rw [hgt] at HG
  clear hgt hgr h
  go_enter Try.func4, Try.ntmps4
  go_wp2_with fail
  refine HG.out.mono ?_
  rintro e w1 ⟨rfl, hb1⟩
  have H1 := Lib.hid (H0.out.below hb1)
  have hbw1 := hbw0.trans (hb1.mono hbw0.size)
  clear HG H0 hbw0 hb1 k0 k1 k2
  have k0 := H1.out.k0
  have k1 := H1.out.k1
  have k2 := H1.out.k2
  go_wp2_with (refine load_lab rfl rfl rfl H1.out.la ?_)
  refine (HO0.out _ H1.out.ok).mono ?_
  rintro e w2 ⟨rfl, hb2⟩
  have H2 := Lib.hid (H1.out.below hb2)
  have hbw2 := hbw1.trans (hb2.mono hbw1.size)
  have HN2 := Lib.hid (LabAt.new w2 0 0)
  clear hb2 H1 hbw1 k0 k1 k2
  by_cases hE : d.tellE z n false = 0
  · have GG := Lib.hid (d.back z n false hn hE)
    have HB2 := Lib.hid (fun w h => DBack_any d (d.tellZ z n false) (d.tellN z n false) w h (d.tellN_lt z n false) (tellZ_i64 d z n false hz))
    rw [show (!false) = true from rfl] at GG
    rw [GG.out.1, GG.out.2.1, GG.out.2.2, hdv.out] at HB2
    rw [hE]
    clear GG hE
    generalize d.tellZ z n false = y at *
    generalize d.tellN z n false = m at *
    go_wp2_with (first | (rw [L.zero31]; refine store_lab rfl rfl rfl rfl HN2.out ?_; intro w3 hs ho; have HL3 := Lib.hid hs; have HD3 := Lib.hid (lab_new H2.out hs ho hbw2); have H3 := Lib.hid HD3.out.1; have k0 := H3.out.k0; have k1 := H3.out.k1; have k2 := H3.out.k2; clear hs ho) | (refine load_lab rfl rfl rfl HL3.out ?_))
    refine (HB2.out _ H3.out.ok).mono ?_
    rintro e w4 ⟨rfl, hb4⟩
    have H4 := Lib.hid (H3.out.below hb4)
    have hbw4 := HD3.out.2.1.trans (hb4.mono HD3.out.2.1.size)
    have HN4 := Lib.hid (LabAt.new w4 0 0)
    clear k0 k1 k2 hb4 HL3 HD3 H3 HN2 H2 hbw2 HB2
    go_wp2_with (first | (rw [L.zero31]; refine store_lab rfl rfl rfl rfl HN4.out ?_; intro w5 hs ho; have HL5 := Lib.hid hs; have HD5 := Lib.hid (lab_new H4.out hs ho hbw4); have H5 := Lib.hid HD5.out.1; have hbw5 := HD5.out.2.1; have k0 := H5.out.k0; have k1 := H5.out.k1; have k2 := H5.out.k2; clear hs ho) | (refine load_lab rfl rfl rfl HL5.out ?_) | (refine load_lab rfl rfl rfl H5.out.la ?_) | (refine step_op rfl (run_op_neq_lab (z := z) (z' := z) (n := n) (m := n) rfl (by simp [Act.eval, Act.put]) (by simp [Act.eval, Act.put]) hn hn) ?_; rw [decide_eq_true (rfl : z = z), decide_eq_true (rfl : n = n)]))
    clear HL5 HD5 H4 hbw4 HN4
    refine (HB0.out _ H5.out.ok).mono ?_
    rintro e x1 ⟨rfl, hx1⟩
    have HX1 := Lib.hid (H5.out.below hx1)
    have hbx1 := hbw5.trans (hx1.mono hbw5.size)
    have HNx1 := Lib.hid (LabAt.new x1 0 0)
    clear k0 k1 k2 hx1
    by_cases hE' : d.tellE z n true = 0
    · have GG := Lib.hid (d.back z n true hn hE')
      have HO2 := Lib.hid (fun w h => DOut_any d (d.tellZ z n true) (d.tellN z n true) w h (d.tellN_lt z n true) (tellZ_i64 d z n true hz))
      rw [show (!true) = false from rfl] at GG
      rw [GG.out.1, GG.out.2.1, GG.out.2.2, hdv.out] at HO2
      rw [hE']
      clear GG hE'
      generalize d.tellZ z n true = y at *
      generalize d.tellN z n true = m at *
      go_wp2_with (first | (rw [L.zero31]; refine store_lab rfl rfl rfl rfl HNx1.out ?_; intro x2 hs ho; have HL2 := Lib.hid hs; have HD2 := Lib.hid (lab_new HX1.out hs ho hbx1); have HX2 := Lib.hid HD2.out.1; have k0 := HX2.out.k0; have k1 := HX2.out.k1; have k2 := HX2.out.k2; clear hs ho) | (refine load_lab rfl rfl rfl HL2.out ?_))
      refine (HO2.out _ HX2.out.ok).mono ?_
      rintro e x3 ⟨rfl, hx3⟩
      have HX3 := Lib.hid (HX2.out.below hx3)
      have hbx3 := HD2.out.2.1.trans (hx3.mono HD2.out.2.1.size)
      have HNx3 := Lib.hid (LabAt.new x3 0 0)
      clear k0 k1 k2 hx3 HL2
      go_wp2_with (first | (rw [L.zero31]; refine store_lab rfl rfl rfl rfl HNx3.out ?_; intro x4 hs ho; have HL4 := Lib.hid hs; have HD4 := Lib.hid (lab_new HX3.out hs ho hbx3); have HX4 := Lib.hid HD4.out.1; clear hs ho) | (refine load_lab rfl rfl rfl HL4.out ?_) | (refine load_lab rfl rfl rfl HX4.out.la ?_) | (refine step_op rfl (run_op_same_lab (z := z) (n := n) rfl (by simp [Act.eval, Act.put]) (by simp [Act.eval, Act.put]) hn) ?_))
      refine (doi_awake _).mono ?_
      rintro e x5 ⟨rfl, hx5⟩
      have hbx5 := HD4.out.2.1.trans (hx5.mono HD4.out.2.1.size)
      go_wp2
      go_ret
      exact ⟨rfl, hbx5⟩
    · have hne : (d.tellE z n true == 0) = false := by simpa using hE'
      clear hE'
      generalize d.tellE z n true = E2 at *
      generalize d.tellZ z n true = y at *
      generalize d.tellN z n true = m at *
      go_wp2_with (rw [L.zero31]; refine store_lab rfl rfl rfl rfl HNx1.out ?_; intro x2 hs ho; have HD2 := Lib.hid (lab_new HX1.out hs ho hbx1); clear hs ho)
      refine (doi_awake _).mono ?_
      rintro e x3 ⟨rfl, hx3⟩
      have hbx3 := HD2.out.2.1.trans (hx3.mono HD2.out.2.1.size)
      go_wp2
      go_ret
      exact ⟨rfl, hbx3⟩
  · have hne : (d.tellE z n false == 0) = false := by simpa using hE
    clear hE
    generalize d.tellE z n false = E1 at *
    generalize d.tellZ z n false = y1 at *
    generalize d.tellN z n false = m1 at *
    go_wp2_with (first | (rw [L.zero31]; refine store_lab rfl rfl rfl rfl HN2.out ?_; intro w5 hs ho; have HD5 := Lib.hid (lab_new H2.out hs ho hbw2); have H5 := Lib.hid HD5.out.1; have hbw5 := HD5.out.2.1; have k0 := H5.out.k0; have k1 := H5.out.k1; have k2 := H5.out.k2; clear hs ho) | (refine load_lab rfl rfl rfl H5.out.la ?_))
    clear HD5 H2 hbw2 HN2
    refine (HB0.out _ H5.out.ok).mono ?_
    rintro e x1 ⟨rfl, hx1⟩
    have HX1 := Lib.hid (H5.out.below hx1)
    have hbx1 := hbw5.trans (hx1.mono hbw5.size)
    have HNx1 := Lib.hid (LabAt.new x1 0 0)
    clear k0 k1 k2 hx1
    by_cases hE' : d.tellE z n true = 0
    · have GG := Lib.hid (d.back z n true hn hE')
      have HO2 := Lib.hid (fun w h => DOut_any d (d.tellZ z n true) (d.tellN z n true) w h (d.tellN_lt z n true) (tellZ_i64 d z n true hz))
      rw [show (!true) = false from rfl] at GG
      rw [GG.out.1, GG.out.2.1, GG.out.2.2, hdv.out] at HO2
      rw [hE']
      clear GG hE'
      generalize d.tellZ z n true = y at *
      generalize d.tellN z n true = m at *
      go_wp2_with (first | (rw [L.zero31]; refine store_lab rfl rfl rfl rfl HNx1.out ?_; intro x2 hs ho; have HL2 := Lib.hid hs; have HD2 := Lib.hid (lab_new HX1.out hs ho hbx1); have HX2 := Lib.hid HD2.out.1; have k0 := HX2.out.k0; have k1 := HX2.out.k1; have k2 := HX2.out.k2; clear hs ho) | (refine load_lab rfl rfl rfl HL2.out ?_))
      refine (HO2.out _ HX2.out.ok).mono ?_
      rintro e x3 ⟨rfl, hx3⟩
      have HX3 := Lib.hid (HX2.out.below hx3)
      have hbx3 := HD2.out.2.1.trans (hx3.mono HD2.out.2.1.size)
      have HNx3 := Lib.hid (LabAt.new x3 0 0)
      clear k0 k1 k2 hx3 HL2
      go_wp2_with (first | (rw [L.zero31]; refine store_lab rfl rfl rfl rfl HNx3.out ?_; intro x4 hs ho; have HL4 := Lib.hid hs; have HD4 := Lib.hid (lab_new HX3.out hs ho hbx3); have HX4 := Lib.hid HD4.out.1; clear hs ho) | (refine load_lab rfl rfl rfl HL4.out ?_) | (refine load_lab rfl rfl rfl HX4.out.la ?_) | (refine step_op rfl (run_op_same_lab (z := z) (n := n) rfl (by simp [Act.eval, Act.put]) (by simp [Act.eval, Act.put]) hn) ?_))
      refine (doi_awake _).mono ?_
      rintro e x5 ⟨rfl, hx5⟩
      have hbx5 := HD4.out.2.1.trans (hx5.mono HD4.out.2.1.size)
      go_wp2
      go_ret
      exact ⟨rfl, hbx5⟩
    · have hne : (d.tellE z n true == 0) = false := by simpa using hE'
      clear hE'
      generalize d.tellE z n true = E2 at *
      generalize d.tellZ z n true = y at *
      generalize d.tellN z n true = m at *
      go_wp2_with (rw [L.zero31]; refine store_lab rfl rfl rfl rfl HNx1.out ?_; intro x2 hs ho; have HD2 := Lib.hid (lab_new HX1.out hs ho hbx1); clear hs ho)
      refine (doi_awake _).mono ?_
      rintro e x3 ⟨rfl, hx3⟩
      have hbx3 := HD2.out.2.1.trans (hx3.mono HD2.out.2.1.size)
      go_wp2
      go_ret
      exact ⟨rfl, hbx3⟩
#print axioms back_all
end Go.Proofs.Ytdipoaekdafbeaa
