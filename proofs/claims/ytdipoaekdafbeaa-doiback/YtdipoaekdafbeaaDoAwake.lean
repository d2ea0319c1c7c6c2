/- The walk of layer 12's example. -/
import Derived.Test.YtdipoaekdafbeaaDoRef
namespace Go.Proofs.Ytdipoaekdafbeaa
open Go.RowKit Go.Maps
set_option maxRecDepth 100000
set_option linter.unusedVariables false
open D

namespace D
theorem set_nil (b : Bool) (n : Nat) (hn : n < 2 ^ 240) : okL b [] (C.list n) = true ∧ setL b [] (C.list n) = n := by
  have hm : ∀ z, num1 b [] z = z := fun z => num1_nil b [] z rfl
  refine ⟨List.all_eq_true.2 fun z hz => ?_, hasN_ext (setL_lt _ _ _) hn fun j hj => ?_⟩
  · unfold tok
    rw [hm]
    obtain ⟨j, _, rfl, _⟩ := (mem_list n z).1 hz
    exact decide_eq_true (by omega)
  · rw [has_setL _ _ _ j hj]
    cases hh : C.hasN n j
    · rw [List.any_eq_false]
      intro z hz e
      rw [hm] at e
      obtain ⟨i, hi, rfl, h1⟩ := (mem_list n z).1 hz
      have : i = j := by have := of_decide_eq_true e; omega
      subst this
      rw [hh] at h1
      cases h1
    · exact List.any_eq_true.2 ⟨j, (mem_list n _).2 ⟨j, hj, rfl, hh⟩, by rw [hm]; exact decide_eq_true rfl⟩
end D
def dEx (g : Nat) : Dm := ⟨0, some ⟨g, 0, none⟩, 1, [(1, 7)], none, 0, []⟩
theorem dx_put : C.put 0 5 true = C.one 5 := by
  unfold C.put
  rw [if_pos rfl, Nat.zero_or]
  exact C.oneI_in 5
theorem dx_right (g : Nat) : (dEx g).right = true := by
  have h1 : POk 255 [(1, 7)] := ⟨by simp, fun i hi => by
    obtain rfl : i = 0 := by simp at hi; omega
    unfold rng
    simp [pt], fun i hi k hk => by simp at hi; omega⟩
  have h2 : POk 239 [] := ⟨by simp, fun i hi => by simp at hi, fun i hi => by simp at hi⟩
  unfold Dm.right
  show (decide (POk 255 [(1, 7)]) && decide (POk 239 [])) = true
  rw [decide_eq_true h1, decide_eq_true h2]
  rfl
theorem dx_fit (g : Nat) (n : Nat) (hn : n < 2 ^ 240) : (dEx g).fit 1 n false = true := by
  unfold Dm.fit
  show (tok false [(1, 7)] 1 && okL false [] (C.list n)) = true
  rw [(set_nil false n hn).1]
  rfl
theorem dx_nofit (g : Nat) (n : Nat) : (dEx g).fit 2 n false = false := by
  unfold Dm.fit
  show (tok false [(1, 7)] 2 && okL false [] (C.list n)) = false
  rfl
theorem dx_e (g n : Nat) (hn : n < 2 ^ 240) : (dEx g).tellE 1 n false = 0 := by unfold Dm.tellE; rw [dx_right, dx_fit g n hn]; rfl
theorem dx_z (g n : Nat) (hn : n < 2 ^ 240) : (dEx g).tellZ 1 n false = 7 := by unfold Dm.tellZ; rw [dx_right, dx_fit g n hn]; rfl
theorem dx_n (g n : Nat) (hn : n < 2 ^ 240) : (dEx g).tellN 1 n false = n := by
  unfold Dm.tellN
  rw [dx_right, dx_fit g n hn]
  exact (set_nil false n hn).2
theorem dx_f (g n : Nat) : (dEx g).tellE 2 n false = 6 := by unfold Dm.tellE; rw [dx_right, dx_nofit g n]; rfl
theorem dx_g (g n : Nat) : (dEx g).tellZ 2 n false = 0 := by unfold Dm.tellZ; rw [dx_right, dx_nofit g n]; rfl
theorem dx_h (g n : Nat) : (dEx g).tellN 2 n false = 0 := by unfold Dm.tellN; rw [dx_right, dx_nofit g n]; rfl

set_option maxHeartbeats 8000000 in
theorem doi_awake (w : World) : Calls Try.prog 11 #[] w fun e w' => e = .returned (.bool true) ∧ Below w.heap.size w w' := by
  have HPut := Lib.hid (fun w => Put_any 0 5 true w)
  rw [dx_put] at HPut
  have hc : C.one 5 < 2 ^ 240 := C.one_lt 5
  generalize C.one 5 = c at *
  have HO1 : Hid (∀ g w (h : DOk w (dEx g)), Calls Try.prog 12 #[.agg #[.int .u32 0, .slice (some ⟨g, 0, none⟩) 1 1, .slice none 0 0], .agg (L.lv 1 c)] w fun e w' => e = .returned (.tuple #[.agg (L.lv 7 c), .int .i64 0]) ∧ Below w.heap.size w w') := Lib.hid (fun g w h => by
    have := DOut_any (dEx g) 1 c w h hc ⟨by omega, by omega⟩
    rw [dx_e g c hc, dx_z g c hc, dx_n g c hc] at this
    exact this)
  have HO2 : Hid (∀ g w (h : DOk w (dEx g)), Calls Try.prog 12 #[.agg #[.int .u32 0, .slice (some ⟨g, 0, none⟩) 1 1, .slice none 0 0], .agg (L.lv 2 c)] w fun e w' => e = .returned (.tuple #[.agg (L.lv 0 0), .int .i64 6]) ∧ Below w.heap.size w w') := Lib.hid (fun g w h => by
    have := DOut_any (dEx g) 2 c w h hc ⟨by omega, by omega⟩
    rw [dx_f g c, dx_g g c, dx_h g c] at this
    exact this)
  have hr0 : PRow (w.alloc (.cells #[.int .i64 1, .int .i64 7] 67)) (some ⟨w.heap.size, 0, none⟩) [(1, 7)] := fun _ => ⟨w.heap.size, 0, rfl, by simp, fun k hk => by
    obtain rfl : k = 0 := by simp at hk; omega
    exact ⟨by simp [pt], by simp [pt]⟩⟩
  have hok0 : DOk (w.alloc (.cells #[.int .i64 1, .int .i64 7] 67)) (dEx w.heap.size) := ⟨hr0, fun h => by simp [dEx] at h, by simp [dEx], by simp [dEx], fun k hk => by
    obtain rfl : k = 0 := by simp [dEx] at hk; omega
    exact ⟨⟨by simp [pt, dEx], by simp [pt, dEx]⟩, ⟨by simp [pt, dEx], by simp [pt, dEx]⟩⟩, fun k hk => by simp [dEx] at hk⟩
  have hb0 : Below w.heap.size w (w.alloc (.cells #[.int .i64 1, .int .i64 7] 67)) := (Below.refl _ w).alloc (Nat.le_refl _) _
  have hb1 : Below w.heap.size w ((w.alloc (.cells #[.int .i64 1, .int .i64 7] 67)).alloc (.cells #[.int .u32 0, .slice (some ⟨w.heap.size, 0, none⟩) 1 1, .slice none 0 0] 25)) := hb0.alloc hb0.size _
  have HOK := Lib.hid (hok0.below ((Below.refl (w.alloc (.cells #[.int .i64 1, .int .i64 7] 67)).heap.size _).alloc (Nat.le_refl _) (.cells #[.int .u32 0, .slice (some ⟨w.heap.size, 0, none⟩) 1 1, .slice none 0 0] 25)))
  have HDM : Hid (((w.alloc (.cells #[.int .i64 1, .int .i64 7] 67)).alloc (.cells #[.int .u32 0, .slice (some ⟨w.heap.size, 0, none⟩) 1 1, .slice none 0 0] 25)).heap[w.heap.size + 1]? = some (.cells #[.int .u32 0, .slice (some ⟨w.heap.size, 0, none⟩) 1 1, .slice none 0 0] 25 (0, 0))) := Lib.hid (by
    have := heap_alloc_new (w.alloc (.cells #[.int .i64 1, .int .i64 7] 67)) (.cells #[.int .u32 0, .slice (some ⟨w.heap.size, 0, none⟩) 1 1, .slice none 0 0] 25)
    rw [show (w.alloc (.cells #[.int .i64 1, .int .i64 7] 67)).heap.size = w.heap.size + 1 from by simp] at this
    exact this)
  clear hok0 hr0
  go_enter Try.func11, Try.ntmps11
  go_wp2_with (rw [C.zero30])
  generalize (w.alloc (.cells #[.int .i64 1, .int .i64 7] 67)).alloc (.cells #[.int .u32 0, .slice (some ⟨w.heap.size, 0, none⟩) 1 1, .slice none 0 0] 25) = W0 at *
  refine (HPut.out W0).mono ?_
  rintro e w1 ⟨rfl, hb2⟩
  have hbw1 := hb1.trans (hb2.mono hb1.size)
  have HOK1 := Lib.hid (HOK.out.below hb2)
  have hdm1 := (hb2.block _ (heap_lt HDM.out)).trans HDM.out
  have HDM1 := Lib.hid hdm1
  have HN := Lib.hid (SetAt.new w1 0)
  have hbn : Below w1.heap.size w1 (w1.alloc (.cells (C.cv 0) 27)) := (Below.refl _ _).alloc (Nat.le_refl _) _
  clear hb2 HOK HDM hb0 hb1 hdm1
  go_wp2_with (first | (rw [C.zero30]; refine store_set rfl rfl rfl rfl HN.out ?_; intro w2 hs ho; have HS2 := Lib.hid hs; have hb12 := hbn.trans (ho.below (Nat.le_refl _)); have HOK2 := Lib.hid (HOK1.out.below hb12); have hdm2 := (hb12.block _ (heap_lt HDM1.out)).trans HDM1.out; have HDM2 := Lib.hid hdm2; have e0 := (cell_of_row w2 _ 0 _ _ (0, 0) hdm2).trans rfl; have e1 := (cell_of_row w2 _ 1 _ _ (0, 0) hdm2).trans rfl; have e2 := (cell_of_row w2 _ 2 _ _ (0, 0) hdm2).trans rfl; clear hs ho hdm2) | (refine load_set rfl rfl rfl HS2.out ?_) | (refine step_op rfl (run_op_build_lab (z := 1) (n := c) rfl (by simp [Act.eval, Act.put]) (by simp [Act.eval, Act.put])) ?_))
  refine (HO1.out _ w2 HOK2.out).mono ?_
  rintro e w3 ⟨rfl, hb3⟩
  have hb13 := hb12.trans (hb3.mono hb12.size)
  have hbw3 := hbw1.trans (hb13.mono hbw1.size)
  have HOK3 := Lib.hid (HOK2.out.below hb3)
  have hdm3 := (hb3.block _ (heap_lt HDM2.out)).trans HDM2.out
  have HDM3 := Lib.hid hdm3
  have HS3 := Lib.hid (HS2.out.below hb3 HS2.out.lt)
  have HN3 := Lib.hid (LabAt.new w3 0 0)
  have hbn3 : Below w3.heap.size w3 (w3.alloc (.cells (L.lv 0 0) 29)) := (Below.refl _ _).alloc (Nat.le_refl _) _
  clear hb3 hb12 hb13 HOK1 HOK2 HDM1 HDM2 HS2 HN hbn e0 e1 e2 hdm3 hbw1
  go_wp2_with (first | (rw [L.zero31]; refine store_lab rfl rfl rfl rfl HN3.out ?_; intro w4 hs ho; have HA4 := Lib.hid hs; have hb34 := hbn3.trans (ho.below (Nat.le_refl _)); have HOK4 := Lib.hid (HOK3.out.below hb34); have hdm4 := (hb34.block _ (heap_lt HDM3.out)).trans HDM3.out; have HS4 := Lib.hid (HS3.out.below hb34 HS3.out.lt); have e0 := (cell_of_row w4 _ 0 _ _ (0, 0) hdm4).trans rfl; have e1 := (cell_of_row w4 _ 1 _ _ (0, 0) hdm4).trans rfl; have e2 := (cell_of_row w4 _ 2 _ _ (0, 0) hdm4).trans rfl; clear hs ho hdm4) | (refine load_set rfl rfl rfl HS4.out ?_) | (refine step_op rfl (run_op_build_lab (z := 2) (n := c) rfl (by simp [Act.eval, Act.put]) (by simp [Act.eval, Act.put])) ?_))
  refine (HO2.out _ w4 HOK4.out).mono ?_
  rintro e w5 ⟨rfl, hb5⟩
  have hbw4 := hbw3.trans (hb34.mono hbw3.size)
  have hbw5 := hbw4.trans (hb5.mono hbw4.size)
  have HS5 := Lib.hid (HS4.out.below hb5 HS4.out.lt)
  have HA5 := Lib.hid (HA4.out.below hb5 HA4.out.lt)
  have HN5 := Lib.hid (LabAt.new w5 0 0)
  have hbn5 : Below w5.heap.size w5 (w5.alloc (.cells (L.lv 0 0) 29)) := (Below.refl _ _).alloc (Nat.le_refl _) _
  clear hb5 hb34 HOK3 HOK4 HDM3 HS3 HS4 HA4 HN3 hbn3 e0 e1 e2 hbw3 hbw4
  go_wp2_with (first | (rw [L.zero31]; refine store_lab rfl rfl rfl rfl HN5.out ?_; intro w6 hs ho; have hb56 := hbn5.trans (ho.below (Nat.le_refl _)); have HS6 := Lib.hid (HS5.out.below hb56 HS5.out.lt); have HA6 := Lib.hid (HA5.out.below hb56 HA5.out.lt); clear hs ho) | (refine load_lab rfl rfl rfl HA6.out ?_) | (refine load_set rfl rfl rfl HS6.out ?_) | (refine step_op rfl (run_op_build_lab (z := 7) (n := c) rfl (by simp [Act.eval, Act.put]) (by simp [Act.eval, Act.put])) ?_) | (refine step_op rfl (run_op_same_lab (z := 7) (n := c) rfl (by simp [Act.eval, Act.put]) (by simp [Act.eval, Act.put]) hc) ?_))
  go_ret
  exact ⟨rfl, hbw5.trans (hb56.mono hbw5.size)⟩
#print axioms doi_awake
end Go.Proofs.Ytdipoaekdafbeaa
