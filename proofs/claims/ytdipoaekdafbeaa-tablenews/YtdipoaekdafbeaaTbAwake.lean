/- The walk of layer 13's example. -/
import Derived.Test.YtdipoaekdafbeaaTbView
namespace Go.Proofs.Ytdipoaekdafbeaa
open Go.RowKit Go.Maps Go.ChangeMaps
set_option maxRecDepth 100000
set_option linter.unusedVariables false
open T

theorem L.zero31w (z : Int) : (#[.int .i64 z, .int .u8 0, .int .u8 0, .int .u8 0, .int .u8 0, .int .u8 0, .int .u8 0, .int .u8 0, .int .u8 0, .int .u8 0, .int .u8 0, .int .u8 0, .int .u8 0, .int .u8 0, .int .u8 0, .int .u8 0, .int .u8 0, .int .u8 0, .int .u8 0, .int .u8 0, .int .u8 0, .int .u8 0, .int .u8 0, .int .u8 0, .int .u8 0, .int .u8 0, .int .u8 0, .int .u8 0, .int .u8 0, .int .u8 0, .int .u8 0] : Array Value) = L.lv z 0 := by
  show _ = #[.int .i64 z] ++ C.cv 0
  rw [← C.zero30]
  simp
def ex3 (c : Nat) : Labs := [(0, 0), (1, 0), (1, c)]
theorem ex_up (c : Nat) (hc : c ≠ 0) : upTo (ex3 c) 3 := fun j hj => by
  have h : j = 0 ∨ j = 1 ∨ j = 2 := by omega
  rcases h with rfl | rfl | rfl
  · simp [addE, ex3, lab, D.lr]
  · simp [addE, ex3, lab, D.lr]
  · simp [addE, ex3, lab, D.lr, hc]
theorem ex_ok (c : Nat) (hc : c < 2 ^ 240) : ∀ p ∈ ex3 c, ok p := by
  intro p hp
  have h0 : (0 : Nat) < 2 ^ 240 := Nat.two_pow_pos _
  simp only [ex3, List.mem_cons, List.not_mem_nil, or_false] at hp
  rcases hp with rfl | rfl | rfl
  · exact ⟨⟨by omega, by omega⟩, h0⟩
  · exact ⟨⟨by omega, by omega⟩, h0⟩
  · exact ⟨⟨by omega, by omega⟩, hc⟩
theorem ex_in (c : Nat) (hc : c ≠ 0) : which (inP (0, 0) (1, 0)) (ex3 c) = [0, 1] := by
  have h : (0 : Nat) ≠ c := fun e => hc e.symm
  simp [which, whichTo, ex3, lab, inP, L.dom, List.range_succ, h]
theorem ex_below (c : Nat) : belowL (ex3 c) 2 = [0, 1, 2] := by
  simp [belowL, which, whichTo, ex3, lab, belowP, L.dom, List.range_succ]
theorem ex_put : C.put 0 3 true = C.one 3 := by
  unfold C.put
  rw [if_pos rfl, Nat.zero_or]
  exact C.oneI_in 3
theorem ex_one : C.one 3 ≠ 0 := by
  unfold C.one
  rw [if_pos (by omega)]
  exact Nat.ne_of_gt (Nat.two_pow_pos _)
theorem row2 (w : World) (g : Nat) (x y : Int) (h : w.heap[g]? = some (.cells #[.int .i64 x, .int .i64 y] 3 (0, 0))) : IRow w (some ⟨g, 0, none⟩) [x, y] := fun _ => ⟨g, 0, rfl, heap_lt h, fun k hk => by
  have : k = 0 ∨ k = 1 := by simp at hk; omega
  rcases this with rfl | rfl
  · exact (cell_of_row w g 0 _ _ (0, 0) h).trans rfl
  · exact (cell_of_row w g 1 _ _ (0, 0) h).trans rfl⟩
theorem row3 (w : World) (g : Nat) (x y z : Int) (h : w.heap[g]? = some (.cells #[.int .i64 x, .int .i64 y, .int .i64 z] 3 (0, 0))) : IRow w (some ⟨g, 0, none⟩) [x, y, z] := fun _ => ⟨g, 0, rfl, heap_lt h, fun k hk => by
  have : k = 0 ∨ k = 1 ∨ k = 2 := by simp at hk; omega
  rcases this with rfl | rfl | rfl
  · exact (cell_of_row w g 0 _ _ (0, 0) h).trans rfl
  · exact (cell_of_row w g 1 _ _ (0, 0) h).trans rfl
  · exact (cell_of_row w g 2 _ _ (0, 0) h).trans rfl⟩

set_option maxHeartbeats 8000000 in
theorem tab_awake (w : World) : Calls Try.prog 19 #[] w fun e w' => e = .returned (.bool true) ∧ Below w.heap.size w w' := by
  have HPut := Lib.hid (fun w => Put_any 0 3 true w)
  rw [ex_put] at HPut
  have hc0 := ex_one
  have hc : C.one 3 < 2 ^ 240 := C.one_lt 3
  generalize C.one 3 = c at *
  have HNew := Lib.hid (fun (r : Nat) (w' : World) (h : w'.heap[r]? = some (.cells (labsX (ex3 c)) 29 (0, 0))) => New_good (some ⟨r, 0, none⟩) 3 (ex3 c) w' (LRow.of_block h) (by simp [ex3]) (ex_ok c hc) (ex_up c hc0))
  have HWi := Lib.hid (fun g m cap ao w h => TWithin_any g m cap (ex3 c) ao (0, 0) (1, 0) w h (by simp [ex3]) (ex_ok c hc) (Nat.two_pow_pos _) (Nat.two_pow_pos _))
  have HBe := Lib.hid (fun g m cap ao w h => TBelow_any g m cap (ex3 c) ao 2 w h (by simp [ex3]) (ex_ok c hc))
  rw [ex_in c hc0] at HWi
  rw [ex_below c] at HBe
  have HI2 := Lib.hid (fun a b ca cb w ha hb => Ints_any a b ca cb [0, 1] [0, 1] w ha hb (by simp) (by simp))
  have HI3 := Lib.hid (fun a b ca cb w ha hb => Ints_any a b ca cb [0, 1, 2] [0, 1, 2] w ha hb (by simp) (by simp))
  go_enter Try.func19, Try.ntmps19
  go_wp2_with (first | rw [L.zero31] | rw [L.zero31w] | rw [C.zero30])
  refine (HPut.out w).mono ?_
  rintro e w1 ⟨rfl, hb1⟩
  go_wp2_with (first | (refine step_op rfl (run_op_build_lab (z := 1) (n := c) rfl (by simp [Act.eval, Act.put]) (by simp [Act.eval, Act.put])) ?_) | (refine step_op rfl (run_op_labs (ex3 c) rfl (by simp [Act.eval, Act.put, labV, ex3, List.zipIdx]) rfl (by simp [ex3]) (by simp [ex3])) ?_))
  have hb01 : Below w1.heap.size w1 (w1.alloc (.cells (labsX (ex3 c)) 29)) := (Below.refl _ _).alloc (Nat.le_refl _) _
  refine (HNew.out _ _ (heap_alloc_new w1 _)).mono ?_
  rintro e w2 ⟨g, rfl, htab, hb2⟩
  have hbw2 := hb1.trans ((hb01.trans (hb2.mono hb01.size)).mono hb1.size)
  obtain ⟨ao, cap, m, hT⟩ := htab.read
  have HT := Lib.hid hT
  have hl3 : (((ex3 c).length : Nat) : Int) = 3 := by simp [ex3]
  rw [hl3]
  clear hT htab hb2 hb01 HNew HPut hl3 hb1
  go_wp2_with fail
  rw [L.zero31]
  rw [L.zero31w]
  refine (HWi.out g m cap ao w2 HT.out).mono ?_
  rintro e w3 ⟨a3, c3, rfl, hr3, hb3⟩
  have hb3a : Below w3.heap.size w3 (w3.alloc (.cells #[.int .i64 0, .int .i64 1] 3)) := (Below.refl _ _).alloc (Nat.le_refl _) _
  have HI := Lib.hid (HI2.out a3 (some ⟨w3.heap.size, 0, none⟩) c3 2 _ (hr3.below hb3a) (row2 _ _ 0 1 (heap_alloc_new w3 (.cells #[.int .i64 0, .int .i64 1] 3))))
  have hbw3 := hbw2.trans (hb3.mono hbw2.size)
  have HT3 := Lib.hid ((HT.out.below hb3).below hb3a)
  have hbw3a := hbw3.trans (hb3a.mono hbw3.size)
  clear hr3 hb3 hb3a HWi HI2 HT hbw2 hbw3
  go_wp2_with fail
  refine HI.out.mono ?_
  rintro e w4 ⟨rfl, hb4⟩
  have HT4 := Lib.hid (HT3.out.below hb4)
  have hbw4 := hbw3a.trans (hb4.mono hbw3a.size)
  clear hb4 HI HT3 hbw3a
  go_wp2_with fail
  refine (HBe.out g m cap ao w4 HT4.out).mono ?_
  rintro e w5 ⟨a5, c5, rfl, hr5, hb5⟩
  have hb5a : Below w5.heap.size w5 (w5.alloc (.cells #[.int .i64 0, .int .i64 1, .int .i64 2] 3)) := (Below.refl _ _).alloc (Nat.le_refl _) _
  have HI := Lib.hid (HI3.out a5 (some ⟨w5.heap.size, 0, none⟩) c5 3 _ (hr5.below hb5a) (row3 _ _ 0 1 2 (heap_alloc_new w5 (.cells #[.int .i64 0, .int .i64 1, .int .i64 2] 3))))
  have hbw5 := hbw4.trans (hb5.mono hbw4.size)
  have hbw5a := hbw5.trans (hb5a.mono hbw5.size)
  clear hr5 hb5 hb5a HBe HI3 HT4 hbw4 hbw5
  go_wp2_with fail
  refine HI.out.mono ?_
  rintro e w6 ⟨rfl, hb6⟩
  have hbw6 := hbw5a.trans (hb6.mono hbw5a.size)
  go_wp2
  go_ret
  exact ⟨rfl, hbw6⟩
#print axioms tab_awake
end Go.Proofs.Ytdipoaekdafbeaa
