/- The walk of layer 9's examples. -/
import Derived.Test.YtmaddfjgiflkbaaDoorLbParse
import Derived.Test.YtmaddfjgiflkbaaDoorCtTexts
namespace Go.Proofs.YtmaddfjgiflkbaaDoor
set_option maxRecDepth 100000
open Go.RowKit
set_option maxRecDepth 100000
set_option linter.unusedVariables false

theorem lex_a : L.parseIs ⟨#[51, 58, 49]⟩ = #[.agg (L.lv 3 (C.one 1)), .bool true] := by
  have : L.parse ⟨#[51, 58, 49]⟩ = some (3, C.one 1) := by kernel_rfl
  unfold L.parseIs; rw [this]
theorem lex_b : L.parseIs ⟨#[50, 58, 50]⟩ = #[.agg (L.lv 2 (C.one 2)), .bool true] := by
  have : L.parse ⟨#[50, 58, 50]⟩ = some (2, C.one 2) := by kernel_rfl
  unfold L.parseIs; rw [this]
theorem lex_t : L.text 3 (C.one 1 ||| C.one 2) = ⟨#[51, 58, 49, 44, 50]⟩ := by kernel_rfl
theorem lex_d : L.dom 3 (C.one 1) 2 (C.one 2) = false := by kernel_rfl

set_option maxHeartbeats 8000000 in
theorem lab_awake (w : World) (Ld : LaidF w) :
    Calls Tryd.prog 32 #[] w fun e w' => e = .returned (.bool true) ∧ Below w.heap.size w w' := by
  have HP1 := Lib.hid (fun w Ld => LParse_any ⟨#[51, 58, 49]⟩ w Ld (by decide))
  have HP2 := Lib.hid (fun w Ld => LParse_any ⟨#[50, 58, 50]⟩ w Ld (by decide))
  rw [lex_a] at HP1
  rw [lex_b] at HP2
  have HJ := Lib.hid (fun (r : Nat) (w' : World) (h : w'.heap[r]? = some (.cells (labsX [(2, C.one 2)]) 39 (0, 0))) => LJoin_any 3 (C.one 1) (some ⟨r, 0, none⟩) 1 [(2, C.one 2)] w' (LRow.of_block h) (by simp))
  simp only [L.joinZ, L.joinN, List.foldl_cons, List.foldl_nil] at HJ
  rw [show max (3 : Int) 2 = 3 from rfl] at HJ
  have HT := Lib.hid (fun w Tb => LText_any 3 (C.one 1 ||| C.one 2) w Tb)
  rw [lex_t] at HT
  have HD := Lib.hid (fun w => Dom_any 3 (C.one 1) 2 (C.one 2) w (C.one_lt 1) (C.one_lt 2))
  rw [lex_d] at HD
  have HL0 := Lib.hid Ld
  clear Ld
  generalize C.one 1 ||| C.one 2 = ab at *
  generalize C.one 1 = a at *
  generalize C.one 2 = b at *
  go_enter Tryd.func32, Tryd.ntmps32
  go_wp2_with fail
  refine (HP1.out _ HL0.out).mono ?_
  rintro e w1 ⟨rfl, hb1⟩
  have HL1 := Lib.hid (HL0.out.below hb1)
  have hz1 := hb1.size
  have HN := Lib.hid (LabAt.new w1 0 0)
  have z4 := HL1.out.tabl.size
  clear HL0
  go_wp2_with (rw [L.zero31]; refine store_lab rfl rfl rfl rfl HN.out ?_; intro w2 hs ho; have HA2 := Lib.hid hs; have ho2 := Lib.hid ho; clear hs ho)
  have hb12 : Below w1.heap.size w1 w2 := ((Below.refl _ w1).alloc (Nat.le_refl _) _).trans (ho2.out.below (Nat.le_refl _))
  have HL2 := Lib.hid (HL1.out.below hb12)
  have hbw2 := hb1.trans (hb12.mono hz1)
  clear hb1 hb12 HL1 HN ho2 z4
  generalize w1.heap.size = g1 at *
  refine (HP2.out _ HL2.out).mono ?_
  rintro e w3 ⟨rfl, hb3⟩
  have HL3 := Lib.hid (HL2.out.below hb3)
  have HA3 := Lib.hid (HA2.out.below hb3 HA2.out.lt)
  have hbw3 := hbw2.trans (hb3.mono hbw2.size)
  have hz3 := hbw3.size
  have HN3 := Lib.hid (LabAt.new w3 0 0)
  have zA := HA3.out.lt
  clear hb3 HA2 HL2 hbw2 HP1 HP2
  go_wp2_with (first | (rw [L.zero31]; refine store_lab rfl rfl rfl rfl HN3.out ?_; intro w4 hs ho; have HB4 := Lib.hid hs; have HA4 := Lib.hid ((HA3.out.alloc (.cells (L.lv 0 0) 39)).only ho (by omega)); have ho4 := Lib.hid ho; clear hs ho) | (refine load_lab rfl rfl rfl HA4.out ?_) | (refine load_lab rfl rfl rfl HB4.out ?_) | (refine step_opq rfl (run_op_labs [(2, b)] rfl (by simp [Act.eval, Act.put, labV]) rfl (by simp) (by simp)) ?_))
  have hb34 : Below w3.heap.size w3 w4 := ((Below.refl _ w3).alloc (Nat.le_refl _) _).trans (ho4.out.below (Nat.le_refl _))
  have HL4 := Lib.hid (HL3.out.below hb34)
  have hbw4 := hbw3.trans (hb34.mono hz3)
  have zA4 := HA4.out.lt
  have zB4 := HB4.out.lt
  clear hb34 HN3 HA3 HL3 hbw3 ho4
  generalize w3.heap.size = g3 at *
  refine (HJ.out _ _ (heap_alloc_new w4 _)).mono ?_
  rintro e w5 ⟨rfl, hb5⟩
  have hb45 : Below w4.heap.size w4 w5 := ((Below.refl _ w4).alloc (Nat.le_refl _) _).trans (hb5.mono (by simp))
  have HL5 := Lib.hid (HL4.out.below hb45)
  have HA5 := Lib.hid (HA4.out.below hb45 zA4)
  have HB5 := Lib.hid (HB4.out.below hb45 zB4)
  have hbw5 := hbw4.trans (hb45.mono hbw4.size)
  clear hb5 hb45 HL4 HA4 HB4 hbw4 HJ
  go_wp2_with fail
  refine (HT.out _ HL5.out.tabl).mono ?_
  rintro e w6 ⟨rfl, hb6⟩
  have HA6 := Lib.hid (HA5.out.below hb6 HA5.out.lt)
  have HB6 := Lib.hid (HB5.out.below hb6 HB5.out.lt)
  have hbw6 := hbw5.trans (hb6.mono hbw5.size)
  clear hb6 HA5 HB5 hbw5 HL5 HT
  go_wp2_with (first | (refine load_lab rfl rfl rfl HA6.out ?_) | (refine load_lab rfl rfl rfl HB6.out ?_))
  refine (HD.out _).mono ?_
  rintro e w7 ⟨rfl, hb7⟩
  have hbw7 := hbw6.trans (hb7.mono hbw6.size)
  go_wp2
  go_ret
  exact ⟨rfl, hbw7⟩
#print axioms lab_awake
end Go.Proofs.YtmaddfjgiflkbaaDoor
