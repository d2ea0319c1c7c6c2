/- TableNone, walked whole. -/
import Derived.Test.YtdipoaekdafbeaaTbAwake
namespace Go.Proofs.Ytdipoaekdafbeaa
open Go.RowKit Go.Maps Go.ChangeMaps
set_option maxRecDepth 100000
set_option linter.unusedVariables false
open T

set_option maxHeartbeats 8000000 in
theorem none_all (n : Int) (z : Int) (c : Nat) (w : World) : Calls Try.prog 8 #[.int .i64 n, .agg (L.lv z c)] w fun e w' => e = .returned (.bool true) ∧ Below w.heap.size w w' := by
  have hb0 : Below w.heap.size w (w.alloc (.cells (L.lv z c) 29)) := (Below.refl _ w).alloc (Nat.le_refl _) _
  have HL := Lib.hid (LabAt.new w z c)
  go_enter Try.func8, Try.ntmps8
  go_wp2_with fail
  refine (At_nil n _).mono ?_
  rintro e w1 ⟨rfl, hb1⟩
  have HL1 := Lib.hid (HL.out.below hb1 HL.out.lt)
  have hbw1 := hb0.trans (hb1.mono hb0.size)
  have HN := Lib.hid (LabAt.new w1 0 0)
  have hbn : Below w1.heap.size w1 (w1.alloc (.cells (L.lv 0 0) 29)) := (Below.refl _ _).alloc (Nat.le_refl _) _
  clear hb1 HL hb0
  go_wp2_with (first | (rw [L.zero31]; refine store_lab rfl rfl rfl rfl HN.out ?_; intro w2 hs ho; have hb12 := hbn.trans (ho.below (Nat.le_refl _)); have HL2 := Lib.hid (HL1.out.below hb12 HL1.out.lt); clear hs ho) | (refine load_lab rfl rfl rfl HL2.out ?_))
  have hbw2 := hbw1.trans (hb12.mono hbw1.size)
  refine (Find_nil z c _).mono ?_
  rintro e w3 ⟨rfl, hb3⟩
  have HL3 := Lib.hid (HL2.out.below hb3 HL2.out.lt)
  have hbw3 := hbw2.trans (hb3.mono hbw2.size)
  clear hb3 hb12 HL1 HL2 hbn HN hbw1 hbw2
  go_wp2_with fail
  refine (Len_nil _).mono ?_
  rintro e w4 ⟨rfl, hw4⟩
  have hw5 := hw4.symm
  clear hw4
  subst hw5
  go_wp2_with (refine load_lab rfl rfl rfl HL3.out ?_)
  refine (Within_nil z c z c _).mono ?_
  rintro e w5 ⟨rfl, hb5⟩
  have hbw5 := hbw3.trans (hb5.mono hbw3.size)
  clear hb5 HL3 hbw3
  go_wp2_with fail
  refine (Below_nil n _).mono ?_
  rintro e w6 ⟨rfl, hb6⟩
  have hbw6 := hbw5.trans (hb6.mono hbw5.size)
  clear hb6 hbw5
  go_wp2_with fail
  refine (All_nil _).mono ?_
  rintro e w7 ⟨rfl, hw7⟩
  have hw8 := hw7.symm
  clear hw7
  subst hw8
  go_wp2_with fail
  refine (tab_awake _).mono ?_
  rintro e w8 ⟨rfl, hb8⟩
  have hbw8 := hbw6.trans (hb8.mono hbw6.size)
  go_wp2
  go_ret
  exact ⟨rfl, hbw8⟩
#print axioms none_all
end Go.Proofs.Ytdipoaekdafbeaa
