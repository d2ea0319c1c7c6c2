/- The laws of layer 12, walked whole. -/
import Derived.Test.YtdipoaekdafbeaaDoAwake
import Derived.Test.YtdipoaekdafbeaaDoOpen
namespace Go.Proofs.Ytdipoaekdafbeaa
open Go.RowKit Go.Maps
set_option maxRecDepth 100000
set_option linter.unusedVariables false
open D

set_option maxHeartbeats 4000000 in
theorem DTells_any (d : Dm) (z : Int) (n : Nat) (w : World) (h : DOk w d) (hn : n < 2 ^ 240) (hz : I64 z) :
    Calls Try.prog 15 #[.agg d.v, .agg (L.lv z n)] w fun e w' => e = .returned (.bool (d.tellE z n false == 0)) ∧ Below w.heap.size w w' := by
  have hb0 : Below w.heap.size w ((w.alloc (.cells d.v 25)).alloc (.cells (L.lv z n) 29)) := ((Below.refl _ w).alloc (Nat.le_refl _) _).alloc (by simp) _
  have HL : Hid (LabAt ((w.alloc (.cells d.v 25)).alloc (.cells (L.lv z n) 29)) (w.heap.size + 1) z n) := Lib.hid (by
    have := LabAt.new (w.alloc (.cells d.v 25)) z n
    simpa using this)
  have HC := Lib.hid (DOut_any d z n _ (h.below hb0) hn hz)
  have hdv := Lib.hid (show d.v = #[.int .u32 d.num, .slice d.la d.lv.length d.lc, .slice d.ca d.ct.length d.cc] from rfl)
  rw [hdv.out]
  rw [hdv.out] at HL hb0 HC
  generalize d.tellZ z n false = Z at *
  generalize d.tellN z n false = N at *
  generalize d.tellE z n false = E at *
  go_enter Try.func15, Try.ntmps15
  go_wp2_with (refine load_lab rfl rfl rfl HL.out ?_)
  refine HC.out.mono ?_
  rintro e w2 ⟨rfl, hb2⟩
  have hbw2 := hb0.trans (hb2.mono hb0.size)
  have HN := Lib.hid (LabAt.new w2 0 0)
  have hbn : Below w2.heap.size w2 (w2.alloc (.cells (L.lv 0 0) 29)) := (Below.refl _ _).alloc (Nat.le_refl _) _
  clear hb2 HC HL hb0
  go_wp2_with (rw [L.zero31]; refine store_lab rfl rfl rfl rfl HN.out ?_; intro w9 hs ho; have hb9 := hbn.trans (ho.below (Nat.le_refl _)); clear hs ho)
  go_ret
  exact ⟨rfl, hbw2.trans (hb9.mono hbw2.size)⟩

#print axioms DTells_any
end Go.Proofs.Ytdipoaekdafbeaa
