/- Whether a label lies in a range, or below one. -/
import Derived.Test.YtdipoaekdafbeaaTbAt
namespace Go.Proofs.Ytdipoaekdafbeaa
open Go.RowKit Go.Maps Go.ChangeMaps
set_option maxRecDepth 100000
set_option linter.unusedVariables false
open T

set_option maxHeartbeats 4000000 in
theorem In_any (x lo hi : Int × Nat) (w : World) (hx : x.2 < 2 ^ 240) (hlo : lo.2 < 2 ^ 240) (hhi : hi.2 < 2 ^ 240) :
    Calls Try.prog 49 #[.agg (L.lv x.1 x.2), .agg (L.lv lo.1 lo.2), .agg (L.lv hi.1 hi.2)] w fun e w' => e = .returned (.bool (inP lo hi x)) ∧ Below w.heap.size w w' := by
  have HA := Lib.hid (((LabAt.new w x.1 x.2).alloc (.cells (L.lv lo.1 lo.2) 29)).alloc (.cells (L.lv hi.1 hi.2) 29))
  have HB : Hid (LabAt (((w.alloc (.cells (L.lv x.1 x.2) 29)).alloc (.cells (L.lv lo.1 lo.2) 29)).alloc (.cells (L.lv hi.1 hi.2) 29)) (w.heap.size + 1) lo.1 lo.2) := Lib.hid (by
    have := (LabAt.new (w.alloc (.cells (L.lv x.1 x.2) 29)) lo.1 lo.2).alloc (.cells (L.lv hi.1 hi.2) 29); simpa using this)
  have HC : Hid (LabAt (((w.alloc (.cells (L.lv x.1 x.2) 29)).alloc (.cells (L.lv lo.1 lo.2) 29)).alloc (.cells (L.lv hi.1 hi.2) 29)) (w.heap.size + 1 + 1) hi.1 hi.2) := Lib.hid (by
    have := LabAt.new ((w.alloc (.cells (L.lv x.1 x.2) 29)).alloc (.cells (L.lv lo.1 lo.2) 29)) hi.1 hi.2; simpa using this)
  have hb0 : Below w.heap.size w (((w.alloc (.cells (L.lv x.1 x.2) 29)).alloc (.cells (L.lv lo.1 lo.2) 29)).alloc (.cells (L.lv hi.1 hi.2) 29)) := (((Below.refl _ w).alloc (Nat.le_refl _) _).alloc (by simp) _).alloc (by simp; omega) _
  have HD1 := Lib.hid (fun w => Dom_any x.1 x.2 lo.1 lo.2 w hx hlo)
  have HD2 := Lib.hid (fun w => Dom_any hi.1 hi.2 x.1 x.2 w hhi hx)
  have HR : Hid (inP lo hi x = (L.dom x.1 x.2 lo.1 lo.2 && L.dom hi.1 hi.2 x.1 x.2)) := Lib.hid rfl
  rw [HR.out]
  generalize L.dom x.1 x.2 lo.1 lo.2 = p at *
  generalize L.dom hi.1 hi.2 x.1 x.2 = q at *
  clear HR
  go_enter Try.func49, Try.ntmps49
  go_wp2_with (first | (refine load_lab rfl rfl rfl HA.out ?_) | (refine load_lab rfl rfl rfl HB.out ?_))
  refine (HD1.out _).mono ?_
  rintro e w2 ⟨rfl, hb2⟩
  have HA2 := Lib.hid (HA.out.below hb2 HA.out.lt)
  have HC2 := Lib.hid (HC.out.below hb2 HC.out.lt)
  have hbw2 := hb0.trans (hb2.mono hb0.size)
  clear hb2 HA HB HC hb0
  cases p
  · go_wp2
    go_ret
    exact ⟨rfl, hbw2⟩
  · go_wp2_with (first | (refine load_lab rfl rfl rfl HA2.out ?_) | (refine load_lab rfl rfl rfl HC2.out ?_))
    refine (HD2.out _).mono ?_
    rintro e w3 ⟨rfl, hb3⟩
    have hbw3 := hbw2.trans (hb3.mono hbw2.size)
    go_wp2
    go_ret
    exact ⟨rfl, hbw3⟩
set_option maxHeartbeats 4000000 in
theorem rdom_any (z : Int) (n : Nat) (y : Int) (m : Nat) (w : World) (hm : m < 2 ^ 240) :
    Calls Try.prog 27 #[.agg (L.lv z n), .agg (L.lv y m)] w fun e w' => e = .returned (.bool (L.dom z n y m)) ∧ Below w.heap.size w w' := by
  have HA := Lib.hid ((LabAt.new w z n).alloc (.cells (L.lv y m) 29))
  have HB : Hid (LabAt ((w.alloc (.cells (L.lv z n) 29)).alloc (.cells (L.lv y m) 29)) (w.heap.size + 1) y m) := Lib.hid (by have := LabAt.new (w.alloc (.cells (L.lv z n) 29)) y m; simpa using this)
  have hb0 : Below w.heap.size w ((w.alloc (.cells (L.lv z n) 29)).alloc (.cells (L.lv y m) 29)) := ((Below.refl _ w).alloc (Nat.le_refl _) _).alloc (by simp) _
  have h1 := HA.out.level
  have h2 := HB.out.level
  have HW := Lib.hid (fun w => RWithin_any m n w hm)
  have hmm : decide (C.meet m [n] = m) = decide (m &&& n = m) := by rw [C.meet_one]
  rw [hmm] at HW
  clear hmm
  have HD : Hid (L.dom z n y m = (decide (y ≤ z) && decide (m &&& n = m))) := Lib.hid rfl
  obtain ⟨D, hD⟩ : ∃ D, L.dom z n y m = D := ⟨_, rfl⟩
  have HR := Lib.hid hD
  rw [hD]
  clear hD
  by_cases hyz : y ≤ z
  · have G : Hid (D = decide (m &&& n = m)) := Lib.hid (by rw [← HR.out, HD.out, decide_eq_true hyz]; rfl)
    generalize decide (m &&& n = m) = q at *
    go_enter Try.func27, Try.ntmps27
    go_wp2_with (first | (refine load_labcats rfl rfl rfl HA.out ?_) | (refine load_labcats rfl rfl rfl HB.out ?_))
    refine (HW.out _).mono ?_
    rintro e w1 ⟨rfl, hb1⟩
    go_wp2
    go_ret
    exact ⟨by rw [G.out]; rfl, hb0.trans (hb1.mono hb0.size)⟩
  · have G : Hid (D = false) := Lib.hid (by rw [← HR.out, HD.out, decide_eq_false hyz]; rfl)
    clear HD HW
    go_enter Try.func27, Try.ntmps27
    go_wp2
    go_ret
    exact ⟨by rw [G.out]; rfl, hb0⟩


set_option maxHeartbeats 4000000 in
theorem holdsIn (x : Int × Nat) (w : World) (hx : x.2 < 2 ^ 240) (lo hi : Int × Nat) (hlo : lo.2 < 2 ^ 240) (hhi : hi.2 < 2 ^ 240) (c1 c2 : Nat) (hc1 : LabAt w c1 lo.1 lo.2) (hc2 : LabAt w c2 hi.1 hi.2) :
    Calls Try.prog 48 #[.agg (L.lv x.1 x.2), .pointer (some ⟨c1, 0, none⟩), .pointer (some ⟨c2, 0, none⟩)] w fun e w' => e = .returned (.bool (inP lo hi x)) ∧ Below w.heap.size w w' := by
  have hb0 : Below w.heap.size w (w.alloc (.cells (L.lv x.1 x.2) 29)) := (Below.refl _ w).alloc (Nat.le_refl _) _
  have HX := Lib.hid (LabAt.new w x.1 x.2)
  have H1 := Lib.hid (hc1.alloc (.cells (L.lv x.1 x.2) 29))
  have H2 := Lib.hid (hc2.alloc (.cells (L.lv x.1 x.2) 29))
  have HC := Lib.hid (fun w => In_any x lo hi w hx hlo hhi)
  clear hc1 hc2
  generalize inP lo hi x = q at *
  go_enter Try.func48, Try.ntmps48
  go_wp2_with (first | (refine load_lab rfl rfl rfl HX.out ?_) | (refine load_lab rfl rfl rfl H1.out ?_) | (refine load_lab rfl rfl rfl H2.out ?_))
  refine (HC.out _).mono ?_
  rintro e w2 ⟨rfl, hb2⟩
  have hbw2 := hb0.trans (hb2.mono hb0.size)
  go_wp2
  go_ret
  exact ⟨rfl, hbw2⟩

set_option maxHeartbeats 4000000 in
theorem holdsBel (x : Int × Nat) (w : World) (hx : x.2 < 2 ^ 240) (t : Int × Nat) (ht : t.2 < 2 ^ 240) (c1 : Nat) (hc1 : LabAt w c1 t.1 t.2) :
    Calls Try.prog 50 #[.agg (L.lv x.1 x.2), .pointer (some ⟨c1, 0, none⟩)] w fun e w' => e = .returned (.bool (belowP t x)) ∧ Below w.heap.size w w' := by
  have hb0 : Below w.heap.size w (w.alloc (.cells (L.lv x.1 x.2) 29)) := (Below.refl _ w).alloc (Nat.le_refl _) _
  have HX := Lib.hid (LabAt.new w x.1 x.2)
  have H1 := Lib.hid (hc1.alloc (.cells (L.lv x.1 x.2) 29))
  have HC : Hid (∀ w, Calls Try.prog 51 #[.agg (L.lv t.1 t.2), .agg (L.lv x.1 x.2)] w fun e w' => e = .returned (.bool (belowP t x)) ∧ Below w.heap.size w w') := Lib.hid (fun w => Dom_any t.1 t.2 x.1 x.2 w ht hx)
  clear hc1
  generalize belowP t x = q at *
  go_enter Try.func50, Try.ntmps50
  go_wp2_with (first | (refine load_lab rfl rfl rfl HX.out ?_) | (refine load_lab rfl rfl rfl H1.out ?_))
  refine (HC.out _).mono ?_
  rintro e w2 ⟨rfl, hb2⟩
  have hbw2 := hb0.trans (hb2.mono hb0.size)
  go_wp2
  go_ret
  exact ⟨rfl, hbw2⟩

#print axioms holdsIn
end Go.Proofs.Ytdipoaekdafbeaa
