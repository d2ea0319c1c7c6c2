/- The walks of whether all of a set is in another one. -/
import Derived.Test.YtdipoaekdafbeaaCtGen
import Derived.BigFrame
import Derived.Deep.Light
namespace Go.Proofs.Ytdipoaekdafbeaa
open Go.RowKit
set_option maxRecDepth 100000
set_option linter.unusedVariables false

theorem setNew (w : World) (n g : Nat) (h : g = w.heap.size) : SetAt (w.alloc (.cells (C.cv n) 27)) g n := by rw [h]; exact SetAt.new w n

namespace C
theorem bit_has (n j : Nat) (h : j < 240) : n.testBit j = hasN n (239 - j) := by
  unfold hasN
  rw [decide_eq_true (show 239 - j < 240 by omega), Bool.true_and, show 239 - (239 - j) = j by omega]
theorem has_and (a b k : Nat) : hasN (a &&& b) k = (hasN a k && hasN b k) := by
  unfold hasN
  rw [Nat.testBit_and]
  cases decide (k < 240) <;> simp
theorem has_or (a b k : Nat) : hasN (a ||| b) k = (hasN a k || hasN b k) := by
  unfold hasN
  rw [Nat.testBit_or]
  cases decide (k < 240) <;> simp
theorem ext {a b : Nat} (ha : a < 2 ^ 240) (hb : b < 2 ^ 240) (h : ∀ k, k < 240 → hasN a k = hasN b k) : a = b := by
  apply Nat.eq_of_testBit_eq
  intro j
  by_cases hj : j < 240
  · rw [bit_has a j hj, bit_has b j hj]; exact h _ (by omega)
  · have p : 2 ^ 240 ≤ 2 ^ j := Nat.pow_le_pow_right (by decide) (by omega)
    rw [Nat.testBit_lt_two_pow (by omega), Nat.testBit_lt_two_pow (by omega)]
theorem within_yes {a b : Nat} (ha : a < 2 ^ 240) (h : ∀ k, k < 240 → hasN a k = true → hasN b k = true) : C.meet a [b] = a := by
  show a &&& b = a
  refine ext (and_lt b ha) ha fun k hk => ?_
  rw [has_and]
  cases ha' : hasN a k
  · rfl
  · rw [h k hk ha']; rfl
theorem within_no {a b k : Nat} (h1 : hasN a k = true) (h2 : hasN b k = false) : ¬ C.meet a [b] = a := fun h => by
  have h' : a &&& b = a := h
  have := has_and a b k
  rw [h', h1, h2] at this
  cases this
end C

set_option maxHeartbeats 8000000 in
theorem RWithin_any (a b : Nat) (w : World) (ha : a < 2 ^ 240) :
    Calls Try.prog 46 #[.agg (C.cv a), .agg (C.cv b)] w fun e w' => e = .returned (.bool (decide (C.meet a [b] = a))) ∧ Below w.heap.size w w' := by
  have HA := Lib.hid ((SetAt.new w a).alloc (.cells (C.cv b) 27))
  have HB := Lib.hid (setNew (w.alloc (.cells (C.cv a) 27)) b (w.heap.size + 1) (by simp))
  have hb0 : Below w.heap.size w ((w.alloc (.cells (C.cv a) 27)).alloc (.cells (C.cv b) 27)) := ((Below.refl _ w).alloc (Nat.le_refl _) _).alloc (by simp) _
  have HY := Lib.hid (fun h => C.within_yes (b := b) ha h)
  have HN := Lib.hid (fun k h1 h2 => C.within_no (a := a) (b := b) (k := k) h1 h2)
  obtain ⟨r, hr⟩ : ∃ r, decide (C.meet a [b] = a) = r := ⟨_, rfl⟩
  have Hr := Lib.hid hr
  rw [hr]
  clear hr ha
  go_enter Try.func46, Try.ntmps46
  go_wp2
  go_loopw [5] (fun i wr => ∃ k : Nat, k ≤ 240 ∧ i = .int .i64 k ∧ Hid (∀ j, j < k → C.hasN a j = true → C.hasN b j = true) ∧ SetAt wr w.heap.size a ∧ SetAt wr (w.heap.size + 1) b ∧ Below w.heap.size w wr) (fun i _ => 240 - (intOf i).toNat)
  case atStart => exact ⟨0, by omega, rfl, Lib.hid (fun j hj => by omega), HA.out, HB.out, hb0⟩
  case round =>
    obtain ⟨k, hk, rfl, Hall, hsa, hsb, hb⟩ := hrel
    clear HA HB hb0
    have hbs := hb.size
    by_cases hlt : k < 240
    · have hk' : (k : Int) < 240 := by omega
      have HA := Lib.hid hsa
      have HB := Lib.hid hsb
      have la := hsa.lt
      have lb := hsb.lt
      clear hsa hsb
      cases h1 : C.hasN a k
      · go_wp2_with (refine load_set rfl rfl rfl HA.out ?_)
        refine (RHas_in a k _ hlt false h1).mono ?_
        rintro e w2 ⟨rfl, hb2⟩
        have H1 := Lib.hid h1
        have hbw := hb.trans (hb2.mono hbs)
        have HA2 := Lib.hid (HA.out.below hb2 la)
        have HB2 := Lib.hid (HB.out.below hb2 lb)
        clear hb2 h1 hb HA HB
        go_wp2
        go_roundw
        case rel => exact ⟨k + 1, by omega, by go_num, Lib.hid (fun j hj h => by
          by_cases e : j = k
          · subst e; rw [H1.out] at h; cases h
          · exact Hall.out j (by omega) h), HA2.out, HB2.out, hbw⟩
        case measure => simp [intOf]; omega
      · go_wp2_with (refine load_set rfl rfl rfl HA.out ?_)
        refine (RHas_in a k _ hlt true h1).mono ?_
        rintro e w2 ⟨rfl, hb2⟩
        have H1 := Lib.hid h1
        have hbw := hb.trans (hb2.mono hbs)
        have HA2 := Lib.hid (HA.out.below hb2 la)
        have HB2 := Lib.hid (HB.out.below hb2 lb)
        have hbs2 := hbw.size
        have la2 := HA2.out.lt
        have lb2 := HB2.out.lt
        clear hb2 h1 hb HA HB
        cases h2 : C.hasN b k
        · go_wp2_with (refine load_set rfl rfl rfl HB2.out ?_)
          refine (RHas_in b k _ hlt false h2).mono ?_
          rintro e w3 ⟨rfl, hb3⟩
          have H2 := Lib.hid h2
          have hbw3 := hbw.trans (hb3.mono hbs2)
          clear hb3 h2 hbw
          go_wp2
          go_ret
          exact ⟨ret_bool (by rw [← Hr.out]; exact (decide_eq_false (HN.out k H1.out H2.out)).symm), hbw3⟩
        · go_wp2_with (refine load_set rfl rfl rfl HB2.out ?_)
          refine (RHas_in b k _ hlt true h2).mono ?_
          rintro e w3 ⟨rfl, hb3⟩
          have H2 := Lib.hid h2
          have hbw3 := hbw.trans (hb3.mono hbs2)
          have HA3 := Lib.hid (HA2.out.below hb3 la2)
          have HB3 := Lib.hid (HB2.out.below hb3 lb2)
          clear hb3 h2 hbw HA2 HB2
          go_wp2
          go_roundw
          case rel => exact ⟨k + 1, by omega, by go_num, Lib.hid (fun j hj h => by
            by_cases e : j = k
            · subst e; exact H2.out
            · exact Hall.out j (by omega) h), HA3.out, HB3.out, hbw3⟩
          case measure => simp [intOf]; omega
    · obtain rfl : k = 240 := by omega
      clear hsa hsb
      go_wp2
      go_ret
      exact ⟨ret_bool (by rw [← Hr.out]; exact (decide_eq_true (HY.out Hall.out)).symm), hb⟩

#print axioms RWithin_any
end Go.Proofs.Ytdipoaekdafbeaa
