/- Which pairs are right: by maps, as the program has it; by going through them, as the document's answer has it; a number, told. -/
import Derived.Test.YtdipoaekdafbeaaDoLow
namespace Go.Proofs.Ytdipoaekdafbeaa
open Go.RowKit Go.Maps
set_option maxRecDepth 100000
set_option linter.unusedVariables false
open D

set_option maxHeartbeats 4000000 in
theorem arePairs_any (most : Int) (a : Option Addr) (cap : Nat) (l : Pairs) (w : World) (h : PRow w a l) (hl : l.length ≤ 1000) (hw : PWf l) :
    Calls Try.prog 40 #[.slice a l.length cap, .int .i64 most] w fun e w' => e = .returned (.bool (decide (POk most l))) ∧ Below w.heap.size w w' := by
  have Hrow := Lib.hid h
  clear h
  obtain ⟨R, hR⟩ : ∃ R, decide (POk most l) = R := ⟨_, rfl⟩
  have HR := Lib.hid hR
  rw [hR]
  clear hR
  by_cases h256 : 256 < l.length
  · have G : Hid (R = false) := Lib.hid (by rw [← HR.out]; exact decide_eq_false fun h => by have := h.1; omega)
    have h256' : (256 : Int) < (l.length : Int) := by omega
    go_enter Try.func40, Try.ntmps40
    go_wp2
    go_ret
    exact ⟨by rw [G.out]; rfl, Below.refl _ _⟩
  have h256' : ¬ (256 : Int) < (l.length : Int) := by omega
  go_enter Try.func40, Try.ntmps40
  go_wp2
  go_loopw [12] (fun i wr => ∃ k : Nat, k ≤ l.length ∧ i = .int .i64 k ∧ (∀ j, j < k → rng most (pt l j)) ∧ Below w.heap.size w wr) (fun i _ => l.length - (intOf i).toNat)
  case atStart => exact ⟨0, Nat.zero_le _, rfl, fun j hj => absurd hj (by omega), Below.refl _ _⟩
  case round =>
    obtain ⟨k, hk, rfl, hyes, hb⟩ := hrel
    have hbs := hb.size
    by_cases hlt : k < l.length
    · obtain ⟨b, off, rfl, hbl, c0, c1⟩ := Hrow.out.then hb k hlt
      have Hy := Lib.hid hyes
      have Hn : Hid (¬ rng most (pt l k) → R = false) := Lib.hid (fun hn => by rw [← HR.out]; exact decide_eq_false fun h => hn (h.2.1 k hlt))
      have Hs : Hid (rng most (pt l k) → ∀ j, j < k + 1 → rng most (pt l j)) := Lib.hid (fun hr j hj => by
        rcases Nat.lt_or_ge j k with h1 | h1
        · exact Hy.out j h1
        · obtain rfl : j = k := by omega
          exact hr)
      generalize hp : pt l k = p at *
      obtain ⟨x, y⟩ := p
      have hlt' : (k : Int) < (l.length : Int) := by omega
      have hb1 := hb.alloc hbs (.cells #[.int .i64 x, .int .i64 y] 67)
      clear hyes hp hb
      by_cases c2 : min x y < 0
      · have G : Hid (R = false) := Lib.hid (Hn.out fun h => by have := h.1; have := h.2.2.1; simp at *; omega)
        go_wp2
        all_goals go_ret
        all_goals exact ⟨by rw [G.out]; rfl, hb1⟩
      by_cases c3 : most < max x y
      · have G : Hid (R = false) := Lib.hid (Hn.out fun h => by have := h.2.1; have := h.2.2.2; simp at *; omega)
        go_wp2
        all_goals go_ret
        all_goals exact ⟨by rw [G.out]; rfl, hb1⟩
      · have G : Hid (∀ j, j < k + 1 → rng most (pt l j)) := Lib.hid (Hs.out ⟨by simp; omega, by simp; omega, by simp; omega, by simp; omega⟩)
        go_wp2
        all_goals (go_roundw <;> first | exact ⟨k + 1, by omega, by go_num, G.out, hb1⟩ | (simp [intOf]; omega))
    · obtain rfl : k = l.length := by omega
      have hlt' : ¬ (l.length : Int) < (l.length : Int) := by omega
      have HC := Lib.hid (POk_code most l (by omega) hyes)
      clear hyes
      by_cases h0 : (Maps.size (metD false l) : Int) = l.length
      · have h0b : decide ((Maps.size (metD false l) : Int) = l.length) = true := decide_eq_true h0
        go_wp2_with fail
        refine (met_any false a cap l wr (Hrow.out.below hb) hl hw).mono ?_
        rintro e w2 ⟨g, rfl, hown, _, hb2⟩
        have hbw := hb.trans (hb2.mono hbs)
        have hlen := hown.len Try.underlying91 3
        rw [h0] at hlen
        clear hown
        go_wp2_with fail
        refine (met_any true a cap l w2 (Hrow.out.below hbw) hl hw).mono ?_
        rintro e w3 ⟨g3, rfl, hown3, _, hb3⟩
        have hbw3 := hbw.trans (hb3.mono hbw.size)
        have hlen3 := hown3.len Try.underlying91 3
        have G : Hid (R = decide ((Maps.size (metD true l) : Int) = l.length)) := Lib.hid (by rw [← HR.out, HC.out, h0b, Bool.true_and])
        clear hown3 hlen
        generalize (Maps.size (metD true l) : Int) = s at *
        go_wp2
        go_ret
        exact ⟨by rw [G.out]; rfl, hbw3⟩
      · have h0b : decide ((Maps.size (metD false l) : Int) = l.length) = false := decide_eq_false h0
        have G : Hid (R = false) := Lib.hid (by rw [← HR.out, HC.out, h0b]; rfl)
        go_wp2_with fail
        refine (met_any false a cap l wr (Hrow.out.below hb) hl hw).mono ?_
        rintro e w2 ⟨g, rfl, hown, _, hb2⟩
        have hbw := hb.trans (hb2.mono hbs)
        have hlen := hown.len Try.underlying91 3
        clear hown
        generalize (Maps.size (metD false l) : Int) = s at *
        go_wp2
        go_ret
        exact ⟨by rw [G.out]; rfl, hbw⟩

set_option maxHeartbeats 4000000 in
theorem rpairs_any (most : Int) (a : Option Addr) (cap : Nat) (l : Pairs) (w : World) (h : PRow w a l) (hl : l.length ≤ 1000) :
    Calls Try.prog 41 #[.slice a l.length cap, .int .i64 most] w fun e w' => e = .returned (.bool (decide (POk most l))) ∧ Below w.heap.size w w' := by
  have Hrow := Lib.hid h
  clear h
  obtain ⟨R, hR⟩ : ∃ R, decide (POk most l) = R := ⟨_, rfl⟩
  have HR := Lib.hid hR
  rw [hR]
  clear hR
  go_enter Try.func41, Try.ntmps41
  go_wp2
  go_loopw [5] (fun i wr => ∃ k : Nat, k ≤ l.length ∧ i = .int .i64 k ∧ (∀ j, j < k → rng most (pt l j) ∧ ∀ m, m < j → apart (pt l m) (pt l j)) ∧ Below w.heap.size w wr) (fun i _ => l.length - (intOf i).toNat)
  case atStart => exact ⟨0, Nat.zero_le _, rfl, fun j hj => absurd hj (by omega), Below.refl _ _⟩
  case round =>
    obtain ⟨k, hk, rfl, hyes, hb⟩ := hrel
    have hbs := hb.size
    by_cases hlt : k < l.length
    · obtain ⟨b, off, rfl, hbl, c0, c1⟩ := Hrow.out.then hb k hlt
      have Hy := Lib.hid hyes
      have Hn : Hid (¬ rng most (pt l k) → R = false) := Lib.hid (fun hn => by rw [← HR.out]; exact decide_eq_false fun h => hn (h.2.1 k hlt))
      have Hp : Hid (∀ m, m < k → ¬ apart (pt l m) (pt l k) → R = false) := Lib.hid (fun m hm hn => by rw [← HR.out]; exact decide_eq_false fun h => hn (h.2.2 k hlt m hm))
      have Hs : Hid (rng most (pt l k) → (∀ m, m < k → apart (pt l m) (pt l k)) → ∀ j, j < k + 1 → rng most (pt l j) ∧ ∀ m, m < j → apart (pt l m) (pt l j)) := Lib.hid (fun hr ha j hj => by
        rcases Nat.lt_or_ge j k with h1 | h1
        · exact Hy.out j h1
        · obtain rfl : j = k := by omega
          exact ⟨hr, ha⟩)
      generalize hp : pt l k = p at *
      obtain ⟨x, y⟩ := p
      have hlt' : (k : Int) < (l.length : Int) := by omega
      have Hq := Lib.hid hp
      clear hyes hp
      by_cases hr : rng most (x, y)
      · have r1 : 0 ≤ x := hr.1
        have r2 : x ≤ most := hr.2.1
        have r3 : 0 ≤ y := hr.2.2.1
        have r4 : y ≤ most := hr.2.2.2
        have Hr := Lib.hid hr
        clear hr
        go_wp2
        go_loopw [6] (fun i wr => ∃ m : Nat, m ≤ k ∧ i = .int .i64 m ∧ (∀ j, j < m → apart (pt l j) (x, y)) ∧ Below w.heap.size w wr) (fun i _ => k - (intOf i).toNat)
        case atStart => exact ⟨0, Nat.zero_le _, rfl, fun j hj => absurd hj (by omega), hb⟩
        case round =>
          obtain ⟨m, hm, rfl, hap, hbi⟩ := hrel
          clear c0 c1 hb
          by_cases hlm : m < k
          · obtain ⟨b2, off2, e2, _, d0, d1⟩ := Hrow.out.then hbi m (by omega)
            obtain ⟨b3, off3, e3, _, c0, c1⟩ := Hrow.out.then hbi k hlt
            injection e2 with e2
            injection e2 with e2 e2'
            injection e3 with e3
            injection e3 with e3 e3'
            subst e2 e2' e3 e3'
            rw [Hq.out] at c0 c1
            have Hp' : Hid (¬ apart (pt l m) (x, y) → R = false) := Lib.hid (Hp.out m hlm)
            generalize hq : pt l m = q at *
            obtain ⟨u, v⟩ := q
            have Hm := Lib.hid hq
            have hkl : (k : Int) < (l.length : Int) := by omega
            have hml : (m : Int) < (l.length : Int) := by omega
            have hlm' : (m : Int) < (k : Int) := by omega
            have Hap := Lib.hid hap
            clear hap hq
            by_cases hx : u = x
            · have G : Hid (R = false) := Lib.hid (Hp'.out fun h => h.1 hx)
              go_wp2
              go_quiet (fail)
              go_wp2
              go_ret
              exact ⟨by rw [G.out]; rfl, below_drewN hbi _⟩
            by_cases hy : v = y
            · have G : Hid (R = false) := Lib.hid (Hp'.out fun h => h.2 hy)
              go_wp2
              go_quiet (fail)
              go_wp2
              go_ret
              exact ⟨by rw [G.out]; rfl, below_drewN hbi _⟩
            · have G : Hid (∀ j, j < m + 1 → apart (pt l j) (x, y)) := Lib.hid (fun j hj => by
                rcases Nat.lt_or_ge j m with h1 | h1
                · exact Hap.out j h1
                · obtain rfl : j = m := by omega
                  rw [Hm.out]
                  exact ⟨hx, hy⟩)
              have hx' : (u == x) = false := by simpa using hx
              have hy' : (v == y) = false := by simpa using hy
              go_wp2
              go_quiet (fail)
              go_wp2
              all_goals (go_roundw <;> first | exact ⟨m + 1, by omega, by go_num, G.out, below_drewN hbi _⟩ | (simp [intOf]; omega))
          · obtain rfl : m = k := by omega
            have G := Lib.hid (Hs.out Hr.out hap)
            have hlm' : ¬ (m : Int) < (m : Int) := by omega
            clear hap
            go_wp2
            go_roundw
            case rel => exact ⟨m + 1, by omega, by go_num, G.out, hbi⟩
            case measure => simp [intOf]; omega
      · have G := Lib.hid (Hn.out hr)
        have hr' : x < 0 ∨ most < x ∨ y < 0 ∨ most < y := by
          simp only [rng] at hr
          omega
        clear hr
        by_cases r1 : x < 0
        · go_wp2
          go_ret
          exact ⟨by rw [G.out]; rfl, hb⟩
        by_cases r2 : most < x
        · go_wp2
          go_ret
          exact ⟨by rw [G.out]; rfl, hb⟩
        by_cases r3 : y < 0
        · go_wp2
          go_ret
          exact ⟨by rw [G.out]; rfl, hb⟩
        · have r4 : most < y := by omega
          go_wp2
          go_ret
          exact ⟨by rw [G.out]; rfl, hb⟩
    · obtain rfl : k = l.length := by omega
      have hlt' : ¬ (l.length : Int) < (l.length : Int) := by omega
      have G : Hid (R = decide ((l.length : Int) ≤ 256)) := Lib.hid (by
        rw [← HR.out, decide_eq_decide]
        constructor
        · intro h; have := h.1; omega
        · intro h; exact ⟨by omega, fun i hi => (hyes i hi).1, fun i hi => (hyes i hi).2⟩)
      clear hyes
      go_wp2
      go_ret
      exact ⟨by rw [G.out]; rfl, hb⟩
#print axioms arePairs_any
#print axioms rpairs_any
end Go.Proofs.Ytdipoaekdafbeaa
