/- Ranges of a table; two lists of numbers held against one another. -/
import Derived.Test.YtdipoaekdafbeaaTbWhich
namespace Go.Proofs.Ytdipoaekdafbeaa
open Go.RowKit Go.Maps Go.ChangeMaps
set_option maxRecDepth 100000
set_option linter.unusedVariables false
open T


set_option maxHeartbeats 4000000 in
theorem TWithin_any (g m cap : Nat) (ls : Labs) (ao : Option Addr) (lo hi : Int × Nat) (w : World) (h : TabR w g ls ao cap m) (hl : ls.length ≤ 1000) (hok : ∀ p ∈ ls, ok p) (hlo : lo.2 < 2 ^ 240) (hhi : hi.2 < 2 ^ 240) :
    Calls Try.prog 29 #[.pointer (some ⟨g, 0, none⟩), .agg (L.lv lo.1 lo.2), .agg (L.lv hi.1 hi.2)] w fun e w' => ∃ ao cp, e = .returned (.slice ao (which (inP lo hi) ls).length cp) ∧ IRow w' ao (which (inP lo hi) ls) ∧ Below w.heap.size w w' := by
  have hb0 : Below w.heap.size w ((w.alloc (.cells (L.lv lo.1 lo.2) 29)).alloc (.cells (L.lv hi.1 hi.2) 29)) := ((Below.refl _ w).alloc (Nat.le_refl _) _).alloc (by simp) _
  have h2 : LabAt ((w.alloc (.cells (L.lv lo.1 lo.2) 29)).alloc (.cells (L.lv hi.1 hi.2) 29)) (w.heap.size + 1) hi.1 hi.2 := by
    have := LabAt.new (w.alloc (.cells (L.lv lo.1 lo.2) 29)) hi.1 hi.2; simpa using this
  have HC := Lib.hid (whichIn g m cap ls ao _ (h.below hb0) hl hok lo hi hlo hhi w.heap.size (w.heap.size + 1) ((LabAt.new w lo.1 lo.2).alloc (.cells (L.lv hi.1 hi.2) 29)) h2)
  generalize which (inP lo hi) ls = r at *
  clear h hok h2
  go_enter Try.func29, Try.ntmps29
  go_wp2_with fail
  refine HC.out.mono ?_
  rintro e w2 ⟨a2, c2, rfl, hr, hb2⟩
  have HR := Lib.hid hr
  have hbw := hb0.trans (hb2.mono hb0.size)
  clear hr HC
  go_wp2
  go_ret
  exact ⟨_, _, rfl, HR.out, hbw⟩
set_option maxHeartbeats 4000000 in
theorem Within_nil (z : Int) (n : Nat) (y : Int) (m : Nat) (w : World) :
    Calls Try.prog 29 #[.pointer none, .agg (L.lv z n), .agg (L.lv y m)] w fun e w' => e = .returned (.slice none 0 0) ∧ Below w.heap.size w w' := by
  have hb0 : Below w.heap.size w ((w.alloc (.cells (L.lv z n) 29)).alloc (.cells (L.lv y m) 29)) := ((Below.refl _ w).alloc (Nat.le_refl _) _).alloc (by simp) _
  go_enter Try.func29, Try.ntmps29
  go_wp2_with fail
  refine (whichIn_nil _ _).mono ?_
  rintro e w2 ⟨rfl, hb2⟩
  have hbw := hb0.trans (hb2.mono hb0.size)
  go_wp2
  go_ret
  exact ⟨rfl, hbw⟩
set_option maxHeartbeats 4000000 in
theorem TBelow_any (g m cap : Nat) (ls : Labs) (ao : Option Addr) (n : Int) (w : World) (h : TabR w g ls ao cap m) (hl : ls.length ≤ 1000) (hok : ∀ p ∈ ls, ok p) :
    Calls Try.prog 31 #[.pointer (some ⟨g, 0, none⟩), .int .i64 n] w fun e w' => ∃ ao cp, e = .returned (.slice ao (belowL ls n).length cp) ∧ IRow w' ao (belowL ls n) ∧ Below w.heap.size w w' := by
  have HT := Lib.hid h
  have Hok := Lib.hid hok
  have HA := Lib.hid (At_any g m cap ls ao n w h)
  clear h hok
  by_cases hn : 0 ≤ n ∧ n < ls.length
  · have e1 : isAt ls n = true := decide_eq_true hn
    have e2 : belowL ls n = which (belowP (atL ls n)) ls := by unfold belowL atL; rw [if_pos hn, if_pos hn]
    have ht : (atL ls n).2 < 2 ^ 240 := by
      unfold atL
      rw [if_pos hn]
      exact (Hok.out _ (lab_mem ls _ (by omega))).2
    rw [e2]
    rw [e1] at HA
    have HW := Lib.hid (fun w' (hb : Below w.heap.size w w') (c1 : Nat) (hc : LabAt w' c1 (atL ls n).1 (atL ls n).2) => whichBel g m cap ls ao w' (HT.out.below hb) hl Hok.out (atL ls n) ht c1 hc)
    generalize which (belowP (atL ls n)) ls = r at *
    generalize atL ls n = t at *
    clear e1 e2 hn
    go_enter Try.func31, Try.ntmps31
    go_wp2_with fail
    refine HA.out.mono ?_
    rintro e w2 ⟨rfl, hb2⟩
    have HN := Lib.hid (LabAt.new w2 0 0)
    have hbn : Below w2.heap.size w2 (w2.alloc (.cells (L.lv 0 0) 29)) := (Below.refl _ _).alloc (Nat.le_refl _) _
    clear HA
    go_wp2_with (rw [L.zero31]; refine store_lab rfl rfl rfl rfl HN.out ?_; intro w3 hs ho; have HS3 := Lib.hid hs; have hb3 := hb2.trans ((hbn.trans (ho.below (Nat.le_refl _))).mono hb2.size); clear hs ho)
    refine (HW.out w3 hb3 _ HS3.out).mono ?_
    rintro e w4 ⟨a4, c4, rfl, hr, hb4⟩
    have HR := Lib.hid hr
    have hbw := hb3.trans (hb4.mono hb3.size)
    clear hr HW HS3
    go_wp2
    go_ret
    first | exact ⟨_, ⟨_, rfl⟩, HR.out, hbw⟩ | exact ⟨_, _, rfl, HR.out, hbw⟩
  · have e1 : isAt ls n = false := decide_eq_false hn
    have e2 : belowL ls n = [] := by unfold belowL; rw [if_neg hn]
    rw [e2]
    rw [e1] at HA
    generalize atL ls n = t at *
    clear e1 e2 hn
    go_enter Try.func31, Try.ntmps31
    go_wp2_with fail
    refine HA.out.mono ?_
    rintro e w2 ⟨rfl, hb2⟩
    have HN := Lib.hid (LabAt.new w2 0 0)
    have hbn : Below w2.heap.size w2 (w2.alloc (.cells (L.lv 0 0) 29)) := (Below.refl _ _).alloc (Nat.le_refl _) _
    clear HA
    go_wp2_with (rw [L.zero31]; refine store_lab rfl rfl rfl rfl HN.out ?_; intro w3 hs ho; have hb3 := hb2.trans ((hbn.trans (ho.below (Nat.le_refl _))).mono hb2.size); clear hs ho)
    go_ret
    first | exact ⟨none, ⟨0, rfl⟩, fun h => absurd h (by simp), hb3⟩ | exact ⟨none, 0, rfl, fun h => absurd h (by simp), hb3⟩
set_option maxHeartbeats 4000000 in
theorem Below_nil (n : Int) (w : World) :
    Calls Try.prog 31 #[.pointer none, .int .i64 n] w fun e w' => e = .returned (.slice none 0 0) ∧ Below w.heap.size w w' := by
  go_enter Try.func31, Try.ntmps31
  go_wp2_with fail
  refine (At_nil n w).mono ?_
  rintro e w2 ⟨rfl, hb2⟩
  have HN := Lib.hid (LabAt.new w2 0 0)
  have hbn : Below w2.heap.size w2 (w2.alloc (.cells (L.lv 0 0) 29)) := (Below.refl _ _).alloc (Nat.le_refl _) _
  go_wp2_with (rw [L.zero31]; refine store_lab rfl rfl rfl rfl HN.out ?_; intro w3 hs ho; have hb3 := hb2.trans ((hbn.trans (ho.below (Nat.le_refl _))).mono hb2.size); clear hs ho)
  go_ret
  exact ⟨rfl, hb3⟩

set_option maxHeartbeats 4000000 in
theorem Ints_any (a b : Option Addr) (ca cb : Nat) (la lb : List Int) (w : World) (ha : IRow w a la) (hb : IRow w b lb) (hla : la.length ≤ 1000) (hlb : lb.length ≤ 1000) :
    Calls Try.prog 28 #[.slice a la.length ca, .slice b lb.length cb] w fun e w' => e = .returned (.bool (decide (la = lb))) ∧ Below w.heap.size w w' := by
  have HA := Lib.hid ha
  have HB := Lib.hid hb
  clear ha hb
  obtain ⟨R, hR⟩ : ∃ R, decide (la = lb) = R := ⟨_, rfl⟩
  have HR := Lib.hid hR
  rw [hR]
  clear hR
  by_cases hlen : la.length = lb.length
  · have hne : ((la.length : Int) != (lb.length : Int)) = false := by simp; omega
    go_enter Try.func28, Try.ntmps28
    go_wp2
    go_loopw [5] (fun i wr => ∃ k : Nat, k ≤ la.length ∧ i = .int .i64 k ∧ (∀ j, j < k → la.getD j 0 = lb.getD j 0) ∧ Below w.heap.size w wr) (fun i _ => la.length - (intOf i).toNat)
    case atStart => exact ⟨0, Nat.zero_le _, rfl, fun j hj => by omega, Below.refl _ _⟩
    case round =>
      obtain ⟨k, hk, rfl, hall, hbr⟩ := hrel
      have Hall := Lib.hid hall
      clear hall hne
      by_cases hlt : k < la.length
      · obtain ⟨b1, o1, rfl, _, c1⟩ := HA.out.then hbr k hlt
        obtain ⟨b2, o2, rfl, _, c2⟩ := HB.out.then hbr k (by omega)
        have HY : Hid (la.getD k 0 = lb.getD k 0 → ∀ j, j < k + 1 → la.getD j 0 = lb.getD j 0) := Lib.hid (fun h j hj => by
          rcases Nat.lt_or_ge j k with h1 | h1
          · exact Hall.out j h1
          · obtain rfl : j = k := by omega
            exact h)
        have HNo : Hid (la.getD k 0 ≠ lb.getD k 0 → R = false) := Lib.hid (fun h => by rw [← HR.out]; exact decide_eq_false fun e => h (by rw [e]))
        generalize la.getD k 0 = x at *
        generalize lb.getD k 0 = y at *
        have h1' : (k : Int) < (la.length : Int) := by omega
        have h2' : (k : Int) < (lb.length : Int) := by omega
        by_cases hxy : x = y
        · have G := Lib.hid (HY.out hxy)
          have hxy' : (x != y) = false := by simpa using hxy
          clear hxy
          go_wp2
          go_quiet (fail)
          go_wp2
          go_roundw
          case rel => exact ⟨k + 1, by omega, by go_num, G.out, below_drewN hbr _⟩
          case measure => simp [intOf]; omega
        · have G := Lib.hid (HNo.out hxy)
          have hxy' : (x != y) = true := by simpa using hxy
          clear hxy
          go_wp2
          go_quiet (fail)
          go_wp2
          go_ret
          exact ⟨by rw [G.out]; rfl, below_drewN hbr _⟩
      · obtain rfl : k = la.length := by omega
        have h1' : ¬ (la.length : Int) < (la.length : Int) := by omega
        have G : Hid (R = true) := Lib.hid (by
          rw [← HR.out]
          refine decide_eq_true (List.ext_getElem hlen fun i h1 h2 => ?_)
          have := Hall.out i h1
          rw [List.getD_eq_getElem?_getD, List.getElem?_eq_getElem h1, List.getD_eq_getElem?_getD, List.getElem?_eq_getElem h2] at this
          simpa using this)
        go_wp2
        go_ret
        exact ⟨by rw [G.out]; rfl, hbr⟩
  · have hne : ((la.length : Int) != (lb.length : Int)) = true := by simp; omega
    have G : Hid (R = false) := Lib.hid (by rw [← HR.out]; exact decide_eq_false fun e => hlen (by rw [e]))
    go_enter Try.func28, Try.ntmps28
    go_wp2
    go_ret
    exact ⟨by rw [G.out]; rfl, Below.refl _ _⟩
#print axioms TWithin_any
#print axioms TBelow_any
#print axioms Ints_any
end Go.Proofs.Ytdipoaekdafbeaa
