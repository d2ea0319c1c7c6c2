/- What is read of a table: a number's label, all labels, those of which something holds. -/
import Derived.Test.YtdipoaekdafbeaaTbNew
import Derived.Lib.SliceRun
namespace Go.Proofs.Ytdipoaekdafbeaa
open Go.RowKit Go.Maps Go.ChangeMaps
set_option maxRecDepth 100000
set_option linter.unusedVariables false
open T

namespace T
def atL (l : Labs) (n : Int) : Int × Nat := if 0 ≤ n ∧ n < l.length then lab l n.toNat else (0, 0)
def isAt (l : Labs) (n : Int) : Bool := decide (0 ≤ n ∧ n < l.length)
theorem which_at (p : Int × Nat → Bool) (l : Labs) : which p l = whichTo p l l.length := rfl
end T

set_option maxHeartbeats 4000000 in
theorem At_any (g m cap : Nat) (ls : Labs) (ao : Option Addr) (n : Int) (w : World) (h : TabR w g ls ao cap m) :
    Calls Try.prog 22 #[.pointer (some ⟨g, 0, none⟩), .int .i64 n] w fun e w' => e = .returned (.tuple #[.agg (L.lv (atL ls n).1 (atL ls n).2), .bool (isAt ls n)]) ∧ Below w.heap.size w w' := by
  have hb0 : Below w.heap.size w (w.alloc (.cells (L.lv 0 0) 29)) := (Below.refl _ w).alloc (Nat.le_refl _) _
  have hT := h.below hb0
  have HN := Lib.hid (LabAt.new w 0 0)
  have k0 := hT.c0
  have Hrow := Lib.hid hT.row
  obtain ⟨P, hP⟩ : ∃ P, atL ls n = P := ⟨_, rfl⟩
  obtain ⟨q, hq⟩ : ∃ q, isAt ls n = q := ⟨_, rfl⟩
  have HP := Lib.hid hP
  have HQ := Lib.hid hq
  rw [hP, hq]
  clear h hT hP hq
  by_cases h0 : n < 0
  · have G1 : Hid (P = (0, 0)) := Lib.hid (by rw [← HP.out]; unfold atL; rw [if_neg (by omega)])
    have G2 : Hid (q = false) := Lib.hid (by rw [← HQ.out]; unfold isAt; exact decide_eq_false (by omega))
    go_enter Try.func22, Try.ntmps22
    go_wp2_with (rw [L.zero31]; refine store_lab rfl rfl rfl rfl HN.out ?_; intro w9 hs ho; have HS9 := Lib.hid hs; have HO9 := Lib.hid ho; clear hs ho)
    exact ret_lab_tmp rfl rfl rfl rfl HS9.out ⟨by rw [G1.out, G2.out]; rfl, hb0.trans (HO9.out.below (Nat.le_refl _))⟩
  · by_cases h1 : n < ls.length
    · obtain ⟨k, rfl⟩ : ∃ k : Nat, n = k := ⟨n.toNat, by omega⟩
      have hk : k < ls.length := by omega
      obtain ⟨b, off, rfl, hbl, hr⟩ := labs_row Hrow.out k hk
      have HRo := Lib.hid (hr k hk _ (Below.refl _ _))
      have G1 : Hid (P = lab ls k) := Lib.hid (by rw [← HP.out]; unfold atL; rw [if_pos (by omega)]; rfl)
      have G2 : Hid (q = true) := Lib.hid (by rw [← HQ.out]; unfold isAt; exact decide_eq_true (by omega))
      generalize lab ls k = lk at *
      have h1' : ¬ (ls.length : Int) ≤ (k : Int) := by omega
      have h2' : (k : Int) < (ls.length : Int) := by omega
      clear hr
      go_enter Try.func22, Try.ntmps22
      go_wp2_with (rw [L.zero31])
      refine (Len_any g ls.length cap _ _ k0).mono ?_
      rintro e w2 ⟨rfl, hw2⟩
      subst hw2
      go_wp2_with (first | (refine load_mid_lab rfl rfl rfl HRo.out ?_) | (refine store_lab rfl rfl rfl rfl HN.out ?_; intro w9 hs ho; have HS9 := Lib.hid hs; have HO9 := Lib.hid ho; clear hs ho))
      exact ret_lab_tmp rfl rfl rfl rfl HS9.out ⟨by rw [G1.out, G2.out]; rfl, hb0.trans (HO9.out.below (Nat.le_refl _))⟩
    · have G1 : Hid (P = (0, 0)) := Lib.hid (by rw [← HP.out]; unfold atL; rw [if_neg (by omega)])
      have G2 : Hid (q = false) := Lib.hid (by rw [← HQ.out]; unfold isAt; exact decide_eq_false (by omega))
      have h1' : (ls.length : Int) ≤ n := by omega
      go_enter Try.func22, Try.ntmps22
      go_wp2_with (rw [L.zero31])
      refine (Len_any g ls.length cap _ _ k0).mono ?_
      rintro e w2 ⟨rfl, hw2⟩
      subst hw2
      go_wp2_with (rw [L.zero31]; refine store_lab rfl rfl rfl rfl HN.out ?_; intro w9 hs ho; have HS9 := Lib.hid hs; have HO9 := Lib.hid ho; clear hs ho)
      exact ret_lab_tmp rfl rfl rfl rfl HS9.out ⟨by rw [G1.out, G2.out]; rfl, hb0.trans (HO9.out.below (Nat.le_refl _))⟩
set_option maxHeartbeats 4000000 in
theorem At_nil (n : Int) (w : World) :
    Calls Try.prog 22 #[.pointer none, .int .i64 n] w fun e w' => e = .returned (.tuple #[.agg (L.lv 0 0), .bool false]) ∧ Below w.heap.size w w' := by
  have hb0 : Below w.heap.size w (w.alloc (.cells (L.lv 0 0) 29)) := (Below.refl _ w).alloc (Nat.le_refl _) _
  have HN := Lib.hid (LabAt.new w 0 0)
  by_cases h0 : n < 0
  · go_enter Try.func22, Try.ntmps22
    go_wp2_with (rw [L.zero31]; refine store_lab rfl rfl rfl rfl HN.out ?_; intro w9 hs ho; have HS9 := Lib.hid hs; have HO9 := Lib.hid ho; clear hs ho)
    exact ret_lab_tmp rfl rfl rfl rfl HS9.out ⟨rfl, hb0.trans (HO9.out.below (Nat.le_refl _))⟩
  · have h1' : (0 : Int) ≤ n := by omega
    go_enter Try.func22, Try.ntmps22
    go_wp2_with (rw [L.zero31])
    refine (Len_nil _).mono ?_
    rintro e w2 ⟨rfl, hw2⟩
    subst hw2
    go_wp2_with (rw [L.zero31]; refine store_lab rfl rfl rfl rfl HN.out ?_; intro w9 hs ho; have HS9 := Lib.hid hs; have HO9 := Lib.hid ho; clear hs ho)
    exact ret_lab_tmp rfl rfl rfl rfl HS9.out ⟨rfl, hb0.trans (HO9.out.below (Nat.le_refl _))⟩

theorem run_eql_some_nil (w : World) (t e : TypeId) (a : Addr) (n c n' c' : Nat) (h : Try.prog.underlying t = some (.slice e)) : (binOp .eql t (.slice (some a) n c) (.slice none n' c')).run Try.prog w = .ok (.bool false) w := by
  have := Lib.run_eql_slice_nil w t e (some a) n c n' c' h
  simpa using this
theorem run_eql_none_nil (w : World) (t e : TypeId) (n c n' c' : Nat) (h : Try.prog.underlying t = some (.slice e)) : (binOp .eql t (.slice none n c) (.slice none n' c')).run Try.prog w = .ok (.bool true) w := by
  have := Lib.run_eql_slice_nil w t e none n c n' c' h
  simpa using this
set_option maxHeartbeats 4000000 in
theorem Clone_any (a : Option Addr) (cap : Nat) (ls : Labs) (w : World) (h : LRow w a ls) (hnil : ls.length = 0 → a = none) (hl : ls.length ≤ 1000) :
    Calls Try.prog 45 #[.slice a ls.length cap] w fun e w' => ∃ ao cp, e = .returned (.slice ao ls.length cp) ∧ LRow w' ao ls ∧ Below w.heap.size w w' := by
  by_cases h0 : ls.length = 0
  · have e := hnil h0
    subst e
    obtain rfl : ls = [] := List.eq_nil_of_length_eq_zero h0
    have heq := fun w m c => run_eql_none_nil w 42 29 m c 0 0 Try.underlying42
    go_enter Try.func45, Try.ntmps45
    go_wp2
    go_ret
    first
      | exact ⟨none, 0, rfl, LRow.none _ _, Below.refl _ _⟩
      | exact ⟨LRow.none _ _, Below.refl _ _⟩
      | exact ⟨none, LRow.none _ _, Below.refl _ _⟩
      | exact ⟨none, ⟨0, rfl⟩, LRow.none _ _, Below.refl _ _⟩
  · obtain ⟨b, off, rfl, hb, _⟩ := h (by omega)
    have hb1 : Below w.heap.size w (w.alloc (.cells #[] 29)) := (Below.refl _ w).alloc (Nat.le_refl _) _
    have hv0 : VLab w.heap.size (some ⟨w.heap.size, 0, none⟩) 0 [] (w.alloc (.cells #[] 29)) := ⟨rfl, .inr ⟨w.heap.size, 0, #[], rfl, Nat.le_refl _, heap_alloc_new w _, Nat.le_refl _, Nat.zero_le _, rfl, rfl⟩⟩
    obtain ⟨ao', cap', W2, hrun, hV, hg⟩ := append_labs w.heap.size _ 0 [] ls _ hv0 (some ⟨b, off, none⟩) cap (h.below hb1) (by omega) 42 (by simp) hl (by simp)
    have hbw : Below w.heap.size w W2 := hb1.grown hg (by simp) hv0.own
    rw [List.nil_append] at hrun hV
    have HRun := Lib.hid hrun
    have HR := Lib.hid hV.row.1
    clear hrun hV hg hv0 h
    have heq := fun w m c => run_eql_some_nil w 42 29 ⟨b, off, none⟩ m c 0 0 Try.underlying42
    go_enter Try.func45, Try.ntmps45
    go_wp2_with (at_builtin; refine listAppend rfl _ _ _ _ rfl _ _ rfl rfl _ _ HRun.out ?_)
    go_ret
    exact ⟨_, _, rfl, HR.out, hbw⟩
set_option maxHeartbeats 4000000 in
theorem All_any (g m cap : Nat) (ls : Labs) (ao : Option Addr) (w : World) (h : TabR w g ls ao cap m) (hl : ls.length ≤ 1000) :
    Calls Try.prog 25 #[.pointer (some ⟨g, 0, none⟩)] w fun e w' => ∃ ao cp, e = .returned (.slice ao ls.length cp) ∧ LRow w' ao ls ∧ Below w.heap.size w w' := by
  have k0 := h.c0
  have HC := Lib.hid (Clone_any ao cap ls w h.row h.nil hl)
  clear h
  go_enter Try.func25, Try.ntmps25
  go_wp2_with fail
  refine HC.out.mono ?_
  rintro e w2 ⟨a2, c2, rfl, hr, hb2⟩
  have HR := Lib.hid hr
  clear hr HC
  go_wp2
  go_ret
  exact ⟨_, _, rfl, HR.out, hb2⟩
theorem All_nil (w : World) : Calls Try.prog 25 #[.pointer none] w fun e w' => e = .returned (.slice none 0 0) ∧ w' = w := by
  go_enter Try.func25, Try.ntmps25
  go_wp2
  go_ret
  exact ⟨rfl, rfl⟩

#print axioms At_any
#print axioms All_any
end Go.Proofs.Ytdipoaekdafbeaa
