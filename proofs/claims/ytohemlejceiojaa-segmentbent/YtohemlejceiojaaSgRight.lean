/- The walks of whether a segment is right, by the program and by the document. -/
import Derived.Test.YtohemlejceiojaaSgMath
import Derived.WalkKit
import Derived.WalkSmall
import Derived.WalkSpells
import Derived.Lib.Hide
namespace Go.Proofs.Ytohemlejceiojaa
open Go.RowKit
set_option linter.unusedVariables false

theorem isShort_yes (x : Int) (w : World) (h : S.fits x) : Calls Try.prog 16 #[.int .i64 x] w fun e w' => e = .returned (.bool true) ∧ w = w' := by
  obtain ⟨h1, h2⟩ := h
  go_enter Try.func16, Try.ntmps16
  go_wp2
  go_ret
  exact ⟨rfl, rfl⟩
theorem isShort_no (x : Int) (w : World) (h : ¬ S.fits x) : Calls Try.prog 16 #[.int .i64 x] w fun e w' => e = .returned (.bool false) ∧ w = w' := by
  by_cases h1 : 0 ≤ x
  · have h2 : ¬ x ≤ 65535 := fun h3 => h ⟨h1, h3⟩
    clear h
    go_enter Try.func16, Try.ntmps16
    go_wp2
    go_ret
    exact ⟨rfl, rfl⟩
  · clear h
    go_enter Try.func16, Try.ntmps16
    go_wp2
    go_ret
    exact ⟨rfl, rfl⟩

set_option maxHeartbeats 4000000 in
theorem sright_any (p sp dp sq ak fl wi : Int) (d : ByteArray) (w : World) (hd : d.size ≤ 100000) (q : Bool) (hq : q = S.right p sp dp sq ak fl wi d.size) :
    Calls Try.prog 8 #[.int .i64 p, sg sp dp sq ak fl wi d] w fun e w' => e = .returned (.bool q) ∧ Below w.heap.size w w' := by
  have hb0 : Below w.heap.size w (w.alloc (sgO sp dp sq ak fl wi d)) := (Below.refl _ w).alloc (Nat.le_refl _) _
  have Hq : Hid (q = decide (S.Right p sp dp sq ak fl wi d.size)) := Lib.hid hq
  clear hq
  go_enter Try.func8, Try.ntmps8
  go_wp2_with fail
  by_cases h1 : S.fits sp
  case neg =>
    have hq : q = false := by rw [Hq.out]; exact decide_eq_false (by unfold S.Right S.fits at *; omega)
    subst hq
    clear Hq
    refine (isShort_no sp _ h1).mono ?_
    rintro e w1 ⟨rfl, rfl⟩
    go_wp2
    go_ret
    exact ⟨rfl, hb0⟩
  refine (isShort_yes sp _ h1).mono ?_
  rintro e w1 ⟨rfl, rfl⟩
  go_wp2_with fail
  by_cases h2 : S.fits dp
  case neg =>
    have hq : q = false := by rw [Hq.out]; exact decide_eq_false (by unfold S.Right S.fits at *; omega)
    subst hq
    clear Hq
    refine (isShort_no dp _ h2).mono ?_
    rintro e w1 ⟨rfl, rfl⟩
    go_wp2
    go_ret
    exact ⟨rfl, hb0⟩
  refine (isShort_yes dp _ h2).mono ?_
  rintro e w1 ⟨rfl, rfl⟩
  have H1 := Lib.hid h1
  have H2 := Lib.hid h2
  clear h1 h2
  by_cases h6 : p = 6
  · subst h6
    by_cases h3 : 0 ≤ fl
    case neg =>
      have hq : q = false := by rw [Hq.out]; have f0 := H1.out; have f1 := H2.out; exact decide_eq_false (by unfold S.Right S.fits at *; omega)
      subst hq
      clear Hq
      go_wp2
      go_ret
      exact ⟨rfl, hb0⟩
    by_cases h4 : fl ≤ 63
    case neg =>
      have hq : q = false := by rw [Hq.out]; have f0 := H1.out; have f1 := H2.out; exact decide_eq_false (by unfold S.Right S.fits at *; omega)
      subst hq
      clear Hq
      go_wp2
      go_ret
      exact ⟨rfl, hb0⟩
    go_wp2_with fail
    by_cases h5 : S.fits wi
    case neg =>
      have hq : q = false := by rw [Hq.out]; have f0 := H1.out; have f1 := H2.out; exact decide_eq_false (by unfold S.Right S.fits at *; omega)
      subst hq
      clear Hq
      refine (isShort_no wi _ h5).mono ?_
      rintro e w1 ⟨rfl, rfl⟩
      go_wp2
      go_ret
      exact ⟨rfl, hb0⟩
    refine (isShort_yes wi _ h5).mono ?_
    rintro e w1 ⟨rfl, rfl⟩
    have H5 := Lib.hid h5
    clear h5
    by_cases h7 : (d.size : Int) ≤ 65495
    case neg =>
      have hq : q = false := by rw [Hq.out]; have f0 := H1.out; have f1 := H2.out; have f2 := H5.out; exact decide_eq_false (by unfold S.Right S.fits at *; omega)
      subst hq
      clear Hq
      go_wp2
      go_ret
      first | exact ⟨rfl, hb0⟩ | exact ⟨by show Ending.returned (.bool (decide ((d.size : Int) ≤ 65495))) = _; rw [decide_eq_false (by omega)], hb0⟩
    have hq : q = true := by rw [Hq.out]; have f0 := H1.out; have f1 := H2.out; have f2 := H5.out; exact decide_eq_true (by unfold S.Right S.fits at *; omega)
    subst hq
    clear Hq
    go_wp2
    go_ret
    first | exact ⟨rfl, hb0⟩ | exact ⟨by show Ending.returned (.bool (decide ((d.size : Int) ≤ 65495))) = _; rw [decide_eq_true (by omega)], hb0⟩
  have e6 : (p == 6) = false := by simpa using h6
  have E6 := Lib.hid h6
  clear h6
  by_cases h17 : p = 17
  case neg =>
    have e17 : (p == 17) = false := by simpa using h17
    have hq : q = false := by rw [Hq.out]; have f0 := E6.out; have f1 := h17; have f2 := H1.out; have f3 := H2.out; exact decide_eq_false (by unfold S.Right S.fits at *; omega)
    subst hq
    clear Hq
    clear h17
    go_wp2
    go_ret
    exact ⟨rfl, hb0⟩
  subst h17
  by_cases hsq : sq = 0
  case neg =>
    have e : (sq == 0) = false := by simpa using hsq
    have hq : q = false := by rw [Hq.out]; have f0 := H1.out; have f1 := H2.out; exact decide_eq_false (by unfold S.Right S.fits at *; omega)
    subst hq
    clear Hq
    go_wp2
    go_ret
    exact ⟨rfl, hb0⟩
  subst hsq
  by_cases hak : ak = 0
  case neg =>
    have e : (ak == 0) = false := by simpa using hak
    have hq : q = false := by rw [Hq.out]; have f0 := H1.out; have f1 := H2.out; exact decide_eq_false (by unfold S.Right S.fits at *; omega)
    subst hq
    clear Hq
    go_wp2
    go_ret
    exact ⟨rfl, hb0⟩
  subst hak
  by_cases hfl : fl = 0
  case neg =>
    have e : (fl == 0) = false := by simpa using hfl
    have hq : q = false := by rw [Hq.out]; have f0 := H1.out; have f1 := H2.out; exact decide_eq_false (by unfold S.Right S.fits at *; omega)
    subst hq
    clear Hq
    go_wp2
    go_ret
    exact ⟨rfl, hb0⟩
  subst hfl
  by_cases hwi : wi = 0
  case neg =>
    have e : (wi == 0) = false := by simpa using hwi
    have hq : q = false := by rw [Hq.out]; have f0 := H1.out; have f1 := H2.out; exact decide_eq_false (by unfold S.Right S.fits at *; omega)
    subst hq
    clear Hq
    go_wp2
    go_ret
    exact ⟨rfl, hb0⟩
  subst hwi
  by_cases h7 : (d.size : Int) ≤ 65507
  case neg =>
    have hq : q = false := by rw [Hq.out]; have f0 := H1.out; have f1 := H2.out; exact decide_eq_false (by unfold S.Right S.fits at *; omega)
    subst hq
    clear Hq
    go_wp2
    go_ret
    first | exact ⟨rfl, hb0⟩ | exact ⟨by show Ending.returned (.bool (decide ((d.size : Int) ≤ 65507))) = _; rw [decide_eq_false (by omega)], hb0⟩
  have hq : q = true := by rw [Hq.out]; have f0 := H1.out; have f1 := H2.out; exact decide_eq_true (by unfold S.Right S.fits at *; omega)
  subst hq
  clear Hq
  go_wp2
  go_ret
  first | exact ⟨rfl, hb0⟩ | exact ⟨by show Ending.returned (.bool (decide ((d.size : Int) ≤ 65507))) = _; rw [decide_eq_true (by omega)], hb0⟩

set_option maxHeartbeats 4000000 in
theorem refsright_any (p sp dp sq ak fl wi : Int) (d : ByteArray) (w : World) (hd : d.size ≤ 100000) (q : Bool) (hq : q = S.right p sp dp sq ak fl wi d.size) :
    Calls Try.prog 7 #[.int .i64 p, sg sp dp sq ak fl wi d] w fun e w' => e = .returned (.bool q) ∧ Below w.heap.size w w' := by
  have hb0 : Below w.heap.size w (w.alloc (sgO sp dp sq ak fl wi d)) := (Below.refl _ w).alloc (Nat.le_refl _) _
  have Hq : Hid (q = decide (S.Right p sp dp sq ak fl wi d.size)) := Lib.hid hq
  clear hq
  go_enter Try.func7, Try.ntmps7
  by_cases h1 : ¬ sp < 0
  case neg =>
    have hq : q = false := by rw [Hq.out]; exact decide_eq_false (by unfold S.Right S.fits at *; omega)
    subst hq
    clear Hq
    go_wp2
    go_ret
    exact ⟨rfl, hb0⟩
  by_cases h2 : ¬ 65535 < sp
  case neg =>
    have hq : q = false := by rw [Hq.out]; exact decide_eq_false (by unfold S.Right S.fits at *; omega)
    subst hq
    clear Hq
    go_wp2
    go_ret
    exact ⟨rfl, hb0⟩
  by_cases h3 : ¬ dp < 0
  case neg =>
    have hq : q = false := by rw [Hq.out]; exact decide_eq_false (by unfold S.Right S.fits at *; omega)
    subst hq
    clear Hq
    go_wp2
    go_ret
    exact ⟨rfl, hb0⟩
  by_cases h4 : ¬ 65535 < dp
  case neg =>
    have hq : q = false := by rw [Hq.out]; exact decide_eq_false (by unfold S.Right S.fits at *; omega)
    subst hq
    clear Hq
    go_wp2
    go_ret
    exact ⟨rfl, hb0⟩
  by_cases h6 : p = 6
  · subst h6
    by_cases h5 : 0 ≤ fl
    case neg =>
      have hq : q = false := by rw [Hq.out]; exact decide_eq_false (by unfold S.Right S.fits at *; omega)
      subst hq
      clear Hq
      go_wp2
      go_ret
      exact ⟨rfl, hb0⟩
    by_cases h7 : fl ≤ 63
    case neg =>
      have hq : q = false := by rw [Hq.out]; exact decide_eq_false (by unfold S.Right S.fits at *; omega)
      subst hq
      clear Hq
      go_wp2
      go_ret
      exact ⟨rfl, hb0⟩
    by_cases h8 : 0 ≤ wi
    case neg =>
      have hq : q = false := by rw [Hq.out]; exact decide_eq_false (by unfold S.Right S.fits at *; omega)
      subst hq
      clear Hq
      go_wp2
      go_ret
      exact ⟨rfl, hb0⟩
    by_cases h9 : wi ≤ 65535
    case neg =>
      have hq : q = false := by rw [Hq.out]; exact decide_eq_false (by unfold S.Right S.fits at *; omega)
      subst hq
      clear Hq
      go_wp2
      go_ret
      exact ⟨rfl, hb0⟩
    by_cases h10 : (d.size : Int) ≤ 65495
    case neg =>
      have hq : q = false := by rw [Hq.out]; exact decide_eq_false (by unfold S.Right S.fits at *; omega)
      subst hq
      clear Hq
      go_wp2
      go_ret
      first | exact ⟨rfl, hb0⟩ | exact ⟨by show Ending.returned (.bool (decide ((d.size : Int) ≤ 65495))) = _; rw [decide_eq_false (by omega)], hb0⟩
    have hq : q = true := by rw [Hq.out]; exact decide_eq_true (by unfold S.Right S.fits at *; omega)
    subst hq
    clear Hq
    go_wp2
    go_ret
    first | exact ⟨rfl, hb0⟩ | exact ⟨by show Ending.returned (.bool (decide ((d.size : Int) ≤ 65495))) = _; rw [decide_eq_true (by omega)], hb0⟩
  have e6 : (p == 6) = false := by simpa using h6
  by_cases h17 : p = 17
  case neg =>
    have e17 : (p == 17) = false := by simpa using h17
    have hq : q = false := by rw [Hq.out]; exact decide_eq_false (by unfold S.Right S.fits at *; omega)
    subst hq
    clear Hq
    clear h17 h6
    go_wp2
    go_ret
    exact ⟨rfl, hb0⟩
  subst h17
  clear h6
  by_cases hsq : sq = 0
  case neg =>
    have e : (sq == 0) = false := by simpa using hsq
    have hq : q = false := by rw [Hq.out]; exact decide_eq_false (by unfold S.Right S.fits at *; omega)
    subst hq
    clear Hq
    go_wp2
    go_ret
    exact ⟨rfl, hb0⟩
  subst hsq
  by_cases hak : ak = 0
  case neg =>
    have e : (ak == 0) = false := by simpa using hak
    have hq : q = false := by rw [Hq.out]; exact decide_eq_false (by unfold S.Right S.fits at *; omega)
    subst hq
    clear Hq
    go_wp2
    go_ret
    exact ⟨rfl, hb0⟩
  subst hak
  by_cases hfl : fl = 0
  case neg =>
    have e : (fl == 0) = false := by simpa using hfl
    have hq : q = false := by rw [Hq.out]; exact decide_eq_false (by unfold S.Right S.fits at *; omega)
    subst hq
    clear Hq
    go_wp2
    go_ret
    exact ⟨rfl, hb0⟩
  subst hfl
  by_cases hwi : wi = 0
  case neg =>
    have e : (wi == 0) = false := by simpa using hwi
    have hq : q = false := by rw [Hq.out]; exact decide_eq_false (by unfold S.Right S.fits at *; omega)
    subst hq
    clear Hq
    go_wp2
    go_ret
    exact ⟨rfl, hb0⟩
  subst hwi
  by_cases h10 : (d.size : Int) ≤ 65507
  case neg =>
    have hq : q = false := by rw [Hq.out]; exact decide_eq_false (by unfold S.Right S.fits at *; omega)
    subst hq
    clear Hq
    go_wp2
    go_ret
    first | exact ⟨rfl, hb0⟩ | exact ⟨by show Ending.returned (.bool (decide ((d.size : Int) ≤ 65507))) = _; rw [decide_eq_false (by omega)], hb0⟩
  have hq : q = true := by rw [Hq.out]; exact decide_eq_true (by unfold S.Right S.fits at *; omega)
  subst hq
  clear Hq
  go_wp2
  go_ret
  first | exact ⟨rfl, hb0⟩ | exact ⟨by show Ending.returned (.bool (decide ((d.size : Int) ≤ 65507))) = _; rw [decide_eq_true (by omega)], hb0⟩
#print axioms sright_any
#print axioms refsright_any
end Go.Proofs.Ytohemlejceiojaa
