/- The law of options' bytes: its walk. -/
import Derived.Test.YtncnildpbccpaaaOptAwake
namespace Go.Proofs.Ytncnildpbccpaaa
open Go.RowKit

set_option maxHeartbeats 1000000 in
theorem encl_great (a : Option Addr) (cap : Nat) (l : List Opt) (w : World) (h : OptRow w a l) (hl : l.length ≤ maxLen) (hd : ∀ o ∈ l, o.data.size ≤ maxLen) (hg : O.great l = true) :
    Calls Try.prog 3 #[.slice a l.length cap] w fun e w' => e = .returned (.bool true) ∧ Below w.heap.size w w' := by
  have H1 := Lib.hid (great_any a cap l w h hl hd)
  have Hg := Lib.hid hg
  clear h hl hd hg
  go_enter Try.func3, Try.ntmps3
  go_wp2_with fail
  refine H1.out.mono ?_
  rintro e w1 ⟨rfl, rfl⟩
  rw [Hg.out]
  go_wp2_with fail
  refine (awake4_any _).mono ?_
  rintro e w2 ⟨rfl, hb⟩
  go_wp2
  go_ret
  exact ⟨rfl, hb⟩

set_option maxHeartbeats 1000000 in
theorem encl_bad (a : Option Addr) (cap : Nat) (l : List Opt) (w : World) (h : OptRow w a l) (hl : l.length ≤ maxLen) (hd : ∀ o ∈ l, o.data.size ≤ maxLen) (hg : O.great l = false) (hr : l.all O.right = false) :
    Calls Try.prog 3 #[.slice a l.length cap] w fun e w' => e = .returned (.bool true) ∧ Below w.heap.size w w' := by
  have H1 := Lib.hid (great_any a cap l w h hl hd)
  have Hg := Lib.hid hg
  obtain ⟨hl6, hd1⟩ := great_not l hg
  have Hrow := Lib.hid h
  have Hd := Lib.hid hd1
  have Hdm := Lib.hid hd
  have Hl := Lib.hid hl
  have Hr := Lib.hid hr
  clear h hl hd hg hd1 hr
  go_enter Try.func3, Try.ntmps3
  go_wp2_with fail
  refine H1.out.mono ?_
  rintro e w1 ⟨rfl, rfl⟩
  rw [Hg.out]
  clear H1
  go_wp2_with fail
  refine (optEnc_bad a cap l w Hrow.out hl6 Hd.out Hr.out).mono ?_
  rintro e w1 ⟨rfl, hb1⟩
  go_wp2_with fail
  refine (refAll_any a cap l w1 (Hrow.out.carry hb1) Hl.out Hdm.out).mono ?_
  rintro e w2 ⟨rfl, hbn⟩
  have hb2 := hb1.trans (hbn.mono hb1.size)
  clear hbn hb1
  rw [Hr.out]
  go_wp2_with fail
  refine (optRight_any a cap l w2 (Hrow.out.carry hb2) Hl.out Hdm.out).mono ?_
  rintro e w3 ⟨rfl, hbn⟩
  have hb3 := hb2.trans (hbn.mono hb2.size)
  clear hbn hb2
  rw [Hr.out]
  go_wp2_with fail
  refine (optSize_any a cap l w3 (Hrow.out.carry hb3) hl6 Hd.out).mono ?_
  rintro e w4 ⟨rfl, hbn⟩
  have hb4 := hb3.trans (hbn.mono hb3.size)
  clear hbn hb3
  go_wp2_with fail
  refine (refSize_any a cap l w4 (Hrow.out.carry hb4) hl6 Hd.out).mono ?_
  rintro e w5 ⟨rfl, rfl⟩
  generalize O.size l = z at *
  go_wp2_with fail
  refine (awake4_any _).mono ?_
  rintro e w5 ⟨rfl, hbn⟩
  have hb5 := hb4.trans (hbn.mono hb4.size)
  clear hbn hb4
  go_wp2
  go_ret
  exact ⟨rfl, hb5⟩

set_option maxHeartbeats 1000000 in
theorem encl_long (a : Option Addr) (cap : Nat) (l : List Opt) (w : World) (h : OptRow w a l) (hl : l.length ≤ maxLen) (hd : ∀ o ∈ l, o.data.size ≤ maxLen) (hg : O.great l = false) (hr : l.all O.right = true) (hs : 40 < O.size l) :
    Calls Try.prog 3 #[.slice a l.length cap] w fun e w' => e = .returned (.bool true) ∧ Below w.heap.size w w' := by
  have H1 := Lib.hid (great_any a cap l w h hl hd)
  have Hg := Lib.hid hg
  obtain ⟨hl6, hd1⟩ := great_not l hg
  have Hrow := Lib.hid h
  have Hd := Lib.hid hd1
  have Hdm := Lib.hid hd
  have Hl := Lib.hid hl
  have Hr := Lib.hid hr
  clear h hl hd hg hd1 hr
  go_enter Try.func3, Try.ntmps3
  go_wp2_with fail
  refine H1.out.mono ?_
  rintro e w1 ⟨rfl, rfl⟩
  rw [Hg.out]
  clear H1
  go_wp2_with fail
  refine (optEnc_long a cap l w Hrow.out hl6 Hd.out Hr.out hs).mono ?_
  rintro e w1 ⟨rfl, hb1⟩
  go_wp2_with fail
  refine (refAll_any a cap l w1 (Hrow.out.carry hb1) Hl.out Hdm.out).mono ?_
  rintro e w2 ⟨rfl, hbn⟩
  have hb2 := hb1.trans (hbn.mono hb1.size)
  clear hbn hb1
  rw [Hr.out]
  go_wp2_with fail
  refine (optRight_any a cap l w2 (Hrow.out.carry hb2) Hl.out Hdm.out).mono ?_
  rintro e w3 ⟨rfl, hbn⟩
  have hb3 := hb2.trans (hbn.mono hb2.size)
  clear hbn hb2
  rw [Hr.out]
  go_wp2_with fail
  refine (optSize_any a cap l w3 (Hrow.out.carry hb3) hl6 Hd.out).mono ?_
  rintro e w4 ⟨rfl, hbn⟩
  have hb4 := hb3.trans (hbn.mono hb3.size)
  clear hbn hb3
  go_wp2_with fail
  refine (refSize_any a cap l w4 (Hrow.out.carry hb4) hl6 Hd.out).mono ?_
  rintro e w5 ⟨rfl, rfl⟩
  have Hz := Lib.hid (fun w h => refSize_any a cap l w h hl6 Hd.out)
  generalize O.size l = z at *
  go_wp2_with fail
  refine (Hz.out w4 (Hrow.out.carry hb4)).mono ?_
  rintro e w5 ⟨rfl, rfl⟩
  go_wp2_with fail
  refine (awake4_any _).mono ?_
  rintro e w5 ⟨rfl, hbn⟩
  have hb5 := hb4.trans (hbn.mono hb4.size)
  clear hbn hb4
  go_wp2
  go_ret
  exact ⟨rfl, hb5⟩

set_option maxHeartbeats 1000000 in
theorem encl_ok (a : Option Addr) (cap : Nat) (l : List Opt) (w : World) (h : OptRow w a l) (hl : l.length ≤ maxLen) (hd : ∀ o ∈ l, o.data.size ≤ maxLen) (hg : O.great l = false) (hr : l.all O.right = true) (hs : ¬ 40 < O.size l) :
    Calls Try.prog 3 #[.slice a l.length cap] w fun e w' => e = .returned (.bool true) ∧ Below w.heap.size w w' := by
  have H1 := Lib.hid (great_any a cap l w h hl hd)
  have Hg := Lib.hid hg
  obtain ⟨hl6, hd1⟩ := great_not l hg
  have Hrow := Lib.hid h
  have Hd := Lib.hid hd1
  have Hdm := Lib.hid hd
  have Hl := Lib.hid hl
  have Hr := Lib.hid hr
  clear h hl hd hg hd1 hr
  go_enter Try.func3, Try.ntmps3
  go_wp2_with fail
  refine H1.out.mono ?_
  rintro e w1 ⟨rfl, rfl⟩
  rw [Hg.out]
  clear H1
  go_wp2_with fail
  refine (optEnc_ok a cap l w Hrow.out hl6 Hd.out Hr.out hs).mono ?_
  rintro e w1 ⟨rfl, hb1⟩
  have He := Lib.hid (fun w h => refEnc_any a cap l w h hl6 Hr.out)
  have ht : (⟨(O.enc l).toArray⟩ : ByteArray).size = O.size l := O.enc_length l
  generalize (⟨(O.enc l).toArray⟩ : ByteArray) = t at *
  have Ht := Lib.hid ht
  clear ht
  go_wp2_with fail
  refine (refAll_any a cap l w1 (Hrow.out.carry hb1) Hl.out Hdm.out).mono ?_
  rintro e w2 ⟨rfl, hbn⟩
  have hb2 := hb1.trans (hbn.mono hb1.size)
  clear hbn hb1
  rw [Hr.out]
  go_wp2_with fail
  refine (optRight_any a cap l w2 (Hrow.out.carry hb2) Hl.out Hdm.out).mono ?_
  rintro e w3 ⟨rfl, hbn⟩
  have hb3 := hb2.trans (hbn.mono hb2.size)
  clear hbn hb2
  rw [Hr.out]
  go_wp2_with fail
  refine (optSize_any a cap l w3 (Hrow.out.carry hb3) hl6 Hd.out).mono ?_
  rintro e w4 ⟨rfl, hbn⟩
  have hb4 := hb3.trans (hbn.mono hb3.size)
  clear hbn hb3
  go_wp2_with fail
  refine (refSize_any a cap l w4 (Hrow.out.carry hb4) hl6 Hd.out).mono ?_
  rintro e w5 ⟨rfl, rfl⟩
  have Hz := Lib.hid (fun w h => refSize_any a cap l w h hl6 Hd.out)
  generalize O.size l = z at *
  have ht := Ht.out
  go_wp2_with fail
  refine (Hz.out w4 (Hrow.out.carry hb4)).mono ?_
  rintro e w5 ⟨rfl, rfl⟩
  go_wp2_with fail
  refine (He.out w4 (Hrow.out.carry hb4)).mono ?_
  rintro e w5 ⟨rfl, hbn⟩
  have hb5 := hb4.trans (hbn.mono hb4.size)
  clear hbn hb4
  go_wp2_with fail
  refine (Hz.out w5 (Hrow.out.carry hb5)).mono ?_
  rintro e w6 ⟨rfl, rfl⟩
  go_wp2_with fail
  refine (awake4_any _).mono ?_
  rintro e w6 ⟨rfl, hbn⟩
  have hb6 := hb5.trans (hbn.mono hb5.size)
  clear hbn hb5
  go_wp2
  go_ret
  exact ⟨rfl, hb6⟩

theorem encl_all (a : Option Addr) (cap : Nat) (l : List Opt) (w : World) (h : OptRow w a l) (hl : l.length ≤ maxLen) (hd : ∀ o ∈ l, o.data.size ≤ maxLen) :
    Calls Try.prog 3 #[.slice a l.length cap] w fun e w' => e = .returned (.bool true) ∧ Below w.heap.size w w' := by
  cases hg : O.great l with
  | true => exact encl_great a cap l w h hl hd hg
  | false =>
    cases hr : l.all O.right with
    | false => exact encl_bad a cap l w h hl hd hg hr
    | true =>
      by_cases hs : 40 < O.size l
      · exact encl_long a cap l w h hl hd hg hr hs
      · exact encl_ok a cap l w h hl hd hg hr hs
#print axioms encl_all
end Go.Proofs.Ytncnildpbccpaaa
