/- The laws of bytes' options, and of options there and back: their walks. -/
import Derived.Test.YtncnildpbccpaaaDoorOptRefParse
import Derived.Test.YtncnildpbccpaaaDoorOptAwake
import Derived.Test.YtncnildpbccpaaaDoorOptSame
namespace Go.Proofs.YtncnildpbccpaaaDoor
set_option maxRecDepth 100000
open Go.RowKit

namespace O
theorem par_err (N : Nat) : ∀ (s : List UInt8), s.length ≤ N → ∀ n, par s = .error n → n = 2 ∨ n = 3 := by
  induction N with
  | zero =>
    intro s hs n h
    obtain rfl : s = [] := List.length_eq_zero_iff.1 (by omega)
    rw [par_nil] at h; cases h
  | succ N ih =>
    intro s hs n h
    match s, hs, h with
    | [], _, h => rw [par_nil] at h; cases h
    | k :: t, hs, h =>
      have hs' : t.length ≤ N := by simpa using hs
      by_cases h0 : k = 0
      · subst h0
        rw [par_zero] at h
        split at h
        · cases h
        · cases h; exact .inr rfl
      · by_cases h1 : k = 1
        · subst h1
          rw [par_one] at h
          cases hp : par t with
          | ok l => rw [hp] at h; cases h
          | error e =>
            rw [hp] at h
            cases h
            exact ih t hs' _ hp
        · match t, hs', h with
          | [], _, h => rw [par_end k h0 h1] at h; cases h; exact .inl rfl
          | m :: u, hs', h =>
            have hs2 : u.length + 1 ≤ N := by simpa using hs'
            rw [par_long k m u h0 h1] at h
            split at h
            · cases h; exact .inl rfl
            · split at h
              · cases h; exact .inr rfl
              · cases hp : par (u.drop (m.toNat - 2)) with
                | ok l => rw [hp] at h; cases h
                | error e =>
                  rw [hp] at h
                  cases h
                  exact ih _ (by rw [List.length_drop]; omega) _ hp

theorem parse_err (s : List UInt8) (n : Nat) (h : parse s = .error n) : 2 ≤ n ∧ n ≤ 5 := by
  unfold parse at h
  split at h
  · cases h; omega
  · split at h
    · cases h; omega
    · rcases par_err s.length s (Nat.le_refl _) n h with h | h <;> omega

theorem par_len (N : Nat) : ∀ (s : List UInt8), s.length ≤ N → ∀ l, par s = .ok l → l.length ≤ s.length := by
  induction N with
  | zero =>
    intro s hs l h
    obtain rfl : s = [] := List.length_eq_zero_iff.1 (by omega)
    rw [par_nil] at h; cases h; simp
  | succ N ih =>
    intro s hs l h
    match s, hs, h with
    | [], _, h => rw [par_nil] at h; cases h; simp
    | k :: t, hs, h =>
      have hs' : t.length ≤ N := by simpa using hs
      by_cases h0 : k = 0
      · subst h0
        rw [par_zero] at h
        split at h
        · cases h; simp
        · cases h
      · by_cases h1 : k = 1
        · subst h1
          rw [par_one] at h
          cases hp : par t with
          | ok m =>
            rw [hp] at h
            cases h
            have := ih t hs' _ hp
            simp; omega
          | error e => rw [hp] at h; cases h
        · match t, hs', h with
          | [], _, h => rw [par_end k h0 h1] at h; cases h
          | m :: u, hs', h =>
            have hs2 : u.length + 1 ≤ N := by simpa using hs'
            rw [par_long k m u h0 h1] at h
            split at h
            · cases h
            · split at h
              · cases h
              · cases hp : par (u.drop (m.toNat - 2)) with
                | ok x =>
                  rw [hp] at h
                  cases h
                  have := ih _ (by rw [List.length_drop]; omega) _ hp
                  rw [List.length_drop] at this
                  simp; omega
                | error e => rw [hp] at h; cases h

theorem parse_len (s : List UInt8) (l : List Opt) (h : parse s = .ok l) : l.length ≤ 40 := by
  unfold parse at h
  split at h
  · cases h
  · split at h
    · cases h
    · have := par_len s.length s (Nat.le_refl _) l h; omega
end O

set_option maxHeartbeats 400000 in
theorem parl_long (S : ByteArray) (w : World) (hs : S.size ≤ maxLen) (h : 200 < S.size) :
    Calls Tryd.prog 3 #[.string S] w fun e w' => e = .returned (.bool true) ∧ Below w.heap.size w w' := by
  unfold maxLen at hs
  go_enter Tryd.func3, Tryd.ntmps3
  go_wp2_with fail
  refine (awake4_any _).mono ?_
  rintro e w1 ⟨rfl, hb⟩
  go_wp2
  go_ret
  exact ⟨rfl, hb⟩

set_option maxHeartbeats 1000000 in
theorem parl_err (s : List UInt8) (w : World) (hs : s.length ≤ 200) (n : Nat) (h : O.parse s = .error n) :
    Calls Tryd.prog 3 #[.string (ba s)] w fun e w' => e = .returned (.bool true) ∧ Below w.heap.size w w' := by
  have hn := O.parse_err s n h
  have H1 := Lib.hid (fun w => optParse_any s w (by omega))
  have H2 := Lib.hid (fun w => refParse_any (ba s) w (by rw [ba_size]; omega))
  rw [ba_list] at H2
  rw [h] at H1 H2
  have hz := ba_size s
  clear h
  go_enter Tryd.func3, Tryd.ntmps3
  go_wp2_with fail
  refine (H1.out w).mono ?_
  rintro e w1 ⟨rfl, hb1⟩
  go_wp2_with fail
  refine (H2.out w1).mono ?_
  rintro e w2 ⟨rfl, hbn⟩
  have hb2 := hb1.trans (hbn.mono hb1.size)
  clear hbn hb1
  have hne : ((n : Int) != 0) = true := by simp; omega
  have hne2 : ((n : Int) == 0) = false := by simp; omega
  go_wp2_with fail
  refine (awake4_any _).mono ?_
  rintro e w3 ⟨rfl, hbn⟩
  have hb3 := hb2.trans (hbn.mono hb2.size)
  clear hbn hb2
  go_wp2
  go_ret
  exact ⟨rfl, hb3⟩

set_option maxHeartbeats 1000000 in
theorem parl_ok (s : List UInt8) (w : World) (hs : s.length ≤ 200) (l : List Opt) (h : O.parse s = .ok l) :
    Calls Tryd.prog 3 #[.string (ba s)] w fun e w' => e = .returned (.bool true) ∧ Below w.heap.size w w' := by
  have hl := O.parse_len s l h
  have H1 := Lib.hid (fun w => optParse_any s w (by omega))
  have H2 := Lib.hid (fun w => refParse_any (ba s) w (by rw [ba_size]; omega))
  rw [ba_list] at H2
  rw [h] at H1 H2
  have hz := ba_size s
  have Hs := Lib.hid (sameB_refl l)
  clear h
  go_enter Tryd.func3, Tryd.ntmps3
  go_wp2_with fail
  refine (H1.out w).mono ?_
  rintro e w1 ⟨ao, cp, rfl, hrow1, hb1⟩
  go_wp2_with fail
  refine (H2.out w1).mono ?_
  rintro e w2 ⟨ao2, cp2, rfl, hrow2, hbn⟩
  have hb2 := hb1.trans (hbn.mono hb1.size)
  have Hrow1 := Lib.hid (hrow1.carry hbn)
  have Hrow2 := Lib.hid hrow2
  clear hbn hb1 hrow1 hrow2
  go_wp2_with fail
  refine (same_any ao ao2 cp cp2 l l w2 Hrow1.out Hrow2.out (by unfold maxLen; omega) (by unfold maxLen; omega)).mono ?_
  rintro e w3 ⟨rfl, hbn⟩
  rw [Hs.out]
  have hb3 := hb2.trans (hbn.mono hb2.size)
  clear hbn hb2
  go_wp2_with fail
  refine (awake4_any _).mono ?_
  rintro e w4 ⟨rfl, hbn⟩
  have hb4 := hb3.trans (hbn.mono hb3.size)
  clear hbn hb3
  go_wp2
  go_ret
  exact ⟨rfl, hb4⟩

theorem parl_all (S : ByteArray) (w : World) (hs : S.size ≤ maxLen) :
    Calls Tryd.prog 3 #[.string S] w fun e w' => e = .returned (.bool true) ∧ Below w.heap.size w w' := by
  by_cases h : 200 < S.size
  · exact parl_long S w hs h
  · rw [ba_of S]
    have hl : S.data.toList.length ≤ 200 := by rw [Array.length_toList]; show S.size ≤ 200; omega
    cases hp : O.parse S.data.toList with
    | error n => exact parl_err _ w hl n hp
    | ok l => exact parl_ok _ w hl l hp

set_option maxHeartbeats 400000 in
theorem backl_great (a : Option Addr) (cap : Nat) (l : List Opt) (w : World) (h : OptRow w a l) (hl : l.length ≤ maxLen) (hd : ∀ o ∈ l, o.data.size ≤ maxLen) (hg : O.great l = true) :
    Calls Tryd.prog 4 #[.slice a l.length cap] w fun e w' => e = .returned (.bool true) ∧ Below w.heap.size w w' := by
  have H1 := Lib.hid (great_any a cap l w h hl hd)
  have Hg := Lib.hid hg
  clear h hl hd hg
  go_enter Tryd.func4, Tryd.ntmps4
  go_wp2_with fail
  refine H1.out.mono ?_
  rintro e w1 ⟨rfl, rfl⟩
  rw [Hg.out]
  go_wp2_with fail
  refine (awake4_any _).mono ?_
  rintro e w2 ⟨rfl, hb⟩
  go_wp2
  go_ret
  exact ⟨rfl, hb⟩

set_option maxHeartbeats 1000000 in
theorem backl_no (a : Option Addr) (cap : Nat) (l : List Opt) (w : World) (h : OptRow w a l) (hl : l.length ≤ maxLen) (hd : ∀ o ∈ l, o.data.size ≤ maxLen) (hg : O.great l = false) (z : Int) (hz : z ≠ 0) (he : (O.encoded l).2 = z) :
    Calls Tryd.prog 4 #[.slice a l.length cap] w fun e w' => e = .returned (.bool true) ∧ Below w.heap.size w w' := by
  have H1 := Lib.hid (great_any a cap l w h hl hd)
  have Hg := Lib.hid hg
  obtain ⟨hl6, hd1⟩ := great_not l hg
  have H2 := Lib.hid (optEnc_any a cap l w h hl6 hd1)
  rw [he] at H2
  have hz' : (z != 0) = true := by simp [hz]
  clear h hl hd hg hd1 he hz
  go_enter Tryd.func4, Tryd.ntmps4
  go_wp2_with fail
  refine H1.out.mono ?_
  rintro e w1 ⟨rfl, rfl⟩
  rw [Hg.out]
  go_wp2_with fail
  refine H2.out.mono ?_
  rintro e w1 ⟨rfl, hb1⟩
  go_wp2_with fail
  refine (awake4_any _).mono ?_
  rintro e w2 ⟨rfl, hbn⟩
  have hb2 := hb1.trans (hbn.mono hb1.size)
  go_wp2
  go_ret
  exact ⟨rfl, hb2⟩

set_option maxHeartbeats 1000000 in
theorem backl_yes (a : Option Addr) (cap : Nat) (l : List Opt) (w : World) (h : OptRow w a l) (hl : l.length ≤ maxLen) (hd : ∀ o ∈ l, o.data.size ≤ maxLen) (hg : O.great l = false) (hr : l.all O.right = true) (hs : ¬ 40 < O.size l) :
    Calls Tryd.prog 4 #[.slice a l.length cap] w fun e w' => e = .returned (.bool true) ∧ Below w.heap.size w w' := by
  have H1 := Lib.hid (great_any a cap l w h hl hd)
  have Hg := Lib.hid hg
  obtain ⟨hl6, hd1⟩ := great_not l hg
  have H2 := Lib.hid (optEnc_ok a cap l w h hl6 hd1 hr hs)
  have H3 := Lib.hid (fun w => optParse_any (O.enc l) w (by rw [O.enc_length]; omega))
  rw [O.parse_enc l hr (by omega)] at H3
  have Hrow := Lib.hid h
  have Hlm := Lib.hid hl
  have Hs := Lib.hid (sameB_refl l)
  change Hid (∀ w, Calls Tryd.prog 10 #[.string ⟨(O.enc l).toArray⟩] w (O.Parsed (.ok l) w)) at H3
  generalize (⟨(O.enc l).toArray⟩ : ByteArray) = t at *
  clear h hl hd hg hd1 hr hs
  go_enter Tryd.func4, Tryd.ntmps4
  go_wp2_with fail
  refine H1.out.mono ?_
  rintro e w1 ⟨rfl, rfl⟩
  rw [Hg.out]
  go_wp2_with fail
  refine H2.out.mono ?_
  rintro e w1 ⟨rfl, hb1⟩
  go_wp2_with fail
  refine (H3.out w1).mono ?_
  rintro e w2 ⟨ao, cp, rfl, hrow2, hbn⟩
  have hb2 := hb1.trans (hbn.mono hb1.size)
  have Hrow2 := Lib.hid hrow2
  clear hbn hb1 hrow2
  go_wp2_with fail
  refine (same_any ao a cp cap l l w2 Hrow2.out (Hrow.out.carry hb2) Hlm.out Hlm.out).mono ?_
  rintro e w3 ⟨rfl, hbn⟩
  rw [Hs.out]
  have hb3 := hb2.trans (hbn.mono hb2.size)
  have Hrow3 := Lib.hid (Hrow2.out.carry hbn)
  clear hbn hb2
  go_wp2_with fail
  refine (optSame_any ao a cp cap l l w3 Hrow3.out (Hrow.out.carry hb3) Hlm.out Hlm.out).mono ?_
  rintro e w4 ⟨rfl, hbn⟩
  rw [Hs.out]
  have hb4 := hb3.trans (hbn.mono hb3.size)
  clear hbn hb3
  go_wp2_with fail
  refine (awake4_any _).mono ?_
  rintro e w5 ⟨rfl, hbn⟩
  have hb5 := hb4.trans (hbn.mono hb4.size)
  clear hbn hb4
  go_wp2
  go_ret
  exact ⟨rfl, hb5⟩

theorem backl_all (a : Option Addr) (cap : Nat) (l : List Opt) (w : World) (h : OptRow w a l) (hl : l.length ≤ maxLen) (hd : ∀ o ∈ l, o.data.size ≤ maxLen) :
    Calls Tryd.prog 4 #[.slice a l.length cap] w fun e w' => e = .returned (.bool true) ∧ Below w.heap.size w w' := by
  cases hg : O.great l with
  | true => exact backl_great a cap l w h hl hd hg
  | false =>
    cases hr : l.all O.right with
    | false => exact backl_no a cap l w h hl hd hg 1 (by decide) (by rw [O.encoded_bad l hr])
    | true =>
      by_cases hs : 40 < O.size l
      · exact backl_no a cap l w h hl hd hg 5 (by decide) (by rw [O.encoded_long l hr hs])
      · exact backl_yes a cap l w h hl hd hg hr hs
#print axioms parl_all
#print axioms backl_all
end Go.Proofs.YtncnildpbccpaaaDoor
