/- The law that behind a failure nothing is read any more: its walk. -/
import Derived.Test.YtcnojafpkkfabaaText
import Derived.Test.YtcnojafpkkfabaaReader
import Derived.Test.YtcnojafpkkfabaaActs
namespace Go.Proofs.Ytcnojafpkkfabaa
open Go.RowKit

theorem none_size (o : Option ByteArray) (h : o = none) : (o.getD nobytes).size ≤ 100000 := by subst h; show nobytes.size ≤ 100000; rw [nobytes_size]; omega

theorem RByte_failed (base r : Nat) (w : World) (h : Rd base r none w) :
    Calls Try.prog 10 #[.pointer (some ⟨r, 0, none⟩)] w fun e w' => e = .returned (.int .i64 0) ∧ Rd base r none w' ∧ Below base w w' :=
  RByte_any base r none w h (none_size none rfl)
theorem RShort_failed (base r : Nat) (w : World) (h : Rd base r none w) :
    Calls Try.prog 12 #[.pointer (some ⟨r, 0, none⟩)] w fun e w' => e = .returned (.int .i64 0) ∧ Rd base r none w' ∧ Below base w w' :=
  RShort_any base r none w h (none_size none rfl)
theorem RWord_failed (base r : Nat) (w : World) (h : Rd base r none w) :
    Calls Try.prog 13 #[.pointer (some ⟨r, 0, none⟩)] w fun e w' => e = .returned (.int .u32 0) ∧ Rd base r none w' ∧ Below base w w' :=
  RWord_any base r none w h (none_size none rfl)
theorem Rest_failed (base r : Nat) (w : World) (h : Rd base r none w) :
    Calls Try.prog 15 #[.pointer (some ⟨r, 0, none⟩)] w fun e w' => e = .returned (.string nobytes) ∧ Rd base r none w' ∧ Below base w w' :=
  Rest_any base r none w h (none_size none rfl)
theorem Ok_failed (base r : Nat) (w : World) (h : Rd base r none w) :
    Calls Try.prog 16 #[.pointer (some ⟨r, 0, none⟩)] w fun e w' => e = .returned (.bool false) ∧ w = w' :=
  Ok_any base r none w h
theorem Left_failed (base r : Nat) (w : World) (h : Rd base r none w) :
    Calls Try.prog 17 #[.pointer (some ⟨r, 0, none⟩)] w fun e w' => e = .returned (.int .i64 0) ∧ w = w' :=
  Left_any base r none w h

set_option maxHeartbeats 400000 in
theorem fails_long (s : ByteArray) (m : Int) (a : Option Addr) (len cap : Nat) (w : World) (hs : s.size ≤ maxLen) (hl : len ≤ maxLen) (h : 200 < s.size ∨ 60 < len) :
    Calls Try.prog 7 #[.string s, .int .u8 m, .slice a len cap] w fun e w' => e = .returned (.bool true) ∧ Below w.heap.size w w' := by
  unfold maxLen at hs hl
  by_cases h1 : 200 < s.size
  · go_enter Try.func7, Try.ntmps7
    go_wp2_with fail
    refine (awake_any _).mono ?_
    rintro e w2 ⟨rfl, hb⟩
    go_wp2
    go_ret
    exact ⟨rfl, hb⟩
  · have h2 : 60 < len := by omega
    go_enter Try.func7, Try.ntmps7
    go_wp2_with fail
    refine (awake_any _).mono ?_
    rintro e w2 ⟨rfl, hb⟩
    go_wp2
    go_ret
    exact ⟨rfl, hb⟩

set_option maxHeartbeats 2000000 in
theorem fails_short (s : ByteArray) (m : Nat) (a : Option Addr) (len cap : Nat) (ks ns : Nat → Int) (w : World) (hs : s.size ≤ 200) (hm : m ≤ 255) (hl : len ≤ 60) (hrow : ActRow w a len ks ns) :
    Calls Try.prog 7 #[.string s, .int .u8 m, .slice a len cap] w fun e w' => e = .returned (.bool true) ∧ Below w.heap.size w w' := by
  have Hrow := Lib.hid hrow
  clear hrow
  go_enter Try.func7, Try.ntmps7
  go_wp2_with fail
  refine (Read_any s _).mono ?_
  rintro e w1 ⟨rfl, hr1, hb1⟩
  go_wp2_with fail
  refine (take_out w.heap.size w.heap.size s _ w1 hr1 (by omega) (by omega)).mono ?_
  rintro e w2 ⟨rfl, hr2, hb2⟩
  rw [show nobytes = ⟨#[]⟩ from rfl]
  have k2 := hb1.trans hb2
  clear hb1 hb2 hr1
  go_wp2_with fail
  refine (Ok_failed _ _ w2 hr2).mono ?_
  rintro e w3 ⟨rfl, rfl⟩
  go_wp2_with fail
  refine (Left_failed _ _ w2 hr2).mono ?_
  rintro e w3 ⟨rfl, rfl⟩
  go_wp2
  go_loopw [8] (fun i wr => ∃ k : Nat, k ≤ len ∧ i = .int .i64 k ∧ Rd w.heap.size w.heap.size none wr ∧ Below w.heap.size w wr) (fun i _ => len - (intOf i).toNat)
  case atStart => exact ⟨0, Nat.zero_le _, rfl, hr2, k2⟩
  case round =>
    clear hr2 k2
    obtain ⟨k, hk, rfl, hr, hb⟩ := hrel
    by_cases hlt : k < len
    · rcases Hrow.out with h0 | ⟨bl, off, rfl, hbl, _, hc⟩
      · omega
      · have hc1 := (hc k hlt).2
        clear hc
        go_wp2_with fail
        refine (RByte_failed _ _ wr hr).mono ?_
        rintro e w3 ⟨rfl, hr3, hb3⟩
        have b3 := hb.trans hb3
        clear hr hb hb3
        go_wp2_with fail
        refine (RShort_failed _ _ w3 hr3).mono ?_
        rintro e w4 ⟨rfl, hr4, hb4⟩
        have b4 := b3.trans hb4
        clear hr3 b3 hb4
        go_wp2_with fail
        refine (RWord_failed _ _ w4 hr4).mono ?_
        rintro e w5 ⟨rfl, hr5, hb5⟩
        have b5 := b4.trans hb5
        clear hr4 b4 hb5
        have hc2 : w5.cell? ⟨bl, off + k * 2 + 1, none⟩ = some (.int .i64 (ns k)) := by rw [b5.cell (p := ⟨bl, off + k * 2 + 1, none⟩) hbl]; exact hc1
        clear hc1
        go_wp2_with fail
        refine (take_failed _ _ _ w5 hr5).mono ?_
        rintro e w6 ⟨rfl, hr6, hb6⟩
        rw [show nobytes = ⟨#[]⟩ from rfl]
        have b6 := b5.trans hb6
        clear hr5 b5 hb6 hc2
        go_wp2_with fail
        refine (Rest_failed _ _ w6 hr6).mono ?_
        rintro e w7 ⟨rfl, hr7, hb7⟩
        rw [show nobytes = ⟨#[]⟩ from rfl]
        have b7 := b6.trans hb7
        clear hr6 b6 hb7
        go_wp2_with fail
        refine (Ok_failed _ _ w7 hr7).mono ?_
        rintro e w8 ⟨rfl, rfl⟩
        go_wp2
        go_roundw
        case rel => exact ⟨k + 1, by omega, by go_num, hr7, b7⟩
        case measure => simp [intOf]; omega
    · go_wp2_with fail
      refine (awake_any _).mono ?_
      rintro e w3 ⟨rfl, hb3⟩
      have b3 := below_then ⟨hb, hb.size⟩ hb3
      go_wp2
      go_ret
      exact ⟨rfl, b3.1⟩

theorem fails_all (s : ByteArray) (m : Int) (a : Option Addr) (len cap : Nat) (ks ns : Nat → Int) (w : World) (hs : s.size ≤ maxLen) (hm : (Lit.int .u8 m).wf = true) (hrow : ActRow w a len ks ns) :
    Calls Try.prog 7 #[.string s, .int .u8 m, .slice a len cap] w fun e w' => e = .returned (.bool true) ∧ Below w.heap.size w w' := by
  have hl : len ≤ maxLen := by
    rcases hrow with h0 | ⟨_, _, _, _, h, _⟩
    · subst h0; exact Nat.zero_le _
    · exact h
  by_cases h : 200 < s.size ∨ 60 < len
  · exact fails_long s m a len cap w hs hl h
  · have bm := bounds_u8 hm
    obtain ⟨m', rfl⟩ := Int.eq_ofNat_of_zero_le bm.1
    exact fails_short s m' a len cap ks ns w (by omega) (by omega) (by omega) hrow
#print axioms fails_all
end Go.Proofs.Ytcnojafpkkfabaa
