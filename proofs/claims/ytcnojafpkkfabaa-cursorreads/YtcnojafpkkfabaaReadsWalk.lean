/- The law of all that is read: its walk. -/
import Derived.Test.YtcnojafpkkfabaaReadsLib
namespace Go.Proofs.Ytcnojafpkkfabaa
open Go.RowKit

set_option maxHeartbeats 8000000 in
set_option maxRecDepth 100000 in
theorem reads_short (s : ByteArray) (a : Option Addr) (len cap : Nat) (ks ns : Nat → Int) (w : World) (hs : s.size ≤ 200) (hl : len ≤ 60) (hrow : ActRow w a len ks ns) :
    Calls Try.prog 3 #[.string s, .slice a len cap] w fun e w' => e = .returned (.bool true) ∧ Below w.heap.size w w' := by
  have Hrow := Lib.hid hrow
  clear hrow
  go_enter Try.func3, Try.ntmps3
  go_wp2_with fail
  refine (awake_any _).mono ?_
  rintro e w0 ⟨rfl, hb0⟩
  go_wp2_with fail
  refine (Read_any s _).mono ?_
  rintro e w1 ⟨rfl, hr1, hb1⟩
  have z0 := hb0.size
  have k1 : Below w.heap.size w w1 := hb0.trans (hb1.mono z0)
  have hr1' : Rd w0.heap.size w0.heap.size (cur s 0 true) w1 := by
    have e : cur s 0 true = some s := by show some (s.extract 0 s.size) = some s; rw [ByteArray.extract_zero_size]
    rw [e]; exact hr1
  clear hb0 hb1 hr1
  generalize w0.heap.size = r at *
  go_wp2
  go_loopw [6, 7, 8] (fun at_ ok i wr => ∃ (k j : Nat) (b : Bool), k ≤ len ∧ j ≤ s.size ∧ i = .int .i64 k ∧ at_ = .int .i64 j ∧ ok = .bool b ∧ Rd r r (cur s j b) wr ∧ Below w.heap.size w wr) (fun _ _ i _ => len - (intOf i).toNat)
  case atStart => exact ⟨0, 0, true, Nat.zero_le _, Nat.zero_le _, rfl, rfl, rfl, hr1', k1⟩
  case round =>
    clear hr1' k1
    obtain ⟨k, j, ok, hk, hj, rfl, rfl, rfl, hr, hb⟩ := hrel
    by_cases hlt : k < len
    · rcases Hrow.out with h0 | ⟨bl, off, rfl, hbl, _, hc⟩
      · omega
      · obtain ⟨hc0, hc1⟩ := hc k hlt
        have hd0 : wr.cell? ⟨bl, off + k * 2, none⟩ = some (.int .i64 (ks k)) := by rw [hb.cell (p := ⟨bl, off + k * 2, none⟩) hbl]; exact hc0
        have hd1 : wr.cell? ⟨bl, off + k * 2 + 1, none⟩ = some (.int .i64 (ns k)) := by rw [hb.cell (p := ⟨bl, off + k * 2 + 1, none⟩) hbl]; exact hc1
        clear hc
        generalize ks k = kd at *
        generalize ns k = nn at *
        by_cases h0 : kd = 0
        · subst h0
          cases ok
          · go_wp2_with fail
            refine (RByte_failed _ _ wr hr).mono ?_
            rintro e w3 ⟨rfl, hr3, hb3⟩
            go_wp2_with fail
            refine (refnum_empty _).mono ?_
            rintro e w4 ⟨rfl, rfl⟩
            go_wp2_with fail
            refine (Ok_failed _ _ _ hr3).mono ?_
            rintro e w4 ⟨rfl, rfl⟩
            go_wp2_with fail
            refine (Left_failed _ _ _ hr3).mono ?_
            rintro e w4 ⟨rfl, rfl⟩
            go_wp2
            go_roundw
            case rel => exact ⟨k + 1, j, false, by omega, hj, by go_num, rfl, rfl, hr3, hb.trans (hb3.mono z0)⟩
            case measure => simp [intOf]; omega
          · by_cases hf : j + 1 ≤ s.size
            · have hnl := num_part s j 1 hf (by omega)
              generalize hv : num (s.extract j (j + 1)).data.toList = v at hnl
              have Hv := Lib.hid hv
              clear hv
              go_wp2_with fail
              refine (RByte_fit _ _ s j wr hr hs hf).mono ?_
              rintro e w3 ⟨rfl, hr3, hb3⟩
              rw [Hv.out]
              go_wp2_with fail
              refine (refnum_any _ _ (by rw [part_size s j 1 hf]; omega)).mono ?_
              rintro e w4 ⟨rfl, rfl⟩
              rw [Hv.out]
              go_wp2_with fail
              refine (Ok_cur _ _ s (j + 1) _ hr3).mono ?_
              rintro e w4 ⟨rfl, rfl⟩
              go_wp2_with fail
              refine (Left_is _ _ s (j + 1) ((s.size : Int) - ((j : Int) + 1)) _ hr3 (by omega) (by omega)).mono ?_
              rintro e w4 ⟨rfl, rfl⟩
              go_wp2
              go_roundw
              case rel => exact ⟨k + 1, j + 1, true, by omega, by omega, by go_num, by go_num, rfl, hr3, hb.trans (hb3.mono z0)⟩
              case measure => simp [intOf]; omega
            · go_wp2_with fail
              refine (RByte_over _ _ s j wr hr hs hj (by omega)).mono ?_
              rintro e w3 ⟨rfl, hr3, hb3⟩
              go_wp2_with fail
              refine (refnum_empty _).mono ?_
              rintro e w4 ⟨rfl, rfl⟩
              go_wp2_with fail
              refine (Ok_failed _ _ _ hr3).mono ?_
              rintro e w4 ⟨rfl, rfl⟩
              go_wp2_with fail
              refine (Left_failed _ _ _ hr3).mono ?_
              rintro e w4 ⟨rfl, rfl⟩
              go_wp2
              go_roundw
              case rel => exact ⟨k + 1, j, false, by omega, hj, by go_num, rfl, rfl, hr3, hb.trans (hb3.mono z0)⟩
              case measure => simp [intOf]; omega
        · by_cases h1 : kd = 1
          · subst h1
            cases ok
            · go_wp2_with fail
              refine (RShort_failed _ _ wr hr).mono ?_
              rintro e w3 ⟨rfl, hr3, hb3⟩
              go_wp2_with fail
              refine (refnum_empty _).mono ?_
              rintro e w4 ⟨rfl, rfl⟩
              go_wp2_with fail
              refine (Ok_failed _ _ _ hr3).mono ?_
              rintro e w4 ⟨rfl, rfl⟩
              go_wp2_with fail
              refine (Left_failed _ _ _ hr3).mono ?_
              rintro e w4 ⟨rfl, rfl⟩
              go_wp2
              go_roundw
              case rel => exact ⟨k + 1, j, false, by omega, hj, by go_num, rfl, rfl, hr3, hb.trans (hb3.mono z0)⟩
              case measure => simp [intOf]; omega
            · by_cases hf : j + 2 ≤ s.size
              · have hnl := num_part s j 2 hf (by omega)
                generalize hv : num (s.extract j (j + 2)).data.toList = v at hnl
                have Hv := Lib.hid hv
                clear hv
                go_wp2_with fail
                refine (RShort_fit _ _ s j wr hr hs hf).mono ?_
                rintro e w3 ⟨rfl, hr3, hb3⟩
                rw [Hv.out]
                go_wp2_with fail
                refine (refnum_any _ _ (by rw [part_size s j 2 hf]; omega)).mono ?_
                rintro e w4 ⟨rfl, rfl⟩
                rw [Hv.out]
                go_wp2_with fail
                refine (Ok_cur _ _ s (j + 2) _ hr3).mono ?_
                rintro e w4 ⟨rfl, rfl⟩
                go_wp2_with fail
                refine (Left_is _ _ s (j + 2) ((s.size : Int) - ((j : Int) + 2)) _ hr3 (by omega) (by omega)).mono ?_
                rintro e w4 ⟨rfl, rfl⟩
                go_wp2
                go_roundw
                case rel => exact ⟨k + 1, j + 2, true, by omega, by omega, by go_num, by go_num, rfl, hr3, hb.trans (hb3.mono z0)⟩
                case measure => simp [intOf]; omega
              · go_wp2_with fail
                refine (RShort_over _ _ s j wr hr hs hj (by omega)).mono ?_
                rintro e w3 ⟨rfl, hr3, hb3⟩
                go_wp2_with fail
                refine (refnum_empty _).mono ?_
                rintro e w4 ⟨rfl, rfl⟩
                go_wp2_with fail
                refine (Ok_failed _ _ _ hr3).mono ?_
                rintro e w4 ⟨rfl, rfl⟩
                go_wp2_with fail
                refine (Left_failed _ _ _ hr3).mono ?_
                rintro e w4 ⟨rfl, rfl⟩
                go_wp2
                go_roundw
                case rel => exact ⟨k + 1, j, false, by omega, hj, by go_num, rfl, rfl, hr3, hb.trans (hb3.mono z0)⟩
                case measure => simp [intOf]; omega
          · by_cases h2 : kd = 2
            · subst h2
              cases ok
              · go_wp2_with fail
                refine (RWord_failed _ _ wr hr).mono ?_
                rintro e w3 ⟨rfl, hr3, hb3⟩
                go_wp2_with fail
                refine (refnum_empty _).mono ?_
                rintro e w4 ⟨rfl, rfl⟩
                go_wp2_with fail
                refine (Ok_failed _ _ _ hr3).mono ?_
                rintro e w4 ⟨rfl, rfl⟩
                go_wp2_with fail
                refine (Left_failed _ _ _ hr3).mono ?_
                rintro e w4 ⟨rfl, rfl⟩
                go_wp2
                go_roundw
                case rel => exact ⟨k + 1, j, false, by omega, hj, by go_num, rfl, rfl, hr3, hb.trans (hb3.mono z0)⟩
                case measure => simp [intOf]; omega
              · by_cases hf : j + 4 ≤ s.size
                · have hnl := num_part s j 4 hf (by omega)
                  generalize hv : num (s.extract j (j + 4)).data.toList = v at hnl
                  have Hv := Lib.hid hv
                  clear hv
                  go_wp2_with fail
                  refine (RWord_fit _ _ s j wr hr hs hf).mono ?_
                  rintro e w3 ⟨rfl, hr3, hb3⟩
                  rw [Hv.out]
                  go_wp2_with fail
                  refine (refnum_any _ _ (by rw [part_size s j 4 hf]; omega)).mono ?_
                  rintro e w4 ⟨rfl, rfl⟩
                  rw [Hv.out]
                  go_wp2_with fail
                  refine (Ok_cur _ _ s (j + 4) _ hr3).mono ?_
                  rintro e w4 ⟨rfl, rfl⟩
                  go_wp2_with fail
                  refine (Left_is _ _ s (j + 4) ((s.size : Int) - ((j : Int) + 4)) _ hr3 (by omega) (by omega)).mono ?_
                  rintro e w4 ⟨rfl, rfl⟩
                  go_wp2
                  go_roundw
                  case rel => exact ⟨k + 1, j + 4, true, by omega, by omega, by go_num, by go_num, rfl, hr3, hb.trans (hb3.mono z0)⟩
                  case measure => simp [intOf]; omega
                · go_wp2_with fail
                  refine (RWord_over _ _ s j wr hr hs hj (by omega)).mono ?_
                  rintro e w3 ⟨rfl, hr3, hb3⟩
                  go_wp2_with fail
                  refine (refnum_empty _).mono ?_
                  rintro e w4 ⟨rfl, rfl⟩
                  go_wp2_with fail
                  refine (Ok_failed _ _ _ hr3).mono ?_
                  rintro e w4 ⟨rfl, rfl⟩
                  go_wp2_with fail
                  refine (Left_failed _ _ _ hr3).mono ?_
                  rintro e w4 ⟨rfl, rfl⟩
                  go_wp2
                  go_roundw
                  case rel => exact ⟨k + 1, j, false, by omega, hj, by go_num, rfl, rfl, hr3, hb.trans (hb3.mono z0)⟩
                  case measure => simp [intOf]; omega
            · by_cases h3 : kd = 3
              · subst h3
                cases ok
                · go_wp2_with fail
                  refine (take_failed _ _ nn wr hr).mono ?_
                  rintro e w3 ⟨rfl, hr3, hb3⟩
                  rw [show nobytes = ⟨#[]⟩ from rfl]
                  go_wp2_with fail
                  refine (Ok_failed _ _ _ hr3).mono ?_
                  rintro e w4 ⟨rfl, rfl⟩
                  go_wp2_with fail
                  refine (Left_failed _ _ _ hr3).mono ?_
                  rintro e w4 ⟨rfl, rfl⟩
                  go_wp2
                  go_roundw
                  case rel => exact ⟨k + 1, j, false, by omega, hj, by go_num, rfl, rfl, hr3, hb.trans (hb3.mono z0)⟩
                  case measure => simp [intOf]; omega
                · by_cases hneg : nn < 0
                  · go_wp2_with fail
                    refine (take_nofit _ _ s j nn wr hr hs hj (by omega)).mono ?_
                    rintro e w3 ⟨rfl, hr3, hb3⟩
                    go_wp2_with fail
                    refine (Ok_failed _ _ _ hr3).mono ?_
                    rintro e w4 ⟨rfl, rfl⟩
                    go_wp2_with fail
                    refine (Left_failed _ _ _ hr3).mono ?_
                    rintro e w4 ⟨rfl, rfl⟩
                    go_wp2
                    go_roundw
                    case rel => exact ⟨k + 1, j, false, by omega, hj, by go_num, rfl, rfl, hr3, hb.trans (hb3.mono z0)⟩
                    case measure => simp [intOf]; omega
                  · obtain ⟨n, rfl⟩ := Int.eq_ofNat_of_zero_le (show 0 ≤ nn by omega)
                    by_cases hf : j + n ≤ s.size
                    · go_wp2_with fail
                      refine (take_fit _ _ s j n wr hr hs hf).mono ?_
                      rintro e w3 ⟨rfl, hr3, hb3⟩
                      go_wp2_with fail
                      refine (Ok_cur _ _ s (j + n) _ hr3).mono ?_
                      rintro e w4 ⟨rfl, rfl⟩
                      go_wp2_with fail
                      refine (Left_is _ _ s (j + n) ((s.size : Int) - ((j : Int) + (n : Int))) _ hr3 (by omega) (by omega)).mono ?_
                      rintro e w4 ⟨rfl, rfl⟩
                      go_wp2
                      go_roundw
                      case rel => exact ⟨k + 1, j + n, true, by omega, by omega, by go_num, by go_num, rfl, hr3, hb.trans (hb3.mono z0)⟩
                      case measure => simp [intOf]; omega
                    · go_wp2_with fail
                      refine (take_nofit _ _ s j n wr hr hs hj (by omega)).mono ?_
                      rintro e w3 ⟨rfl, hr3, hb3⟩
                      go_wp2_with fail
                      refine (Ok_failed _ _ _ hr3).mono ?_
                      rintro e w4 ⟨rfl, rfl⟩
                      go_wp2_with fail
                      refine (Left_failed _ _ _ hr3).mono ?_
                      rintro e w4 ⟨rfl, rfl⟩
                      go_wp2
                      go_roundw
                      case rel => exact ⟨k + 1, j, false, by omega, hj, by go_num, rfl, rfl, hr3, hb.trans (hb3.mono z0)⟩
                      case measure => simp [intOf]; omega
              · by_cases h4 : kd = 4
                · subst h4
                  cases ok
                  · go_wp2_with fail
                    refine (Rest_failed _ _ wr hr).mono ?_
                    rintro e w3 ⟨rfl, hr3, hb3⟩
                    rw [show nobytes = ⟨#[]⟩ from rfl]
                    go_wp2_with fail
                    refine (Ok_failed _ _ _ hr3).mono ?_
                    rintro e w4 ⟨rfl, rfl⟩
                    go_wp2_with fail
                    refine (Left_failed _ _ _ hr3).mono ?_
                    rintro e w4 ⟨rfl, rfl⟩
                    go_wp2
                    go_roundw
                    case rel => exact ⟨k + 1, j, false, by omega, hj, by go_num, rfl, rfl, hr3, hb.trans (hb3.mono z0)⟩
                    case measure => simp [intOf]; omega
                  · go_wp2_with fail
                    refine (Rest_fit _ _ s j wr hr hs hj).mono ?_
                    rintro e w3 ⟨rfl, hr3, hb3⟩
                    go_wp2_with fail
                    refine (Ok_cur _ _ s (s.size) _ hr3).mono ?_
                    rintro e w4 ⟨rfl, rfl⟩
                    go_wp2_with fail
                    refine (Left_is _ _ s (s.size) (0) _ hr3 (by omega) (by omega)).mono ?_
                    rintro e w4 ⟨rfl, rfl⟩
                    go_wp2
                    go_roundw
                    case rel => exact ⟨k + 1, s.size, true, by omega, by omega, by go_num, by go_num, rfl, hr3, hb.trans (hb3.mono z0)⟩
                    case measure => simp [intOf]; omega
                · have e0 : (kd == 0) = false := beq_eq_false_iff_ne.2 h0
                  have e1 : (kd == 1) = false := beq_eq_false_iff_ne.2 h1
                  have e2 : (kd == 2) = false := beq_eq_false_iff_ne.2 h2
                  have e3 : (kd == 3) = false := beq_eq_false_iff_ne.2 h3
                  have e4 : (kd == 4) = false := beq_eq_false_iff_ne.2 h4
                  clear h0 h1 h2 h3 h4
                  go_wp2
                  go_roundw
                  case rel => exact ⟨k + 1, j, ok, by omega, hj, by go_num, rfl, rfl, hr, hb⟩
                  case measure => simp [intOf]; omega
    · go_wp2
      go_ret
      exact ⟨rfl, hb⟩

set_option maxHeartbeats 400000 in
theorem reads_long (s : ByteArray) (a : Option Addr) (len cap : Nat) (w : World) (hs : s.size ≤ maxLen) (hl : len ≤ maxLen) (h : 200 < s.size ∨ 60 < len) :
    Calls Try.prog 3 #[.string s, .slice a len cap] w fun e w' => e = .returned (.bool true) ∧ Below w.heap.size w w' := by
  unfold maxLen at hs hl
  by_cases h1 : 200 < s.size
  · go_enter Try.func3, Try.ntmps3
    go_wp2_with fail
    refine (awake_any _).mono ?_
    rintro e w2 ⟨rfl, hb⟩
    go_wp2
    go_ret
    exact ⟨rfl, hb⟩
  · have h2 : 60 < len := by omega
    go_enter Try.func3, Try.ntmps3
    go_wp2_with fail
    refine (awake_any _).mono ?_
    rintro e w2 ⟨rfl, hb⟩
    go_wp2
    go_ret
    exact ⟨rfl, hb⟩

theorem reads_all (s : ByteArray) (a : Option Addr) (len cap : Nat) (ks ns : Nat → Int) (w : World) (hs : s.size ≤ maxLen) (hrow : ActRow w a len ks ns) :
    Calls Try.prog 3 #[.string s, .slice a len cap] w fun e w' => e = .returned (.bool true) ∧ Below w.heap.size w w' := by
  have hl : len ≤ maxLen := by
    rcases hrow with h0 | ⟨_, _, _, _, h, _⟩
    · subst h0; exact Nat.zero_le _
    · exact h
  by_cases h : 200 < s.size ∨ 60 < len
  · exact reads_long s a len cap w hs hl h
  · exact reads_short s a len cap ks ns w (by omega) (by omega) hrow
#print axioms reads_all
end Go.Proofs.Ytcnojafpkkfabaa
