/- The law that Update gives the check sum of the text with the other short: its walk. -/
import Derived.Test.YtlbgcjghimlmkaaUpdMath
import Derived.Deep.DeepCutAuto
import Derived.BigQuiet
import Derived.Deep.QuietTactic
import Derived.Deep.RegionWith
import Derived.Deep.RegionHeld3
import Derived.OpenShut
namespace Go.Proofs.Ytlbgcjghimlmkaa
open Go.RowKit

theorem upd_long (s : ByteArray) (p n a b c : Int) (w : World) (hs : s.size ≤ maxLen) (h : 3000 < s.size) :
    Calls Try.prog 5 #[.string s, .int .u16 p, .int .u16 n, .int .i64 a, .int .i64 b, .int .i64 c] w fun e w' => e = .returned (.bool true) ∧ Below w.heap.size w w' := by
  unfold maxLen at hs
  go_enter Try.func5, Try.ntmps5
  go_wp2_with fail
  refine (awake_any _).mono ?_
  rintro e w2 ⟨rfl, hb⟩
  go_wp2
  go_ret
  exact ⟨rfl, hb⟩

def isBad (a b c : Int) : Bool := decide (a < 0) || decide (65535 < a) || decide (b < 0) || decide (65535 < b) || decide (c < 0) || decide (65535 < c)

theorem bad_of {a b c : Int} (h : isBad a b c = true) : ¬ (0 ≤ a ∧ a ≤ 65535) ∨ ¬ (0 ≤ b ∧ b ≤ 65535) ∨ ¬ (0 ≤ c ∧ c ≤ 65535) := by
  simp only [isBad, Bool.or_eq_true, decide_eq_true_eq] at h
  omega

set_option maxHeartbeats 2000000 in
set_option maxRecDepth 100000 in
theorem upd_short (s : ByteArray) (p n : Nat) (a b c : Int) (w : World) (hs : s.size ≤ 3000) (hp : p ≤ 65535) (hn : n ≤ 65535) :
    Calls Try.prog 5 #[.string s, .int .u16 p, .int .u16 n, .int .i64 a, .int .i64 b, .int .i64 c] w fun e w' => e = .returned (.bool true) ∧ Below w.heap.size w w' := by
  go_enter Try.func5, Try.ntmps5
  go_upto_region 3 with fail
  go_cut [13] (fun x wx => x = .bool (isBad a b c) ∧ w = wx)
  case first =>
    go_wp2_with fail
    all_goals
      go_meet
      refine ⟨congrArg Value.bool ?_, rfl⟩
      first
        | rfl
        | (refine Eq.symm ?_; simp only [isBad, Bool.or_eq_true, decide_eq_true_eq]; omega)
  case rest =>
    obtain ⟨rfl, rfl⟩ := hcut
    go_upto_region 4 with fail
    go_cut [13, 50] (fun _ x wx => x = .bool false ∧ w = wx)
    case first =>
      by_cases hb : isBad a b c = true
      · have Hb := Lib.hid (bad_of hb)
        go_wp2_with fail
        refine (update_bad a b c _ Hb.out).mono ?_
        rintro e w1 ⟨rfl, rfl⟩
        go_wp2_with fail
        go_meet
        exact ⟨rfl, rfl⟩
      · have hb2 : isBad a b c = false := by simpa using hb
        clear hb
        go_wp2_with fail
        go_meet
        exact ⟨rfl, rfl⟩
    case rest =>
      obtain ⟨rfl, rfl⟩ := hcut
      by_cases h2 : s.size < 2
      · go_wp2_with fail
        refine (awake_any _).mono ?_
        rintro e w2 ⟨rfl, hb⟩
        go_wp2
        go_ret
        exact ⟨rfl, hb⟩
      · have hq : 1 ≤ s.size / 2 := by omega
        obtain ⟨k, hk, he, hk2⟩ : ∃ k, p % (s.size / 2) * 2 = k ∧ k % 2 = 0 ∧ k + 2 ≤ s.size := ⟨_, rfl, by omega, by have := Nat.mod_lt p (show 0 < s.size / 2 by omega); omega⟩
        have hm1 : 0 ≤ (p : Int) % ((s.size : Int) / 2) := Int.emod_nonneg _ (by omega)
        have hm2 : (p : Int) % ((s.size : Int) / 2) ≤ 3000 := by have := Int.emod_lt_of_pos (p : Int) (show 0 < (s.size : Int) / 2 by omega); omega
        have hk' : (p : Int) % ((s.size : Int) / 2) * 2 = (k : Int) := by rw [← hk]; push_cast; rfl
        have Hk := Lib.hid hk'
        have He := Lib.hid he
        clear hk he hk'
        go_upto_region 8 with fail
        go_cut [14] (fun x wx => x = .int .i64 k ∧ w = wx)
        case first =>
          go_wp2_with fail
          go_meet
          exact ⟨by rw [← Hk.out], rfl⟩
        case rest =>
          obtain ⟨rfl, rfl⟩ := hcut
          have i1 : k < s.size := by omega
          have i2 : k + 1 < s.size := by omega
          have b1 := s[k].toNat_lt
          have b2 := s[k + 1].toNat_lt
          go_upto_region 9 with fail
          go_cut [15] (fun x wx => x = .int .i64 ((256 * s[k].toNat + s[k + 1].toNat : Nat) : Int) ∧ Below w.heap.size w wx)
          case first =>
            have j1 : (k : Int) + 1 < (s.size : Int) := by omega
            have j2 : 0 ≤ (k : Int) + 1 := by omega
            have j3 : ((k : Int) + 1).toNat = k + 1 := by omega
            have j4 : IntKind.i64.wrap ((k : Int) + 1) = (k : Int) + 1 := IntWalk.i64_in _ (by omega)
            go_quiet (fail)
            go_wp2_with fail
            go_meet
            exact ⟨by go_num, below_drewN (Below.refl _ _) _⟩
          case rest =>
            obtain ⟨rfl, hw1⟩ := hcut
            go_upto_region 10 with fail
            go_cut [16] (fun x wx => x = .string (swap s k n) ∧ Below w.heap.size w wx)
            case first =>
              have j1 : (k : Int) + 2 ≤ (s.size : Int) := by omega
              have j2 : 0 ≤ (k : Int) + 2 := by omega
              have j3 : ((k : Int) + 2).toNat = k + 2 := by omega
              have j4 : IntKind.i64.wrap ((k : Int) + 2) = (k : Int) + 2 := IntWalk.i64_in _ (by omega)
              have z1 := two_size n
              have j5 : IntKind.i64.wrap (n : Int) = (n : Int) := IntWalk.i64_in _ (by omega)
              have q1 : (k : Int) ≤ (s.size : Int) := by omega
              have q2 : k ≤ s.size := by omega
              have q3 : (s.extract 0 k).size = k := by rw [ByteArray.size_extract]; omega
              have q4 : (s.extract 0 k ++ two n).size = k + 2 := by rw [ByteArray.size_append, q3, two_size]
              have q5 : (s.extract (k + 2) s.size).size = s.size - (k + 2) := by rw [ByteArray.size_extract]; omega
              have q6 : (9223372036854775807 < k + 2) = False := by simp; omega
              have q7 : (9223372036854775807 < s.size) = False := by simp; omega
              go_region_held3 (fun _ => True) (exact trivial) ((go_at_call 16; (with_reducible refine (short_any n _ hn).mono ?_); rintro e w1 ⟨rfl, hb⟩))
              go_wp2_with fail
              go_meet
              exact ⟨rfl, hw1.drew.trans (hb.mono hw1.size)⟩
            case rest =>
              obtain ⟨rfl, hw2⟩ := hcut
              have hz := swap_size s k n hk2
              have HE := Lib.hid (upd_eq s k n hn He.out hk2)
              generalize swap s k n = t at *
              have hz2 : t.size ≤ 3000 := by omega
              clear hz
              go_wp2_with fail
              refine (refsum_any t _ (by omega)).mono ?_
              rintro e w1 ⟨rfl, rfl⟩
              by_cases h0 : M.fold (M.acc true t.data.toList) = 0
              · rw [h0]
                clear h0
                go_wp2_with fail
                refine (awake_any _).mono ?_
                rintro e w2 ⟨rfl, hb⟩
                go_wp2
                go_ret
                exact ⟨rfl, hw2.trans (hb.mono hw2.size)⟩
              · have HF := Lib.hid (HE.out h0)
                have h00 : (((M.fold (M.acc true t.data.toList) : Nat) : Int) == 0) = false := by simp; omega
                clear HE h0
                have hl1 : M.ofs [s] ≤ 65535 := by unfold M.ofs; omega
                go_wp2_with fail
                refine (refof_any s _ (by omega)).mono ?_
                rintro e w1 ⟨rfl, rfl⟩
                go_wp2_with fail
                refine (update_good _ (256 * s[k].toNat + s[k + 1].toNat) n _ hl1 (by omega) hn).mono ?_
                rintro e w1 ⟨rfl, rfl⟩
                rw [HF.out]
                go_wp2_with fail
                refine (refof_any t _ (by omega)).mono ?_
                rintro e w1 ⟨rfl, rfl⟩
                go_wp2_with fail
                refine (awake_any _).mono ?_
                rintro e w2 ⟨rfl, hb⟩
                go_wp2
                go_ret
                exact ⟨rfl, hw2.trans (hb.mono hw2.size)⟩

theorem upd_all (s : ByteArray) (p n a b c : Int) (hs : s.size ≤ maxLen) (hp : (Lit.int .u16 p).wf = true) (hn : (Lit.int .u16 n).wf = true) (w : World) :
    Calls Try.prog 5 #[.string s, .int .u16 p, .int .u16 n, .int .i64 a, .int .i64 b, .int .i64 c] w fun e w' => e = .returned (.bool true) ∧ Below w.heap.size w w' := by
  by_cases h : 3000 < s.size
  · exact upd_long s p n a b c w hs h
  · have bp := bounds_u16 hp
    have bn := bounds_u16 hn
    obtain ⟨p', rfl⟩ := Int.eq_ofNat_of_zero_le bp.1
    obtain ⟨n', rfl⟩ := Int.eq_ofNat_of_zero_le bn.1
    exact upd_short s p' n' a b c w (by omega) (by omega) (by omega)
#print axioms upd_all
end Go.Proofs.Ytlbgcjghimlmkaa
