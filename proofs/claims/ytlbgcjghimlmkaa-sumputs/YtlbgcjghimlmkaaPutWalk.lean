/- The law that a text with its check sum put into it is good: its walk. -/
import Derived.Test.YtlbgcjghimlmkaaPut
import Derived.Deep.DeepCutAuto
namespace Go.Proofs.Ytlbgcjghimlmkaa
open Go.RowKit

set_option maxHeartbeats 400000 in
theorem puts_long (s : ByteArray) (p : Int) (w : World) (hs : s.size ≤ maxLen) (h : 3000 < s.size) :
    Calls Try.prog 4 #[.string s, .int .i64 p] w fun e w' => e = .returned (.bool true) ∧ Below w.heap.size w w' := by
  unfold maxLen at hs
  go_enter Try.func4, Try.ntmps4
  go_wp2_with fail
  refine (awake_any _).mono ?_
  rintro e w2 ⟨rfl, hb⟩
  go_wp2
  go_ret
  exact ⟨rfl, hb⟩

set_option maxHeartbeats 1000000 in
theorem puts_bad (s : ByteArray) (p : Int) (w : World) (hs : s.size ≤ 3000) (h : noPlace s p) :
    Calls Try.prog 4 #[.string s, .int .i64 p] w fun e w' => e = .returned (.bool true) ∧ Below w.heap.size w w' := by
  have H := Lib.hid (put_bad s p w hs h)
  by_cases h0 : p < 0
  · clear h
    go_enter Try.func4, Try.ntmps4
    go_wp2_with fail
    refine H.out.mono ?_
    rintro e w1 ⟨rfl, rfl⟩
    go_wp2_with fail
    refine (awake_any _).mono ?_
    rintro e w2 ⟨rfl, hb⟩
    go_wp2
    go_ret
    exact ⟨rfl, hb⟩
  · obtain ⟨k, rfl⟩ := Int.eq_ofNat_of_zero_le (show 0 ≤ p by omega)
    by_cases h1 : k % 2 = 1
    · have hb : (((k : Int) % 2) != 0) = true := by rw [bne_iff_ne]; omega
      clear h
      go_enter Try.func4, Try.ntmps4
      go_wp2_with fail
      refine H.out.mono ?_
      rintro e w1 ⟨rfl, rfl⟩
      go_wp2_with fail
      refine (awake_any _).mono ?_
      rintro e w2 ⟨rfl, hb⟩
      go_wp2
      go_ret
      exact ⟨rfl, hb⟩
    · have hb : (((k : Int) % 2) != 0) = false := by rw [bne_eq_false_iff_eq]; omega
      have hc : (s.size : Int) - 2 < (k : Int) := by rcases h with h | h | h <;> omega
      clear h
      go_enter Try.func4, Try.ntmps4
      go_wp2_with fail
      refine H.out.mono ?_
      rintro e w1 ⟨rfl, rfl⟩
      go_wp2_with fail
      refine (awake_any _).mono ?_
      rintro e w2 ⟨rfl, hb⟩
      go_wp2
      go_ret
      exact ⟨rfl, hb⟩

set_option maxHeartbeats 1000000 in
theorem puts_good (s : ByteArray) (k : Nat) (w : World) (hs : s.size ≤ 3000) (he : k % 2 = 0) (hk : k + 2 ≤ s.size) :
    Calls Try.prog 4 #[.string s, .int .i64 k] w fun e w' => e = .returned (.bool true) ∧ Below w.heap.size w w' := by
  have hb : (((k : Int) % 2) != 0) = false := by rw [bne_eq_false_iff_eq]; omega
  have k1 : ¬ (s.size : Int) - 2 < (k : Int) := by omega
  have H1 := Lib.hid (put_good s k w hs he hk)
  have H2 := Lib.hid (fun w => refput_any s k w hs hk)
  have HG := Lib.hid (put_is_good s k he hk)
  have hz := swap_size s k (csum s k) hk
  generalize swap s k (csum s k) = t at *
  have hz2 : t.size ≤ 3000 := by omega
  clear hz
  go_enter Try.func4, Try.ntmps4
  go_wp2_with fail
  refine H1.out.mono ?_
  rintro e w1 ⟨rfl, hb1⟩
  go_wp2_with fail
  refine (H2.out w1).mono ?_
  rintro e w2 ⟨rfl, hb2⟩
  have b2 := below_then (below_then (below_start w) hb1) hb2
  clear hb1 hb2
  go_wp2_with fail
  refine (good_one t _ _ (by simp) (newCell _ _ _ _ _ _ rfl rfl) (by omega) HG.out).mono ?_
  rintro e w3 ⟨rfl, hb3⟩
  have b3 := below_new b2 hb3
  clear hb3 b2
  go_wp2_with fail
  refine (awake_any _).mono ?_
  rintro e w4 ⟨rfl, hb4⟩
  have b4 := below_then b3 hb4
  go_wp2
  go_ret
  exact ⟨rfl, b4.1⟩

theorem puts_all (s : ByteArray) (p : Int) (hs : s.size ≤ maxLen) (w : World) :
    Calls Try.prog 4 #[.string s, .int .i64 p] w fun e w' => e = .returned (.bool true) ∧ Below w.heap.size w w' := by
  by_cases h : 3000 < s.size
  · exact puts_long s p w hs h
  · by_cases hn : noPlace s p
    · exact puts_bad s p w (by omega) hn
    · unfold noPlace at hn
      obtain ⟨k, rfl⟩ := Int.eq_ofNat_of_zero_le (show 0 ≤ p by omega)
      exact puts_good s k w (by omega) (by omega) (by omega)
#print axioms puts_all
end Go.Proofs.Ytlbgcjghimlmkaa
