/- The law of check sums, of being good, and of what stands ahead of a segment: its walk. -/
import Derived.Test.YtlbgcjghimlmkaaPseudo
import Derived.OpenShut
namespace Go.Proofs.Ytlbgcjghimlmkaa
open Go.RowKit

set_option maxHeartbeats 400000 in
theorem ofl_long (a b : ByteArray) (c d p z : Int) (w : World) (ha : a.size ≤ maxLen) (hb : b.size ≤ maxLen) (h : 3000 < a.size ∨ 3000 < b.size) :
    Calls Try.prog 3 #[.string a, .string b, .int .u32 c, .int .u32 d, .int .i64 p, .int .i64 z] w fun e w' => e = .returned (.bool true) ∧ Below w.heap.size w w' := by
  unfold maxLen at ha hb
  by_cases h1 : 3000 < a.size
  · go_enter Try.func3, Try.ntmps3
    go_wp2_with fail
    refine (awake_any _).mono ?_
    rintro e w2 ⟨rfl, hb⟩
    go_wp2
    go_ret
    exact ⟨rfl, hb⟩
  · have h2 : 3000 < b.size := by omega
    go_enter Try.func3, Try.ntmps3
    go_wp2_with fail
    refine (awake_any _).mono ?_
    rintro e w2 ⟨rfl, hb⟩
    go_wp2
    go_ret
    exact ⟨rfl, hb⟩

theorem ofs_joined (A B : ByteArray) : M.ofs [A, B] = M.ofs [A ++ B] := by
  simp [M.ofs, M.tot, ByteArray.data_append]

set_option maxHeartbeats 400000 in
theorem good_two (A B : ByteArray) (b : Nat) (w : World) (hb : b < w.heap.size) (h0 : w.cell? ⟨b, 0, none⟩ = some (.string A)) (h1 : w.cell? ⟨b, 1, none⟩ = some (.string B)) (hs : A.size + B.size ≤ 100000) (n : Nat) (hn : M.ofs [A, B] = n) :
    Calls Try.prog 10 #[.slice (some ⟨b, 0, none⟩) 2 2] w fun e w' => e = .returned (.bool ((n : Int) == 0)) ∧ Below w.heap.size w w' := by
  have Hn := Lib.hid hn
  clear hn
  go_enter Try.func10, Try.ntmps10
  go_wp2_with fail
  refine (of_two A B b w hb h0 h1 hs).mono ?_
  rintro e w1 ⟨rfl, hb1⟩
  rw [Hn.out]
  go_wp2
  go_ret
  exact ⟨rfl, hb1⟩

set_option maxHeartbeats 2000000 in
theorem ofl_short (A B : ByteArray) (c d : Nat) (p z : Int) (w : World) (ha : A.size ≤ 3000) (hb : B.size ≤ 3000) (hc : c < 4294967296) (hd : d < 4294967296) :
    Calls Try.prog 3 #[.string A, .string B, .int .u32 c, .int .u32 d, .int .i64 p, .int .i64 z] w fun e w' => e = .returned (.bool true) ∧ Below w.heap.size w w' := by
  have Hj := Lib.hid (ofs_joined A B)
  have hz : (A ++ B).size ≤ 6000 := by rw [ByteArray.size_append]; omega
  obtain ⟨n, hn⟩ : ∃ n, M.ofs [A ++ B] = n := ⟨_, rfl⟩
  have Hn := Lib.hid hn
  clear hn
  go_enter Try.func3, Try.ntmps3
  go_wp2_with fail
  refine (refof_any (A ++ B) _ (by omega)).mono ?_
  rintro e w1 ⟨rfl, rfl⟩
  rw [Hn.out]
  go_wp2_with fail
  refine (of_two A B _ _ (by simp) (newCell _ _ _ _ _ _ rfl rfl) (newCell _ _ _ _ _ _ rfl rfl) (by omega)).mono ?_
  rintro e w2 ⟨rfl, hb2⟩
  rw [Hj.out, Hn.out]
  have k2 := below_new (below_start w) hb2
  clear hb2
  go_wp2_with fail
  refine (good_two A B _ _ (by simp) (newCell _ _ _ _ _ _ rfl rfl) (newCell _ _ _ _ _ _ rfl rfl) (by omega) n (by rw [Hj.out, Hn.out])).mono ?_
  rintro e w3 ⟨rfl, hb3⟩
  have k3 := below_new k2 hb3
  clear hb3 k2
  go_wp2_with fail
  refine (of_nil _).mono ?_
  rintro e w4 ⟨rfl, hb4⟩
  have k4 := below_then k3 hb4
  clear hb4 k3
  go_wp2_with fail
  refine (pseudo_any c d p z _ hc hd).mono ?_
  rintro e w5 ⟨rfl, hb5⟩
  have k5 := below_then k4 hb5
  clear hb5 k4
  have H6 := Lib.hid (fun w => refpseudo_any c d p z w hc hd)
  generalize (⟨(pseudo c d p z).toArray⟩ : ByteArray) = t at *
  go_wp2_with fail
  refine (H6.out _).mono ?_
  rintro e w6 ⟨rfl, hb6⟩
  have k6 := below_then k5 hb6
  clear hb6 k5 H6
  go_wp2_with fail
  refine (awake_any _).mono ?_
  rintro e w7 ⟨rfl, hb7⟩
  have k7 := below_then k6 hb7
  clear hb7 k6
  go_wp2
  go_ret
  exact ⟨rfl, k7.1⟩

theorem ofl_all (a b : ByteArray) (c d p z : Int) (ha : a.size ≤ maxLen) (hb : b.size ≤ maxLen) (hc : (Lit.int .u32 c).wf = true) (hd : (Lit.int .u32 d).wf = true) (w : World) :
    Calls Try.prog 3 #[.string a, .string b, .int .u32 c, .int .u32 d, .int .i64 p, .int .i64 z] w fun e w' => e = .returned (.bool true) ∧ Below w.heap.size w w' := by
  by_cases h : 3000 < a.size ∨ 3000 < b.size
  · exact ofl_long a b c d p z w ha hb h
  · have bc := bounds_u32 hc
    have bd := bounds_u32 hd
    obtain ⟨c', rfl⟩ := Int.eq_ofNat_of_zero_le bc.1
    obtain ⟨d', rfl⟩ := Int.eq_ofNat_of_zero_le bd.1
    exact ofl_short a b c' d' p z w (by omega) (by omega) (by omega) (by omega)
#print axioms ofl_all
end Go.Proofs.Ytlbgcjghimlmkaa
