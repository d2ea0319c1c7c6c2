/- The walks of the document's own check sum, and of sum.Update. -/
import Derived.Test.YtohemlejceiojaaSFew
namespace Go.Proofs.Ytohemlejceiojaa
open Go.RowKit

/-- The state behind k bytes. -/
structure SumAt (s : ByteArray) (k : Nat) (n : Nat) (sm : Bool) : Prop where
  le : k ≤ s.size
  num : n = M.acc true (s.data.toList.take k) % 65535
  some : sm = decide (0 < M.acc true (s.data.toList.take k))

theorem SumAt.zero (s : ByteArray) : SumAt s 0 0 false := ⟨Nat.zero_le _, by simp [M.acc], by simp [M.acc]⟩

theorem SumAt.step {s : ByteArray} {k n : Nat} {sm : Bool} (h : SumAt s k n sm) (hk : k < s.size) :
    SumAt s (k + 1) ((n + (if k % 2 = 0 then s[k].toNat * 256 else s[k].toNat)) % 65535) (sm || decide (0 < s[k].toNat)) := by
  have e := M.acc_take true s k hk
  have hf : M.half (M.flag true k) s[k] = if k % 2 = 0 then s[k].toNat * 256 else s[k].toNat := by
    unfold M.flag M.half
    rcases Nat.mod_two_eq_zero_or_one k with e | e <;> simp [e]
  rw [hf] at e
  refine ⟨hk, ?_, ?_⟩
  · rw [e, h.num, Nat.mod_add_mod]
  · rw [e, h.some, Bool.eq_iff_iff]
    simp only [Bool.or_eq_true, decide_eq_true_eq]
    split <;> omega

theorem SumAt.last {s : ByteArray} {n : Nat} {sm : Bool} (h : SumAt s s.size n sm) : M.fold (M.acc true s.data.toList) = if n = 0 ∧ sm = true then 65535 else n := by
  have e : s.data.toList.take s.size = s.data.toList := List.take_of_length_le (by simp)
  obtain ⟨_, h1, h2⟩ := h
  rw [e] at h1 h2
  unfold M.fold
  by_cases g : M.acc true s.data.toList = 0
  · simp [g] at h1 h2; simp [g, h1, h2]
  · have : sm = true := by rw [h2]; simp; omega
    rw [if_neg g, this, h1]
    simp only [and_true]
    split <;> omega

set_option maxHeartbeats 1000000 in
theorem refsum_any (s : ByteArray) (w : World) (hs : s.size ≤ 100000) :
    Calls Try.prog 31 #[.string s] w fun e w' => e = .returned (.int .i64 (M.fold (M.acc true s.data.toList))) ∧ w = w' := by
  go_enter Try.func31, Try.ntmps31
  go_wp2
  go_loop [3, 4, 5] (fun n sm i => ∃ (k m : Nat) (b : Bool), SumAt s k m b ∧ i = .int .i64 k ∧ n = .int .i64 m ∧ sm = .bool b) (fun _ _ i => s.size - (intOf i).toNat)
  case atStart => exact ⟨0, 0, false, SumAt.zero s, rfl, rfl, rfl⟩
  case round =>
    obtain ⟨k, m, b, hat, rfl, rfl, rfl⟩ := hrel
    have hk := hat.le
    have hm : m < 65535 := by have := hat.num; omega
    by_cases hlt : k < s.size
    · have Hst := Lib.hid (hat.step hlt)
      have hc := s[k].toNat_lt
      by_cases hp : k % 2 = 0
      · have Hst2 : Hid (SumAt s (k + 1) ((m + s[k].toNat * 256) % 65535) (b || decide (0 < s[k].toNat))) := by have := Hst.out; rw [if_pos hp] at this; exact this
        clear Hst
        cases b
        · go_wp2
          go_round
          case rel => exact ⟨k + 1, _, _, Hst2.out, by go_num, by go_num, by simp⟩
          case measure => simp [intOf]; omega
        · go_wp2
          go_round
          case rel => exact ⟨k + 1, _, _, Hst2.out, by go_num, by go_num, by simp⟩
          case measure => simp [intOf]; omega
      · have Hst2 : Hid (SumAt s (k + 1) ((m + s[k].toNat) % 65535) (b || decide (0 < s[k].toNat))) := by have := Hst.out; rw [if_neg hp] at this; exact this
        clear Hst
        cases b
        · go_wp2
          go_round
          case rel => exact ⟨k + 1, _, _, Hst2.out, by go_num, by go_num, by simp⟩
          case measure => simp [intOf]; omega
        · go_wp2
          go_round
          case rel => exact ⟨k + 1, _, _, Hst2.out, by go_num, by go_num, by simp⟩
          case measure => simp [intOf]; omega
    · have Hk := Lib.hid (show k = s.size by omega)
      by_cases hm0 : m = 0
      · cases b
        · go_wp2
          go_ret
          exact ⟨ret_int (by rw [Hk.out] at hat; rw [hat.last]; simp [hm0]), rfl⟩
        · go_wp2
          go_ret
          exact ⟨ret_int (by rw [Hk.out] at hat; rw [hat.last]; simp [hm0]), rfl⟩
      · cases b
        · go_wp2
          go_ret
          exact ⟨ret_int (by rw [Hk.out] at hat; rw [hat.last]; simp), rfl⟩
        · go_wp2
          go_ret
          exact ⟨ret_int (by rw [Hk.out] at hat; rw [hat.last]; simp [hm0]), rfl⟩

set_option maxHeartbeats 400000 in
theorem refof_any (s : ByteArray) (w : World) (hs : s.size ≤ 100000) :
    Calls Try.prog 22 #[.string s] w fun e w' => e = .returned (.int .i64 (M.ofs [s])) ∧ w = w' := by
  have hf := M.fold_le (M.acc true s.data.toList)
  have ho : M.ofs [s] = 65535 - M.fold (M.acc true s.data.toList) := by simp [M.ofs, M.tot]
  have Ho := Lib.hid ho
  clear ho
  go_enter Try.func22, Try.ntmps22
  go_wp2_with fail
  refine (refsum_any s _ hs).mono ?_
  rintro e w1 ⟨rfl, rfl⟩
  go_wp2
  go_ret
  exact ⟨ret_int (by rw [Ho.out]; omega), rfl⟩
#print axioms refof_any
end Go.Proofs.Ytohemlejceiojaa
