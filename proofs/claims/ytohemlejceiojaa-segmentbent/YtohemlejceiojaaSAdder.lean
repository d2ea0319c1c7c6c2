/- The walk of the closure that adds a text's halves of shorts to its sum. -/
import Derived.Test.YtohemlejceiojaaSFold
namespace Go.Proofs.Ytohemlejceiojaa
open Go.RowKit

/-- What the closure keeps: which half is next, and the sum so far, each in a block of one cell. -/
structure Kept (Bh Bt : Nat) (h : Bool) (T : Nat) (w : World) : Prop where
  ne : Bh ≠ Bt
  high : w.heap[Bh]? = some (.cells #[.bool h] 4 (0, 0))
  total : w.heap[Bt]? = some (.cells #[.int .u64 (T : Int)] 78 (0, 0))

theorem Kept.put {Bh Bt : Nat} {h h' : Bool} {T T' : Nat} {w : World} (k : Kept Bh Bt h T w) : Kept Bh Bt h' T' ((w.setCell ⟨Bt, 0, none⟩ (.int .u64 (T' : Int))).setCell ⟨Bh, 0, none⟩ (.bool h')) :=
  ⟨k.ne, one_setCell (v := .bool h) (by rw [Below.heap_setCell _ _ _ _ k.ne]; exact k.high),
    by rw [Below.heap_setCell _ _ _ _ (Ne.symm k.ne)]; exact one_setCell k.total⟩

set_option maxHeartbeats 400000 in
theorem adder_any (s : ByteArray) (B Bh Bt T : Nat) (h : Bool) (w : World) (hB1 : B ≤ Bh) (hB2 : B ≤ Bt) (hT : T + 65280 * s.size < 4611686018427387904) (hk0 : Kept Bh Bt h T w) :
    Calls Try.prog 43 #[.string s, .pointer (some ⟨Bh, 0, none⟩), .pointer (some ⟨Bt, 0, none⟩)] w fun e w' =>
      e = .returned (.int .i64 (M.fold (T + M.acc h s.data.toList))) ∧ Kept Bh Bt (M.flag h s.size) (T + M.acc h s.data.toList) w' ∧ Below B w w' := by
  go_enter Try.func43, Try.ntmps43
  go_wp2
  go_loopw [9] (fun i wr => ∃ k : Nat, k ≤ s.size ∧ i = .int .i64 k ∧ Kept Bh Bt (M.flag h k) (T + M.acc h (s.data.toList.take k)) wr ∧ Below B w wr)
    (fun i _ => s.size - (intOf i).toNat)
  case atStart => exact ⟨0, Nat.zero_le _, rfl, by simpa [M.flag, M.acc] using hk0, Below.refl _ _⟩
  case round =>
    obtain ⟨k, hk, rfl, hkept, hbel⟩ := hrel
    have cH := cell_of_one hkept.high
    have fH := free_of_one hkept.high
    have cT := cell_of_one hkept.total
    have fT := free_of_one hkept.total
    have hne := hkept.ne
    have hle := M.acc_le h (s.data.toList.take k)
    have hln : (s.data.toList.take k).length ≤ k := List.length_take_le _ _
    by_cases hlt : k < s.size
    · have hst := M.acc_take h s k hlt
      have hfs := M.flag_succ h k
      have Hst := Lib.hid hst
      have Hfs := Lib.hid hfs
      clear hst hfs
      generalize hA : M.acc h (s.data.toList.take k) = A at *
      generalize hF : M.flag h k = F at *
      have HA := Lib.hid hA
      have HF := Lib.hid hF
      clear hA hF
      have hc := s[k].toNat_lt
      cases F
      · have hw1 : (T : Int) + (A : Int) + (s[k].toNat : Int) = ((T + M.acc h (s.data.toList.take (k + 1)) : Nat) : Int) := by
          rw [Hst.out]; simp [M.half]; omega
        have Hw := Lib.hid hw1
        clear hw1
        go_wp2
        go_roundw
        case rel => exact ⟨k + 1, by omega, by go_num, by rw [Hw.out, Hfs.out]; exact hkept.put, (hbel.setCell hB2 _).setCell hB1 _⟩
        case measure => simp [intOf]; omega
      · have hw1 : (T : Int) + (A : Int) + (s[k].toNat : Int) * 256 = ((T + M.acc h (s.data.toList.take (k + 1)) : Nat) : Int) := by
          rw [Hst.out]; simp [M.half]; omega
        have Hw := Lib.hid hw1
        clear hw1
        go_wp2
        go_roundw
        case rel => exact ⟨k + 1, by omega, by go_num, by rw [Hw.out, Hfs.out]; exact hkept.put, (hbel.setCell hB2 _).setCell hB1 _⟩
        case measure => simp [intOf]; omega
    · have Hk := Lib.hid (show k = s.size by omega)
      have Ht : Hid (s.data.toList.take k = s.data.toList) := by
        show _ = _
        rw [List.take_of_length_le (by simp; omega)]
      go_wp2_with fail
      rw [show ((T : Int) + (M.acc h (s.data.toList.take k) : Int)) = ((T + M.acc h (s.data.toList.take k) : Nat) : Int) from by omega]
      refine (fold_any _ _ (by omega)).mono ?_
      rintro e w' ⟨rfl, rfl⟩
      go_wp2
      go_ret
      exact ⟨ret_int (by rw [Ht.out]), by rw [Ht.out, Hk.out] at hkept; exact hkept, hbel⟩
#print axioms adder_any
end Go.Proofs.Ytohemlejceiojaa
