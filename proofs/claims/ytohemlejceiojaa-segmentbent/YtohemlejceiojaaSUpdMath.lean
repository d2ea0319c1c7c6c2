/- Plain arithmetic: a short of a text is another one. -/
import Derived.Test.YtohemlejceiojaaSUpd
namespace Go.Proofs.Ytohemlejceiojaa
open Go.RowKit

theorem fold_upd (P Q was now : Nat) (hw : was ≤ 65535) (h : P + now + Q ≠ 0) :
    M.fold ((65535 - (65535 - M.fold (P + was + Q))) + (65535 - was) + now) = M.fold (P + now + Q) := by
  have h1 : 65535 - (65535 - M.fold (P + was + Q)) = M.fold (P + was + Q) := by have := M.fold_le (P + was + Q); omega
  rw [h1]
  by_cases g : P + was + Q = 0
  · rw [g]
    unfold M.fold
    rw [if_pos rfl, if_neg (by omega), if_neg (by omega)]
    omega
  · have e : M.fold (P + was + Q) = (P + was + Q - 1) % 65535 + 1 := by unfold M.fold; rw [if_neg g]
    rw [e]
    unfold M.fold
    rw [if_neg (by omega), if_neg h]
    omega

/-- A text with another short at k. -/
def swap (s : ByteArray) (k now : Nat) : ByteArray := s.extract 0 k ++ two now ++ s.extract (k + 2) s.size

theorem swap_size (s : ByteArray) (k now : Nat) (h : k + 2 ≤ s.size) : (swap s k now).size = s.size := by
  unfold swap
  rw [ByteArray.size_append, ByteArray.size_append, two_size, ByteArray.size_extract, ByteArray.size_extract]
  omega

theorem acc_two (h : Bool) (x y : UInt8) : M.acc h [x, y] = M.half h x + M.half (!h) y := by simp [M.acc]

theorem split_list (s : ByteArray) (k : Nat) (h : k + 2 ≤ s.size) :
    s.data.toList = s.data.toList.take k ++ ([s[k], s[k + 1]] ++ s.data.toList.drop (k + 2)) := by
  have hl : s.data.toList.length = s.size := by rw [Array.length_toList]; rfl
  have e1 : s.data.toList.drop k = s.data.toList[k]'(by omega) :: s.data.toList.drop (k + 1) := List.drop_eq_getElem_cons (by omega)
  have e2 : s.data.toList.drop (k + 1) = s.data.toList[k + 1]'(by omega) :: s.data.toList.drop (k + 2) := List.drop_eq_getElem_cons (by omega)
  have e3 : s.data.toList[k]'(by omega) = s[k] := by rw [Array.getElem_toList]; rfl
  have e4 : s.data.toList[k + 1]'(by omega) = s[k + 1] := by rw [Array.getElem_toList]; rfl
  calc s.data.toList = s.data.toList.take k ++ s.data.toList.drop k := (List.take_append_drop k _).symm
    _ = _ := by rw [e1, e2, e3, e4]; rfl

theorem acc_split (s : ByteArray) (k : Nat) (he : k % 2 = 0) (h : k + 2 ≤ s.size) :
    M.acc true s.data.toList = M.acc true (s.data.toList.take k) + (256 * s[k].toNat + s[k + 1].toNat) + M.acc true (s.data.toList.drop (k + 2)) := by
  have hl : (s.data.toList.take k).length = k := by rw [List.length_take, Array.length_toList]; exact Nat.min_eq_left (by have : s.data.size = s.size := rfl; omega)
  have e := congrArg (M.acc true) (split_list s k h)
  rw [M.acc_append, M.acc_append, acc_two, hl] at e
  have f1 : M.flag true k = true := by unfold M.flag; rw [if_pos he]
  rw [f1] at e
  have f2 : M.flag true [s[k], s[k + 1]].length = true := by show M.flag true 2 = true; decide
  rw [f2] at e
  simp only [M.half, Bool.not_true, if_true] at e
  rw [e]
  simp
  omega

theorem swap_list (s : ByteArray) (k now : Nat) :
    (swap s k now).data.toList = s.data.toList.take k ++ ((two now).data.toList ++ s.data.toList.drop (k + 2)) := by
  unfold swap
  simp only [ByteArray.data_append, ByteArray.data_extract, Array.toList_append, Array.toList_extract, List.extract_eq_take_drop, List.append_assoc]
  have hd : (s.data.toList.drop (k + 2)).take (s.size - (k + 2)) = s.data.toList.drop (k + 2) := List.take_of_length_le (by simp)
  simp [hd]

theorem acc_swap (s : ByteArray) (k now : Nat) (hn : now ≤ 65535) (he : k % 2 = 0) (h : k + 2 ≤ s.size) :
    M.acc true (swap s k now).data.toList = M.acc true (s.data.toList.take k) + now + M.acc true (s.data.toList.drop (k + 2)) := by
  have hl : (s.data.toList.take k).length = k := by rw [List.length_take, Array.length_toList]; exact Nat.min_eq_left (by have : s.data.size = s.size := rfl; omega)
  have f1 : M.flag true k = true := by unfold M.flag; rw [if_pos he]
  rw [swap_list, M.acc_append, M.acc_append, hl, f1]
  have f2 : M.flag true (two now).data.toList.length = true := by show M.flag true 2 = true; decide
  have f3 : M.acc true (two now).data.toList = now := by
    show M.acc true [UInt8.ofNat (now / 256), UInt8.ofNat (now % 256)] = now
    rw [acc_two]
    simp only [M.half, Bool.not_true, if_true]
    simp
    omega
  rw [f2, f3]
  omega

theorem ofs_one (s : ByteArray) : M.ofs [s] = 65535 - M.fold (M.acc true s.data.toList) := by simp [M.ofs, M.tot]

/-- What Update answers is the check sum of the text with the other short. -/
theorem upd_eq (s : ByteArray) (k now : Nat) (hn : now ≤ 65535) (he : k % 2 = 0) (h : k + 2 ≤ s.size) (h0 : M.fold (M.acc true (swap s k now).data.toList) ≠ 0) :
    65535 - M.fold ((65535 - M.ofs [s]) + (65535 - (256 * s[k].toNat + s[k + 1].toNat)) + now) = M.ofs [swap s k now] := by
  have b1 := s[k].toNat_lt
  have b2 := s[k + 1].toNat_lt
  rw [ofs_one, ofs_one, acc_split s k he h, acc_swap s k now hn he h]
  rw [acc_swap s k now hn he h] at h0
  rw [fold_upd _ _ _ _ (by omega) (fun e => h0 (by rw [e]; rfl))]
end Go.Proofs.Ytohemlejceiojaa
