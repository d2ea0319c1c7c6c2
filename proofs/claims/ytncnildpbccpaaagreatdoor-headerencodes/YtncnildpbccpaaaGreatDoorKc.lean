/- Plain arithmetic of check sums: sums of halves of shorts, and the carries brought round. No program is named here. -/
import Derived.WalkKit
import Derived.Test.YtncnildpbccpaaaGreatDoorRows
import Derived.WalkSpells
import Derived.WalkSmall
import Derived.Lib.Hide
import Derived.Test.YtncnildpbccpaaaGreatDoorKb
import Derived.Test.YtncnildpbccpaaaGreatDoorKa
import Derived.Deep.RegionWith
import Derived.Laws.StructEq
import Derived.Deep.QuietTactic
import Derived.BigQuiet
import Derived.Deep.DeepCutAuto
import Derived.StillTail
set_option maxRecDepth 100000
namespace Go.Proofs.YtncnildpbccpaaaGreatDoor.M

/-- The carries brought round. -/
def fold (n : Nat) : Nat := if n = 0 then 0 else (n - 1) % 65535 + 1

theorem fold_step (n : Nat) (h : 65535 < n) : fold (n / 65536 + n % 65536) = fold n := by
  unfold fold
  rw [if_neg (by omega), if_neg (by omega)]
  omega

theorem fold_small (n : Nat) (h : n ≤ 65535) : fold n = n := by
  unfold fold
  split <;> omega

theorem fold_le (n : Nat) : fold n ≤ 65535 := by
  unfold fold
  split <;> omega

/-- What a byte adds, as the high half of a short or as its low half. -/
def half (h : Bool) (c : UInt8) : Nat := if h then c.toNat * 256 else c.toNat

/-- Which half is next behind so many bytes. -/
def flag (h : Bool) (n : Nat) : Bool := if n % 2 = 0 then h else !h

def acc : Bool → List UInt8 → Nat
  | _, [] => 0
  | h, c :: r => half h c + acc (!h) r

theorem flag_succ (h : Bool) (n : Nat) : flag h (n + 1) = !flag h n := by
  unfold flag
  rcases Nat.mod_two_eq_zero_or_one n with e | e
  · rw [if_neg (by omega), if_pos e]
  · rw [if_pos (by omega), if_neg (by omega)]; simp

theorem flag_not (h : Bool) (n : Nat) : flag (!h) n = flag h (n + 1) := by
  rw [flag_succ]; unfold flag; split <;> rfl

theorem acc_append (h : Bool) (l m : List UInt8) : acc h (l ++ m) = acc h l + acc (flag h l.length) m := by
  induction l generalizing h with
  | nil => simp [acc, flag]
  | cons c r ih => simp only [List.cons_append, acc, ih, List.length_cons, flag_not]; omega

theorem half_le (h : Bool) (c : UInt8) : half h c ≤ 65280 := by
  have := c.toNat_lt
  unfold half; split <;> omega

theorem acc_le (h : Bool) (l : List UInt8) : acc h l ≤ 65280 * l.length := by
  induction l generalizing h with
  | nil => simp [acc]
  | cons c r ih => have := ih (!h); have := half_le h c; simp only [acc, List.length_cons]; omega

theorem acc_snoc (h : Bool) (l : List UInt8) (c : UInt8) : acc h (l ++ [c]) = acc h l + half (flag h l.length) c := by
  rw [acc_append]; simp [acc]

theorem take_snoc (s : ByteArray) (k : Nat) (h : k < s.size) : s.data.toList.take (k + 1) = s.data.toList.take k ++ [s[k]] := by
  rw [List.take_succ_eq_append_getElem (by simpa using h)]; rfl

theorem acc_take (h : Bool) (s : ByteArray) (k : Nat) (hk : k < s.size) :
    acc h (s.data.toList.take (k + 1)) = acc h (s.data.toList.take k) + half (flag h k) s[k] := by
  rw [take_snoc s k hk, acc_snoc, List.length_take, Nat.min_eq_left (by simpa using Nat.le_of_lt hk)]

/-- The bytes of the first texts, one behind the other. -/
def tot (l : List ByteArray) (k : Nat) : List UInt8 := ((l.take k).map fun s => s.data.toList).flatten

theorem tot_zero (l : List ByteArray) : tot l 0 = [] := by simp [tot]

theorem tot_succ (l : List ByteArray) (k : Nat) (h : k < l.length) : tot l (k + 1) = tot l k ++ (l.getD k ByteArray.empty).data.toList := by
  unfold tot
  rw [List.take_succ_eq_append_getElem h, List.map_append, List.flatten_append, List.getD_eq_getElem?_getD, List.getElem?_eq_getElem h]
  simp only [List.map_cons, List.map_nil, List.flatten_cons, List.flatten_nil, List.append_nil, Option.getD_some]

theorem tot_len_le (l : List ByteArray) (k : Nat) : (tot l k).length ≤ (tot l l.length).length := by
  unfold tot
  rw [List.take_of_length_le (Nat.le_refl l.length)]
  have e : (List.map (fun s : ByteArray => s.data.toList) l).flatten = (List.map (fun s : ByteArray => s.data.toList) (List.take k l)).flatten ++ (List.map (fun s : ByteArray => s.data.toList) (List.drop k l)).flatten := by
    rw [← List.flatten_append, ← List.map_append, List.take_append_drop]
  rw [e, List.length_append]
  omega

theorem tot_len_succ_le (l : List ByteArray) (k : Nat) (h : k < l.length) : (tot l k).length + (l.getD k ByteArray.empty).size ≤ (tot l l.length).length := by
  have h1 := tot_len_le l (k + 1)
  rw [tot_succ l k h, List.length_append] at h1
  rw [Array.length_toList] at h1
  exact h1

theorem flag_flag (h : Bool) (a b : Nat) : flag (flag h a) b = flag h (a + b) := by
  unfold flag
  rcases Nat.mod_two_eq_zero_or_one a with e | e <;> rcases Nat.mod_two_eq_zero_or_one b with f | f
  · have : (a + b) % 2 = 0 := by omega
    simp [e, f, this]
  · have : (a + b) % 2 = 1 := by omega
    simp [e, f, this]
  · have : (a + b) % 2 = 1 := by omega
    simp [e, f, this]
  · have : (a + b) % 2 = 0 := by omega
    simp [e, f, this]

/-- The check sum of texts, one behind the other. -/
def ofs (l : List ByteArray) : Nat := 65535 - fold (acc true (tot l l.length))

end Go.Proofs.YtncnildpbccpaaaGreatDoor.M

namespace Go.Proofs.YtncnildpbccpaaaGreatDoor
open Go.RowKit

theorem and_low (k : Nat) (h : k < 4611686018427387904) : bits BinOp.and IntKind.u64 (k : Int) 65535 = (k : Int) % 65536 := by
  have h1 := bits_and_u64_nat k 65535 (by omega) (by omega)
  have e : k &&& 65535 = k % 65536 := Nat.and_two_pow_sub_one_eq_mod k 16
  rw [e] at h1
  exact h1.trans (by omega)

theorem ret_int {k : IntKind} {a b : Int} (h : a = b) : Ending.returned (.int k a) = .returned (.int k b) := by rw [h]

set_option maxHeartbeats 400000 in
theorem fold_any (n : Nat) (w : World) (hn : n < 4611686018427387904) :
    Calls Tryz.prog 74 #[.int .u64 n] w fun e w' => e = .returned (.int .i64 (M.fold n)) ∧ w = w' := by
  go_enter Tryz.func74, Tryz.ntmps74
  go_wp2
  go_loop [0] (fun x => ∃ k : Nat, k ≤ n ∧ x = .int .u64 k ∧ M.fold k = M.fold n) (fun x => (intOf x).toNat)
  case atStart => exact ⟨n, Nat.le_refl _, rfl, rfl⟩
  case round =>
    obtain ⟨k, hk, rfl, hf⟩ := hrel
    have Hf := Lib.hid hf
    clear hf
    have hb := and_low k (by omega)
    by_cases hlt : 65535 < k
    · go_wp2
      clear hb
      go_round
      case rel => exact ⟨k / 65536 + k % 65536, by omega, by go_num, by rw [M.fold_step k hlt]; exact Hf.out⟩
      case measure => simp [intOf]; omega
    · go_wp2
      go_ret
      exact ⟨ret_int (by rw [← Hf.out, M.fold_small k (by omega)]), rfl⟩
#print axioms fold_any
end Go.Proofs.YtncnildpbccpaaaGreatDoor

namespace Go.Proofs.YtncnildpbccpaaaGreatDoor
open Go.RowKit

/-- What the closure keeps: which half is next, and the sum so far, each in a block of one cell. -/
structure Kept (Bh Bt : Nat) (h : Bool) (T : Nat) (w : World) : Prop where
  ne : Bh ≠ Bt
  high : w.heap[Bh]? = some (.cells #[.bool h] 4 (0, 0))
  total : w.heap[Bt]? = some (.cells #[.int .u64 (T : Int)] 108 (0, 0))

theorem Kept.put {Bh Bt : Nat} {h h' : Bool} {T T' : Nat} {w : World} (k : Kept Bh Bt h T w) : Kept Bh Bt h' T' ((w.setCell ⟨Bt, 0, none⟩ (.int .u64 (T' : Int))).setCell ⟨Bh, 0, none⟩ (.bool h')) :=
  ⟨k.ne, one_setCell (v := .bool h) (by rw [Below.heap_setCell _ _ _ _ k.ne]; exact k.high),
    by rw [Below.heap_setCell _ _ _ _ (Ne.symm k.ne)]; exact one_setCell k.total⟩

set_option maxHeartbeats 400000 in
theorem adder_any (s : ByteArray) (B Bh Bt T : Nat) (h : Bool) (w : World) (hB1 : B ≤ Bh) (hB2 : B ≤ Bt) (hT : T + 65280 * s.size < 4611686018427387904) (hk0 : Kept Bh Bt h T w) :
    Calls Tryz.prog 73 #[.string s, .pointer (some ⟨Bh, 0, none⟩), .pointer (some ⟨Bt, 0, none⟩)] w fun e w' =>
      e = .returned (.int .i64 (M.fold (T + M.acc h s.data.toList))) ∧ Kept Bh Bt (M.flag h s.size) (T + M.acc h s.data.toList) w' ∧ Below B w w' := by
  go_enter Tryz.func73, Tryz.ntmps73
  go_wp2
  go_loopw [9] (fun i wr => ∃ k : Nat, k ≤ s.size ∧ i = .int .i64 k ∧ Kept Bh Bt (M.flag h k) (T + M.acc h (s.data.toList.take k)) wr ∧ Below B w wr)
    (fun i _ => s.size - (intOf i).toNat)
  case atStart => exact ⟨0, Nat.zero_le _, rfl, by simpa [M.flag, M.acc] using hk0, Below.refl _ _⟩
  case round =>
    obtain ⟨k, hk, rfl, hkept, hbel⟩ := hrel
    have cH := cell_of_one hkept.high
    have fH := free_of_one hkept.high
    have cT := cell_of_one hkept.total
    have fT := free_of_one hkept.total
    have hne := hkept.ne
    have hle := M.acc_le h (s.data.toList.take k)
    have hln : (s.data.toList.take k).length ≤ k := List.length_take_le _ _
    by_cases hlt : k < s.size
    · have hst := M.acc_take h s k hlt
      have hfs := M.flag_succ h k
      have Hst := Lib.hid hst
      have Hfs := Lib.hid hfs
      clear hst hfs
      generalize hA : M.acc h (s.data.toList.take k) = A at *
      generalize hF : M.flag h k = F at *
      have HA := Lib.hid hA
      have HF := Lib.hid hF
      clear hA hF
      have hc := s[k].toNat_lt
      cases F
      · have hw1 : (T : Int) + (A : Int) + (s[k].toNat : Int) = ((T + M.acc h (s.data.toList.take (k + 1)) : Nat) : Int) := by
          rw [Hst.out]; simp [M.half]; omega
        have Hw := Lib.hid hw1
        clear hw1
        go_wp2
        go_roundw
        case rel => exact ⟨k + 1, by omega, by go_num, by rw [Hw.out, Hfs.out]; exact hkept.put, (hbel.setCell hB2 _).setCell hB1 _⟩
        case measure => simp [intOf]; omega
      · have hw1 : (T : Int) + (A : Int) + (s[k].toNat : Int) * 256 = ((T + M.acc h (s.data.toList.take (k + 1)) : Nat) : Int) := by
          rw [Hst.out]; simp [M.half]; omega
        have Hw := Lib.hid hw1
        clear hw1
        go_wp2
        go_roundw
        case rel => exact ⟨k + 1, by omega, by go_num, by rw [Hw.out, Hfs.out]; exact hkept.put, (hbel.setCell hB2 _).setCell hB1 _⟩
        case measure => simp [intOf]; omega
    · have Hk := Lib.hid (show k = s.size by omega)
      have Ht : Hid (s.data.toList.take k = s.data.toList) := by
        show _ = _
        rw [List.take_of_length_le (by simp; omega)]
      go_wp2_with fail
      rw [show ((T : Int) + (M.acc h (s.data.toList.take k) : Int)) = ((T + M.acc h (s.data.toList.take k) : Nat) : Int) from by omega]
      refine (fold_any _ _ (by omega)).mono ?_
      rintro e w' ⟨rfl, rfl⟩
      go_wp2
      go_ret
      exact ⟨ret_int (by rw [Ht.out]), by rw [Ht.out, Hk.out] at hkept; exact hkept, hbel⟩
#print axioms adder_any
end Go.Proofs.YtncnildpbccpaaaGreatDoor

namespace Go.Proofs.YtncnildpbccpaaaGreatDoor
open Go.RowKit

set_option maxHeartbeats 400000 in
theorem made_any (w : World) :
    Calls Tryz.prog 58 #[] w fun e w' =>
      e = .returned (.func (.func 73) #[] #[.pointer (some ⟨w.heap.size + 1, 0, none⟩), .pointer (some ⟨w.heap.size, 0, none⟩)]) ∧ Kept (w.heap.size + 1) w.heap.size true 0 w' ∧ Below w.heap.size w w' := by
  go_enter Tryz.func58, Tryz.ntmps58
  go_wp2
  go_ret
  refine ⟨rfl, ⟨by omega, ?_, ?_⟩, ((Below.refl _ _).alloc (Nat.le_refl _) _).alloc (by simp) _⟩
  · simpa using heap_alloc_new (w.alloc (.cells #[.int .u64 0] 108)) (.cells #[.bool true] 4)
  · rw [Below.heap_alloc _ _ _ (by simp)]; exact heap_alloc_new w _

/-- Texts in a row of cells. -/
def Row (l : List ByteArray) (b : Nat) (w : World) : Prop := b < w.heap.size ∧ ∀ i, i < l.length → w.cell? ⟨b, i, none⟩ = some (.string (l.getD i ByteArray.empty))

set_option maxHeartbeats 400000 in
theorem of_any (l : List ByteArray) (b cap : Nat) (w : World) (hrow : Row l b w) (hl : l.length ≤ 1000) (hT : (M.tot l l.length).length ≤ 1000000) :
    Calls Tryz.prog 38 #[.slice (some ⟨b, 0, none⟩) l.length cap] w fun e w' => e = .returned (.int .i64 (M.ofs l)) ∧ Below w.heap.size w w' := by
  have Hrow := Lib.hid hrow.2
  have hb := hrow.1
  clear hrow
  go_enter Tryz.func38, Tryz.ntmps38
  go_wp2_with fail
  refine (made_any w).mono ?_
  rintro e w1 ⟨rfl, hk1, hb1⟩
  go_wp2
  go_loopw [4, 10] (fun n i wr => ∃ k : Nat, k ≤ l.length ∧ i = .int .i64 k ∧ n = .int .i64 (M.fold (M.acc true (M.tot l k))) ∧ Kept (w.heap.size + 1) w.heap.size (M.flag true (M.tot l k).length) (M.acc true (M.tot l k)) wr ∧ Below w.heap.size w wr)
    (fun _ i _ => l.length - (intOf i).toNat)
  case atStart => exact ⟨0, Nat.zero_le _, rfl, by simp [M.tot_zero, M.acc, M.fold], by simpa [M.tot_zero, M.acc, M.flag] using hk1, hb1⟩
  case round =>
    obtain ⟨k, hk, rfl, rfl, hkept, hbel⟩ := hrel
    by_cases hlt : k < l.length
    · have hc : wr.cell? ⟨b, k, none⟩ = some (.string (l.getD k ByteArray.empty)) := by rw [hbel.cell (p := ⟨b, k, none⟩) hb]; exact Hrow.out k hlt
      have Hs := Lib.hid (M.tot_succ l k hlt)
      have hs1 := M.tot_len_succ_le l k hlt
      have hs2 := M.acc_le true (M.tot l k)
      generalize l.getD k ByteArray.empty = s at *
      go_wp2_with fail
      refine (adder_any s w.heap.size (w.heap.size + 1) w.heap.size _ _ wr (by omega) (by omega) (by omega) hkept).mono ?_
      rintro e w2 ⟨rfl, hk2, hb2⟩
      have e1 : M.acc true (M.tot l k) + M.acc (M.flag true (M.tot l k).length) s.data.toList = M.acc true (M.tot l (k + 1)) := by rw [Hs.out, M.acc_append]
      have e2 : M.flag (M.flag true (M.tot l k).length) s.size = M.flag true (M.tot l (k + 1)).length := by rw [Hs.out, M.flag_flag, List.length_append, Array.length_toList]; rfl
      rw [e1] at hk2 ⊢
      rw [e2] at hk2
      clear e1 e2
      go_wp2
      go_roundw
      case rel => exact ⟨k + 1, by omega, by go_num, rfl, hk2, hbel.trans hb2⟩
      case measure => simp [intOf]; omega
    · have hf := M.fold_le (M.acc true (M.tot l k))
      have Hk := Lib.hid (show k = l.length by omega)
      go_wp2
      go_ret
      exact ⟨ret_int (by rw [Hk.out] at hf ⊢; unfold M.ofs; omega), hbel⟩

set_option maxHeartbeats 400000 in
theorem of_nil (w : World) :
    Calls Tryz.prog 38 #[.slice none 0 0] w fun e w' => e = .returned (.int .i64 65535) ∧ Below w.heap.size w w' := by
  go_enter Tryz.func38, Tryz.ntmps38
  go_wp2_with fail
  refine (made_any w).mono ?_
  rintro e w1 ⟨rfl, hk1, hb1⟩
  go_wp2
  refine wp_loop_rounds 1 ?_
  rw [rounds_succ]
  go_wp2
  go_ret
  exact ⟨rfl, hb1⟩

#print axioms of_any
#print axioms of_nil

end Go.Proofs.YtncnildpbccpaaaGreatDoor

namespace Go.Proofs.YtncnildpbccpaaaGreatDoor
open Go.RowKit

theorem of_one (A : ByteArray) (b : Nat) (w : World) (hb : b < w.heap.size) (h0 : w.cell? ⟨b, 0, none⟩ = some (.string A)) (hs : A.size ≤ 100000) :
    Calls Tryz.prog 38 #[.slice (some ⟨b, 0, none⟩) 1 1] w fun e w' => e = .returned (.int .i64 (M.ofs [A])) ∧ Below w.heap.size w w' :=
  of_any [A] b 1 w ⟨hb, fun i hi => by
    match i, hi with
    | 0, _ => exact h0⟩ (by simp) (by simp [M.tot]; omega)

theorem of_two (A B : ByteArray) (b : Nat) (w : World) (hb : b < w.heap.size) (h0 : w.cell? ⟨b, 0, none⟩ = some (.string A)) (h1 : w.cell? ⟨b, 1, none⟩ = some (.string B)) (hs : A.size + B.size ≤ 100000) :
    Calls Tryz.prog 38 #[.slice (some ⟨b, 0, none⟩) 2 2] w fun e w' => e = .returned (.int .i64 (M.ofs [A, B])) ∧ Below w.heap.size w w' :=
  of_any [A, B] b 2 w ⟨hb, fun i hi => by
    match i, hi with
    | 0, _ => exact h0
    | 1, _ => exact h1⟩ (by simp) (by simp [M.tot]; omega)

theorem of_three (A B C : ByteArray) (b : Nat) (w : World) (hb : b < w.heap.size) (h0 : w.cell? ⟨b, 0, none⟩ = some (.string A)) (h1 : w.cell? ⟨b, 1, none⟩ = some (.string B)) (h2 : w.cell? ⟨b, 2, none⟩ = some (.string C)) (hs : A.size + B.size + C.size ≤ 100000) :
    Calls Tryz.prog 38 #[.slice (some ⟨b, 0, none⟩) 3 3] w fun e w' => e = .returned (.int .i64 (M.ofs [A, B, C])) ∧ Below w.heap.size w w' :=
  of_any [A, B, C] b 3 w ⟨hb, fun i hi => by
    match i, hi with
    | 0, _ => exact h0
    | 1, _ => exact h1
    | 2, _ => exact h2⟩ (by simp) (by simp [M.tot]; omega)

/-- A call that was handed a new block: what was there is as it was. -/
theorem below_new {B : Nat} {w w1 w2 : World} {o : Obj} (h : Below B w w1 ∧ B ≤ w1.heap.size) (hb : Below (w1.alloc o).heap.size (w1.alloc o) w2) : Below B w w2 ∧ B ≤ w2.heap.size := by
  have hz : (w1.alloc o).heap.size = w1.heap.size + 1 := by simp
  have hs := hb.size
  have h2 := h.2
  exact ⟨(h.1.alloc h.2 o).trans (hb.mono (by omega)), by omega⟩

end Go.Proofs.YtncnildpbccpaaaGreatDoor

namespace Go.Proofs.YtncnildpbccpaaaGreatDoor
open Go.RowKit

/-- The state behind k bytes. -/
structure SumAt (s : ByteArray) (k : Nat) (n : Nat) (sm : Bool) : Prop where
  le : k ≤ s.size
  num : n = M.acc true (s.data.toList.take k) % 65535
  some : sm = decide (0 < M.acc true (s.data.toList.take k))

theorem SumAt.zero (s : ByteArray) : SumAt s 0 0 false := ⟨Nat.zero_le _, by simp [M.acc], by simp [M.acc]⟩

theorem SumAt.step {s : ByteArray} {k n : Nat} {sm : Bool} (h : SumAt s k n sm) (hk : k < s.size) :
    SumAt s (k + 1) ((n + (if k % 2 = 0 then s[k].toNat * 256 else s[k].toNat)) % 65535) (sm || decide (0 < s[k].toNat)) := by
  have e := M.acc_take true s k hk
  have hf : M.half (M.flag true k) s[k] = if k % 2 = 0 then s[k].toNat * 256 else s[k].toNat := by
    unfold M.flag M.half
    rcases Nat.mod_two_eq_zero_or_one k with e | e <;> simp [e]
  rw [hf] at e
  refine ⟨hk, ?_, ?_⟩
  · rw [e, h.num, Nat.mod_add_mod]
  · rw [e, h.some, Bool.eq_iff_iff]
    simp only [Bool.or_eq_true, decide_eq_true_eq]
    split <;> omega

theorem SumAt.last {s : ByteArray} {n : Nat} {sm : Bool} (h : SumAt s s.size n sm) : M.fold (M.acc true s.data.toList) = if n = 0 ∧ sm = true then 65535 else n := by
  have e : s.data.toList.take s.size = s.data.toList := List.take_of_length_le (by simp)
  obtain ⟨_, h1, h2⟩ := h
  rw [e] at h1 h2
  unfold M.fold
  by_cases g : M.acc true s.data.toList = 0
  · simp [g] at h1 h2; simp [g, h1, h2]
  · have : sm = true := by rw [h2]; simp; omega
    rw [if_neg g, this, h1]
    simp only [and_true]
    split <;> omega

set_option maxHeartbeats 1000000 in
theorem refsum_any (s : ByteArray) (w : World) (hs : s.size ≤ 100000) :
    Calls Tryz.prog 59 #[.string s] w fun e w' => e = .returned (.int .i64 (M.fold (M.acc true s.data.toList))) ∧ w = w' := by
  go_enter Tryz.func59, Tryz.ntmps59
  go_wp2
  go_loop [3, 4, 5] (fun n sm i => ∃ (k m : Nat) (b : Bool), SumAt s k m b ∧ i = .int .i64 k ∧ n = .int .i64 m ∧ sm = .bool b) (fun _ _ i => s.size - (intOf i).toNat)
  case atStart => exact ⟨0, 0, false, SumAt.zero s, rfl, rfl, rfl⟩
  case round =>
    obtain ⟨k, m, b, hat, rfl, rfl, rfl⟩ := hrel
    have hk := hat.le
    have hm : m < 65535 := by have := hat.num; omega
    by_cases hlt : k < s.size
    · have Hst := Lib.hid (hat.step hlt)
      have hc := s[k].toNat_lt
      by_cases hp : k % 2 = 0
      · have Hst2 : Hid (SumAt s (k + 1) ((m + s[k].toNat * 256) % 65535) (b || decide (0 < s[k].toNat))) := by have := Hst.out; rw [if_pos hp] at this; exact this
        clear Hst
        cases b
        · go_wp2
          go_round
          case rel => exact ⟨k + 1, _, _, Hst2.out, by go_num, by go_num, by simp⟩
          case measure => simp [intOf]; omega
        · go_wp2
          go_round
          case rel => exact ⟨k + 1, _, _, Hst2.out, by go_num, by go_num, by simp⟩
          case measure => simp [intOf]; omega
      · have Hst2 : Hid (SumAt s (k + 1) ((m + s[k].toNat) % 65535) (b || decide (0 < s[k].toNat))) := by have := Hst.out; rw [if_neg hp] at this; exact this
        clear Hst
        cases b
        · go_wp2
          go_round
          case rel => exact ⟨k + 1, _, _, Hst2.out, by go_num, by go_num, by simp⟩
          case measure => simp [intOf]; omega
        · go_wp2
          go_round
          case rel => exact ⟨k + 1, _, _, Hst2.out, by go_num, by go_num, by simp⟩
          case measure => simp [intOf]; omega
    · have Hk := Lib.hid (show k = s.size by omega)
      by_cases hm0 : m = 0
      · cases b
        · go_wp2
          go_ret
          exact ⟨ret_int (by rw [Hk.out] at hat; rw [hat.last]; simp [hm0]), rfl⟩
        · go_wp2
          go_ret
          exact ⟨ret_int (by rw [Hk.out] at hat; rw [hat.last]; simp [hm0]), rfl⟩
      · cases b
        · go_wp2
          go_ret
          exact ⟨ret_int (by rw [Hk.out] at hat; rw [hat.last]; simp), rfl⟩
        · go_wp2
          go_ret
          exact ⟨ret_int (by rw [Hk.out] at hat; rw [hat.last]; simp [hm0]), rfl⟩

set_option maxHeartbeats 400000 in
theorem refof_any (s : ByteArray) (w : World) (hs : s.size ≤ 100000) :
    Calls Tryz.prog 41 #[.string s] w fun e w' => e = .returned (.int .i64 (M.ofs [s])) ∧ w = w' := by
  have hf := M.fold_le (M.acc true s.data.toList)
  have ho : M.ofs [s] = 65535 - M.fold (M.acc true s.data.toList) := by simp [M.ofs, M.tot]
  have Ho := Lib.hid ho
  clear ho
  go_enter Tryz.func41, Tryz.ntmps41
  go_wp2_with fail
  refine (refsum_any s _ hs).mono ?_
  rintro e w1 ⟨rfl, rfl⟩
  go_wp2
  go_ret
  exact ⟨ret_int (by rw [Ho.out]; omega), rfl⟩
#print axioms refof_any
end Go.Proofs.YtncnildpbccpaaaGreatDoor

namespace Go.Proofs.YtncnildpbccpaaaGreatDoor
open Go.RowKit

/-- A short's two bytes, the higher first. -/
def two (n : Nat) : ByteArray := ⟨#[UInt8.ofNat (n / 256), UInt8.ofNat (n % 256)]⟩

theorem two_size (n : Nat) : (two n).size = 2 := rfl

set_option maxHeartbeats 400000 in
theorem short_any (n : Nat) (w : World) (hn : n ≤ 65535) :
    Calls Tryz.prog 27 #[.int .i64 n] w fun e w' => e = .returned (.string (two n)) ∧ Below w.heap.size w w' := by
  have hcells : ∀ j (hj : j < [UInt8.ofNat (n / 256), UInt8.ofNat (n % 256)].length), (w.alloc (.cells #[.int .u8 ((n : Int) / 256), .int .u8 ((n : Int) % 256)] 5)).cell? ((⟨w.heap.size, 0, none⟩ : Addr).add j) = some (.int .u8 ([UInt8.ofNat (n / 256), UInt8.ofNat (n % 256)][j].toNat : Int)) := by
    intro j hj
    match j, hj with
    | 0, _ => simp [Addr.add]; omega
    | 1, _ => simp [Addr.add]
  have hcv : (convert 40 9 (.slice (some ⟨w.heap.size, 0, none⟩) 2 2)).run Tryz.prog (w.alloc (.cells #[.int .u8 ((n : Int) / 256), .int .u8 ((n : Int) % 256)] 5)) = .ok (.string (two n)) (w.alloc (.cells #[.int .u8 ((n : Int) / 256), .int .u8 ((n : Int) % 256)] 5)) := run_convert_bytes_back (P := Tryz.prog) _ 40 9 5 ⟨w.heap.size, 0, none⟩ 2 _ Tryz.underlying40 Tryz.underlying5 Tryz.underlying9 hcells
  clear hcells
  go_enter Tryz.func27, Tryz.ntmps27
  go_wp2
  go_ret
  exact ⟨rfl, (Below.refl _ _).alloc (Nat.le_refl _) _⟩

end Go.Proofs.YtncnildpbccpaaaGreatDoor

namespace Go.Proofs.YtncnildpbccpaaaGreatDoor
open Go.RowKit

theorem fold_upd (P Q was now : Nat) (hw : was ≤ 65535) (h : P + now + Q ≠ 0) :
    M.fold ((65535 - (65535 - M.fold (P + was + Q))) + (65535 - was) + now) = M.fold (P + now + Q) := by
  have h1 : 65535 - (65535 - M.fold (P + was + Q)) = M.fold (P + was + Q) := by have := M.fold_le (P + was + Q); omega
  rw [h1]
  by_cases g : P + was + Q = 0
  · rw [g]
    unfold M.fold
    rw [if_pos rfl, if_neg (by omega), if_neg (by omega)]
    omega
  · have e : M.fold (P + was + Q) = (P + was + Q - 1) % 65535 + 1 := by unfold M.fold; rw [if_neg g]
    rw [e]
    unfold M.fold
    rw [if_neg (by omega), if_neg h]
    omega

/-- A text with another short at k. -/
def swap (s : ByteArray) (k now : Nat) : ByteArray := s.extract 0 k ++ two now ++ s.extract (k + 2) s.size

theorem swap_size (s : ByteArray) (k now : Nat) (h : k + 2 ≤ s.size) : (swap s k now).size = s.size := by
  unfold swap
  rw [ByteArray.size_append, ByteArray.size_append, two_size, ByteArray.size_extract, ByteArray.size_extract]
  omega

theorem acc_two (h : Bool) (x y : UInt8) : M.acc h [x, y] = M.half h x + M.half (!h) y := by simp [M.acc]

theorem split_list (s : ByteArray) (k : Nat) (h : k + 2 ≤ s.size) :
    s.data.toList = s.data.toList.take k ++ ([s[k], s[k + 1]] ++ s.data.toList.drop (k + 2)) := by
  have hl : s.data.toList.length = s.size := by rw [Array.length_toList]; rfl
  have e1 : s.data.toList.drop k = s.data.toList[k]'(by omega) :: s.data.toList.drop (k + 1) := List.drop_eq_getElem_cons (by omega)
  have e2 : s.data.toList.drop (k + 1) = s.data.toList[k + 1]'(by omega) :: s.data.toList.drop (k + 2) := List.drop_eq_getElem_cons (by omega)
  have e3 : s.data.toList[k]'(by omega) = s[k] := by rw [Array.getElem_toList]; rfl
  have e4 : s.data.toList[k + 1]'(by omega) = s[k + 1] := by rw [Array.getElem_toList]; rfl
  calc s.data.toList = s.data.toList.take k ++ s.data.toList.drop k := (List.take_append_drop k _).symm
    _ = _ := by rw [e1, e2, e3, e4]; rfl

theorem acc_split (s : ByteArray) (k : Nat) (he : k % 2 = 0) (h : k + 2 ≤ s.size) :
    M.acc true s.data.toList = M.acc true (s.data.toList.take k) + (256 * s[k].toNat + s[k + 1].toNat) + M.acc true (s.data.toList.drop (k + 2)) := by
  have hl : (s.data.toList.take k).length = k := by rw [List.length_take, Array.length_toList]; exact Nat.min_eq_left (by have : s.data.size = s.size := rfl; omega)
  have e := congrArg (M.acc true) (split_list s k h)
  rw [M.acc_append, M.acc_append, acc_two, hl] at e
  have f1 : M.flag true k = true := by unfold M.flag; rw [if_pos he]
  rw [f1] at e
  have f2 : M.flag true [s[k], s[k + 1]].length = true := by show M.flag true 2 = true; decide
  rw [f2] at e
  simp only [M.half, Bool.not_true, if_true] at e
  rw [e]
  simp
  omega

theorem swap_list (s : ByteArray) (k now : Nat) :
    (swap s k now).data.toList = s.data.toList.take k ++ ((two now).data.toList ++ s.data.toList.drop (k + 2)) := by
  unfold swap
  simp only [ByteArray.data_append, ByteArray.data_extract, Array.toList_append, Array.toList_extract, List.extract_eq_take_drop, List.append_assoc]
  have hd : (s.data.toList.drop (k + 2)).take (s.size - (k + 2)) = s.data.toList.drop (k + 2) := List.take_of_length_le (by simp)
  simp [hd]

theorem acc_swap (s : ByteArray) (k now : Nat) (hn : now ≤ 65535) (he : k % 2 = 0) (h : k + 2 ≤ s.size) :
    M.acc true (swap s k now).data.toList = M.acc true (s.data.toList.take k) + now + M.acc true (s.data.toList.drop (k + 2)) := by
  have hl : (s.data.toList.take k).length = k := by rw [List.length_take, Array.length_toList]; exact Nat.min_eq_left (by have : s.data.size = s.size := rfl; omega)
  have f1 : M.flag true k = true := by unfold M.flag; rw [if_pos he]
  rw [swap_list, M.acc_append, M.acc_append, hl, f1]
  have f2 : M.flag true (two now).data.toList.length = true := by show M.flag true 2 = true; decide
  have f3 : M.acc true (two now).data.toList = now := by
    show M.acc true [UInt8.ofNat (now / 256), UInt8.ofNat (now % 256)] = now
    rw [acc_two]
    simp only [M.half, Bool.not_true, if_true]
    simp
    omega
  rw [f2, f3]
  omega

theorem ofs_one (s : ByteArray) : M.ofs [s] = 65535 - M.fold (M.acc true s.data.toList) := by simp [M.ofs, M.tot]

/-- What Update answers is the check sum of the text with the other short. -/
theorem upd_eq (s : ByteArray) (k now : Nat) (hn : now ≤ 65535) (he : k % 2 = 0) (h : k + 2 ≤ s.size) (h0 : M.fold (M.acc true (swap s k now).data.toList) ≠ 0) :
    65535 - M.fold ((65535 - M.ofs [s]) + (65535 - (256 * s[k].toNat + s[k + 1].toNat)) + now) = M.ofs [swap s k now] := by
  have b1 := s[k].toNat_lt
  have b2 := s[k + 1].toNat_lt
  rw [ofs_one, ofs_one, acc_split s k he h, acc_swap s k now hn he h]
  rw [acc_swap s k now hn he h] at h0
  rw [fold_upd _ _ _ _ (by omega) (fun e => h0 (by rw [e]; rfl))]
end Go.Proofs.YtncnildpbccpaaaGreatDoor

namespace Go.Proofs.YtncnildpbccpaaaGreatDoor

/-- A packet. -/
structure Pkt where
  tos : Int
  id : Int
  df : Bool
  mf : Bool
  offset : Int
  ttl : Int
  proto : Int
  src : Nat
  dst : Nat
  opts : List Opt
  data : ByteArray

namespace H
/-- A byte, a short, a word at a place. -/
def g (s : List UInt8) (i : Nat) : Nat := (s.getD i 0).toNat
def sh (s : List UInt8) (i : Nat) : Nat := 256 * g s i + g s (i + 1)
def wd (s : List UInt8) (i : Nat) : Nat := sh s i * 65536 + sh s (i + 2)
/-- How many bytes the header has. -/
def hl (s : List UInt8) : Nat := 4 * (g s 0 % 16)

def pkt (s : List UInt8) (l : List Opt) : Pkt :=
  ⟨g s 1, sh s 4, sh s 6 / 16384 % 2 == 1, sh s 6 / 8192 % 2 == 1, ((sh s 6 % 8192 * 8 : Nat) : Int), g s 8, g s 9, wd s 12, wd s 16, l, ba (s.drop (hl s))⟩

def parse (s : List UInt8) : Except Nat Pkt :=
  if s.length < 20 then .error 2
  else if g s 0 / 16 ≠ 4 ∨ hl s < 20 ∨ 32768 ≤ sh s 6 then .error 3
  else if s.length < hl s then .error 2
  else if sh s 2 < hl s then .error 3
  else if s.length < sh s 2 then .error 2
  else if sh s 2 < s.length then .error 5
  else if M.ofs [ba (s.take (hl s))] ≠ 0 then .error 4
  else match O.parse ((s.drop 20).take (hl s - 20)) with
    | .error e => .error e
    | .ok l => if 65535 < sh s 6 % 8192 * 8 + (s.length - hl s) then .error 3 else .ok (pkt s l)

theorem g_lt (s : List UInt8) (i : Nat) : g s i < 256 := (s.getD i 0).toNat_lt
theorem sh_lt (s : List UInt8) (i : Nat) : sh s i < 65536 := by have := g_lt s i; have := g_lt s (i + 1); unfold sh; omega
theorem wd_lt (s : List UInt8) (i : Nat) : wd s i < 4294967296 := by have := sh_lt s i; have := sh_lt s (i + 2); unfold wd; omega
theorem hl_le (s : List UInt8) : hl s ≤ 60 := by unfold hl; omega

/-- What is left behind k bytes. -/
def rst (s : List UInt8) (k : Nat) : Option (List UInt8) := if k ≤ s.length then some (s.drop k) else none

/-- The number that the n bytes at k make, if they are there. -/
def val (s : List UInt8) (k n : Nat) : Nat := if k + n ≤ s.length then num ((s.drop k).take n) else 0

theorem getD_at (s : List UInt8) (k : Nat) (h : k < s.length) : s.drop k = s.getD k 0 :: s.drop (k + 1) := by
  rw [List.drop_eq_getElem_cons h, List.getD_eq_getElem?_getD, List.getElem?_eq_getElem h]; rfl

theorem val_1 (s : List UInt8) (k : Nat) (h : k + 1 ≤ s.length) : val s k 1 = g s k := by
  unfold val g
  rw [if_pos h, getD_at s k (by omega)]
  simp [num]
theorem val_2 (s : List UInt8) (k : Nat) (h : k + 2 ≤ s.length) : val s k 2 = sh s k := by
  unfold val sh g
  rw [if_pos h, getD_at s k (by omega), getD_at s (k + 1) (by omega)]
  simp [num]; omega
theorem val_4 (s : List UInt8) (k : Nat) (h : k + 4 ≤ s.length) : val s k 4 = wd s k := by
  unfold val wd sh g
  rw [if_pos h, getD_at s k (by omega), getD_at s (k + 1) (by omega), show k + 1 + 1 = k + 2 from rfl, getD_at s (k + 2) (by omega), show k + 2 + 1 = k + 3 from rfl, getD_at s (k + 3) (by omega)]
  simp [num]; omega

theorem val_lt (s : List UInt8) (k n : Nat) : val s k n < 256 ^ n := by
  unfold val
  split
  · have h1 := num_lt ((s.drop k).take n)
    have h2 : ((s.drop k).take n).length ≤ n := List.length_take_le _ _
    exact Nat.lt_of_lt_of_le h1 (Nat.pow_le_pow_right (by decide) h2)
  · exact Nat.pow_pos (by decide)
theorem val_lt1 (s : List UInt8) (k : Nat) : val s k 1 < 256 := val_lt s k 1
theorem val_lt2 (s : List UInt8) (k : Nat) : val s k 2 < 65536 := val_lt s k 2
theorem val_lt4 (s : List UInt8) (k : Nat) : val s k 4 < 4294967296 := val_lt s k 4

theorem take_rst (s : List UInt8) (k n : Nat) : takeOf ((rst s k).map ba) (n : Int) = (if k + n ≤ s.length then ba ((s.drop k).take n) else nobytes, (rst s (k + n)).map ba) := by
  unfold rst
  by_cases h : k ≤ s.length
  · rw [if_pos h]
    simp only [Option.map_some]
    by_cases hn : k + n ≤ s.length
    · rw [takeOf_in _ n (by rw [List.length_drop]; omega), if_pos hn, if_pos hn, List.drop_drop]
      rfl
    · rw [takeOf_out _ n (by rw [List.length_drop]; omega), if_neg hn, if_neg hn]
      rfl
  · rw [if_neg h, if_neg (by omega), if_neg (by omega)]
    rfl

theorem num_rst (s : List UInt8) (k n : Nat) : num (if k + n ≤ s.length then ba ((s.drop k).take n) else nobytes).data.toList = val s k n := by
  unfold val
  split
  · rfl
  · rfl
end H
end Go.Proofs.YtncnildpbccpaaaGreatDoor

namespace Go.Proofs.YtncnildpbccpaaaGreatDoor
open Go.RowKit

/-- A packet as a value, its options being v. -/
abbrev pk (tos id : Int) (df mf : Bool) (off ttl proto src dst : Int) (v : Value) (d : ByteArray) : Value :=
  .agg #[.int .i64 tos, .int .i64 id, .bool df, .bool mf, .int .i64 off, .int .i64 ttl, .int .i64 proto, .int .u32 src, .int .u32 dst, v, .string d]
abbrev pkO (tos id : Int) (df mf : Bool) (off ttl proto src dst : Int) (v : Value) (d : ByteArray) : Obj :=
  .cells #[.int .i64 tos, .int .i64 id, .bool df, .bool mf, .int .i64 off, .int .i64 ttl, .int .i64 proto, .int .u32 src, .int .u32 dst, v, .string d] 25

set_option maxHeartbeats 1000000 in
theorem hsize_any (tos id : Int) (df mf : Bool) (off ttl proto src dst : Int) (a : Option Addr) (cap : Nat) (l : List Opt) (d : ByteArray) (w : World) (h : OptRow w a l) (hl : l.length ≤ 60) (hd : ∀ o ∈ l, o.data.size ≤ 100) (hds : d.size ≤ 70000) :
    Calls Tryz.prog 11 #[pk tos id df mf off ttl proto src dst (.slice a l.length cap) d] w fun e w' => e = .returned (.int .i64 ((20 + O.size l + d.size : Nat) : Int)) ∧ Below w.heap.size w w' := by
  have hb0 : Below w.heap.size w (w.alloc (pkO tos id df mf off ttl proto src dst (.slice a l.length cap) d)) := (Below.refl _ w).alloc (Nat.le_refl _) _
  have H := Lib.hid (fun w' (hb : Below w.heap.size w w') => optSize_any a cap l w' (h.carry hb) hl hd)
  have hz : O.size l ≤ 6200 := by
    have := raw_le l hd
    have := O.pad_le (O.raw l)
    show O.raw l + O.pad (O.raw l) ≤ 6200
    omega
  clear h hd
  generalize O.size l = z at *
  have j1 : IntKind.i64.wrap (20 + (z : Int)) = 20 + (z : Int) := IntWalk.i64_in _ (by omega)
  have j2 : IntKind.i64.wrap (20 + (z : Int) + (d.size : Int)) = 20 + (z : Int) + (d.size : Int) := IntWalk.i64_in _ (by omega)
  go_enter Tryz.func11, Tryz.ntmps11
  go_wp2
  go_region_with ((go_at_call 30; refine (H.out _ (by exact hb0.drew)).mono ?_; rintro e w1 ⟨rfl, hb1⟩; have c10 : w1.cell? ⟨w.heap.size, 10, none⟩ = some (.string d) := (hb1.cell (p := ⟨w.heap.size, 10, none⟩) (by simp)).trans (by simp)))
  all_goals
    have hbw := hb0.drew.trans (hb1.mono (by simp))
    go_wp2
    go_ret
    exact ⟨ret_i64 (by omega), hbw⟩

/-- The short of an offset, and what is told beside it. -/
def H.place (off : Nat) (df mf : Bool) : Nat := off / 8 + (if df then 16384 else 0) + (if mf then 8192 else 0)

theorem or_16384 (n : Nat) (h : n < 8192) : bits .or .i64 (n : Int) 16384 = ((n + 16384 : Nat) : Int) := by
  rw [show (16384 : Int) = ((16384 : Nat) : Int) from rfl, i64_or n 16384 (by omega) (by omega)]
  congr 1
  have e : n + 16384 = 2 ^ 14 * 1 + n := by omega
  rw [e, Nat.two_pow_add_eq_or_of_lt (by omega), Nat.or_comm]
theorem or_8192 (n : Nat) (h : n < 8192) : bits .or .i64 (n : Int) 8192 = ((n + 8192 : Nat) : Int) := by
  rw [show (8192 : Int) = ((8192 : Nat) : Int) from rfl, i64_or n 8192 (by omega) (by omega)]
  congr 1
  have e : n + 8192 = 2 ^ 13 * 1 + n := by omega
  rw [e, Nat.two_pow_add_eq_or_of_lt (by omega), Nat.or_comm]
theorem or_8192' (n : Nat) (h : n < 8192) : bits .or .i64 ((n + 16384 : Nat) : Int) 8192 = ((n + 16384 + 8192 : Nat) : Int) := by
  rw [show (8192 : Int) = ((8192 : Nat) : Int) from rfl, i64_or (n + 16384) 8192 (by omega) (by omega)]
  congr 1
  have e1 : n + 16384 = 2 ^ 14 * 1 + n := by omega
  have e2 : n + 16384 + 8192 = 2 ^ 13 * 3 + n := by omega
  rw [e2, Nat.two_pow_add_eq_or_of_lt (by omega), e1, Nat.two_pow_add_eq_or_of_lt (by omega), Nat.or_assoc, Nat.or_comm n, ← Nat.or_assoc, show (2 ^ 14 * 1 ||| 8192 : Nat) = 2 ^ 13 * 3 from rfl]

set_option maxHeartbeats 1000000 in
theorem place_any (tos id : Int) (df mf : Bool) (off : Nat) (ttl proto src dst : Int) (v : Value) (d : ByteArray) (w : World) (ho : off ≤ 65528) :
    Calls Tryz.prog 17 #[pk tos id df mf off ttl proto src dst v d] w fun e w' => e = .returned (.int .i64 (H.place off df mf)) ∧ Below w.heap.size w w' := by
  have e8 : (off : Int) / 8 = ((off / 8 : Nat) : Int) := by omega
  have hn : off / 8 < 8192 := by omega
  have Hp : Hid (H.place off df mf = off / 8 + (if df then 16384 else 0) + (if mf then 8192 else 0)) := Lib.hid rfl
  have k1 := or_16384 (off / 8) hn
  have k2 := or_8192 (off / 8) hn
  have k3 := or_8192' (off / 8) hn
  generalize off / 8 = n at *
  have k4 : bits BinOp.or IntKind.i64 ((n : Int) + 16384) 8192 = (n : Int) + 16384 + 8192 := by rw [show (n : Int) + 16384 = ((n + 16384 : Nat) : Int) from by omega, k3]; omega
  clear k3
  cases df <;> cases mf
  all_goals
    go_enter Tryz.func17, Tryz.ntmps17
    go_wp2
    go_ret
    exact ⟨ret_i64 (by rw [Hp.out]; simp), (Below.refl _ w).alloc (Nat.le_refl _) _⟩
#print axioms place_any
end Go.Proofs.YtncnildpbccpaaaGreatDoor

namespace Go.Proofs.YtncnildpbccpaaaGreatDoor
open Go.RowKit

/-- The number that may be and is nearest. -/
def H.near (x m : Int) : Int := min (max x 0) m

theorem H.near_in (x m : Int) (h0 : 0 ≤ x) (hm : x ≤ m) : H.near x m = x := by unfold H.near; omega
theorem H.near_out (x m : Int) (hm : 0 ≤ m) (h : ¬ (0 ≤ x ∧ x ≤ m)) : ¬ H.near x m = x := by unfold H.near; omega

set_option maxHeartbeats 1000000 in
theorem nearest_any (x m : Int) (w : World) :
    Calls Tryz.prog 40 #[.agg #[.int .i64 x, .int .i64 m]] w fun e w' => e = .returned (.agg #[.int .i64 (H.near x m), .int .i64 m]) ∧ Below w.heap.size w w' := by
  have Hn : Hid (H.near x m = min (max x 0) m) := Lib.hid rfl
  rw [Hn.out]
  go_enter Tryz.func40, Tryz.ntmps40
  go_wp2
  exact bodyPost_ret (v := .agg #[.int .i64 (min (max x 0) m), .int .i64 m]) (by simp [results, Tryz.results40, go_sem]) rfl ⟨rfl, ((Below.refl _ w).alloc (Nat.le_refl _) _).alloc (by simp) _⟩

/-- The model's '!=' at two bounds. -/
theorem neq_bound (x m y n : Int) (w : World) : (binOp .neq 74 (.agg #[.int .i64 x, .int .i64 m]) (.agg #[.int .i64 y, .int .i64 n])).run Tryz.prog w = .ok (.bool (!(x == y && m == n))) w := by
  have u3 := Tryz.underlying3
  have a3 := Tryz.isAgg3
  have z3 := Tryz.sizeOf3
  have hS : Tryz.prog.underlying 74 = some (.struct (Tryz.prog.fieldsOf 74)) := by kernel_rfl
  have hp : Tryz.prog.stoodInHeld 74 = false := by kernel_rfl
  rw [run_neq_struct, show (10000 : Nat) = 9999 + 1 from rfl, run_equalIn_agg w 9999 74 _ _ hS hp]
  simp only [Program.fieldsOf, Tryz.underlying74]
  go_simp
  by_cases h1 : x = y
  · by_cases h2 : m = n <;> simp [h1, h2]
  · simp [h1]

theorem guard_bound : Tryz.prog.eqGuardType Tryz.prog.depth 74 = false := by kernel_rfl
#print axioms nearest_any
#print axioms neq_bound
end Go.Proofs.YtncnildpbccpaaaGreatDoor

namespace Go.Proofs.YtncnildpbccpaaaGreatDoor
open Go
section
variable {P : Program} {ops : Array Oper} {md : Region.Mode} {C : World → Prop} {R : World → World → Prop}

/-- In every world that meets C: the value v, and a world that R leads to. -/
def CalmAt (P : Program) (C : World → Prop) (R : World → World → Prop) (o : Oper) (a : Act) (v : Value) : Prop := ∀ w, C w → o.quietAt P a (R w) w v

def Gives (P : Program) (ops : Array Oper) (C : World → Prop) (R : World → World → Prop) (o : Oper) (v : Value) (a : Act) : Prop :=
  (Region.wanted o (yielded ops a.tmps) = true ∧ CalmAt P C R o a v) ∨ (Region.wanted o (yielded ops a.tmps) = false ∧ v = undef)

theorem Gives.same {o : Oper} {v : Value} {a a' : Act} (h : Gives P ops C R o v a) (he : execOp a'.eval o = execOp a.eval o) (hw : Region.wanted o (yielded ops a'.tmps) = Region.wanted o (yielded ops a.tmps)) : Gives P ops C R o v a' := by
  unfold Gives CalmAt Oper.quietAt at *
  rw [he, hw]
  exact h

theorem Gives.op {i : Nat} {o : Oper} {v : Value} {a : Act} {K : Act → World → Prop} {Q : Exit → Act → World → Prop} {w : World} (hi : ops[i]? = some o) (h : Gives P ops C R o v a) (hw : C w) (hr : R w w) (hK : ∀ w', R w w' → K (a.put o.dst v) w') : wpOp P ops Q i K a w := by
  unfold wpOp
  simp only [hi]
  rcases h with ⟨h1, h2⟩ | ⟨h1, rfl⟩
  · rw [if_pos h1]
    refine .inl ?_
    have h3 := h2 w hw
    unfold Oper.quietAt at h3
    unfold Oper.wp
    generalize (execOp a.eval o).run P w = r at *
    cases r with
    | halt x w' => exact h3.elim
    | ok n w' =>
      cases n with
      | value u => obtain ⟨rfl, rfl⟩ := h3; exact hK _ hr
      | skip => obtain ⟨rfl, rfl⟩ := h3; exact hK _ hr
      | enter f args => obtain ⟨rfl, hc⟩ := h3; exact hc.mono fun e w'' ⟨he, hw''⟩ => by subst he; exact hK _ hw''
      | defer d => exact h3.elim
      | row r args => exact h3.elim
      | _ => exact h3.elim
  · rw [if_neg (by rw [h1]; exact Bool.false_ne_true)]
    exact hK _ hr

/-- The walk in the order of the text, from a to A. -/
def Walk (P : Program) (ops : Array Oper) (C : World → Prop) (R : World → World → Prop) : List Oper → Act → Act → Prop
  | [], a, A => a = A
  | o :: l, a, A => ∃ v, Gives P ops C R o v a ∧ Walk P ops C R l (a.put o.dst v) A

/-- Whatever order is picked among the first n operations, f of them still to come: A behind them. -/
def AnyF (P : Program) (md : Region.Mode) (ops : Array Oper) (C : World → Prop) (R : World → World → Prop) (n : Nat) (A : Act) : Nat → Array Bool → Act → Prop
  | 0, listed, a => a = A ∧ ∀ i, i < n → listed.getD i true = true
  | f + 1, listed, a =>
    (∃ i, i < n ∧ i ∈ Region.ready md ops listed) ∧
    ∀ i, i ∈ Region.ready md ops listed → i < n → ∃ oi v, ops[i]? = some oi ∧ Gives P ops C R oi v a ∧ AnyF P md ops C R n A f (listed.setIfInBounds i true) (a.put oi.dst v)

theorem set_self (listed : Array Bool) (k : Nat) : (listed.setIfInBounds k true).getD k true = true := by
  rcases Nat.lt_or_ge k listed.size with h | h
  · simp [h]
  · simp

theorem F_first {n i : Nat} {oi : Oper} {v : Value} {A : Act} (hi : ops[i]? = some oi) (hsel : ∀ (j : Nat) (o : Oper) cs b, ops[j]? = some o → o.op ≠ .select cs b) (hin : i < n) (f : Nat) :
    ∀ (listed : Array Bool) (a : Act),
      (∀ j oj, ops[j]? = some oj → j ≠ i → listed.getD j true = false → (∀ e ∈ oj.after, Region.binds md e = true → e.on ≠ i) → oi.apart ops oj = true) →
      i ∈ Region.ready md ops listed → Gives P ops C R oi v a →
      AnyF P md ops C R n A f (listed.setIfInBounds i true) (a.put oi.dst v) → AnyF P md ops C R n A (f + 1) listed a := by
  induction f with
  | zero =>
    intro listed a _ hr hy H
    refine ⟨⟨i, hin, hr⟩, fun j hj hjn => ?_⟩
    by_cases hji : j = i
    · subst hji
      exact ⟨oi, v, hi, hy, H⟩
    · have h1 := H.2 j hjn
      rw [getD_set_ne true (Ne.symm hji), (mem_ready.1 hj).1] at h1
      cases h1
  | succ f ih =>
    intro listed a hfree hr hy H
    have hun := (mem_ready.1 hr).1
    refine ⟨⟨i, hin, hr⟩, fun j hj hjn => ?_⟩
    by_cases hji : j = i
    · subst hji
      exact ⟨oi, v, hi, hy, H⟩
    · obtain ⟨oj', u, hoj', hu, hrest⟩ := H.2 j (ready_mono hj hji) hjn
      obtain ⟨hjun, oj, hoj, hall⟩ := mem_ready.1 hj
      have : oj' = oj := Option.some.inj (hoj'.symm.trans hoj)
      subst this
      have hnot : ∀ e ∈ oj'.after, Region.binds md e = true → e.on ≠ i := fun e he hb heq => by
        have h1 := hall e he hb
        rw [heq, getD_both hun] at h1
        cases h1
      obtain ⟨h1, h2, h3⟩ := Oper.apart_spec (hfree j oj' hoj hji hjun hnot)
      refine ⟨oj', u, hoj, hu.same (execOp_put oj' (fun cs b => hsel j oj' cs b hoj) a oi.dst v h1).symm (wanted_put oj' a oi.dst v h1).symm, ?_⟩
      refine ih (listed.setIfInBounds j true) (a.put oj'.dst u) (fun k ok hk hki hunk hno => ?_) (ready_mono hr (Ne.symm hji))
        (hy.same (execOp_put oi (fun cs b => hsel i oi cs b hi) a oj'.dst u h3) (wanted_put oi a oj'.dst u h3)) ?_
      · refine hfree k ok hk hki ?_ hno
        by_cases hjk : j = k
        · subst hjk
          exact hjun
        · rwa [getD_set_ne true hjk] at hunk
      · rw [Array.setIfInBounds_comm _ _ hji, ← Act.put_comm a v u h2]
        exact hrest

/-- May the first operations be walked in the order of the text? -/
def headB (md : Region.Mode) (ops : Array Oper) : Nat → Nat → Array Bool → Bool
  | 0, _, _ => true
  | f + 1, k, listed => (Region.ready md ops listed).contains k && Region.free md ops listed k && headB md ops f (k + 1) (listed.setIfInBounds k true)

theorem F_lex {n : Nat} {A : Act} (hsel : Region.noSelect ops = true) : ∀ (l : List Oper) (k : Nat) (listed : Array Bool) (a : Act), (∀ j, j < l.length → l[j]? = ops[k + j]?) → k + l.length = n →
    (∀ i, i < k → listed.getD i true = true) → headB md ops l.length k listed = true → Walk P ops C R l a A → AnyF P md ops C R n A l.length listed a
  | [], k, listed, a, _, hk, hl, _, h => ⟨h, fun i hi => hl i (by simp at hk; omega)⟩
  | o :: l, k, listed, a, hop, hk, hl, hB, h => by
    have h0 : ops[k]? = some o := by simpa using (hop 0 (by simp)).symm
    simp only [List.length_cons, headB, Bool.and_eq_true] at hB
    obtain ⟨⟨hr, hf⟩, hB'⟩ := hB
    simp only [List.length_cons] at hk
    obtain ⟨v, hy, hK⟩ := h
    refine F_first h0 (Region.noSelect_spec hsel) (by omega) l.length listed a (Region.free_spec h0 hf) (by simpa using hr) hy ?_
    refine F_lex hsel l (k + 1) _ _ (fun j hj => ?_) (by omega) (fun i hi => ?_) hB' hK
    · have := hop (j + 1) (by simp; omega)
      simpa [Nat.add_assoc, Nat.add_comm 1 j] using this
    · by_cases hik : k = i
      · subst hik
        exact set_self _ _
      · rw [getD_set_ne true hik]
        exact hl i (by omega)

/-- The first n operations and the allocation are listed, the g others are not. -/
def canon (n g : Nat) : Array Bool := (List.replicate (n + 1) true ++ List.replicate g false).toArray

theorem canon_of {n g : Nat} {listed : Array Bool} (hz : listed.size = n + 1 + g) (h1 : ∀ i, i < n + 1 → listed.getD i true = true) (h2 : ∀ t, n + 1 ≤ t → t < n + 1 + g → listed.getD t true = false) : listed = canon n g := by
  apply Array.ext
  · simp [canon, hz]
  · intro i hi hi'
    have hg : listed.getD i true = listed[i] := by simp [hi]
    rw [← hg]
    rcases Nat.lt_or_ge i (n + 1) with h | h
    · rw [h1 i h]
      simp [canon, h]
    · rw [h2 i h (by omega)]
      simp [canon, List.getElem_append, show ¬ i < n + 1 by omega]

/-- Does the region have this form: n operations in the order of the text, an allocation that may come at any time, then one forced order? -/
def floatB (md : Region.Mode) (ops : Array Oper) (n : Nat) (oa : Oper) : Bool :=
  Region.noSelect ops && decide (n + 1 < ops.size) && Region.sinkB md ops (n + 1) && Region.chainB md ops (n + 1) && headB md ops n 0 (Array.replicate ops.size false) &&
  Region.seqB md ops (ops.size - (n + 1)) (n + 1) (canon n (ops.size - (n + 1))) &&
  ((List.range n).all fun j => match ops[j]? with
    | some oj => (oj.after.all fun e => !Region.binds md e || e.on != n) && oa.apart ops oj
    | none => true) &&
  (oa.after.all fun e => !Region.binds md e) && oa.guard.isNone

structure Float (md : Region.Mode) (ops : Array Oper) (n d : Nat) (oa : Oper) : Prop where
  sel : Region.noSelect ops = true
  lt : n + 1 < ops.size
  sink : Region.sinkB md ops (n + 1) = true
  chain : Region.chainB md ops (n + 1) = true
  head : headB md ops n 0 (Array.replicate ops.size false) = true
  seq : Region.seqB md ops (ops.size - (n + 1)) (n + 1) (canon n (ops.size - (n + 1))) = true
  free : ∀ j oj, j < n → ops[j]? = some oj → (∀ e ∈ oj.after, Region.binds md e = true → e.on ≠ n) ∧ oa.apart ops oj = true
  none : ∀ e ∈ oa.after, Region.binds md e = true → False
  guard : oa.guard = Option.none
  at_ : ops[n]? = some oa
  dst : oa.dst = some d

theorem float_of {n d : Nat} {oa : Oper} (h : floatB md ops n oa = true) (ha : ops[n]? = some oa) (hd : oa.dst = some d) : Float md ops n d oa := by
  simp only [floatB, Bool.and_eq_true, decide_eq_true_eq] at h
  obtain ⟨⟨⟨⟨⟨⟨⟨⟨h1, h2⟩, h3⟩, h4⟩, h5⟩, h6⟩, h7⟩, h8⟩, h9⟩ := h
  refine ⟨h1, h2, h3, h4, h5, h6, fun j oj hj hoj => ?_, fun e he hb => ?_, by simpa using h9, ha, hd⟩
  · have := List.all_eq_true.1 h7 j (List.mem_range.2 hj)
    simp only [hoj, Bool.and_eq_true] at this
    refine ⟨fun e he hb heq => ?_, this.2⟩
    have h10 := Array.all_eq_true_iff_forall_mem.1 this.1 e he
    simp [hb, heq] at h10
  · have h10 := Array.all_eq_true_iff_forall_mem.1 h8 e he
    rw [hb] at h10
    cases h10

theorem ready_back {n d : Nat} {oa : Oper} (F : Float md ops n d oa) {i : Nat} {listed : Array Bool} (hi : i < n) (h : i ∈ Region.ready md ops (listed.setIfInBounds n true)) : i ∈ Region.ready md ops listed := by
  rw [mem_ready] at *
  obtain ⟨h0, o, ho, hall⟩ := h
  refine ⟨by rwa [getD_set_ne true (by omega)] at h0, o, ho, fun e he hb => ?_⟩
  have h1 := hall e he hb
  rwa [getD_set_ne false (Ne.symm ((F.free i o hi ho).1 e he hb))] at h1

theorem inv_more {n d : Nat} {oa : Oper} (F : Float md ops n d oa) {listed : Array Bool} (inv : HeadInv md ops n listed) : HeadInv md ops (n + 1) (listed.setIfInBounds n true) := by
  refine ⟨by simp [inv.size], fun j oj hj hl e he hb => ?_, fun t ht ht' => by rw [getD_set_ne true (by omega)]; exact inv.tail t (by omega) ht'⟩
  by_cases hij : n = j
  · subst hij
    have : oj = oa := Option.some.inj (hj.symm.trans F.at_)
    subst this
    exact (F.none e he hb).elim
  · rw [getD_set_ne false hij] at hl
    exact getD_set_true (inv.closed j oj hj hl e he hb)
theorem inv_less {n : Nat} {listed : Array Bool} (inv : HeadInv md ops n listed) : HeadInv md ops (n + 1) listed :=
  ⟨inv.size, inv.closed, fun t ht ht' => inv.tail t (by omega) ht'⟩

/-- Behind the allocation. -/
theorem F_after {n d : Nat} {oa : Oper} (F : Float md ops n d oa) {A : Act} {p : Value} {wA : World} {Q : Exit → Act → World → Prop} {tl : List Oper} (htl : ∀ j, tl[j]? = ops[n + 1 + j]?) (hlen : tl.length = ops.size - (n + 1))
    (hrefl : ∀ w, R w w) (htr : ∀ x y z, R x y → R y z → R x z) (hC : ∀ x y, C x → R x y → C y)
    (hQ : ∀ w2, C w2 → R wA w2 → wpList P ops Q tl (A.put (some d) p) w2) (f : Nat) :
    ∀ (listed : Array Bool) (a : Act) (w2 : World), HeadInv md ops n listed → AnyF P md ops C R n A f listed a → C w2 → R wA w2 →
      wpAny P md ops Q (f + tl.length) (listed.setIfInBounds n true) (a.put (some d) p) w2 := by
  induction f with
  | zero =>
    intro listed a w2 inv h hc hr
    obtain ⟨rfl, hall⟩ := h
    have hcan : listed.setIfInBounds n true = canon n (ops.size - (n + 1)) := by
      have := F.lt
      refine canon_of (by simp [inv.size]; omega) (fun i hi => ?_) (fun t ht ht' => ?_)
      · by_cases hin : n = i
        · subst hin
          exact set_self _ _
        · rw [getD_set_ne true hin]
          exact hall i (by omega)
      · rw [getD_set_ne true (by omega)]
        exact inv.tail t (by omega) (by omega)
    rw [Nat.zero_add, hcan]
    refine wpAny_of_seq tl (n + 1) _ _ _ htl ?_ (hQ w2 hc hr)
    rw [hlen]
    exact F.seq
  | succ f ih =>
    intro listed a w2 inv h hc hr
    rw [show f + 1 + tl.length = (f + tl.length) + 1 by omega]
    obtain ⟨⟨i0, hi0, hr0⟩, hall⟩ := h
    have hr0' := ready_mono (i := n) hr0 (by omega)
    refine ⟨fun h0 => absurd h0 (List.ne_nil_of_mem hr0'), fun i hi => ?_⟩
    have hin : i < n := by
      rcases Nat.lt_or_ge i (n + 1) with h1 | h1
      · by_cases h2 : i = n
        · subst h2
          have := (mem_ready.1 hi).1
          rw [set_self] at this
          cases this
        · omega
      · exact absurd hi (tail_waits F.sink F.chain F.lt (inv_more F inv) _ i0 rfl (by omega) (mem_ready.1 hr0').1 i h1)
    obtain ⟨oi, v, hoi, hy, hrest⟩ := hall i (ready_back F hin hi) hin
    obtain ⟨h1, h2, h3⟩ := Oper.apart_spec (F.free i oi hin hoi).2
    have hsel := Region.noSelect_spec F.sel
    rw [← F.dst]
    refine (hy.same (execOp_put oi (fun cs b => hsel i oi cs b hoi) a oa.dst p h1) (wanted_put oi a oa.dst p h1)).op hoi hc (hrefl _) (fun w' hw' => ?_)
    rw [Act.put_comm a p v h2, Array.setIfInBounds_comm _ _ (by omega : n ≠ i), F.dst]
    exact ih _ _ _ (inv.set (ready_back F hin hi) hin) hrest (hC _ _ hc hw') (htr _ _ _ hr hw')

/-- Ahead of it. -/
theorem F_before {n d : Nat} {oa : Oper} (F : Float md ops n d oa) {O : Obj} {A : Act} {w0 : World} {Q : Exit → Act → World → Prop} {tl : List Oper} (htl : ∀ j, tl[j]? = ops[n + 1 + j]?) (hlen : tl.length = ops.size - (n + 1))
    (hrefl : ∀ w, R w w) (htr : ∀ x y z, R x y → R y z → R x z) (hC : ∀ x y, C x → R x y → C y) (hCA : ∀ x, C x → C (x.alloc O))
    (hal : ∀ (a : Act) (w : World), (execOp a.eval oa).run P w = .ok (.value (.pointer (some ⟨w.heap.size, 0, none⟩))) (w.alloc O))
    (hQ : ∀ w1 w2, C w1 → R w0 w1 → C w2 → R (w1.alloc O) w2 → wpList P ops Q tl (A.put (some d) (.pointer (some ⟨w1.heap.size, 0, none⟩))) w2) (f : Nat) :
    ∀ (listed : Array Bool) (a : Act) (w1 : World), HeadInv md ops n listed → AnyF P md ops C R n A f listed a → C w1 → R w0 w1 →
      wpAny P md ops Q (f + tl.length + 1) listed a w1 := by
  have alloc : ∀ (f : Nat) (listed : Array Bool) (a : Act) (w1 : World), HeadInv md ops n listed → AnyF P md ops C R n A f listed a → C w1 → R w0 w1 →
      wpOp P ops Q n (wpAny P md ops Q (f + tl.length) (listed.setIfInBounds n true)) a w1 := by
    intro f listed a w1 inv h hc hr
    unfold wpOp
    simp only [F.at_]
    rw [if_pos (by unfold Region.wanted; rw [F.guard])]
    refine .inl ?_
    unfold Oper.wp
    rw [hal a w1]
    show wpAny P md ops Q (f + tl.length) (listed.setIfInBounds n true) (a.put oa.dst _) (w1.alloc O)
    rw [F.dst]
    exact F_after F htl hlen hrefl htr hC (fun w2 hc2 hr2 => hQ w1 w2 hc hr hc2 hr2) f listed a _ inv h (hCA _ hc) (hrefl _)
  induction f with
  | zero =>
    intro listed a w1 inv h hc hr
    have hn : n ∈ Region.ready md ops listed := mem_ready.2 ⟨inv.tail n (Nat.le_refl _) (by have := F.lt; omega), oa, F.at_, fun e he hb => (F.none e he hb).elim⟩
    refine ⟨fun h0 => absurd h0 (List.ne_nil_of_mem hn), fun i hi => ?_⟩
    have hin : i = n := by
      rcases Nat.lt_or_ge i (n + 1) with h1 | h1
      · by_cases h2 : i = n
        · exact h2
        · have h3 := h.2 i (by omega)
          rw [(mem_ready.1 hi).1] at h3
          cases h3
      · exact absurd hi (tail_waits F.sink F.chain F.lt (inv_less inv) _ n rfl (by omega) (mem_ready.1 hn).1 i h1)
    subst hin
    exact alloc 0 listed a w1 inv h hc hr
  | succ f ih =>
    intro listed a w1 inv h hc hr
    have hn : n ∈ Region.ready md ops listed := mem_ready.2 ⟨inv.tail n (Nat.le_refl _) (by have := F.lt; omega), oa, F.at_, fun e he hb => (F.none e he hb).elim⟩
    refine ⟨fun h0 => absurd h0 (List.ne_nil_of_mem hn), fun i hi => ?_⟩
    rcases Nat.lt_or_ge i (n + 1) with h1 | h1
    · by_cases h2 : i = n
      · subst h2
        exact alloc (f + 1) listed a w1 inv h hc hr
      · have hin : i < n := by omega
        obtain ⟨oi, v, hoi, hy, hrest⟩ := h.2 i hi hin
        refine hy.op hoi hc (hrefl _) (fun w' hw' => ?_)
        have := ih _ _ _ (inv.set hi hin) hrest (hC _ _ hc hw') (htr _ _ _ hr hw')
        rwa [show f + 1 + tl.length = f + tl.length + 1 by omega]
    · exact absurd hi (tail_waits F.sink F.chain F.lt (inv_less inv) _ n rfl (by omega) (mem_ready.1 hn).1 i h1)

/-- The region by one walk. -/
theorem region_float {id : Nat} {Q : Exit → Act → World → Prop} {a A : Act} {w : World} {l : List Oper} (n d : Nat) (oa : Oper) (O : Obj) (hm : P.follows .mixedOrders = true) (ha : l.toArray[n]? = some oa) (hd : oa.dst = some d) (hB : floatB .any l.toArray n oa = true)
    (hrefl : ∀ w, R w w) (htr : ∀ x y z, R x y → R y z → R x z) (hC : ∀ x y, C x → R x y → C y) (hCA : ∀ x, C x → C (x.alloc O)) (hc0 : C w.drew)
    (hal : ∀ (a : Act) (w : World), (execOp a.eval oa).run P w = .ok (.value (.pointer (some ⟨w.heap.size, 0, none⟩))) (w.alloc O))
    (hW : Walk P l.toArray C R (l.take n) a A)
    (hQ : ∀ w1 w2, C w1 → R w.drew w1 → C w2 → R (w1.alloc O) w2 → wpList P l.toArray Q (l.drop (n + 1)) (A.put (some d) (.pointer (some ⟨w1.heap.size, 0, none⟩))) w2) :
    (Code.region id l.toArray true).wp P Q a w := by
  have F := float_of hB ha hd
  have hn := F.lt
  have hn' : n + 1 < l.length := by simpa using hn
  have htl : (l.take n).length = n := by simp; omega
  have hdl : (l.drop (n + 1)).length = l.toArray.size - (n + 1) := by simp
  have inv0 : HeadInv .any l.toArray n (Array.replicate l.toArray.size false) :=
    ⟨by simp, fun j oj _ hl => (by rw [getD_replicate_false] at hl; cases hl), fun t _ ht => getD_in (by simpa using ht) (getD_replicate_false _ _)⟩
  have H := F_lex (md := .any) (n := n) F.sel (l.take n) 0 (Array.replicate l.toArray.size false) a (fun j hj => by
    have hj' : j < n := by rw [htl] at hj; exact hj
    simp [hj']) (by simpa using htl) (fun i hi => absurd hi (Nat.not_lt_zero _)) (by rw [htl]; exact F.head) hW
  refine wp_region_any hm ?_
  have := F_before F (tl := l.drop (n + 1)) (fun j => by simp [List.getElem?_drop]) hdl hrefl htr hC hCA hal hQ _ _ _ w.drew inv0 H hc0 (hrefl _)
  rw [htl, hdl, show n + (l.toArray.size - (n + 1)) + 1 = l.toArray.size by omega] at this
  exact this

theorem W_any {n : Nat} {A : Act} {w0 : World} {Q : Exit → Act → World → Prop} (hn : n = ops.size) (hrefl : ∀ w, R w w) (htr : ∀ x y z, R x y → R y z → R x z) (hC : ∀ x y, C x → R x y → C y) (hQ : ∀ w', C w' → R w0 w' → Q .normal A w') (f : Nat) :
    ∀ (listed : Array Bool) (a : Act) (w1 : World), AnyF P md ops C R n A f listed a → C w1 → R w0 w1 → wpAny P md ops Q f listed a w1 := by
  induction f with
  | zero =>
    intro listed a w1 h hc hr
    obtain ⟨rfl, hall⟩ := h
    refine ⟨List.eq_nil_iff_forall_not_mem.2 fun i hi => ?_, hQ _ hc hr⟩
    obtain ⟨h0, o, ho, _⟩ := mem_ready.1 hi
    rw [hall i (by rw [hn]; exact (Array.getElem?_eq_some_iff.1 ho).1)] at h0
    cases h0
  | succ f ih =>
    intro listed a w1 h hc hr
    obtain ⟨⟨i0, _, hr0⟩, hall⟩ := h
    refine ⟨fun h0 => absurd h0 (List.ne_nil_of_mem hr0), fun i hi => ?_⟩
    obtain ⟨_, o, ho, _⟩ := mem_ready.1 hi
    obtain ⟨oi, v, hoi, hy, hrest⟩ := hall i hi (by rw [hn]; exact (Array.getElem?_eq_some_iff.1 ho).1)
    exact hy.op hoi hc (hrefl _) (fun w' hw' => ih _ _ _ hrest (hC _ _ hc hw') (htr _ _ _ hr hw'))

/-- A region that has neither an allocation nor a forced end. -/
theorem region_walk {id : Nat} {Q : Exit → Act → World → Prop} {a : Act} {w : World} {l : List Oper} (C : World → Prop) (R : World → World → Prop) (hm : P.follows .mixedOrders = true) (hs : Region.noSelect l.toArray = true) (hB : headB .any l.toArray l.length 0 (Array.replicate l.length false) = true)
    (hrefl : ∀ w, R w w) (htr : ∀ x y z, R x y → R y z → R x z) (hC : ∀ x y, C x → R x y → C y) (hc0 : C w.drew)
    (hWQ : ∃ A, Walk P l.toArray C R l a A ∧ ∀ w', C w' → R w.drew w' → Q .normal A w') :
    (Code.region id l.toArray true).wp P Q a w := by
  obtain ⟨A, hW, hQ⟩ := hWQ
  have H := F_lex (md := .any) (n := l.length) hs l 0 (Array.replicate l.length false) a (fun j _ => by simp) (by simp) (fun i hi => absurd hi (Nat.not_lt_zero _)) hB hW
  refine wp_region_any hm ?_
  have := W_any (w0 := w.drew) (by simp) hrefl htr hC hQ _ _ _ w.drew H hc0 (hrefl _)
  simpa using this

/-- Do the operations write to slots of their own? -/
def dstsB (m : Nat) : List Oper → Bool
  | [] => true
  | o :: l => (match o.dst with
    | some d => decide (d < m) && l.all fun o' => o'.dst != some d
    | none => false) && dstsB m l

theorem put_tmps (a : Act) (x : Option Tmp) (v : Value) : (a.put x v).tmps.size = a.tmps.size := by
  cases x <;> simp [Act.put]
theorem put_other (a : Act) (x : Option Tmp) (v : Value) (d : Nat) (h : x ≠ some d) : (a.put x v).tmps[d]? = a.tmps[d]? := by
  cases x with
  | none => rfl
  | some e => simp [Act.put, Array.getElem?_setIfInBounds_ne (show e ≠ d from fun hh => h (hh ▸ rfl))]

theorem quiet_keep {A : Act} {D : World → Prop} {d : Nat} : ∀ (l : List Oper) (a : Act), wpQuiet P ops D (fun a' => a' = A) l a → (∀ o ∈ l, o.dst ≠ some d) → A.tmps[d]? = a.tmps[d]?
  | [], a, h, _ => by
    have : a = A := h
    rw [this]
  | o :: l, a, h, hd => by
    unfold wpQuiet at h
    by_cases hw : Region.wanted o (yielded ops a.tmps) = true
    · rw [if_pos hw] at h
      obtain ⟨v, _, h2⟩ := h
      rw [quiet_keep l _ h2 (fun o' ho' => hd o' (List.mem_cons_of_mem _ ho')), put_other _ _ _ _ (hd o List.mem_cons_self)]
    · rw [if_neg hw] at h
      rw [quiet_keep l _ h (fun o' ho' => hd o' (List.mem_cons_of_mem _ ho')), put_other _ _ _ _ (hd o List.mem_cons_self)]

/-- What a quiet walk ends in tells each value: so it is one value, whatever the world. -/
theorem walk_quiet {A : Act} (w0 : World) : ∀ (l : List Oper) (a : Act), dstsB a.tmps.size l = true → (∀ X : World, wpQuiet P ops (fun w' => ∃ k, w' = X.drewN k) (fun a' => a' = A) l a) →
    Walk P ops (fun _ => True) (fun w w' => ∃ k, w' = w.drewN k) l a A
  | [], a, _, h => h w0
  | o :: l, a, hB, h => by
    simp only [dstsB, Bool.and_eq_true] at hB
    obtain ⟨hB1, hB2⟩ := hB
    cases ho : o.dst with
    | none => rw [ho] at hB1; cases hB1
    | some d =>
      rw [ho] at hB1
      simp only [Bool.and_eq_true, decide_eq_true_eq] at hB1
      have hdl : ∀ o' ∈ l, o'.dst ≠ some d := fun o' ho' => by simpa using List.all_eq_true.1 hB1.2 o' ho'
      by_cases hw : Region.wanted o (yielded ops a.tmps) = true
      · have h' : ∀ X : World, ∃ v, (∀ w, (∃ k, w = X.drewN k) → o.quietAt P a (fun w' => ∃ k, w' = X.drewN k) w v) ∧ wpQuiet P ops (fun w' => ∃ k, w' = X.drewN k) (fun a' => a' = A) l (a.put (some d) v) := fun X => by
          have := h X
          unfold wpQuiet at this
          rw [if_pos hw] at this
          obtain ⟨v, h1, h2⟩ := this
          rw [ho] at h2
          exact ⟨v, h1, h2⟩
        have hv : ∀ (X : World) (v : Value), wpQuiet P ops (fun w' => ∃ k, w' = X.drewN k) (fun a' => a' = A) l (a.put (some d) v) → A.tmps[d]? = some v := fun X v h2 => by
          rw [quiet_keep l _ h2 hdl]
          simp [Act.put, hB1.1]
        obtain ⟨v0, h01, h02⟩ := h' w0
        have e0 := hv w0 v0 h02
        have same : ∀ X : World, (∀ w, (∃ k, w = X.drewN k) → o.quietAt P a (fun w' => ∃ k, w' = X.drewN k) w v0) ∧ wpQuiet P ops (fun w' => ∃ k, w' = X.drewN k) (fun a' => a' = A) l (a.put (some d) v0) := fun X => by
          obtain ⟨v, h1, h2⟩ := h' X
          have e := hv X v h2
          rw [e0] at e
          cases e
          exact ⟨h1, h2⟩
        refine ⟨v0, .inl ⟨hw, fun X _ => (same X).1 X ⟨0, rfl⟩⟩, ?_⟩
        rw [ho]
        exact walk_quiet w0 l _ (by rw [put_tmps]; exact hB2) (fun X => (same X).2)
      · refine ⟨undef, .inr ⟨by simpa using hw, rfl⟩, walk_quiet w0 l _ (by rw [put_tmps]; exact hB2) (fun X => ?_)⟩
        have := h X
        unfold wpQuiet at this
        rwa [if_neg hw] at this

theorem alloc_drewN' (w : World) (k : Nat) (X : Obj) : (w.drewN k).alloc X = (w.alloc X).drewN k := rfl

/-- The region by one walk, where it only reads and draws. -/
theorem region_float_quiet {id : Nat} {Q : Exit → Act → World → Prop} {a : Act} {w : World} {l : List Oper} (n d : Nat) (oa : Oper) (O : Obj) (hm : P.follows .mixedOrders = true) (ha : l.toArray[n]? = some oa) (hd : oa.dst = some d) (hB : floatB .any l.toArray n oa = true)
    (hal : ∀ (a : Act) (w : World), (execOp a.eval oa).run P w = .ok (.value (.pointer (some ⟨w.heap.size, 0, none⟩))) (w.alloc O))
    (hD : dstsB a.tmps.size (l.take n) = true)
    (hWQ : ∃ A, (∀ X : World, wpQuiet P l.toArray (fun w' => ∃ k, w' = X.drewN k) (fun a' => a' = A) (l.take n) a) ∧
      ∀ w3, (∃ k, w3 = w.drewN k) → wpList P l.toArray Q (l.drop (n + 1)) (A.put (some d) (.pointer (some ⟨w3.heap.size, 0, none⟩))) (w3.alloc O)) :
    (Code.region id l.toArray true).wp P Q a w := by
  obtain ⟨A, hW, hQ⟩ := hWQ
  refine region_float (C := fun _ => True) (R := fun w w' => ∃ k, w' = w.drewN k) n d oa O hm ha hd hB (fun w => ⟨0, rfl⟩) ?_ (fun _ _ _ _ => trivial) (fun _ _ => trivial) trivial hal (walk_quiet w _ _ hD hW) ?_
  · rintro x y z ⟨j, rfl⟩ ⟨k, rfl⟩
    exact ⟨j + k, by rw [World.drewN_drewN]⟩
  · rintro w1 w2 _ ⟨j, rfl⟩ _ ⟨k, rfl⟩
    have e : ((w.drew.drewN j).alloc O).drewN k = (w.drewN (1 + j + k)).alloc O := by
      show (((w.drewN 1).drewN j).alloc O).drewN k = _
      rw [World.drewN_drewN, alloc_drewN', World.drewN_drewN, alloc_drewN']
    rw [e]
    exact hQ (w.drewN (1 + j + k)) ⟨_, rfl⟩
end
#print axioms region_float_quiet
end Go.Proofs.YtncnildpbccpaaaGreatDoor

