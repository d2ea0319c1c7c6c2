/- Bits of numbers that aren't below 0. No program is named here. -/
import Derived.WalkKit
import Derived.IntWalk
import Derived.Test.YtncnildpbccpaaaGreatDoorRows
import Derived.ProofKit
import Derived.OpenShut
import Derived.ShutString
import Derived.ChangeOld
import Derived.Below
import Derived.Deep.Slices
import Derived.WalkSpells
import Derived.WalkSmall
import Derived.Lib.Hide
import Derived.Lib.Strings
import Derived.Laws.AppendOwn
import Derived.Deep.AppendSrc
import Derived.Deep.RegionLaw
set_option maxRecDepth 100000
namespace Go.Proofs.YtncnildpbccpaaaGreatDoor
open Go.RowKit

theorem i64_bitnat (a : Nat) (ha : a < 4294967296) : (BitVec.ofInt 64 (a : Int)).toNat = a := by
  have e : (((2 : Nat) ^ 64 : Nat) : Int) = 18446744073709551616 := by decide
  rw [BitVec.toNat_ofInt, e]
  omega

theorem i64_and (a b : Nat) (ha : a < 4294967296) (hb : b < 4294967296) : bits .and .i64 (a : Int) (b : Int) = ((a &&& b : Nat) : Int) := by
  show IntKind.i64.wrap ((BitVec.ofInt 64 (a : Int) &&& BitVec.ofInt 64 (b : Int)).toNat : Int) = _
  have hle : a &&& b ≤ a := Nat.and_le_left
  rw [BitVec.toNat_and, i64_bitnat a ha, i64_bitnat b hb, IntWalk.i64_in _ (by omega)]

theorem i64_or (a b : Nat) (ha : a < 65536) (hb : b < 65536) : bits .or .i64 (a : Int) (b : Int) = ((a ||| b : Nat) : Int) := by
  show IntKind.i64.wrap ((BitVec.ofInt 64 (a : Int) ||| BitVec.ofInt 64 (b : Int)).toNat : Int) = _
  have hlt : a ||| b < 2 ^ 16 := Nat.or_lt_two_pow (by omega) (by omega)
  rw [BitVec.toNat_or, i64_bitnat a (by omega), i64_bitnat b (by omega), IntWalk.i64_in _ (by omega)]

theorem and_15 (a : Nat) (h : a < 65536) : bits .and .i64 (a : Int) 15 = ((a % 16 : Nat) : Int) := by
  rw [show (15 : Int) = ((15 : Nat) : Int) from rfl, i64_and a 15 (by omega) (by omega), show (15 : Nat) = 2 ^ 4 - 1 from rfl, Nat.and_two_pow_sub_one_eq_mod]
theorem and_8191 (a : Nat) (h : a < 65536) : bits .and .i64 (a : Int) 8191 = ((a % 8192 : Nat) : Int) := by
  rw [show (8191 : Int) = ((8191 : Nat) : Int) from rfl, i64_and a 8191 (by omega) (by omega), show (8191 : Nat) = 2 ^ 13 - 1 from rfl, Nat.and_two_pow_sub_one_eq_mod]

theorem nat_and_bit (a i : Nat) : a &&& 2 ^ i = a / 2 ^ i % 2 * 2 ^ i := by
  have ht : a.testBit i = decide (a / 2 ^ i % 2 = 1) := Nat.testBit_eq_decide_div_mod_eq
  rcases Nat.mod_two_eq_zero_or_one (a / 2 ^ i) with e | e
  · rw [e] at ht ⊢
    apply Nat.eq_of_testBit_eq
    intro j
    rw [Nat.testBit_and, Nat.testBit_two_pow]
    by_cases hj : i = j
    · subst hj; rw [ht]; simp
    · simp [hj]
  · rw [e] at ht ⊢
    rw [Nat.one_mul]
    apply Nat.eq_of_testBit_eq
    intro j
    rw [Nat.testBit_and, Nat.testBit_two_pow]
    by_cases hj : i = j
    · subst hj; rw [ht]; simp
    · simp [hj]

theorem and_bit (a i : Nat) (h : a < 65536) (hi : 2 ^ i < 65536) : bits .and .i64 (a : Int) ((2 ^ i : Nat) : Int) = ((a / 2 ^ i % 2 * 2 ^ i : Nat) : Int) := by
  rw [i64_and a (2 ^ i) (by omega) (by omega), nat_and_bit]
theorem and_16384 (a : Nat) (h : a < 65536) : bits .and .i64 (a : Int) 16384 = ((a / 16384 % 2 * 16384 : Nat) : Int) := and_bit a 14 h (by decide)
theorem and_8192 (a : Nat) (h : a < 65536) : bits .and .i64 (a : Int) 8192 = ((a / 8192 % 2 * 8192 : Nat) : Int) := and_bit a 13 h (by decide)
theorem and_32768 (a : Nat) (h : a < 65536) : bits .and .i64 (a : Int) 32768 = ((a / 32768 % 2 * 32768 : Nat) : Int) := and_bit a 15 h (by decide)
end Go.Proofs.YtncnildpbccpaaaGreatDoor

namespace Go.Proofs.YtncnildpbccpaaaGreatDoor

/-- An option: its kind, and its bytes behind kind and length. -/
structure Opt where
  kind : Int
  data : ByteArray

namespace O

def right (o : Opt) : Bool := if o.kind = 1 then o.data.size = 0 else 2 ≤ o.kind ∧ o.kind ≤ 255 ∧ o.data.size ≤ 38

def sizeOne (o : Opt) : Nat := if o.kind = 1 then 1 else 2 + o.data.size

def raw : List Opt → Nat
  | [] => 0
  | o :: r => sizeOne o + raw r

def pad (n : Nat) : Nat := (4 - n % 4) % 4

def size (l : List Opt) : Nat := raw l + pad (raw l)

def encOne (o : Opt) : List UInt8 := if o.kind = 1 then [1] else UInt8.ofNat o.kind.toNat :: UInt8.ofNat (2 + o.data.size) :: o.data.data.toList

def encRaw : List Opt → List UInt8
  | [] => []
  | o :: r => encOne o ++ encRaw r

def enc (l : List Opt) : List UInt8 := encRaw l ++ List.replicate (pad (raw l)) 0

/-- Is there more than is asked of? -/
def great (l : List Opt) : Bool := l.any (fun o => 100 < o.data.size) || 60 < l.length

/-- Bytes' options, or the error's number. -/
def par : List UInt8 → Except Nat (List Opt)
  | [] => .ok []
  | k :: r =>
    if k = 0 then (if r.all (· == 0) then .ok [] else .error 3)
    else if k = 1 then (match par r with | .ok l => .ok (⟨1, ⟨#[]⟩⟩ :: l) | .error e => .error e)
    else match r with
      | [] => .error 2
      | n :: t =>
        if 2 + t.length < n.toNat then .error 2
        else if n.toNat < 2 then .error 3
        else match par (t.drop (n.toNat - 2)) with
          | .ok l => .ok (⟨k.toNat, ⟨(t.take (n.toNat - 2)).toArray⟩⟩ :: l)
          | .error e => .error e
termination_by l => l.length
decreasing_by
  all_goals simp
  all_goals omega

/-- What is read of bytes: at most 40, a multiple of 4. -/
def parse (s : List UInt8) : Except Nat (List Opt) :=
  if 40 < s.length then .error 5 else if s.length % 4 ≠ 0 then .error 3 else par s

theorem encOne_length (o : Opt) : (encOne o).length = sizeOne o := by
  unfold encOne sizeOne
  split
  · rfl
  · show (_ :: _ :: o.data.data.toList).length = 2 + o.data.size
    rw [List.length_cons, List.length_cons, Array.length_toList]
    show o.data.size + 1 + 1 = _
    omega

theorem encRaw_length (l : List Opt) : (encRaw l).length = raw l := by
  induction l with
  | nil => rfl
  | cons o r ih => simp [encRaw, raw, encOne_length, ih]

theorem enc_length (l : List Opt) : (enc l).length = size l := by
  simp [enc, size, encRaw_length]

theorem pad_le (n : Nat) : pad n ≤ 3 := by unfold pad; omega

theorem size_mod (l : List Opt) : size l % 4 = 0 := by unfold size pad; omega

theorem raw_append (l m : List Opt) : raw (l ++ m) = raw l + raw m := by
  induction l with
  | nil => simp [raw]
  | cons o r ih => simp [raw, ih]; omega

theorem encRaw_append (l m : List Opt) : encRaw (l ++ m) = encRaw l ++ encRaw m := by
  induction l with
  | nil => rfl
  | cons o r ih => simp [encRaw, ih]

theorem sizeOne_pos (o : Opt) : 1 ≤ sizeOne o := by unfold sizeOne; split <;> omega

theorem byte_eq (n : Nat) (h : n < 256) : (UInt8.ofNat n).toNat = n := by
  rw [UInt8.toNat_ofNat']; omega

theorem par_nil : par [] = .ok [] := by rw [par.eq_def]
theorem par_zero (r : List UInt8) : par (0 :: r) = if r.all (· == 0) then .ok [] else .error 3 := by rw [par.eq_def]; simp
theorem par_one (r : List UInt8) : par (1 :: r) = match par r with | .ok l => .ok (⟨1, ⟨#[]⟩⟩ :: l) | .error e => .error e := by rw [par.eq_def]; simp
theorem par_end (k : UInt8) (h0 : k ≠ 0) (h1 : k ≠ 1) : par [k] = .error 2 := by rw [par.eq_def]; simp [h0, h1]
theorem par_long (k n : UInt8) (t : List UInt8) (h0 : k ≠ 0) (h1 : k ≠ 1) : par (k :: n :: t) = if 2 + t.length < n.toNat then .error 2 else if n.toNat < 2 then .error 3
    else match par (t.drop (n.toNat - 2)) with | .ok l => .ok (⟨k.toNat, ⟨(t.take (n.toNat - 2)).toArray⟩⟩ :: l) | .error e => .error e := by rw [par.eq_def]; simp only [if_neg h0, if_neg h1]

theorem empty_of_size (d : ByteArray) (h : d.size = 0) : d = ⟨#[]⟩ := by
  cases d with
  | mk a =>
    have : a.size = 0 := h
    rw [Array.eq_empty_of_size_eq_zero this]

theorem par_zeros (p : Nat) : par (List.replicate p 0) = .ok [] := by
  cases p with
  | zero => exact par_nil
  | succ q =>
    rw [List.replicate_succ, par_zero]
    simp

/-- What is encoded is read as it was. -/
theorem par_enc (l : List Opt) (p : Nat) (h : l.all right = true) : par (encRaw l ++ List.replicate p 0) = .ok l := by
  induction l with
  | nil => simpa [encRaw] using par_zeros p
  | cons o r ih =>
    simp only [List.all_cons, Bool.and_eq_true] at h
    obtain ⟨ho, hr⟩ := h
    have ih := ih hr
    obtain ⟨k, d⟩ := o
    unfold right at ho
    by_cases hk : k = 1
    · subst hk
      rw [if_pos rfl] at ho
      obtain rfl := empty_of_size d (of_decide_eq_true ho)
      simp only [encRaw, encOne, if_true, List.cons_append, List.nil_append]
      rw [par_one, ih]
    · rw [if_neg (by exact hk)] at ho
      simp at ho
      obtain ⟨h2, h255, h38⟩ := ho
      obtain ⟨n, rfl⟩ := Int.eq_ofNat_of_zero_le (show (0 : Int) ≤ k by omega)
      have hn : n < 256 := by omega
      have e1 : (UInt8.ofNat n).toNat = n := byte_eq n hn
      have e2 : (UInt8.ofNat (2 + d.size)).toNat = 2 + d.size := byte_eq _ (by omega)
      have n0 : UInt8.ofNat n ≠ 0 := fun h => by have := congrArg UInt8.toNat h; rw [e1] at this; simp at this; omega
      have n1 : UInt8.ofNat n ≠ 1 := fun h => by have := congrArg UInt8.toNat h; rw [e1] at this; simp at this; omega
      have hdl : d.data.toList.length = d.size := Array.length_toList
      simp only [encRaw, encOne]
      rw [if_neg hk]
      simp only [Int.toNat_natCast, List.cons_append, List.append_assoc]
      rw [par_long _ _ _ n0 n1, e2, if_neg (by simp only [List.length_append, hdl]; omega), if_neg (by omega)]
      have e3 : 2 + d.size - 2 = d.data.toList.length := by omega
      rw [e3, List.drop_left, List.take_left, ih, e1]

theorem parse_enc (l : List Opt) (h : l.all right = true) (hs : size l ≤ 40) : parse (enc l) = .ok l := by
  unfold parse
  rw [if_neg (by rw [enc_length]; omega), if_neg (by rw [enc_length, size_mod]; simp)]
  exact par_enc l _ h

end O
end Go.Proofs.YtncnildpbccpaaaGreatDoor

namespace Go.Proofs.YtncnildpbccpaaaGreatDoor
open Go.ChangeShapes Go.WideShapes Go.ChangeAt Go.RowKit Go.Deep

def noOpt : Opt := ⟨0, ByteArray.empty⟩

/-- Options in a row of cells that is there (none: anywhere). -/
def OptRow (W : World) (a : Option Addr) (l : List Opt) : Prop :=
  l = [] ∨ ∃ b off, a = some ⟨b, off, none⟩ ∧ b < W.heap.size ∧ ∀ i, i < l.length →
    W.cell? ⟨b, off + i * 2, none⟩ = some (.int .i64 (l.getD i noOpt).kind) ∧ W.cell? ⟨b, off + i * 2 + 1, none⟩ = some (.string (l.getD i noOpt).data)

theorem OptRow.carry {W W' : World} {a : Option Addr} {l : List Opt} (h : OptRow W a l) (hb : Below W.heap.size W W') : OptRow W' a l := by
  rcases h with h | ⟨b, off, ha, hlt, hc⟩
  · exact .inl h
  · refine .inr ⟨b, off, ha, Nat.lt_of_lt_of_le hlt hb.size, fun i hi => ?_⟩
    rw [hb.cell (p := ⟨b, off + i * 2, none⟩) hlt, hb.cell (p := ⟨b, off + i * 2 + 1, none⟩) hlt]
    exact hc i hi

/-- What is told of a row that isn't empty. -/
theorem OptRow.at {W : World} {a : Option Addr} {l : List Opt} (h : OptRow W a l) (h0 : 0 < l.length) : ∃ b off, a = some ⟨b, off, none⟩ ∧ b < W.heap.size ∧ ∀ i, i < l.length →
    W.cell? ⟨b, off + i * 2, none⟩ = some (.int .i64 (l.getD i noOpt).kind) ∧ W.cell? ⟨b, off + i * 2 + 1, none⟩ = some (.string (l.getD i noOpt).data) := by
  rcases h with h | h
  · subst h; simp at h0
  · exact h

theorem Tryz.cellsOpt : Tryz.prog.cellsOf 56 = 2 := by kernel_rfl
theorem Tryz.cellsI : Tryz.prog.cellsOf 3 = 1 := by kernel_rfl
theorem Tryz.cellsS : Tryz.prog.cellsOf 9 = 1 := by kernel_rfl

/-- One option, read: its two cells. -/
theorem opt_cells {H : Type} {enc : TypeId × Value → H} {W : World} {base : Nat} {spare : Nat → Bool} {held : Bool} {n : Nat} {cs : List Value} {x : DataW H × List MemPlace}
    (h : DataW.trod enc Tryz.prog W base spare held n 56 cs = some x) : ∃ (k : Int) (s : ByteArray), cs = [.int .i64 k, .string s] ∧ s.size ≤ maxLen := by
  obtain ⟨xs, n', _, _, hlen, hxl, hf⟩ := DataW.trod_struct Tryz.underlying56 h
  rw [Tryz.cellsOpt] at hlen
  match cs, hlen with
  | [c0, c1], _ =>
    match xs, hxl with
    | [x0, x1], _ =>
      have h0 : DataW.trod enc Tryz.prog W base spare held n' 3 (([c0, c1].drop 0).take (Tryz.prog.cellsOf 3)) = some x0 := hf 0 _ rfl
      have h1 : DataW.trod enc Tryz.prog W base spare held n' 9 (([c0, c1].drop 1).take (Tryz.prog.cellsOf 9)) = some x1 := hf 1 _ rfl
      rw [Tryz.cellsI] at h0
      rw [Tryz.cellsS] at h1
      obtain ⟨k, e0, _⟩ := DataW.trod_int Tryz.underlying3 h0
      obtain ⟨s, e1, _, hs⟩ := DataW.trod_string Tryz.underlying9 h1
      have e0' : c0 = .int .i64 k := by simpa using e0
      have e1' : c1 = .string s := by simpa using e1
      exact ⟨k, s, by rw [e0', e1'], hs⟩

/-- What cells hold, as an option. -/
def optAt (W : World) (b off i : Nat) : Opt :=
  ⟨(match W.cell? ⟨b, off + i * 2, none⟩ with | some (.int _ k) => k | _ => 0), (match W.cell? ⟨b, off + i * 2 + 1, none⟩ with | some (.string s) => s | _ => ByteArray.empty)⟩

/-- A slice of options that came in. -/
theorem opts_of {H : Type} {enc : TypeId × Value → H} {W : World} {base : Nat} {spare : Nat → Bool} {held : Bool} {a : Option Addr} {len cap : Nat} {d : DataW H} {p : List MemPlace}
    (h : DataW.Trod enc Tryz.prog W base spare held 23 (.slice a len cap) d p) : ∃ l : List Opt, len = l.length ∧ l.length ≤ maxLen ∧ (∀ o ∈ l, o.data.size ≤ maxLen) ∧ OptRow W a l := by
  obtain ⟨fuel, hf⟩ := h
  rcases open_slice Tryz.underlying23 hf with ⟨hcs, _⟩ | ⟨x, l, c, m, n, D, Pl, hcs, _, hl, hm, hmm, _, hi⟩
  · simp [Value.cells] at hcs
    obtain ⟨rfl, rfl, rfl⟩ := hcs
    exact ⟨[], rfl, by simp, by simp, .inl rfl⟩
  · simp [Value.cells] at hcs
    obtain ⟨rfl, rfl, rfl⟩ := hcs
    rw [Tryz.cellsOpt] at hi
    have hlm : len ≤ m := by rw [hmm]; split <;> omega
    have hv : ∀ i, i < len → ∃ (k : Int) (s : ByteArray), s.size ≤ maxLen ∧ W.cell? ((x.add (i * 2)).add 0) = some (.int .i64 k) ∧ W.cell? ((x.add (i * 2)).add 1) = some (.string s) := by
      intro i h
      obtain ⟨cs, hc, ht⟩ := hi i (by omega)
      obtain ⟨k, s, rfl, hs⟩ := opt_cells ht
      obtain ⟨_, _, hat⟩ := World.cells?_some hc
      exact ⟨k, s, hs, hat 0 (by omega), hat 1 (by omega)⟩
    by_cases h0 : len = 0
    · exact ⟨[], by simp [h0], by simp, by simp, .inl rfl⟩
    · obtain ⟨b, off, spot⟩ := x
      obtain ⟨_, _, _, hc, _⟩ := hv 0 (by omega)
      have hspot : spot = none := by simpa [Addr.add] using World.cell?_spot hc
      subst hspot
      have hval : ∀ (i q : Nat), ((⟨b, off, none⟩ : Addr).add (i * 2)).add q = ⟨b, off + i * 2 + q, none⟩ := fun i q => by rw [Addr.add_lit, Addr.add_lit]
      simp only [hval, Nat.add_zero] at hv
      rw [hval] at hc
      have hg : ∀ i, i < len → ((List.range len).map (optAt W b off)).getD i noOpt = optAt W b off i := fun i h => by
        rw [List.getD_eq_getElem?_getD, List.getElem?_map, List.getElem?_range h]; rfl
      refine ⟨(List.range len).map (optAt W b off), by simp, by simp; omega, ?_, .inr ⟨b, off, rfl, World.block_lt_of_cell? _ _ hc, fun i h => ?_⟩⟩
      · intro o ho
        obtain ⟨i, hi, rfl⟩ := List.mem_map.1 ho
        obtain ⟨k, s, hs, h1, h2⟩ := hv i (List.mem_range.1 hi)
        simp only [optAt, h2]
        exact hs
      · have h' : i < len := by simpa using h
        obtain ⟨k, s, hs, h1, h2⟩ := hv i h'
        rw [hg i h']
        simp only [optAt, h1, h2]
        exact ⟨trivial, trivial⟩

#print axioms opts_of
end Go.Proofs.YtncnildpbccpaaaGreatDoor

namespace Go.Proofs.YtncnildpbccpaaaGreatDoor
open Go.RowKit

theorem ret_bool {a b : Bool} (h : a = b) : Ending.returned (.bool a) = .returned (.bool b) := by rw [h]

theorem ret_i64 {a b : Int} (h : a = b) : Ending.returned (.int .i64 a) = .returned (.int .i64 b) := by rw [h]

theorem right_1 (d : ByteArray) : O.right ⟨1, d⟩ = decide (d.size = 0) := by unfold O.right; rw [if_pos rfl]
theorem right_n (k : Int) (d : ByteArray) (h : k ≠ 1) : O.right ⟨k, d⟩ = decide (2 ≤ k ∧ k ≤ 255 ∧ d.size ≤ 38) := by unfold O.right; rw [if_neg h]
theorem isEmpty_size (d : ByteArray) : d.toList.isEmpty = decide (d.size = 0) := by
  rw [Lib.toList_data, Bool.eq_iff_iff, List.isEmpty_iff, decide_eq_true_iff]
  exact (List.length_eq_zero_iff (l := d.data.toList)).symm

set_option maxHeartbeats 400000 in
theorem rightOne_any (k : Int) (d : ByteArray) (w : World) (hd : d.size ≤ maxLen) :
    Calls Tryz.prog 50 #[.agg #[.int .i64 k, .string d]] w fun e w' => e = .returned (.bool (O.right ⟨k, d⟩)) ∧ Below w.heap.size w w' := by
  unfold maxLen at hd
  obtain ⟨r, hr⟩ : ∃ r, O.right ⟨k, d⟩ = r := ⟨_, rfl⟩
  have Hr := Lib.hid hr
  rw [hr]
  clear hr
  by_cases hk : k = 1
  · subst hk
    go_enter Tryz.func50, Tryz.ntmps50
    go_wp2
    go_ret
    exact ⟨ret_bool (by rw [← Hr.out, right_1, isEmpty_size]), (Below.refl _ _).alloc (Nat.le_refl _) _⟩
  · go_enter Tryz.func50, Tryz.ntmps50
    go_wp2
    all_goals go_ret
    all_goals exact ⟨ret_bool (by rw [← Hr.out, right_n _ _ hk]; first | (rw [decide_eq_decide]; omega) | (symm; rw [decide_eq_false_iff_not]; omega)), (Below.refl _ _).alloc (Nat.le_refl _) _⟩

set_option maxHeartbeats 400000 in
theorem refRight_any (k : Int) (d : ByteArray) (w : World) (hd : d.size ≤ maxLen) :
    Calls Tryz.prog 39 #[.agg #[.int .i64 k, .string d]] w fun e w' => e = .returned (.bool (O.right ⟨k, d⟩)) ∧ Below w.heap.size w w' := by
  unfold maxLen at hd
  obtain ⟨r, hr⟩ : ∃ r, O.right ⟨k, d⟩ = r := ⟨_, rfl⟩
  have Hr := Lib.hid hr
  rw [hr]
  clear hr
  by_cases hk : k = 1
  · subst hk
    go_enter Tryz.func39, Tryz.ntmps39
    go_wp2
    go_ret
    exact ⟨ret_bool (by rw [← Hr.out, right_1, Bool.eq_iff_iff, beq_iff_eq, decide_eq_true_iff]; omega), (Below.refl _ _).alloc (Nat.le_refl _) _⟩
  · go_enter Tryz.func39, Tryz.ntmps39
    go_wp2
    all_goals go_ret
    all_goals exact ⟨ret_bool (by rw [← Hr.out, right_n _ _ hk]; first | (rw [decide_eq_decide]; omega) | (symm; rw [decide_eq_false_iff_not]; omega)), (Below.refl _ _).alloc (Nat.le_refl _) _⟩

set_option maxHeartbeats 400000 in
theorem sizeOne_any (k : Int) (d : ByteArray) (w : World) (hd : d.size ≤ 100000) :
    Calls Tryz.prog 42 #[.agg #[.int .i64 k, .string d]] w fun e w' => e = .returned (.int .i64 (O.sizeOne ⟨k, d⟩)) ∧ Below w.heap.size w w' := by
  by_cases hk : k = 1
  · subst hk
    go_enter Tryz.func42, Tryz.ntmps42
    go_wp2
    go_ret
    exact ⟨rfl, (Below.refl _ _).alloc (Nat.le_refl _) _⟩
  · have h : O.sizeOne ⟨k, d⟩ = 2 + d.size := by unfold O.sizeOne; rw [if_neg hk]
    rw [h]
    clear h
    go_enter Tryz.func42, Tryz.ntmps42
    go_wp2
    go_ret
    exact ⟨by go_num, (Below.refl _ _).alloc (Nat.le_refl _) _⟩

set_option maxHeartbeats 400000 in
theorem padding_any (n : Nat) (w : World) (hd : n ≤ 1000000) :
    Calls Tryz.prog 43 #[.int .i64 n] w fun e w' => e = .returned (.int .i64 (O.pad n)) ∧ w = w' := by
  have h : ((O.pad n : Nat) : Int) = (4 - (n : Int) % 4) % 4 := by unfold O.pad; omega
  have H := Lib.hid h
  clear h
  go_enter Tryz.func43, Tryz.ntmps43
  go_wp2
  go_ret
  exact ⟨ret_i64 H.out.symm, rfl⟩
end Go.Proofs.YtncnildpbccpaaaGreatDoor

namespace Go.Proofs.YtncnildpbccpaaaGreatDoor
open Go.RowKit

theorem getD_take (l : List Opt) (k : Nat) (h : k < l.length) : l.take (k + 1) = l.take k ++ [l.getD k noOpt] := by
  rw [List.take_succ_eq_append_getElem h, List.getD_eq_getElem?_getD, List.getElem?_eq_getElem h]; rfl

theorem all_take (p : Opt → Bool) (l : List Opt) (k : Nat) (h : k < l.length) (ha : (l.take k).all p = true) : (l.take (k + 1)).all p = p (l.getD k noOpt) := by
  rw [getD_take l k h, List.all_append, ha]; simp

theorem all_take_false (p : Opt → Bool) (l : List Opt) (k : Nat) (h : k < l.length) (ha : p (l.getD k noOpt) = false) : l.all p = false := by
  rw [List.all_eq_false]
  exact ⟨l.getD k noOpt, by rw [List.getD_eq_getElem?_getD, List.getElem?_eq_getElem h]; exact List.getElem_mem h, by rw [ha]; simp⟩

theorem getD_mem (l : List Opt) (k : Nat) (h : k < l.length) : l.getD k noOpt ∈ l := by
  rw [List.getD_eq_getElem?_getD, List.getElem?_eq_getElem h]; exact List.getElem_mem h

/-- An option of a row, in a later world. -/
theorem OptRow.then {W wr : World} {a : Option Addr} {l : List Opt} (h : OptRow W a l) (hb : Below W.heap.size W wr) (k : Nat) (hk : k < l.length) : ∃ b off, a = some ⟨b, off, none⟩ ∧ b < W.heap.size ∧
    wr.cell? ⟨b, off + k * 2, none⟩ = some (.int .i64 (l.getD k noOpt).kind) ∧ wr.cell? ⟨b, off + k * 2 + 1, none⟩ = some (.string (l.getD k noOpt).data) := by
  obtain ⟨b, off, ha, hlt, hc⟩ := h.at (by omega)
  refine ⟨b, off, ha, hlt, ?_⟩
  rw [hb.cell (p := ⟨b, off + k * 2, none⟩) hlt, hb.cell (p := ⟨b, off + k * 2 + 1, none⟩) hlt]
  exact hc k hk

set_option maxHeartbeats 400000 in
theorem optRight_any (a : Option Addr) (cap : Nat) (l : List Opt) (w : World) (h : OptRow w a l) (hl : l.length ≤ maxLen) (hd : ∀ o ∈ l, o.data.size ≤ maxLen) :
    Calls Tryz.prog 32 #[.slice a l.length cap] w fun e w' => e = .returned (.bool (l.all O.right)) ∧ Below w.heap.size w w' := by
  unfold maxLen at hl
  have Hrow := Lib.hid h
  have Hd := Lib.hid hd
  clear h hd
  obtain ⟨r, hr⟩ : ∃ r, l.all O.right = r := ⟨_, rfl⟩
  have Hr := Lib.hid hr
  rw [hr]
  clear hr
  go_enter Tryz.func32, Tryz.ntmps32
  go_wp2
  go_loopw [7] (fun i wr => ∃ k : Nat, k ≤ l.length ∧ i = .int .i64 k ∧ Hid ((l.take k).all O.right = true) ∧ Below w.heap.size w wr) (fun i _ => l.length - (intOf i).toNat)
  case atStart => exact ⟨0, Nat.zero_le _, rfl, Lib.hid rfl, Below.refl _ _⟩
  case round =>
    obtain ⟨k, hk, rfl, Ha, hb⟩ := hrel
    by_cases hlt : k < l.length
    · obtain ⟨b, off, rfl, hbl, c0, c1⟩ := Hrow.out.then hb k hlt
      have hz := Hd.out _ (getD_mem l k hlt)
      have Hq := Lib.hid (all_take O.right l k hlt Ha.out)
      have Hf := Lib.hid (all_take_false O.right l k hlt)
      generalize l.getD k noOpt = o at *
      obtain ⟨kd, d⟩ := o
      simp only at c0 c1 hz
      have hbs := hb.size
      go_wp2_with fail
      refine (rightOne_any kd d _ hz).mono ?_
      rintro e w2 ⟨rfl, hb2⟩
      have hbw : Below w.heap.size w w2 := (hb.alloc hbs _).trans (hb2.mono (by simp; omega))
      clear hb2 hb c0 c1
      cases hrt : O.right ⟨kd, d⟩ with
      | true =>
        have Hrt := Lib.hid hrt
        clear hrt
        go_wp2
        go_roundw
        case rel => exact ⟨k + 1, by omega, by go_num, Lib.hid (Hq.out.trans Hrt.out), hbw⟩
        case measure => simp [intOf]; omega
      | false =>
        have Hrt := Lib.hid hrt
        clear hrt
        go_wp2
        go_ret
        exact ⟨ret_bool (by rw [← Hr.out, Hf.out Hrt.out]), hbw⟩
    · go_wp2
      go_ret
      exact ⟨ret_bool (by rw [← Hr.out]; have := Ha.out; rw [List.take_of_length_le (by omega)] at this; exact this.symm), hb⟩

theorem raw_take (l : List Opt) (k : Nat) (h : k < l.length) : O.raw (l.take (k + 1)) = O.raw (l.take k) + O.sizeOne (l.getD k noOpt) := by
  rw [getD_take l k h, O.raw_append]; simp [O.raw]

theorem raw_le (l : List Opt) (h : ∀ o ∈ l, o.data.size ≤ 100) : O.raw l ≤ 102 * l.length := by
  induction l with
  | nil => simp [O.raw]
  | cons o r ih =>
    have h1 := h o (by simp)
    have h2 := ih (fun x hx => h x (by simp [hx]))
    have h3 : O.sizeOne o ≤ 102 := by unfold O.sizeOne; split <;> omega
    simp only [O.raw, List.length_cons]
    omega

theorem raw_take_le (l : List Opt) (k : Nat) (hk : k ≤ 60) (h : ∀ o ∈ l, o.data.size ≤ 100) : O.raw (l.take k) ≤ 6120 := by
  have h1 := raw_le (l.take k) (fun o ho => h o (List.mem_of_mem_take ho))
  have h2 : (l.take k).length ≤ k := List.length_take_le _ _
  omega

set_option maxHeartbeats 400000 in
theorem optSize_any (a : Option Addr) (cap : Nat) (l : List Opt) (w : World) (h : OptRow w a l) (hl : l.length ≤ 60) (hd : ∀ o ∈ l, o.data.size ≤ 100) :
    Calls Tryz.prog 30 #[.slice a l.length cap] w fun e w' => e = .returned (.int .i64 (O.size l)) ∧ Below w.heap.size w w' := by
  have Hrow := Lib.hid h
  have Hd := Lib.hid hd
  clear h hd
  go_enter Tryz.func30, Tryz.ntmps30
  go_wp2
  go_loopw [3, 8] (fun n i wr => ∃ k : Nat, k ≤ l.length ∧ i = .int .i64 k ∧ n = .int .i64 (O.raw (l.take k)) ∧ Below w.heap.size w wr) (fun _ i _ => l.length - (intOf i).toNat)
  case atStart => exact ⟨0, Nat.zero_le _, rfl, rfl, Below.refl _ _⟩
  case round =>
    obtain ⟨k, hk, rfl, rfl, hb⟩ := hrel
    have hraw := raw_take_le l k (by omega) Hd.out
    by_cases hlt : k < l.length
    · obtain ⟨b, off, rfl, hbl, c0, c1⟩ := Hrow.out.then hb k hlt
      have hz := Hd.out _ (getD_mem l k hlt)
      have Hq := Lib.hid (raw_take l k hlt)
      generalize l.getD k noOpt = o at *
      generalize O.raw (l.take k) = n at *
      have hso : O.sizeOne o ≤ 102 := by unfold O.sizeOne; split <;> omega
      obtain ⟨kd, d⟩ := o
      simp only at c0 c1 hz
      have hbs := hb.size
      go_wp2_with fail
      refine (sizeOne_any kd d _ (by omega)).mono ?_
      rintro e w2 ⟨rfl, hb2⟩
      have hbw : Below w.heap.size w w2 := (hb.alloc hbs _).trans (hb2.mono (by simp; omega))
      clear hb2 hb c0 c1
      generalize O.sizeOne ⟨kd, d⟩ = m at *
      go_wp2
      go_roundw
      case rel => exact ⟨k + 1, by omega, by go_num, by rw [Hq.out]; go_num, hbw⟩
      case measure => simp [intOf]; omega
    · have e : l.take k = l := List.take_of_length_le (by omega)
      rw [e] at hraw ⊢
      have Hs := Lib.hid (show O.size l = O.raw l + O.pad (O.raw l) from rfl)
      have hp := O.pad_le (O.raw l)
      clear e
      go_wp2_with fail
      refine (padding_any (O.raw l) _ (by omega)).mono ?_
      rintro e w2 ⟨rfl, rfl⟩
      generalize O.pad (O.raw l) = p at *
      generalize O.raw l = n at *
      go_wp2
      go_ret
      exact ⟨ret_i64 (by rw [Hs.out]; omega), hb⟩

set_option maxHeartbeats 400000 in
theorem refAll_any (a : Option Addr) (cap : Nat) (l : List Opt) (w : World) (h : OptRow w a l) (hl : l.length ≤ maxLen) (hd : ∀ o ∈ l, o.data.size ≤ maxLen) :
    Calls Tryz.prog 23 #[.slice a l.length cap] w fun e w' => e = .returned (.bool (l.all O.right)) ∧ Below w.heap.size w w' := by
  unfold maxLen at hl
  have Hrow := Lib.hid h
  have Hd := Lib.hid hd
  clear h hd
  obtain ⟨r, hr⟩ : ∃ r, l.all O.right = r := ⟨_, rfl⟩
  have Hr := Lib.hid hr
  rw [hr]
  clear hr
  go_enter Tryz.func23, Tryz.ntmps23
  go_wp2
  go_loopw [3] (fun i wr => ∃ k : Nat, k ≤ l.length ∧ i = .int .i64 k ∧ Hid ((l.take k).all O.right = true) ∧ Below w.heap.size w wr) (fun i _ => l.length - (intOf i).toNat)
  case atStart => exact ⟨0, Nat.zero_le _, rfl, Lib.hid rfl, Below.refl _ _⟩
  case round =>
    obtain ⟨k, hk, rfl, Ha, hb⟩ := hrel
    by_cases hlt : k < l.length
    · obtain ⟨b, off, rfl, hbl, c0, c1⟩ := Hrow.out.then hb k hlt
      have hz := Hd.out _ (getD_mem l k hlt)
      have Hq := Lib.hid (all_take O.right l k hlt Ha.out)
      have Hf := Lib.hid (all_take_false O.right l k hlt)
      generalize l.getD k noOpt = o at *
      obtain ⟨kd, d⟩ := o
      simp only at c0 c1 hz
      have hbs := hb.size
      go_wp2_with fail
      refine (refRight_any kd d _ hz).mono ?_
      rintro e w2 ⟨rfl, hb2⟩
      have hbw : Below w.heap.size w w2 := hb.trans (hb2.mono hbs)
      clear hb2 hb c0 c1
      cases hrt : O.right ⟨kd, d⟩ with
      | true =>
        have Hrt := Lib.hid hrt
        clear hrt
        go_wp2
        go_roundw
        case rel => exact ⟨k + 1, by omega, by go_num, Lib.hid (Hq.out.trans Hrt.out), hbw⟩
        case measure => simp [intOf]; omega
      | false =>
        have Hrt := Lib.hid hrt
        clear hrt
        go_wp2
        go_ret
        exact ⟨ret_bool (by rw [← Hr.out, Hf.out Hrt.out]), hbw⟩
    · go_wp2
      go_ret
      exact ⟨ret_bool (by rw [← Hr.out]; have := Ha.out; rw [List.take_of_length_le (by omega)] at this; exact this.symm), hb⟩

theorem pad_more (n j : Nat) (h : j < O.pad n) : ((n : Int) + (j : Int)) % 4 ≠ 0 := by unfold O.pad at h; omega
theorem pad_done (n j : Nat) (h : j ≤ O.pad n) (h' : ¬ j < O.pad n) : ((n : Int) + (j : Int)) % 4 = 0 := by unfold O.pad at h h'; omega

set_option maxHeartbeats 400000 in
theorem refSize_any (a : Option Addr) (cap : Nat) (l : List Opt) (w : World) (h : OptRow w a l) (hl : l.length ≤ 60) (hd : ∀ o ∈ l, o.data.size ≤ 100) :
    Calls Tryz.prog 24 #[.slice a l.length cap] w fun e w' => e = .returned (.int .i64 (O.size l)) ∧ w = w' := by
  have Hrow := Lib.hid h
  have Hd := Lib.hid hd
  clear h hd
  go_enter Tryz.func24, Tryz.ntmps24
  go_wp2
  go_loop [3, 4] (fun n i => ∃ k : Nat, k ≤ l.length ∧ i = .int .i64 k ∧ n = .int .i64 (O.raw (l.take k))) (fun _ i => l.length - (intOf i).toNat)
  case atStart => exact ⟨0, Nat.zero_le _, rfl, rfl⟩
  case round =>
    obtain ⟨k, hk, rfl, rfl⟩ := hrel
    have hraw := raw_take_le l k (by omega) Hd.out
    by_cases hlt : k < l.length
    · obtain ⟨b, off, rfl, hbl, c0, c1⟩ := Hrow.out.then (Below.refl _ _) k hlt
      have hz := Hd.out _ (getD_mem l k hlt)
      have Hq := Lib.hid (raw_take l k hlt)
      generalize l.getD k noOpt = o at *
      generalize O.raw (l.take k) = n at *
      obtain ⟨kd, d⟩ := o
      simp only at c0 c1 hz
      by_cases hk1 : kd = 1
      · subst hk1
        go_wp2
        go_round
        case rel => exact ⟨k + 1, by omega, by go_num, by rw [Hq.out]; show _ = Value.int .i64 ((n + 1 : Nat) : Int); go_num⟩
        case measure => simp [intOf]; omega
      · have Hs := Lib.hid (show O.sizeOne ⟨kd, d⟩ = 2 + d.size by unfold O.sizeOne; rw [if_neg hk1])
        go_wp2
        go_round
        case rel => exact ⟨k + 1, by omega, by go_num, by rw [Hq.out, Hs.out]; go_num⟩
        case measure => simp [intOf]; omega
    · have e : l.take k = l := List.take_of_length_le (by omega)
      rw [e] at hraw ⊢
      have Hs := Lib.hid (show O.size l = O.raw l + O.pad (O.raw l) from rfl)
      have hp := O.pad_le (O.raw l)
      clear e
      have Hm := Lib.hid (pad_more (O.raw l))
      have Hn := Lib.hid (pad_done (O.raw l))
      generalize O.pad (O.raw l) = p at *
      generalize O.raw l = n at *
      go_wp2
      go_loop [3] (fun x => ∃ j : Nat, j ≤ p ∧ x = .int .i64 ((n : Int) + (j : Int))) (fun x => n + p - (intOf x).toNat)
      case atStart => exact ⟨0, Nat.zero_le _, by simp⟩
      case round =>
        obtain ⟨j, hj, rfl⟩ := hrel
        by_cases hlt : j < p
        · have hne := Hm.out j hlt
          go_wp2
          go_round
          case rel => exact ⟨j + 1, by omega, by go_num⟩
          case measure => simp [intOf]; omega
        · have hne := Hn.out j hj hlt
          go_wp2
          go_ret
          exact ⟨ret_i64 (by rw [Hs.out]; omega), rfl⟩

theorem great_true (l : List Opt) (k : Nat) (h : k < l.length) (hb : 100 < (l.getD k noOpt).data.size) : O.great l = true := by
  unfold O.great
  rw [Bool.or_eq_true]
  exact .inl (List.any_eq_true.2 ⟨_, getD_mem l k h, by simpa using hb⟩)

theorem great_rest (l : List Opt) (h : ∀ o ∈ l, o.data.size ≤ 100) : O.great l = decide (60 < l.length) := by
  unfold O.great
  have : l.any (fun o => 100 < o.data.size) = false := by
    rw [List.any_eq_false]
    intro o ho
    have := h o ho
    simp; omega
  rw [this, Bool.false_or]

theorem great_not (l : List Opt) (h : O.great l = false) : l.length ≤ 60 ∧ ∀ o ∈ l, o.data.size ≤ 100 := by
  unfold O.great at h
  rw [Bool.or_eq_false_iff] at h
  refine ⟨by have := of_decide_eq_false h.2; omega, fun o ho => ?_⟩
  have := List.any_eq_false.1 h.1 o ho
  simp at this
  omega

theorem small_take (l : List Opt) (k : Nat) (h : k < l.length) (ha : ∀ o ∈ l.take k, o.data.size ≤ 100) (hb : (l.getD k noOpt).data.size ≤ 100) : ∀ o ∈ l.take (k + 1), o.data.size ≤ 100 := by
  intro o ho
  rw [getD_take l k h, List.mem_append] at ho
  rcases ho with ho | ho
  · exact ha o ho
  · rw [List.mem_singleton.1 ho]; exact hb

set_option maxHeartbeats 400000 in
theorem great_any (a : Option Addr) (cap : Nat) (l : List Opt) (w : World) (h : OptRow w a l) (hl : l.length ≤ maxLen) (hd : ∀ o ∈ l, o.data.size ≤ maxLen) :
    Calls Tryz.prog 12 #[.slice a l.length cap] w fun e w' => e = .returned (.bool (O.great l)) ∧ w = w' := by
  unfold maxLen at hl
  have Hrow := Lib.hid h
  have Hd := Lib.hid hd
  clear h hd
  obtain ⟨r, hr⟩ : ∃ r, O.great l = r := ⟨_, rfl⟩
  have Hr := Lib.hid hr
  rw [hr]
  clear hr
  go_enter Tryz.func12, Tryz.ntmps12
  go_wp2
  go_loop [3] (fun i => ∃ k : Nat, k ≤ l.length ∧ i = .int .i64 k ∧ Hid (∀ o ∈ l.take k, o.data.size ≤ 100)) (fun i => l.length - (intOf i).toNat)
  case atStart => exact ⟨0, Nat.zero_le _, rfl, Lib.hid (by simp)⟩
  case round =>
    obtain ⟨k, hk, rfl, Ha⟩ := hrel
    by_cases hlt : k < l.length
    · obtain ⟨b, off, rfl, hbl, c0, c1⟩ := Hrow.out.then (Below.refl _ _) k hlt
      have hz := Hd.out _ (getD_mem l k hlt)
      have Hq := Lib.hid (small_take l k hlt Ha.out)
      have Hf := Lib.hid (great_true l k hlt)
      generalize l.getD k noOpt = o at *
      obtain ⟨kd, d⟩ := o
      simp only at c0 c1 hz
      unfold maxLen at hz
      by_cases hb : 100 < d.size
      · go_wp2
        go_ret
        exact ⟨ret_bool (by rw [← Hr.out, Hf.out hb]), rfl⟩
      · go_wp2
        go_round
        case rel => exact ⟨k + 1, by omega, by go_num, Lib.hid (Hq.out (by show d.size ≤ 100; omega))⟩
        case measure => simp [intOf]; omega
    · have e : l.take k = l := List.take_of_length_le (by omega)
      rw [e] at Ha
      clear e
      have Hg := Lib.hid (great_rest l Ha.out)
      go_wp2
      go_ret
      exact ⟨ret_bool (by rw [← Hr.out, Hg.out, decide_eq_decide]; omega), rfl⟩
#print axioms optRight_any
#print axioms great_any
end Go.Proofs.YtncnildpbccpaaaGreatDoor

namespace Go.Proofs.YtncnildpbccpaaaGreatDoor
open Go.RowKit

def nobytes : ByteArray := ⟨#[]⟩
theorem nobytes_size : nobytes.size = 0 := rfl

/-- A reader at block r: what is left, or that it has failed. -/
structure Rd (base r : Nat) (o : Option ByteArray) (w : World) : Prop where
  low : base ≤ r
  cells : w.heap[r]? = some (.cells #[.bool o.isNone, .string (o.getD nobytes)] 100 (0, 0))

theorem rd_set0 {w : World} {b : Nat} {x y u : Value} {t : TypeId} (h : w.heap[b]? = some (.cells #[x, y] t (0, 0))) : (w.setCell ⟨b, 0, none⟩ u).heap[b]? = some (.cells #[u, y] t (0, 0)) := by
  have hlt := lt_of_block h
  have h' : w.heap[b] = .cells #[x, y] t (0, 0) := by simpa [Array.getElem?_eq_getElem hlt] using h
  show (w.heap.modify b _)[b]? = _
  rw [Array.getElem?_eq_getElem (by simpa using hlt), Array.getElem_modify_self, h']
  rfl

theorem rd_set1 {w : World} {b : Nat} {x y u : Value} {t : TypeId} (h : w.heap[b]? = some (.cells #[x, y] t (0, 0))) : (w.setCell ⟨b, 1, none⟩ u).heap[b]? = some (.cells #[x, u] t (0, 0)) := by
  have hlt := lt_of_block h
  have h' : w.heap[b] = .cells #[x, y] t (0, 0) := by simpa [Array.getElem?_eq_getElem hlt] using h
  show (w.heap.modify b _)[b]? = _
  rw [Array.getElem?_eq_getElem (by simpa using hlt), Array.getElem_modify_self, h']
  rfl

theorem grown_set (w : World) (r i : Nat) (v : Value) : w.grownBy (w.setCell ⟨r, i, none⟩ v) (some r) :=
  ⟨rfl, rfl, rfl, by simp, fun k _ hne => Below.heap_setCell _ _ _ _ (fun h => hne (by rw [h]))⟩
theorem grown_set1 (w : World) (r : Nat) (v : Value) : w.grownBy (w.setCell ⟨r, 1, none⟩ v) (some r) := grown_set w r 1 v
theorem grown_trans {w w1 w2 : World} {row : Option Nat} (h : w.grownBy w1 row) (k : w1.grownBy w2 row) : w.grownBy w2 row :=
  ⟨k.os.trans h.os, k.tape.trans h.tape, k.output.trans h.output, Nat.le_trans h.size k.size, fun j hj hne => (k.block j (Nat.lt_of_lt_of_le hj h.size) hne).trans (h.block j hj hne)⟩
theorem grown_set2 (w : World) (r : Nat) (u v : Value) : w.grownBy ((w.setCell ⟨r, 0, none⟩ u).setCell ⟨r, 1, none⟩ v) (some r) := grown_trans (grown_set w r 0 u) (grown_set _ r 1 v)
theorem grown_below {base r : Nat} {w w' : World} (h : w.grownBy w' (some r)) (hr : base ≤ r) (hb : base ≤ w.heap.size) : Below base w w' :=
  (Below.refl base w).grown h hb (fun k hk => by cases hk; exact hr)

/-- What a Take answers, and what is left. -/
def takeOf (o : Option ByteArray) (n : Int) : ByteArray × Option ByteArray :=
  match o with
  | none => (nobytes, none)
  | some s => if 0 ≤ n ∧ n ≤ (s.size : Int) then (s.extract 0 n.toNat, some (s.extract n.toNat s.size)) else (nobytes, none)

theorem Rd.at {base r : Nat} {o : Option ByteArray} {w : World} (h : Rd base r o w) : w.cell? ⟨r, 0, none⟩ = some (.bool o.isNone) ∧ w.cell? ⟨r, 1, none⟩ = some (.string (o.getD nobytes)) ∧ w.frozen? ⟨r, 0, none⟩ = false ∧ w.frozen? ⟨r, 1, none⟩ = false :=
  ⟨by simp [World.cell?, h.cells], by simp [World.cell?, h.cells], by simp [World.frozen?, h.cells], by simp [World.frozen?, h.cells]⟩

set_option maxHeartbeats 400000 in
theorem take_in (base r : Nat) (s : ByteArray) (n : Nat) (w : World) (h : Rd base r (some s) w) (_hs : s.size ≤ 100000) (hn : n ≤ s.size) :
    Calls Tryz.prog 66 #[.pointer (some ⟨r, 0, none⟩), .int .i64 n] w fun e w' => e = .returned (.string (s.extract 0 n)) ∧ Rd base r (some (s.extract n s.size)) w' ∧ w.grownBy w' (some r) := by
  obtain ⟨c0, c1, f0, f1⟩ := h.at
  simp only [Option.isNone_some, Option.getD_some] at c0 c1
  have Hc := Lib.hid h
  clear h
  go_enter Tryz.func66, Tryz.ntmps66
  go_wp2
  go_ret
  exact ⟨rfl, ⟨Hc.out.low, rd_set1 Hc.out.cells⟩, grown_set1 _ _ _⟩

set_option maxHeartbeats 400000 in
theorem take_out (base r : Nat) (s : ByteArray) (n : Int) (w : World) (h : Rd base r (some s) w) (_hs : s.size ≤ 100000) (hn : n < 0 ∨ (s.size : Int) < n) :
    Calls Tryz.prog 66 #[.pointer (some ⟨r, 0, none⟩), .int .i64 n] w fun e w' => e = .returned (.string nobytes) ∧ Rd base r none w' ∧ w.grownBy w' (some r) := by
  obtain ⟨c0, c1, f0, f1⟩ := h.at
  simp only [Option.isNone_some, Option.getD_some] at c0 c1
  have Hc := Lib.hid h
  clear h
  by_cases h0 : n < 0
  · clear hn
    go_enter Tryz.func66, Tryz.ntmps66
    go_wp2
    go_end0
    go_wp2
    go_ret
    exact ⟨rfl, ⟨Hc.out.low, rd_set1 (rd_set0 Hc.out.cells)⟩, grown_set2 _ _ _ _⟩
  · have h1 : (s.size : Int) < n := by omega
    clear hn
    go_enter Tryz.func66, Tryz.ntmps66
    go_wp2
    go_end0
    go_wp2
    go_ret
    exact ⟨rfl, ⟨Hc.out.low, rd_set1 (rd_set0 Hc.out.cells)⟩, grown_set2 _ _ _ _⟩

set_option maxHeartbeats 400000 in
theorem take_failed (base r : Nat) (n : Int) (w : World) (h : Rd base r none w) :
    Calls Tryz.prog 66 #[.pointer (some ⟨r, 0, none⟩), .int .i64 n] w fun e w' => e = .returned (.string nobytes) ∧ Rd base r none w' ∧ w.grownBy w' (some r) := by
  obtain ⟨c0, c1, f0, f1⟩ := h.at
  simp only [Option.isNone_none, Option.getD_none] at c0 c1
  have hz := nobytes_size
  have Hc := Lib.hid h
  clear h
  by_cases h0 : n < 0
  · go_enter Tryz.func66, Tryz.ntmps66
    go_wp2
    go_end0
    go_wp2
    go_ret
    exact ⟨rfl, ⟨Hc.out.low, rd_set1 (rd_set0 Hc.out.cells)⟩, grown_set2 _ _ _ _⟩
  · by_cases h1 : 0 < n
    · go_enter Tryz.func66, Tryz.ntmps66
      go_wp2
      go_end0
      go_wp2
      go_ret
      exact ⟨rfl, ⟨Hc.out.low, rd_set1 (rd_set0 Hc.out.cells)⟩, grown_set2 _ _ _ _⟩
    · obtain rfl : n = 0 := by omega
      go_enter Tryz.func66, Tryz.ntmps66
      go_wp2
      go_ret
      exact ⟨rfl, ⟨Hc.out.low, rd_set1 Hc.out.cells⟩, grown_set1 _ _ _⟩

theorem take_any (base r : Nat) (o : Option ByteArray) (n : Int) (w : World) (h : Rd base r o w) (hs : (o.getD nobytes).size ≤ 100000) :
    Calls Tryz.prog 66 #[.pointer (some ⟨r, 0, none⟩), .int .i64 n] w fun e w' => e = .returned (.string (takeOf o n).1) ∧ Rd base r (takeOf o n).2 w' ∧ w.grownBy w' (some r) := by
  cases o with
  | none => exact take_failed base r n w h
  | some s =>
    by_cases hn : 0 ≤ n ∧ n ≤ (s.size : Int)
    · obtain ⟨k, rfl⟩ := Int.eq_ofNat_of_zero_le hn.1
      have e : takeOf (some s) (k : Int) = (s.extract 0 k, some (s.extract k s.size)) := by unfold takeOf; simp only []; rw [if_pos hn]; rfl
      rw [e]
      exact take_in base r s k w h hs (by omega)
    · have e : takeOf (some s) n = (nobytes, none) := by unfold takeOf; simp only []; rw [if_neg hn]
      rw [e]
      exact take_out base r s n w h hs (by omega)

set_option maxHeartbeats 400000 in
theorem take_nil (n : Int) (w : World) :
    Calls Tryz.prog 66 #[.pointer none, .int .i64 n] w fun e w' => e = .returned (.string nobytes) ∧ w = w' := by
  go_enter Tryz.func66, Tryz.ntmps66
  go_wp2
  go_ret
  exact ⟨rfl, rfl⟩

/-- Bytes as a number, the highest first. -/
def num (l : List UInt8) : Nat := l.foldl (fun n c => n * 256 + c.toNat) 0

theorem num_snoc (l : List UInt8) (c : UInt8) : num (l ++ [c]) = num l * 256 + c.toNat := by unfold num; rw [List.foldl_append]; rfl

theorem num_lt (l : List UInt8) : num l < 256 ^ l.length := by
  have h : ∀ (l : List UInt8) (n : Nat), l.foldl (fun n c => n * 256 + c.toNat) n < (n + 1) * 256 ^ l.length := by
    intro l
    induction l with
    | nil => intro n; simp
    | cons c r ih =>
      intro n
      have := ih (n * 256 + c.toNat)
      have hc := c.toNat_lt
      rw [List.foldl_cons, List.length_cons]
      calc r.foldl (fun n c => n * 256 + c.toNat) (n * 256 + c.toNat) < (n * 256 + c.toNat + 1) * 256 ^ r.length := this
        _ ≤ ((n + 1) * 256) * 256 ^ r.length := Nat.mul_le_mul_right _ (by omega)
        _ = (n + 1) * 256 ^ (r.length + 1) := by rw [Nat.pow_succ, Nat.mul_assoc, Nat.mul_comm 256]
  have := h l 0
  simpa [num] using this

theorem num_take (s : ByteArray) (k : Nat) (h : k < s.size) : num (s.data.toList.take (k + 1)) = num (s.data.toList.take k) * 256 + s[k].toNat := by
  rw [List.take_succ_eq_append_getElem (by simpa using h), num_snoc]; rfl

theorem num_take_lt (s : ByteArray) (k : Nat) (h : k ≤ 3) : num (s.data.toList.take k) < 16777216 := by
  have h1 := num_lt (s.data.toList.take k)
  have h2 : (s.data.toList.take k).length ≤ k := List.length_take_le _ _
  have h3 : 256 ^ (s.data.toList.take k).length ≤ 256 ^ 3 := Nat.pow_le_pow_right (by decide) (by omega)
  have h4 : (256 : Nat) ^ 3 = 16777216 := by decide
  omega

theorem or_byte (n c : Nat) (hn : n < 16777216) (hc : c < 256) : bits BinOp.or IntKind.u32 ((n : Int) * 256) (c : Int) = (n : Int) * 256 + (c : Int) :=
  bits_join .u32 32 (by decide) (fun m h0 h1 => IntWalk.u32_in m (by omega)) 8 _ _ (by omega) (by omega) (by omega) (by omega) (by omega) (by omega)

theorem ret_u32 {a b : Int} (h : a = b) : Ending.returned (.int .u32 a) = .returned (.int .u32 b) := by rw [h]

set_option maxHeartbeats 800000 in
theorem rnumber_any (base r : Nat) (o : Option ByteArray) (z : Nat) (w : World) (h : Rd base r o w) (hs : (o.getD nobytes).size ≤ 100000) (hz : z ≤ 4) :
    Calls Tryz.prog 75 #[.pointer (some ⟨r, 0, none⟩), .int .i64 z] w fun e w' => e = .returned (.int .u32 (num (takeOf o z).1.data.toList)) ∧ Rd base r (takeOf o z).2 w' ∧ w.grownBy w' (some r) := by
  have hl : (takeOf o z).1.size ≤ 4 := by
    cases o with
    | none => show nobytes.size ≤ 4; rw [nobytes_size]; omega
    | some s =>
      unfold takeOf
      simp only []
      split
      · simp only [ByteArray.size_extract]; omega
      · rw [nobytes_size]; omega
  have H := Lib.hid (take_any base r o z w h hs)
  generalize (takeOf o z).2 = o' at *
  generalize (takeOf o z).1 = t at *
  clear h
  go_enter Tryz.func75, Tryz.ntmps75
  go_wp2_with fail
  refine H.out.mono ?_
  rintro e w1 ⟨rfl, hr1, hb1⟩
  go_wp2
  go_loop [5, 13] (fun n i => ∃ k : Nat, k ≤ t.size ∧ i = .int .i64 k ∧ n = .int .u32 (num (t.data.toList.take k))) (fun _ i => t.size - (intOf i).toNat)
  case atStart => exact ⟨0, Nat.zero_le _, rfl, rfl⟩
  case round =>
    obtain ⟨k, hk, rfl, rfl⟩ := hrel
    by_cases hlt : k < t.size
    · have hn := num_take_lt t k (by omega)
      have hc := t[k].toNat_lt
      have Hs := Lib.hid (num_take t k hlt)
      have hor := or_byte (num (t.data.toList.take k)) t[k].toNat hn (by omega)
      generalize num (t.data.toList.take k) = n at *
      go_wp2
      go_round
      case rel => exact ⟨k + 1, by omega, by go_num, by rw [Hs.out]; go_num⟩
      case measure => simp [intOf]; omega
    · go_wp2
      go_ret
      exact ⟨ret_u32 (by rw [List.take_of_length_le (by simp; omega)]), hr1, hb1⟩

set_option maxHeartbeats 400000 in
theorem rnumber_nil (z : Int) (w : World) :
    Calls Tryz.prog 75 #[.pointer none, .int .i64 z] w fun e w' => e = .returned (.int .u32 0) ∧ w = w' := by
  have hz := nobytes_size
  go_enter Tryz.func75, Tryz.ntmps75
  go_wp2_with fail
  refine (take_nil z w).mono ?_
  rintro e w1 ⟨rfl, rfl⟩
  go_wp2
  refine wp_loop_rounds 1 ?_
  rw [rounds_succ]
  go_wp2
  go_ret
  exact ⟨rfl, rfl⟩

set_option maxHeartbeats 400000 in
theorem RByte_any (base r : Nat) (o : Option ByteArray) (w : World) (h : Rd base r o w) (hs : (o.getD nobytes).size ≤ 100000) :
    Calls Tryz.prog 60 #[.pointer (some ⟨r, 0, none⟩)] w fun e w' => e = .returned (.int .i64 (num (takeOf o 1).1.data.toList)) ∧ Rd base r (takeOf o 1).2 w' ∧ w.grownBy w' (some r) := by
  have hlt : num (takeOf o 1).1.data.toList < 4294967296 := by
    have h1 := num_lt (takeOf o 1).1.data.toList
    have h2 : (takeOf o 1).1.data.toList.length ≤ 4 := by
      rw [Array.length_toList]
      show (takeOf o 1).1.size ≤ 4
      cases o with
      | none => show nobytes.size ≤ 4; rw [nobytes_size]; omega
      | some s =>
        unfold takeOf
        simp only []
        split
        · simp only [ByteArray.size_extract]; omega
        · rw [nobytes_size]; omega
    have h3 : 256 ^ (takeOf o 1).1.data.toList.length ≤ 256 ^ 4 := Nat.pow_le_pow_right (by decide) h2
    have h4 : (256 : Nat) ^ 4 = 4294967296 := by decide
    omega
  have H := Lib.hid (rnumber_any base r o 1 w h hs (by omega))
  have e1 : (((1 : Nat)) : Int) = 1 := rfl
  rw [e1] at H
  clear e1
  generalize (takeOf o 1).2 = o' at *
  generalize num (takeOf o 1).1.data.toList = n at *
  clear h
  go_enter Tryz.func60, Tryz.ntmps60
  go_wp2_with fail
  refine H.out.mono ?_
  rintro e w1 ⟨rfl, hr1, hb1⟩
  go_wp2
  go_ret
  exact ⟨rfl, hr1, hb1⟩

set_option maxHeartbeats 400000 in
theorem RByte_nil (w : World) :
    Calls Tryz.prog 60 #[.pointer none] w fun e w' => e = .returned (.int .i64 0) ∧ w = w' := by
  go_enter Tryz.func60, Tryz.ntmps60
  go_wp2_with fail
  refine (rnumber_nil 1 w).mono ?_
  rintro e w1 ⟨rfl, rfl⟩
  go_wp2
  go_ret
  exact ⟨rfl, rfl⟩

set_option maxHeartbeats 400000 in
theorem RShort_any (base r : Nat) (o : Option ByteArray) (w : World) (h : Rd base r o w) (hs : (o.getD nobytes).size ≤ 100000) :
    Calls Tryz.prog 61 #[.pointer (some ⟨r, 0, none⟩)] w fun e w' => e = .returned (.int .i64 (num (takeOf o 2).1.data.toList)) ∧ Rd base r (takeOf o 2).2 w' ∧ w.grownBy w' (some r) := by
  have hlt : num (takeOf o 2).1.data.toList < 4294967296 := by
    have h1 := num_lt (takeOf o 2).1.data.toList
    have h2 : (takeOf o 2).1.data.toList.length ≤ 4 := by
      rw [Array.length_toList]
      show (takeOf o 2).1.size ≤ 4
      cases o with
      | none => show nobytes.size ≤ 4; rw [nobytes_size]; omega
      | some s =>
        unfold takeOf
        simp only []
        split
        · simp only [ByteArray.size_extract]; omega
        · rw [nobytes_size]; omega
    have h3 : 256 ^ (takeOf o 2).1.data.toList.length ≤ 256 ^ 4 := Nat.pow_le_pow_right (by decide) h2
    have h4 : (256 : Nat) ^ 4 = 4294967296 := by decide
    omega
  have H := Lib.hid (rnumber_any base r o 2 w h hs (by omega))
  have e1 : (((2 : Nat)) : Int) = 2 := rfl
  rw [e1] at H
  clear e1
  generalize (takeOf o 2).2 = o' at *
  generalize num (takeOf o 2).1.data.toList = n at *
  clear h
  go_enter Tryz.func61, Tryz.ntmps61
  go_wp2_with fail
  refine H.out.mono ?_
  rintro e w1 ⟨rfl, hr1, hb1⟩
  go_wp2
  go_ret
  exact ⟨rfl, hr1, hb1⟩

set_option maxHeartbeats 400000 in
theorem RShort_nil (w : World) :
    Calls Tryz.prog 61 #[.pointer none] w fun e w' => e = .returned (.int .i64 0) ∧ w = w' := by
  go_enter Tryz.func61, Tryz.ntmps61
  go_wp2_with fail
  refine (rnumber_nil 2 w).mono ?_
  rintro e w1 ⟨rfl, rfl⟩
  go_wp2
  go_ret
  exact ⟨rfl, rfl⟩

set_option maxHeartbeats 400000 in
theorem RWord_any (base r : Nat) (o : Option ByteArray) (w : World) (h : Rd base r o w) (hs : (o.getD nobytes).size ≤ 100000) :
    Calls Tryz.prog 62 #[.pointer (some ⟨r, 0, none⟩)] w fun e w' => e = .returned (.int .u32 (num (takeOf o 4).1.data.toList)) ∧ Rd base r (takeOf o 4).2 w' ∧ w.grownBy w' (some r) := by
  have H := Lib.hid (rnumber_any base r o 4 w h hs (by omega))
  have e1 : (((4 : Nat)) : Int) = 4 := rfl
  rw [e1] at H
  clear e1
  generalize (takeOf o 4).2 = o' at *
  generalize num (takeOf o 4).1.data.toList = n at *
  clear h
  go_enter Tryz.func62, Tryz.ntmps62
  go_wp2_with fail
  refine H.out.mono ?_
  rintro e w1 ⟨rfl, hr1, hb1⟩
  go_wp2
  go_ret
  exact ⟨rfl, hr1, hb1⟩

set_option maxHeartbeats 400000 in
theorem RWord_nil (w : World) :
    Calls Tryz.prog 62 #[.pointer none] w fun e w' => e = .returned (.int .u32 0) ∧ w = w' := by
  go_enter Tryz.func62, Tryz.ntmps62
  go_wp2_with fail
  refine (rnumber_nil 4 w).mono ?_
  rintro e w1 ⟨rfl, rfl⟩
  go_wp2
  go_ret
  exact ⟨rfl, rfl⟩

set_option maxHeartbeats 400000 in
theorem Left_any (base r : Nat) (o : Option ByteArray) (w : World) (h : Rd base r o w) :
    Calls Tryz.prog 76 #[.pointer (some ⟨r, 0, none⟩)] w fun e w' => e = .returned (.int .i64 (o.getD nobytes).size) ∧ w = w' := by
  obtain ⟨c0, c1, f0, f1⟩ := h.at
  generalize o.getD nobytes = t at *
  clear h
  go_enter Tryz.func76, Tryz.ntmps76
  go_wp2
  go_ret
  exact ⟨rfl, rfl⟩

set_option maxHeartbeats 400000 in
theorem Left_nil (w : World) :
    Calls Tryz.prog 76 #[.pointer none] w fun e w' => e = .returned (.int .i64 0) ∧ w = w' := by
  go_enter Tryz.func76, Tryz.ntmps76
  go_wp2
  go_ret
  exact ⟨rfl, rfl⟩

set_option maxHeartbeats 400000 in
theorem Ok_any (base r : Nat) (o : Option ByteArray) (w : World) (h : Rd base r o w) :
    Calls Tryz.prog 63 #[.pointer (some ⟨r, 0, none⟩)] w fun e w' => e = .returned (.bool o.isSome) ∧ w = w' := by
  obtain ⟨c0, c1, f0, f1⟩ := h.at
  cases o with
  | none =>
    simp only [Option.isNone_none] at c0
    clear h
    go_enter Tryz.func63, Tryz.ntmps63
    go_wp2
    go_ret
    exact ⟨rfl, rfl⟩
  | some s =>
    simp only [Option.isNone_some] at c0
    clear h
    go_enter Tryz.func63, Tryz.ntmps63
    go_wp2
    go_ret
    exact ⟨rfl, rfl⟩

set_option maxHeartbeats 400000 in
theorem Ok_nil (w : World) :
    Calls Tryz.prog 63 #[.pointer none] w fun e w' => e = .returned (.bool false) ∧ w = w' := by
  go_enter Tryz.func63, Tryz.ntmps63
  go_wp2
  go_ret
  exact ⟨rfl, rfl⟩

set_option maxHeartbeats 400000 in
theorem Rest_any (base r : Nat) (o : Option ByteArray) (w : World) (h : Rd base r o w) (hs : (o.getD nobytes).size ≤ 100000) :
    Calls Tryz.prog 67 #[.pointer (some ⟨r, 0, none⟩)] w fun e w' => e = .returned (.string (takeOf o (o.getD nobytes).size).1) ∧ Rd base r (takeOf o (o.getD nobytes).size).2 w' ∧ w.grownBy w' (some r) := by
  have H1 := Lib.hid (Left_any base r o w h)
  have H2 := Lib.hid (take_any base r o (o.getD nobytes).size w h hs)
  generalize (takeOf o (o.getD nobytes).size).2 = o' at *
  generalize (takeOf o (o.getD nobytes).size).1 = t at *
  generalize (o.getD nobytes).size = n at *
  clear h
  go_enter Tryz.func67, Tryz.ntmps67
  go_wp2_with fail
  refine H1.out.mono ?_
  rintro e w1 ⟨rfl, rfl⟩
  go_wp2_with fail
  refine H2.out.mono ?_
  rintro e w1 ⟨rfl, hr1, hb1⟩
  go_wp2
  go_ret
  exact ⟨rfl, hr1, hb1⟩

set_option maxHeartbeats 400000 in
theorem Rest_nil (w : World) :
    Calls Tryz.prog 67 #[.pointer none] w fun e w' => e = .returned (.string nobytes) ∧ w = w' := by
  go_enter Tryz.func67, Tryz.ntmps67
  go_wp2_with fail
  refine (Left_nil w).mono ?_
  rintro e w1 ⟨rfl, rfl⟩
  go_wp2_with fail
  refine (take_nil _ w).mono ?_
  rintro e w1 ⟨rfl, rfl⟩
  go_wp2
  go_ret
  exact ⟨rfl, rfl⟩

set_option maxHeartbeats 400000 in
theorem Read_any (s : ByteArray) (w : World) :
    Calls Tryz.prog 44 #[.string s] w fun e w' => e = .returned (.pointer (some ⟨w.heap.size, 0, none⟩)) ∧ Rd w.heap.size w.heap.size (some s) w' ∧ Below w.heap.size w w' := by
  go_enter Tryz.func44, Tryz.ntmps44
  go_wp2
  go_ret
  exact ⟨rfl, ⟨Nat.le_refl _, heap_alloc_new w _⟩, (Below.refl _ _).alloc (Nat.le_refl _) _⟩

#print axioms Rest_any
#print axioms RWord_any
#print axioms Read_any
end Go.Proofs.YtncnildpbccpaaaGreatDoor

namespace Go.Proofs.YtncnildpbccpaaaGreatDoor
open Go.RowKit

section
variable {P : Program} (w : World)

theorem append_room_row (t tx ty e : TypeId) (i : TypeInfo) (ht : P.underlying t = some (.slice e)) (hi : P.info? e = some i) (g sLen sCap : Nat) (cur : Array Value) (hg : w.heap[g]? = some (.cells cur e (0, 0)))
    (x : Value) (n : Nat) (news : List Value) (hs : Src P i.size tx x n news w) (hroom : sLen + n ≤ sCap) (hfit : sLen * i.size + news.length ≤ cur.size) :
    (Builtin.append_ #[t, tx] ty #[.slice (some ⟨g, 0, none⟩) sLen sCap, x]).run P w =
      .ok (.slice (some ⟨g, 0, none⟩) (sLen + n) sCap) (w.setRow g (cur.toList.take (sLen * i.size) ++ news ++ cur.toList.drop (sLen * i.size + news.length)).toArray) := by
  have hst := run_storeCells_at P g (sLen * i.size) e news 0 cur w hg (by simpa using hfit) hs.one
  simp only [Nat.add_zero] at hst
  rcases hs.kind with ⟨e', hk⟩ | hk <;> simp [Builtin.append_, run_underlying ht, run_underlying hk, sizeOf, typeInfo, hi, hs.len, hroom, hs.cells, Addr.add_lit, hst]

/-- A new row, made of what was there and what is appended: the call owns it. -/
theorem own_new (base : Nat) (e : TypeId) (z : Value) (size n m cap : Nat) (ks : List Value) (hk : ks.length = (n + m) * size) (hzs : z.cells.size = size) (hge : n + m ≤ cap) (hcm : cap ≤ maxLen) (hbase : base ≤ w.heap.size) (row : Option Nat) :
    (w.drew.alloc (.cells (ks.toArray ++ Builtin.zeroCells z.cells (cap - (n + m))) e)).ownsRow base e size (.slice (some ⟨w.heap.size, 0, none⟩) (n + m) cap) (n + m) ks ∧
      w.grownBy (w.drew.alloc (.cells (ks.toArray ++ Builtin.zeroCells z.cells (cap - (n + m))) e)) row := by
  have hz : (ks.toArray ++ Builtin.zeroCells z.cells (cap - (n + m))).size = cap * size := by
    rw [Array.size_append, List.size_toArray, size_zeroCells, hzs, hk, ← Nat.add_mul, Nat.add_sub_cancel' hge]
  have ht : (ks.toArray ++ Builtin.zeroCells z.cells (cap - (n + m))).toList.take ((n + m) * size) = ks := by
    rw [Array.toList_append, ← hk]; exact List.take_left
  exact ⟨⟨hk, .inr ⟨_, cap, _, rfl, hbase, heap_alloc_new w.drew _, hge, hcm, hz, ht⟩⟩, ⟨rfl, rfl, rfl, by simp, fun k hk _ => Below.heap_alloc w.drew _ k hk⟩⟩

/-- An append to a row that the call owns, of whatever source: the new value owns all of it. -/
theorem append_own_src (base : Nat) (t tx ty e : TypeId) (i : TypeInfo) (z : Value) (ht : P.underlying t = some (.slice e)) (hi : P.info? e = some i) (hz : i.zero = some z)
    (hzs : z.cells.size = i.size) (v : Value) (n : Nat) (xs : List Value) (hown : w.ownsRow base e i.size v n xs)
    (x : Value) (m : Nat) (news : List Value) (hs : Src P i.size tx x m news w)
    (hmax : n + m ≤ maxLen) (hbytes : (n + m) * i.bytes ≤ 140737488355328) (hbase : base ≤ w.heap.size) :
    ∃ v' w', (Builtin.append_ #[t, tx] ty #[v, x]).run P w = .ok v' w' ∧ w'.ownsRow base e i.size v' (n + m) (xs ++ news) ∧ w.grownBy w' v.ownBlock := by
  have hk : (xs ++ news).length = (n + m) * i.size := by rw [List.length_append, hown.1, hs.newsLen, Nat.add_mul]
  have hint : ((n + m : Nat) : Int) ≤ 9223372036854775807 := by simp only [maxLen] at hmax; omega
  -- the ways that lay a new row
  have grow : ∀ (ao : Option Addr) (cap : Nat), cap < n + m → v = .slice ao n cap → (Builtin.firstCells i.size n (.slice ao n cap)).run P w.drew = .ok xs.toArray w.drew →
      ∃ v' w', (Builtin.append_ #[t, tx] ty #[v, x]).run P w = .ok v' w' ∧ w'.ownsRow base e i.size v' (n + m) (xs ++ news) ∧ w.grownBy w' v.ownBlock := by
    rintro ao cap hlt rfl hold
    obtain ⟨h1, h2⟩ := own_new w base e z i.size n m (grownCap w (n + m) cap e) (xs ++ news) hk hzs (grownCap_ge w (n + m) cap e) (grownCap_le_maxLen w (n + m) cap e hmax) hbase (Value.ownBlock (.slice ao n cap))
    exact ⟨_, _, run_append_grow_src (P := P) w t tx ty e i z ht hi hz ao n cap xs hold x m news hs hlt hint (growslice_fits hlt hbytes), h1, h2⟩
  rcases hown.2 with ⟨hv, h0⟩ | ⟨g, cap, cur, hv, hbg, hg, hnc, hcm, hcs, htake⟩
  · have hx : xs = [] := List.eq_nil_of_length_eq_zero (by rw [hown.1, h0, Nat.zero_mul])
    subst hx h0
    rcases Nat.eq_zero_or_pos m with hm | hm
    · subst hm hv
      have hn : news = [] := List.eq_nil_of_length_eq_zero (by rw [hs.newsLen, Nat.zero_mul])
      subst hn
      refine ⟨.slice none 0 0, w, ?_, World.ownsRow_nil w base e i.size, ⟨rfl, rfl, rfl, Nat.le_refl _, fun _ _ _ => rfl⟩⟩
      have hc := hs.cells
      have hn := hs.len
      rcases hs.kind with ⟨e', hk⟩ | hk <;> simp [Builtin.append_, run_underlying ht, run_underlying hk, sizeOf, typeInfo, hi, hn, hc]
    · exact grow none 0 (by omega) hv (run_firstCells_none (P := P) w.drew i.size 0 0 0)
  · by_cases hroom : n + m ≤ cap
    · subst hv
      have hnl := hs.newsLen
      have hfit : n * i.size + news.length ≤ cur.size := by rw [hnl, hcs, ← Nat.add_mul]; exact Nat.mul_le_mul_right _ hroom
      refine ⟨_, _, append_room_row (P := P) w t tx ty e i ht hi g n cap cur hg x m news hs hroom hfit, ⟨hk, .inr ⟨g, cap, _, rfl, hbg, setRow_heap w g cur _ e _ hg, hroom, hcm, ?_, ?_⟩⟩, ⟨rfl, rfl, rfl, by simp, fun k _ hne => setRow_other w g k _ (fun h => hne (by simp [Value.ownBlock, h]))⟩⟩
      · simp only [List.size_toArray, List.length_append, List.length_take, List.length_drop, Array.length_toList]
        omega
      · rw [htake, ← hk]
        exact List.take_left
    · exact grow (some ⟨g, 0, none⟩) cap (by omega) hv (run_firstCells_some (P := P) w.drew i.size n ⟨g, 0, none⟩ n cap xs hown.1 (hown.cells (g := g) (by rw [hv]; rfl)))
end

/-- Bytes, as a row's cells. -/
def bytesV (l : List UInt8) : List Value := l.map fun b => Value.int .u8 (b.toNat : Int)

theorem bytesV_append (l m : List UInt8) : bytesV (l ++ m) = bytesV l ++ bytesV m := List.map_append
theorem bytesV_length (l : List UInt8) : (bytesV l).length = l.length := List.length_map _

/-- A row of bytes that the call owns, from block 'base' on. -/
def Buf (base : Nat) (ao : Option Addr) (cap : Nat) (l : List UInt8) (w : World) : Prop := w.ownsRow base 5 1 (.slice ao l.length cap) l.length (bytesV l)

end Go.Proofs.YtncnildpbccpaaaGreatDoor

namespace Go.Proofs.YtncnildpbccpaaaGreatDoor
open Go.RowKit

/-- Options, as a row's cells. -/
def optsV : List Opt → List Value
  | [] => []
  | o :: r => .int .i64 o.kind :: .string o.data :: optsV r

theorem optsV_append (l m : List Opt) : optsV (l ++ m) = optsV l ++ optsV m := by
  induction l with
  | nil => rfl
  | cons o r ih => simp [optsV, ih]

theorem optsV_get (l : List Opt) (i : Nat) (h : i < l.length) : (optsV l)[i * 2]? = some (.int .i64 (l.getD i noOpt).kind) ∧ (optsV l)[i * 2 + 1]? = some (.string (l.getD i noOpt).data) := by
  induction l generalizing i with
  | nil => simp at h
  | cons o r ih =>
    cases i with
    | zero => simp [optsV]
    | succ j =>
      have := ih j (by simpa using h)
      rw [show (j + 1) * 2 = j * 2 + 1 + 1 by omega]
      simpa [optsV] using this

/-- A row of options that the call owns, from block 'base' on. -/
def OptBuf (base : Nat) (ao : Option Addr) (cap : Nat) (l : List Opt) (w : World) : Prop := w.ownsRow base 56 2 (.slice ao l.length cap) l.length (optsV l)

theorem OptBuf.row {base : Nat} {ao : Option Addr} {cap : Nat} {l : List Opt} {w : World} (h : OptBuf base ao cap l w) : OptRow w ao l := by
  rcases h.2 with ⟨hv, h0⟩ | ⟨g, cap', cur, hv, hbg, hg, _⟩
  · exact .inl (List.length_eq_zero_iff.1 h0)
  · have hao : ao = some ⟨g, 0, none⟩ := by simpa using congrArg (fun v => match v with | .slice a _ _ => a | _ => none) hv
    subst hao
    refine .inr ⟨g, 0, rfl, lt_of_block hg, fun i hi => ?_⟩
    obtain ⟨h1, h2⟩ := optsV_get l i hi
    have c1 := World.ownsRow.cells h (g := g) rfl (i * 2) _ h1
    have c2 := World.ownsRow.cells h (g := g) rfl (i * 2 + 1) _ h2
    rw [Addr.add_lit] at c1 c2
    exact ⟨c1, c2⟩

theorem OptBuf.nil (base : Nat) (w : World) : OptBuf base none 0 [] w := World.ownsRow_nil _ _ _ _

theorem OptBuf.alloc {base : Nat} {ao : Option Addr} {cap : Nat} {l : List Opt} {w : World} (h : OptBuf base ao cap l w) (o : Obj) : OptBuf base ao cap l (w.alloc o) := World.ownsRow.alloc h o

theorem OptBuf.carry {base : Nat} {ao : Option Addr} {cap : Nat} {l : List Opt} {w w' : World} (h : OptBuf base ao cap l w) (hb : Below w.heap.size w w') : OptBuf base ao cap l w' := by
  have hg : w.grownBy w' none := ⟨hb.os, hb.tape, hb.output, hb.size, fun k hk _ => hb.block k hk⟩
  exact World.ownsRow.kept h hg (by cases Value.ownBlock (.slice ao l.length cap) <;> simp)

theorem Tryz.infoOpt : (Tryz.prog.info? 56).map (fun i => (i.zero, i.size, i.bytes)) = some (some (.agg #[.int .i64 0, .string ⟨#[]⟩]), 2, 24) := by kernel_rfl

/-- One option more: behind it the row is the call's own still. -/
theorem append_opt (base : Nat) (ao : Option Addr) (cap : Nat) (l : List Opt) (w : World) (h : OptBuf base ao cap l w) (k : Int) (d : ByteArray) (r : Nat) (hc0 : w.cell? ⟨r, 0, none⟩ = some (.int .i64 k)) (hc1 : w.cell? ⟨r, 1, none⟩ = some (.string d)) (ty : TypeId) (hl : l.length ≤ 100000) (hbase : base ≤ w.heap.size) :
    ∃ ao' cap' w', (Builtin.append_ #[23, 23] ty #[.slice ao l.length cap, .slice (some ⟨r, 0, none⟩) 1 1]).run Tryz.prog w = .ok (.slice ao' (l ++ [(⟨k, d⟩ : Opt)]).length cap') w' ∧ OptBuf base ao' cap' (l ++ [(⟨k, d⟩ : Opt)]) w' ∧ w.grownBy w' (Value.ownBlock (.slice ao l.length cap)) := by
  obtain ⟨i, hi, hz0, hz1, hz2⟩ := info_parts Tryz.infoOpt
  have hown : w.ownsRow base 56 i.size (.slice ao l.length cap) l.length (optsV l) := by rw [hz1]; exact h
  have hsrc : Src Tryz.prog i.size 23 (.slice (some ⟨r, 0, none⟩) 1 1) 1 (optsV [⟨k, d⟩]) w := by
    rw [hz1]
    refine Src.ofSlice w Tryz.underlying23 ⟨r, 0, none⟩ 1 1 _ rfl (fun j u hj => ?_) (fun u hu => ?_)
    · rw [Addr.add_lit]
      match j, hj with
      | 0, hj => simp [optsV] at hj; subst hj; exact hc0
      | 1, hj => simp [optsV] at hj; subst hj; exact hc1
      | j + 2, hj => simp [optsV] at hj
    · simp [optsV] at hu
      rcases hu with rfl | rfl <;> rfl
  obtain ⟨v', w', hr, ho, hg⟩ := append_own_src (P := Tryz.prog) w base 23 23 ty 56 i (.agg #[.int .i64 0, .string ⟨#[]⟩]) Tryz.underlying23 hi hz0 (by rw [hz1]; rfl) _ _ _ hown _ 1 _ hsrc (by unfold maxLen; omega) (by rw [hz2]; omega) hbase
  have hlen : (l ++ [⟨k, d⟩] : List Opt).length = l.length + 1 := by simp
  rw [hz1, ← optsV_append] at ho
  rcases ho.2 with ⟨hv, h0⟩ | ⟨g, cap', cur, hv, rest⟩
  · omega
  · subst hv
    exact ⟨_, cap', w', by rw [hlen]; exact hr, by unfold OptBuf; rw [hlen]; exact ho, hg⟩

#print axioms append_opt
end Go.Proofs.YtncnildpbccpaaaGreatDoor

namespace Go.Proofs.YtncnildpbccpaaaGreatDoor
open Go.RowKit

theorem stepAppend {P : Program} {ops : Array Oper} {o : Oper} {a : Act} {w : World} {K : Act → World → Prop} {Q : Exit → Act → World → Prop} {E : Prop}
    (hg : o.guard = none) (s x : Operand) (t tx : TypeId) (hop : o.op = Op.call { callee := Callee.builtin Builtin.append, args := #[s, x], argTypes := #[t, tx] })
    (sv xv : Value) (hs : a.eval s = sv) (hx : a.eval x = xv) (v' : Value) (w' : World) (hrun : (Builtin.append_ #[t, tx] o.type #[sv, xv]).run P w = .ok v' w') (hK : K (a.put o.dst v') w') :
    if Region.wanted o (yielded ops a.tmps) = true then Oper.wp P o a w K Q else E := by
  have hw : Region.wanted o (yielded ops a.tmps) = true := by simp [Region.wanted, hg]
  rw [if_pos hw]
  unfold Oper.wp
  simp [execOp, hop, resolve, invoke, builtin, hs, hx, hrun, Result.andThen]
  exact hK

theorem listAppend {P : Program} {ops : Array Oper} {rest : List Oper} {o : Oper} {a : Act} {w : World} {Q : Exit → Act → World → Prop} (hgd : o.guard = none) (s x : Operand) (t tx : TypeId)
    (hop : o.op = Op.call { callee := Callee.builtin Builtin.append, args := #[s, x], argTypes := #[t, tx] }) (sv xv : Value) (hs : a.eval s = sv) (hx : a.eval x = xv) (v' : Value) (w' : World)
    (hrun : (Builtin.append_ #[t, tx] o.type #[sv, xv]).run P w = .ok v' w') (h : wpList P ops Q rest (a.put o.dst v') w') : wpList P ops Q (o :: rest) a w :=
  wpList_plain hgd fun _ hK => by
    unfold Oper.wp
    simp [execOp, hop, resolve, invoke, builtin, hs, hx, hrun, Result.andThen]
    exact hK _ _ h

end Go.Proofs.YtncnildpbccpaaaGreatDoor

