/- A reader in memory, and the walks of all that it does. -/
import Derived.Test.YtohemlejceiojaaRows
import Derived.WalkKit
import Derived.WalkSpells
import Derived.WalkSmall
import Derived.Lib.Hide
import Derived.Laws.AppendOwn
namespace Go.Proofs.Ytohemlejceiojaa
open Go.RowKit

def nobytes : ByteArray := ⟨#[]⟩
theorem nobytes_size : nobytes.size = 0 := rfl

/-- A reader at block r: what is left, or that it has failed. -/
structure Rd (base r : Nat) (o : Option ByteArray) (w : World) : Prop where
  low : base ≤ r
  cells : w.heap[r]? = some (.cells #[.bool o.isNone, .string (o.getD nobytes)] 66 (0, 0))

theorem rd_set0 {w : World} {b : Nat} {x y u : Value} {t : TypeId} (h : w.heap[b]? = some (.cells #[x, y] t (0, 0))) : (w.setCell ⟨b, 0, none⟩ u).heap[b]? = some (.cells #[u, y] t (0, 0)) := by
  have hlt := lt_of_block h
  have h' : w.heap[b] = .cells #[x, y] t (0, 0) := by simpa [Array.getElem?_eq_getElem hlt] using h
  show (w.heap.modify b _)[b]? = _
  rw [Array.getElem?_eq_getElem (by simpa using hlt), Array.getElem_modify_self, h']
  rfl

theorem rd_set1 {w : World} {b : Nat} {x y u : Value} {t : TypeId} (h : w.heap[b]? = some (.cells #[x, y] t (0, 0))) : (w.setCell ⟨b, 1, none⟩ u).heap[b]? = some (.cells #[x, u] t (0, 0)) := by
  have hlt := lt_of_block h
  have h' : w.heap[b] = .cells #[x, y] t (0, 0) := by simpa [Array.getElem?_eq_getElem hlt] using h
  show (w.heap.modify b _)[b]? = _
  rw [Array.getElem?_eq_getElem (by simpa using hlt), Array.getElem_modify_self, h']
  rfl

theorem grown_set (w : World) (r i : Nat) (v : Value) : w.grownBy (w.setCell ⟨r, i, none⟩ v) (some r) :=
  ⟨rfl, rfl, rfl, by simp, fun k _ hne => Below.heap_setCell _ _ _ _ (fun h => hne (by rw [h]))⟩
theorem grown_set1 (w : World) (r : Nat) (v : Value) : w.grownBy (w.setCell ⟨r, 1, none⟩ v) (some r) := grown_set w r 1 v
theorem grown_trans {w w1 w2 : World} {row : Option Nat} (h : w.grownBy w1 row) (k : w1.grownBy w2 row) : w.grownBy w2 row :=
  ⟨k.os.trans h.os, k.tape.trans h.tape, k.output.trans h.output, Nat.le_trans h.size k.size, fun j hj hne => (k.block j (Nat.lt_of_lt_of_le hj h.size) hne).trans (h.block j hj hne)⟩
theorem grown_set2 (w : World) (r : Nat) (u v : Value) : w.grownBy ((w.setCell ⟨r, 0, none⟩ u).setCell ⟨r, 1, none⟩ v) (some r) := grown_trans (grown_set w r 0 u) (grown_set _ r 1 v)
theorem grown_below {base r : Nat} {w w' : World} (h : w.grownBy w' (some r)) (hr : base ≤ r) (hb : base ≤ w.heap.size) : Below base w w' :=
  (Below.refl base w).grown h hb (fun k hk => by cases hk; exact hr)

/-- What a Take answers, and what is left. -/
def takeOf (o : Option ByteArray) (n : Int) : ByteArray × Option ByteArray :=
  match o with
  | none => (nobytes, none)
  | some s => if 0 ≤ n ∧ n ≤ (s.size : Int) then (s.extract 0 n.toNat, some (s.extract n.toNat s.size)) else (nobytes, none)

theorem Rd.at {base r : Nat} {o : Option ByteArray} {w : World} (h : Rd base r o w) : w.cell? ⟨r, 0, none⟩ = some (.bool o.isNone) ∧ w.cell? ⟨r, 1, none⟩ = some (.string (o.getD nobytes)) ∧ w.frozen? ⟨r, 0, none⟩ = false ∧ w.frozen? ⟨r, 1, none⟩ = false :=
  ⟨by simp [World.cell?, h.cells], by simp [World.cell?, h.cells], by simp [World.frozen?, h.cells], by simp [World.frozen?, h.cells]⟩

set_option maxHeartbeats 400000 in
theorem take_in (base r : Nat) (s : ByteArray) (n : Nat) (w : World) (h : Rd base r (some s) w) (_hs : s.size ≤ 100000) (hn : n ≤ s.size) :
    Calls Try.prog 40 #[.pointer (some ⟨r, 0, none⟩), .int .i64 n] w fun e w' => e = .returned (.string (s.extract 0 n)) ∧ Rd base r (some (s.extract n s.size)) w' ∧ w.grownBy w' (some r) := by
  obtain ⟨c0, c1, f0, f1⟩ := h.at
  simp only [Option.isNone_some, Option.getD_some] at c0 c1
  have Hc := Lib.hid h
  clear h
  go_enter Try.func40, Try.ntmps40
  go_wp2
  go_ret
  exact ⟨rfl, ⟨Hc.out.low, rd_set1 Hc.out.cells⟩, grown_set1 _ _ _⟩

set_option maxHeartbeats 400000 in
theorem take_out (base r : Nat) (s : ByteArray) (n : Int) (w : World) (h : Rd base r (some s) w) (_hs : s.size ≤ 100000) (hn : n < 0 ∨ (s.size : Int) < n) :
    Calls Try.prog 40 #[.pointer (some ⟨r, 0, none⟩), .int .i64 n] w fun e w' => e = .returned (.string nobytes) ∧ Rd base r none w' ∧ w.grownBy w' (some r) := by
  obtain ⟨c0, c1, f0, f1⟩ := h.at
  simp only [Option.isNone_some, Option.getD_some] at c0 c1
  have Hc := Lib.hid h
  clear h
  by_cases h0 : n < 0
  · clear hn
    go_enter Try.func40, Try.ntmps40
    go_wp2
    go_end0
    go_wp2
    go_ret
    exact ⟨rfl, ⟨Hc.out.low, rd_set1 (rd_set0 Hc.out.cells)⟩, grown_set2 _ _ _ _⟩
  · have h1 : (s.size : Int) < n := by omega
    clear hn
    go_enter Try.func40, Try.ntmps40
    go_wp2
    go_end0
    go_wp2
    go_ret
    exact ⟨rfl, ⟨Hc.out.low, rd_set1 (rd_set0 Hc.out.cells)⟩, grown_set2 _ _ _ _⟩

set_option maxHeartbeats 400000 in
theorem take_failed (base r : Nat) (n : Int) (w : World) (h : Rd base r none w) :
    Calls Try.prog 40 #[.pointer (some ⟨r, 0, none⟩), .int .i64 n] w fun e w' => e = .returned (.string nobytes) ∧ Rd base r none w' ∧ w.grownBy w' (some r) := by
  obtain ⟨c0, c1, f0, f1⟩ := h.at
  simp only [Option.isNone_none, Option.getD_none] at c0 c1
  have hz := nobytes_size
  have Hc := Lib.hid h
  clear h
  by_cases h0 : n < 0
  · go_enter Try.func40, Try.ntmps40
    go_wp2
    go_end0
    go_wp2
    go_ret
    exact ⟨rfl, ⟨Hc.out.low, rd_set1 (rd_set0 Hc.out.cells)⟩, grown_set2 _ _ _ _⟩
  · by_cases h1 : 0 < n
    · go_enter Try.func40, Try.ntmps40
      go_wp2
      go_end0
      go_wp2
      go_ret
      exact ⟨rfl, ⟨Hc.out.low, rd_set1 (rd_set0 Hc.out.cells)⟩, grown_set2 _ _ _ _⟩
    · obtain rfl : n = 0 := by omega
      go_enter Try.func40, Try.ntmps40
      go_wp2
      go_ret
      exact ⟨rfl, ⟨Hc.out.low, rd_set1 Hc.out.cells⟩, grown_set1 _ _ _⟩

theorem take_any (base r : Nat) (o : Option ByteArray) (n : Int) (w : World) (h : Rd base r o w) (hs : (o.getD nobytes).size ≤ 100000) :
    Calls Try.prog 40 #[.pointer (some ⟨r, 0, none⟩), .int .i64 n] w fun e w' => e = .returned (.string (takeOf o n).1) ∧ Rd base r (takeOf o n).2 w' ∧ w.grownBy w' (some r) := by
  cases o with
  | none => exact take_failed base r n w h
  | some s =>
    by_cases hn : 0 ≤ n ∧ n ≤ (s.size : Int)
    · obtain ⟨k, rfl⟩ := Int.eq_ofNat_of_zero_le hn.1
      have e : takeOf (some s) (k : Int) = (s.extract 0 k, some (s.extract k s.size)) := by unfold takeOf; simp only []; rw [if_pos hn]; rfl
      rw [e]
      exact take_in base r s k w h hs (by omega)
    · have e : takeOf (some s) n = (nobytes, none) := by unfold takeOf; simp only []; rw [if_neg hn]
      rw [e]
      exact take_out base r s n w h hs (by omega)

set_option maxHeartbeats 400000 in
theorem take_nil (n : Int) (w : World) :
    Calls Try.prog 40 #[.pointer none, .int .i64 n] w fun e w' => e = .returned (.string nobytes) ∧ w = w' := by
  go_enter Try.func40, Try.ntmps40
  go_wp2
  go_ret
  exact ⟨rfl, rfl⟩

/-- Bytes as a number, the highest first. -/
def num (l : List UInt8) : Nat := l.foldl (fun n c => n * 256 + c.toNat) 0

theorem num_snoc (l : List UInt8) (c : UInt8) : num (l ++ [c]) = num l * 256 + c.toNat := by unfold num; rw [List.foldl_append]; rfl

theorem num_lt (l : List UInt8) : num l < 256 ^ l.length := by
  have h : ∀ (l : List UInt8) (n : Nat), l.foldl (fun n c => n * 256 + c.toNat) n < (n + 1) * 256 ^ l.length := by
    intro l
    induction l with
    | nil => intro n; simp
    | cons c r ih =>
      intro n
      have := ih (n * 256 + c.toNat)
      have hc := c.toNat_lt
      rw [List.foldl_cons, List.length_cons]
      calc r.foldl (fun n c => n * 256 + c.toNat) (n * 256 + c.toNat) < (n * 256 + c.toNat + 1) * 256 ^ r.length := this
        _ ≤ ((n + 1) * 256) * 256 ^ r.length := Nat.mul_le_mul_right _ (by omega)
        _ = (n + 1) * 256 ^ (r.length + 1) := by rw [Nat.pow_succ, Nat.mul_assoc, Nat.mul_comm 256]
  have := h l 0
  simpa [num] using this

theorem num_take (s : ByteArray) (k : Nat) (h : k < s.size) : num (s.data.toList.take (k + 1)) = num (s.data.toList.take k) * 256 + s[k].toNat := by
  rw [List.take_succ_eq_append_getElem (by simpa using h), num_snoc]; rfl

theorem num_take_lt (s : ByteArray) (k : Nat) (h : k ≤ 3) : num (s.data.toList.take k) < 16777216 := by
  have h1 := num_lt (s.data.toList.take k)
  have h2 : (s.data.toList.take k).length ≤ k := List.length_take_le _ _
  have h3 : 256 ^ (s.data.toList.take k).length ≤ 256 ^ 3 := Nat.pow_le_pow_right (by decide) (by omega)
  have h4 : (256 : Nat) ^ 3 = 16777216 := by decide
  omega

theorem or_byte (n c : Nat) (hn : n < 16777216) (hc : c < 256) : bits BinOp.or IntKind.u32 ((n : Int) * 256) (c : Int) = (n : Int) * 256 + (c : Int) :=
  bits_join .u32 32 (by decide) (fun m h0 h1 => IntWalk.u32_in m (by omega)) 8 _ _ (by omega) (by omega) (by omega) (by omega) (by omega) (by omega)

theorem ret_u32 {a b : Int} (h : a = b) : Ending.returned (.int .u32 a) = .returned (.int .u32 b) := by rw [h]

set_option maxHeartbeats 800000 in
theorem rnumber_any (base r : Nat) (o : Option ByteArray) (z : Nat) (w : World) (h : Rd base r o w) (hs : (o.getD nobytes).size ≤ 100000) (hz : z ≤ 4) :
    Calls Try.prog 45 #[.pointer (some ⟨r, 0, none⟩), .int .i64 z] w fun e w' => e = .returned (.int .u32 (num (takeOf o z).1.data.toList)) ∧ Rd base r (takeOf o z).2 w' ∧ w.grownBy w' (some r) := by
  have hl : (takeOf o z).1.size ≤ 4 := by
    cases o with
    | none => show nobytes.size ≤ 4; rw [nobytes_size]; omega
    | some s =>
      unfold takeOf
      simp only []
      split
      · simp only [ByteArray.size_extract]; omega
      · rw [nobytes_size]; omega
  have H := Lib.hid (take_any base r o z w h hs)
  generalize (takeOf o z).2 = o' at *
  generalize (takeOf o z).1 = t at *
  clear h
  go_enter Try.func45, Try.ntmps45
  go_wp2_with fail
  refine H.out.mono ?_
  rintro e w1 ⟨rfl, hr1, hb1⟩
  go_wp2
  go_loop [5, 13] (fun n i => ∃ k : Nat, k ≤ t.size ∧ i = .int .i64 k ∧ n = .int .u32 (num (t.data.toList.take k))) (fun _ i => t.size - (intOf i).toNat)
  case atStart => exact ⟨0, Nat.zero_le _, rfl, rfl⟩
  case round =>
    obtain ⟨k, hk, rfl, rfl⟩ := hrel
    by_cases hlt : k < t.size
    · have hn := num_take_lt t k (by omega)
      have hc := t[k].toNat_lt
      have Hs := Lib.hid (num_take t k hlt)
      have hor := or_byte (num (t.data.toList.take k)) t[k].toNat hn (by omega)
      generalize num (t.data.toList.take k) = n at *
      go_wp2
      go_round
      case rel => exact ⟨k + 1, by omega, by go_num, by rw [Hs.out]; go_num⟩
      case measure => simp [intOf]; omega
    · go_wp2
      go_ret
      exact ⟨ret_u32 (by rw [List.take_of_length_le (by simp; omega)]), hr1, hb1⟩

set_option maxHeartbeats 400000 in
theorem rnumber_nil (z : Int) (w : World) :
    Calls Try.prog 45 #[.pointer none, .int .i64 z] w fun e w' => e = .returned (.int .u32 0) ∧ w = w' := by
  have hz := nobytes_size
  go_enter Try.func45, Try.ntmps45
  go_wp2_with fail
  refine (take_nil z w).mono ?_
  rintro e w1 ⟨rfl, rfl⟩
  go_wp2
  refine wp_loop_rounds 1 ?_
  rw [rounds_succ]
  go_wp2
  go_ret
  exact ⟨rfl, rfl⟩

set_option maxHeartbeats 400000 in
theorem RByte_any (base r : Nat) (o : Option ByteArray) (w : World) (h : Rd base r o w) (hs : (o.getD nobytes).size ≤ 100000) :
    Calls Try.prog 37 #[.pointer (some ⟨r, 0, none⟩)] w fun e w' => e = .returned (.int .i64 (num (takeOf o 1).1.data.toList)) ∧ Rd base r (takeOf o 1).2 w' ∧ w.grownBy w' (some r) := by
  have hlt : num (takeOf o 1).1.data.toList < 4294967296 := by
    have h1 := num_lt (takeOf o 1).1.data.toList
    have h2 : (takeOf o 1).1.data.toList.length ≤ 4 := by
      rw [Array.length_toList]
      show (takeOf o 1).1.size ≤ 4
      cases o with
      | none => show nobytes.size ≤ 4; rw [nobytes_size]; omega
      | some s =>
        unfold takeOf
        simp only []
        split
        · simp only [ByteArray.size_extract]; omega
        · rw [nobytes_size]; omega
    have h3 : 256 ^ (takeOf o 1).1.data.toList.length ≤ 256 ^ 4 := Nat.pow_le_pow_right (by decide) h2
    have h4 : (256 : Nat) ^ 4 = 4294967296 := by decide
    omega
  have H := Lib.hid (rnumber_any base r o 1 w h hs (by omega))
  have e1 : (((1 : Nat)) : Int) = 1 := rfl
  rw [e1] at H
  clear e1
  generalize (takeOf o 1).2 = o' at *
  generalize num (takeOf o 1).1.data.toList = n at *
  clear h
  go_enter Try.func37, Try.ntmps37
  go_wp2_with fail
  refine H.out.mono ?_
  rintro e w1 ⟨rfl, hr1, hb1⟩
  go_wp2
  go_ret
  exact ⟨rfl, hr1, hb1⟩

set_option maxHeartbeats 400000 in
theorem RByte_nil (w : World) :
    Calls Try.prog 37 #[.pointer none] w fun e w' => e = .returned (.int .i64 0) ∧ w = w' := by
  go_enter Try.func37, Try.ntmps37
  go_wp2_with fail
  refine (rnumber_nil 1 w).mono ?_
  rintro e w1 ⟨rfl, rfl⟩
  go_wp2
  go_ret
  exact ⟨rfl, rfl⟩

set_option maxHeartbeats 400000 in
theorem RShort_any (base r : Nat) (o : Option ByteArray) (w : World) (h : Rd base r o w) (hs : (o.getD nobytes).size ≤ 100000) :
    Calls Try.prog 38 #[.pointer (some ⟨r, 0, none⟩)] w fun e w' => e = .returned (.int .i64 (num (takeOf o 2).1.data.toList)) ∧ Rd base r (takeOf o 2).2 w' ∧ w.grownBy w' (some r) := by
  have hlt : num (takeOf o 2).1.data.toList < 4294967296 := by
    have h1 := num_lt (takeOf o 2).1.data.toList
    have h2 : (takeOf o 2).1.data.toList.length ≤ 4 := by
      rw [Array.length_toList]
      show (takeOf o 2).1.size ≤ 4
      cases o with
      | none => show nobytes.size ≤ 4; rw [nobytes_size]; omega
      | some s =>
        unfold takeOf
        simp only []
        split
        · simp only [ByteArray.size_extract]; omega
        · rw [nobytes_size]; omega
    have h3 : 256 ^ (takeOf o 2).1.data.toList.length ≤ 256 ^ 4 := Nat.pow_le_pow_right (by decide) h2
    have h4 : (256 : Nat) ^ 4 = 4294967296 := by decide
    omega
  have H := Lib.hid (rnumber_any base r o 2 w h hs (by omega))
  have e1 : (((2 : Nat)) : Int) = 2 := rfl
  rw [e1] at H
  clear e1
  generalize (takeOf o 2).2 = o' at *
  generalize num (takeOf o 2).1.data.toList = n at *
  clear h
  go_enter Try.func38, Try.ntmps38
  go_wp2_with fail
  refine H.out.mono ?_
  rintro e w1 ⟨rfl, hr1, hb1⟩
  go_wp2
  go_ret
  exact ⟨rfl, hr1, hb1⟩

set_option maxHeartbeats 400000 in
theorem RShort_nil (w : World) :
    Calls Try.prog 38 #[.pointer none] w fun e w' => e = .returned (.int .i64 0) ∧ w = w' := by
  go_enter Try.func38, Try.ntmps38
  go_wp2_with fail
  refine (rnumber_nil 2 w).mono ?_
  rintro e w1 ⟨rfl, rfl⟩
  go_wp2
  go_ret
  exact ⟨rfl, rfl⟩

set_option maxHeartbeats 400000 in
theorem RWord_any (base r : Nat) (o : Option ByteArray) (w : World) (h : Rd base r o w) (hs : (o.getD nobytes).size ≤ 100000) :
    Calls Try.prog 36 #[.pointer (some ⟨r, 0, none⟩)] w fun e w' => e = .returned (.int .u32 (num (takeOf o 4).1.data.toList)) ∧ Rd base r (takeOf o 4).2 w' ∧ w.grownBy w' (some r) := by
  have H := Lib.hid (rnumber_any base r o 4 w h hs (by omega))
  have e1 : (((4 : Nat)) : Int) = 4 := rfl
  rw [e1] at H
  clear e1
  generalize (takeOf o 4).2 = o' at *
  generalize num (takeOf o 4).1.data.toList = n at *
  clear h
  go_enter Try.func36, Try.ntmps36
  go_wp2_with fail
  refine H.out.mono ?_
  rintro e w1 ⟨rfl, hr1, hb1⟩
  go_wp2
  go_ret
  exact ⟨rfl, hr1, hb1⟩

set_option maxHeartbeats 400000 in
theorem RWord_nil (w : World) :
    Calls Try.prog 36 #[.pointer none] w fun e w' => e = .returned (.int .u32 0) ∧ w = w' := by
  go_enter Try.func36, Try.ntmps36
  go_wp2_with fail
  refine (rnumber_nil 4 w).mono ?_
  rintro e w1 ⟨rfl, rfl⟩
  go_wp2
  go_ret
  exact ⟨rfl, rfl⟩

set_option maxHeartbeats 400000 in
theorem Left_any (base r : Nat) (o : Option ByteArray) (w : World) (h : Rd base r o w) :
    Calls Try.prog 47 #[.pointer (some ⟨r, 0, none⟩)] w fun e w' => e = .returned (.int .i64 (o.getD nobytes).size) ∧ w = w' := by
  obtain ⟨c0, c1, f0, f1⟩ := h.at
  generalize o.getD nobytes = t at *
  clear h
  go_enter Try.func47, Try.ntmps47
  go_wp2
  go_ret
  exact ⟨rfl, rfl⟩

set_option maxHeartbeats 400000 in
theorem Left_nil (w : World) :
    Calls Try.prog 47 #[.pointer none] w fun e w' => e = .returned (.int .i64 0) ∧ w = w' := by
  go_enter Try.func47, Try.ntmps47
  go_wp2
  go_ret
  exact ⟨rfl, rfl⟩

set_option maxHeartbeats 400000 in
theorem Ok_any (base r : Nat) (o : Option ByteArray) (w : World) (h : Rd base r o w) :
    Calls Try.prog 39 #[.pointer (some ⟨r, 0, none⟩)] w fun e w' => e = .returned (.bool o.isSome) ∧ w = w' := by
  obtain ⟨c0, c1, f0, f1⟩ := h.at
  cases o with
  | none =>
    simp only [Option.isNone_none] at c0
    clear h
    go_enter Try.func39, Try.ntmps39
    go_wp2
    go_ret
    exact ⟨rfl, rfl⟩
  | some s =>
    simp only [Option.isNone_some] at c0
    clear h
    go_enter Try.func39, Try.ntmps39
    go_wp2
    go_ret
    exact ⟨rfl, rfl⟩

set_option maxHeartbeats 400000 in
theorem Ok_nil (w : World) :
    Calls Try.prog 39 #[.pointer none] w fun e w' => e = .returned (.bool false) ∧ w = w' := by
  go_enter Try.func39, Try.ntmps39
  go_wp2
  go_ret
  exact ⟨rfl, rfl⟩

set_option maxHeartbeats 400000 in
theorem Rest_any (base r : Nat) (o : Option ByteArray) (w : World) (h : Rd base r o w) (hs : (o.getD nobytes).size ≤ 100000) :
    Calls Try.prog 42 #[.pointer (some ⟨r, 0, none⟩)] w fun e w' => e = .returned (.string (takeOf o (o.getD nobytes).size).1) ∧ Rd base r (takeOf o (o.getD nobytes).size).2 w' ∧ w.grownBy w' (some r) := by
  have H1 := Lib.hid (Left_any base r o w h)
  have H2 := Lib.hid (take_any base r o (o.getD nobytes).size w h hs)
  generalize (takeOf o (o.getD nobytes).size).2 = o' at *
  generalize (takeOf o (o.getD nobytes).size).1 = t at *
  generalize (o.getD nobytes).size = n at *
  clear h
  go_enter Try.func42, Try.ntmps42
  go_wp2_with fail
  refine H1.out.mono ?_
  rintro e w1 ⟨rfl, rfl⟩
  go_wp2_with fail
  refine H2.out.mono ?_
  rintro e w1 ⟨rfl, hr1, hb1⟩
  go_wp2
  go_ret
  exact ⟨rfl, hr1, hb1⟩

set_option maxHeartbeats 400000 in
theorem Rest_nil (w : World) :
    Calls Try.prog 42 #[.pointer none] w fun e w' => e = .returned (.string nobytes) ∧ w = w' := by
  go_enter Try.func42, Try.ntmps42
  go_wp2_with fail
  refine (Left_nil w).mono ?_
  rintro e w1 ⟨rfl, rfl⟩
  go_wp2_with fail
  refine (take_nil _ w).mono ?_
  rintro e w1 ⟨rfl, rfl⟩
  go_wp2
  go_ret
  exact ⟨rfl, rfl⟩

set_option maxHeartbeats 400000 in
theorem Read_any (s : ByteArray) (w : World) :
    Calls Try.prog 17 #[.string s] w fun e w' => e = .returned (.pointer (some ⟨w.heap.size, 0, none⟩)) ∧ Rd w.heap.size w.heap.size (some s) w' ∧ Below w.heap.size w w' := by
  go_enter Try.func17, Try.ntmps17
  go_wp2
  go_ret
  exact ⟨rfl, ⟨Nat.le_refl _, heap_alloc_new w _⟩, (Below.refl _ _).alloc (Nat.le_refl _) _⟩

#print axioms Rest_any
#print axioms RWord_any
#print axioms Read_any
end Go.Proofs.Ytohemlejceiojaa
