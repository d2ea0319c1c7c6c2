/- The law of all that is written: what its walk asks of each call. -/
import Derived.Test.YtcnojafpkkfabaaText
import Derived.Test.YtcnojafpkkfabaaRefBytes
import Derived.Test.YtcnojafpkkfabaaPutRow
namespace Go.Proofs.Ytcnojafpkkfabaa
open Go.RowKit

/-- A writer's state: what it has written, or a mistake. -/
def st (b : Bool) (l : List UInt8) : Option (List UInt8) := if b then none else some l

theorem st_wr {B : Nat} {l : List UInt8} {w : World} (h : After B B (st false l) w) : Wr B B l w := h.1
theorem st_bad {B : Nat} {l : List UInt8} {w : World} (h : After B B (st true l) w) : Bad B B w := h
theorem wr_st {B : Nat} {l : List UInt8} {w : World} (h : Wr B B l w) (hl : l.length ≤ 65536) : After B B (st false l) w := ⟨h, hl⟩

theorem bad_alloc {B : Nat} {w : World} (h : Bad B B w) (o : Obj) : Bad B B (w.alloc o) := ⟨h.low, (Below.heap_alloc w o B (lt_of_block h.cells)).trans h.cells⟩
theorem bad_carry {B : Nat} {w w' : World} (h : Bad B B w) (hb : Below w.heap.size w w') : Bad B B w' := ⟨h.low, (hb.block B (lt_of_block h.cells)).trans h.cells⟩

theorem wr_carry {base b : Nat} {l : List UInt8} {w w' : World} (h : Wr base b l w) (hb : Below w.heap.size w w') : Wr base b l w' := by
  obtain ⟨hlow, ao, cap, hcell, hbuf⟩ := h
  have hg : w.grownBy w' none := ⟨hb.os, hb.tape, hb.output, hb.size, fun k hk _ => hb.block k hk⟩
  exact ⟨hlow, ao, cap, (hb.block b (lt_of_block hcell)).trans hcell, World.ownsRow.kept hbuf hg (by cases Value.ownBlock (.slice ao l.length cap) <;> simp)⟩

theorem after_carry {B : Nat} {o : Option (List UInt8)} {w w' : World} (h : After B B o w) (hb : Below w.heap.size w w') : After B B o w' := by
  cases o with
  | none => exact bad_carry h hb
  | some l => exact ⟨wr_carry h.1 hb, h.2⟩

theorem after_lt {B : Nat} {o : Option (List UInt8)} {w : World} (h : After B B o w) : B < w.heap.size := by
  cases o with
  | none => exact lt_of_block (Bad.cells h)
  | some l => exact h.1.lt

theorem puts_out1 (be : Nat → List UInt8) (most : Int) (l : List UInt8) (N : Int) (h : ¬ (0 ≤ N ∧ N ≤ most)) : puts be most l [N] = none := by
  simp only [puts]
  rw [if_neg h]

/-- A number that fits. -/
theorem wByte_in (B : Nat) (l : List UInt8) (n : Nat) (W : World) (h : After B B (st false l) W) (hl : l.length ≤ 10000) (hn : n ≤ 255) (r : Nat) (hr : r = W.heap.size) :
    Calls Try.prog 18 #[.pointer (some ⟨B, 0, none⟩), .slice (some ⟨r, 0, none⟩) 1 1] (W.alloc (.cells #[.int .i64 n] 3)) fun e w' =>
      e = .returned (.pointer (some ⟨B, 0, none⟩)) ∧ After B B (st false (l ++ be1 n)) w' ∧ Below B W w' := by
  refine (Byte_one B B l n W (st_wr h) hl hn r hr).mono ?_
  rintro e w' ⟨he, ha, hk⟩
  exact ⟨he, wr_st ha (by rw [List.length_append]; show l.length + 1 ≤ 65536; omega), hk⟩

/-- One that doesn't. -/
theorem wByte_out (B : Nat) (l : List UInt8) (N : Int) (W : World) (h : After B B (st false l) W) (hl : l.length ≤ 10000) (hn : ¬ (0 ≤ N ∧ N ≤ 255)) (r : Nat) (hr : r = W.heap.size) (l' : List UInt8) :
    Calls Try.prog 18 #[.pointer (some ⟨B, 0, none⟩), .slice (some ⟨r, 0, none⟩) 1 1] (W.alloc (.cells #[.int .i64 N] 3)) fun e w' =>
      e = .returned (.pointer (some ⟨B, 0, none⟩)) ∧ After B B (st true l') w' ∧ Below B W w' := by
  have hw := st_wr h
  refine (Byte_any B B r 1 l [N] _ (hw.alloc _) (by omega) (IntRow.new _ W r hr) (by have := hw.lt; omega) (by simp)).mono ?_
  rintro e w' ⟨he, ha, hk⟩
  rw [puts_out1 _ _ _ _ hn] at ha
  exact ⟨he, ha, ((Below.refl _ _).alloc (by have := hw.lt; have := hw.low; omega) _).trans hk.below⟩

/-- Whatever it is, behind a mistake. -/
theorem wByte_bad (B : Nat) (l l' : List UInt8) (v : Value) (W : World) (o : Obj) (h : After B B (st true l) W) :
    Calls Try.prog 18 #[.pointer (some ⟨B, 0, none⟩), v] (W.alloc o) fun e w' =>
      e = .returned (.pointer (some ⟨B, 0, none⟩)) ∧ After B B (st true l') w' ∧ Below B W w' := by
  refine (Byte_bad B B v _ (bad_alloc h o)).mono ?_
  rintro e w' ⟨he, rfl⟩
  exact ⟨he, bad_alloc h o, (Below.refl _ _).alloc (Nat.le_of_lt (after_lt h)) _⟩

/-- A number that fits. -/
theorem wShort_in (B : Nat) (l : List UInt8) (n : Nat) (W : World) (h : After B B (st false l) W) (hl : l.length ≤ 10000) (hn : n ≤ 65535) (r : Nat) (hr : r = W.heap.size) :
    Calls Try.prog 20 #[.pointer (some ⟨B, 0, none⟩), .slice (some ⟨r, 0, none⟩) 1 1] (W.alloc (.cells #[.int .i64 n] 3)) fun e w' =>
      e = .returned (.pointer (some ⟨B, 0, none⟩)) ∧ After B B (st false (l ++ be2 n)) w' ∧ Below B W w' := by
  refine (Short_one B B l n W (st_wr h) hl hn r hr).mono ?_
  rintro e w' ⟨he, ha, hk⟩
  exact ⟨he, wr_st ha (by rw [List.length_append]; show l.length + 2 ≤ 65536; omega), hk⟩

/-- One that doesn't. -/
theorem wShort_out (B : Nat) (l : List UInt8) (N : Int) (W : World) (h : After B B (st false l) W) (hl : l.length ≤ 10000) (hn : ¬ (0 ≤ N ∧ N ≤ 65535)) (r : Nat) (hr : r = W.heap.size) (l' : List UInt8) :
    Calls Try.prog 20 #[.pointer (some ⟨B, 0, none⟩), .slice (some ⟨r, 0, none⟩) 1 1] (W.alloc (.cells #[.int .i64 N] 3)) fun e w' =>
      e = .returned (.pointer (some ⟨B, 0, none⟩)) ∧ After B B (st true l') w' ∧ Below B W w' := by
  have hw := st_wr h
  refine (Short_any B B r 1 l [N] _ (hw.alloc _) (by omega) (IntRow.new _ W r hr) (by have := hw.lt; omega) (by simp)).mono ?_
  rintro e w' ⟨he, ha, hk⟩
  rw [puts_out1 _ _ _ _ hn] at ha
  exact ⟨he, ha, ((Below.refl _ _).alloc (by have := hw.lt; have := hw.low; omega) _).trans hk.below⟩

/-- Whatever it is, behind a mistake. -/
theorem wShort_bad (B : Nat) (l l' : List UInt8) (v : Value) (W : World) (o : Obj) (h : After B B (st true l) W) :
    Calls Try.prog 20 #[.pointer (some ⟨B, 0, none⟩), v] (W.alloc o) fun e w' =>
      e = .returned (.pointer (some ⟨B, 0, none⟩)) ∧ After B B (st true l') w' ∧ Below B W w' := by
  refine (Short_bad B B v _ (bad_alloc h o)).mono ?_
  rintro e w' ⟨he, rfl⟩
  exact ⟨he, bad_alloc h o, (Below.refl _ _).alloc (Nat.le_of_lt (after_lt h)) _⟩

theorem wWord_in (B : Nat) (l : List UInt8) (n : Nat) (W : World) (h : After B B (st false l) W) (hl : l.length ≤ 10000) (hn : n < 4294967296) (r : Nat) (hr : r = W.heap.size) :
    Calls Try.prog 21 #[.pointer (some ⟨B, 0, none⟩), .slice (some ⟨r, 0, none⟩) 1 1] (W.alloc (.cells #[.int .u32 n] 29)) fun e w' =>
      e = .returned (.pointer (some ⟨B, 0, none⟩)) ∧ After B B (st false (l ++ word n)) w' ∧ Below B W w' := by
  refine (Word_one B B l n W (st_wr h) hl hn r hr).mono ?_
  rintro e w' ⟨he, ha, hk⟩
  exact ⟨he, wr_st ha (by rw [List.length_append]; show l.length + 4 ≤ 65536; omega), hk⟩

theorem wWord_bad (B : Nat) (l l' : List UInt8) (v : Value) (W : World) (o : Obj) (h : After B B (st true l) W) :
    Calls Try.prog 21 #[.pointer (some ⟨B, 0, none⟩), v] (W.alloc o) fun e w' =>
      e = .returned (.pointer (some ⟨B, 0, none⟩)) ∧ After B B (st true l') w' ∧ Below B W w' := by
  refine (Word_bad B B v _ (bad_alloc h o)).mono ?_
  rintro e w' ⟨he, rfl⟩
  exact ⟨he, bad_alloc h o, (Below.refl _ _).alloc (Nat.le_of_lt (after_lt h)) _⟩

theorem wText_in (B : Nat) (l : List UInt8) (s : ByteArray) (W : World) (h : After B B (st false l) W) (hl : l.length ≤ 10000) (hs : s.size ≤ 100) (r : Nat) (hr : r = W.heap.size) :
    Calls Try.prog 22 #[.pointer (some ⟨B, 0, none⟩), .slice (some ⟨r, 0, none⟩) 1 1] (W.alloc (.cells #[.string s] 9)) fun e w' =>
      e = .returned (.pointer (some ⟨B, 0, none⟩)) ∧ After B B (st false (l ++ s.data.toList)) w' ∧ Below B W w' := by
  have hz : s.data.toList.length = s.size := by rw [Array.length_toList]; rfl
  refine (Text_one B B l s W (st_wr h) (by omega) (by omega) r hr).mono ?_
  rintro e w' ⟨he, ha, hk⟩
  rw [addTo_small _ _ (by omega)] at ha
  exact ⟨he, wr_st ha (by rw [List.length_append]; omega), hk⟩

theorem wText_bad (B : Nat) (l l' : List UInt8) (v : Value) (W : World) (o : Obj) (h : After B B (st true l) W) :
    Calls Try.prog 22 #[.pointer (some ⟨B, 0, none⟩), v] (W.alloc o) fun e w' =>
      e = .returned (.pointer (some ⟨B, 0, none⟩)) ∧ After B B (st true l') w' ∧ Below B W w' := by
  refine (Text_bad B B v _ (bad_alloc h o)).mono ?_
  rintro e w' ⟨he, rfl⟩
  exact ⟨he, bad_alloc h o, (Below.refl _ _).alloc (Nat.le_of_lt (after_lt h)) _⟩

theorem app_list (a b : ByteArray) : (a ++ b).data.toList = a.data.toList ++ b.data.toList := by rw [ByteArray.data_append, Array.toList_append]
theorem list_size (a : ByteArray) : a.data.toList.length = a.size := by rw [Array.length_toList]; rfl

end Go.Proofs.Ytcnojafpkkfabaa
