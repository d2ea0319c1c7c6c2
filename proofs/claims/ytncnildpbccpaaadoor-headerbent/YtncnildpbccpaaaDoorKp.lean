/- The walk of the document's own question whether two packets are the same. -/
import Derived.Test.YtncnildpbccpaaaDoorKc
import Derived.Test.YtncnildpbccpaaaDoorKk
set_option maxRecDepth 100000
namespace Go.Proofs.YtncnildpbccpaaaDoor
open Go.RowKit
set_option linter.unusedVariables false

theorem int_ne {x y : Int} (h : ¬ x = y) : (x == y) = false := by simp [h]
theorem bool_ne {x y : Bool} (h : ¬ x = y) : (x == y) = false := by simp [h]
theorem text_no {x y : ByteArray} (h : ¬ x = y) : (x.toList == y.toList) = false := by
  rw [Lib.toList_data, Lib.toList_data, beq_eq_false_iff_ne]
  intro e
  apply h
  cases x; cases y; simp at e; simp [e]

set_option maxHeartbeats 1000000 in
theorem same5_no0 (x0 : Int) (y0 : Int) (x1 : Int) (y1 : Int) (x2 : Bool) (y2 : Bool) (x3 : Bool) (y3 : Bool) (x4 : Int) (y4 : Int) (x5 : Int) (y5 : Int) (x6 : Int) (y6 : Int) (x7 : Int) (y7 : Int) (x8 : Int) (y8 : Int) (x10 : ByteArray) (y10 : ByteArray) (o1 o2 : Option Addr) (c1 c2 : Nat) (l m : List Opt) (w : World) (h : ¬ x0 = y0) :
    Calls Tryd.prog 19 #[.agg #[.int .i64 x0, .int .i64 x1, .bool x2, .bool x3, .int .i64 x4, .int .i64 x5, .int .i64 x6, .int .u32 x7, .int .u32 x8, .slice o1 l.length c1, .string x10], .agg #[.int .i64 y0, .int .i64 y1, .bool y2, .bool y3, .int .i64 y4, .int .i64 y5, .int .i64 y6, .int .u32 y7, .int .u32 y8, .slice o2 m.length c2, .string y10]] w fun e w' => e = .returned (.bool false) ∧ Below w.heap.size w w' := by
  have hne := int_ne h
  clear h
  go_enter Tryd.func19, Tryd.ntmps19
  go_wp2
  go_ret
  exact ⟨rfl, ((Below.refl _ w).alloc (Nat.le_refl _) _).alloc (by simp) _⟩

set_option maxHeartbeats 1000000 in
theorem same5_no1 (x0 : Int) (x1 : Int) (y1 : Int) (x2 : Bool) (y2 : Bool) (x3 : Bool) (y3 : Bool) (x4 : Int) (y4 : Int) (x5 : Int) (y5 : Int) (x6 : Int) (y6 : Int) (x7 : Int) (y7 : Int) (x8 : Int) (y8 : Int) (x10 : ByteArray) (y10 : ByteArray) (o1 o2 : Option Addr) (c1 c2 : Nat) (l m : List Opt) (w : World) (h : ¬ x1 = y1) :
    Calls Tryd.prog 19 #[.agg #[.int .i64 x0, .int .i64 x1, .bool x2, .bool x3, .int .i64 x4, .int .i64 x5, .int .i64 x6, .int .u32 x7, .int .u32 x8, .slice o1 l.length c1, .string x10], .agg #[.int .i64 x0, .int .i64 y1, .bool y2, .bool y3, .int .i64 y4, .int .i64 y5, .int .i64 y6, .int .u32 y7, .int .u32 y8, .slice o2 m.length c2, .string y10]] w fun e w' => e = .returned (.bool false) ∧ Below w.heap.size w w' := by
  have hne := int_ne h
  clear h
  go_enter Tryd.func19, Tryd.ntmps19
  go_wp2
  go_ret
  exact ⟨rfl, ((Below.refl _ w).alloc (Nat.le_refl _) _).alloc (by simp) _⟩

set_option maxHeartbeats 1000000 in
theorem same5_no2 (x0 : Int) (x1 : Int) (x2 : Bool) (y2 : Bool) (x3 : Bool) (y3 : Bool) (x4 : Int) (y4 : Int) (x5 : Int) (y5 : Int) (x6 : Int) (y6 : Int) (x7 : Int) (y7 : Int) (x8 : Int) (y8 : Int) (x10 : ByteArray) (y10 : ByteArray) (o1 o2 : Option Addr) (c1 c2 : Nat) (l m : List Opt) (w : World) (h : ¬ x2 = y2) :
    Calls Tryd.prog 19 #[.agg #[.int .i64 x0, .int .i64 x1, .bool x2, .bool x3, .int .i64 x4, .int .i64 x5, .int .i64 x6, .int .u32 x7, .int .u32 x8, .slice o1 l.length c1, .string x10], .agg #[.int .i64 x0, .int .i64 x1, .bool y2, .bool y3, .int .i64 y4, .int .i64 y5, .int .i64 y6, .int .u32 y7, .int .u32 y8, .slice o2 m.length c2, .string y10]] w fun e w' => e = .returned (.bool false) ∧ Below w.heap.size w w' := by
  have hne := bool_ne h
  clear h
  go_enter Tryd.func19, Tryd.ntmps19
  go_wp2
  go_ret
  exact ⟨rfl, ((Below.refl _ w).alloc (Nat.le_refl _) _).alloc (by simp) _⟩

set_option maxHeartbeats 1000000 in
theorem same5_no3 (x0 : Int) (x1 : Int) (x2 : Bool) (x3 : Bool) (y3 : Bool) (x4 : Int) (y4 : Int) (x5 : Int) (y5 : Int) (x6 : Int) (y6 : Int) (x7 : Int) (y7 : Int) (x8 : Int) (y8 : Int) (x10 : ByteArray) (y10 : ByteArray) (o1 o2 : Option Addr) (c1 c2 : Nat) (l m : List Opt) (w : World) (h : ¬ x3 = y3) :
    Calls Tryd.prog 19 #[.agg #[.int .i64 x0, .int .i64 x1, .bool x2, .bool x3, .int .i64 x4, .int .i64 x5, .int .i64 x6, .int .u32 x7, .int .u32 x8, .slice o1 l.length c1, .string x10], .agg #[.int .i64 x0, .int .i64 x1, .bool x2, .bool y3, .int .i64 y4, .int .i64 y5, .int .i64 y6, .int .u32 y7, .int .u32 y8, .slice o2 m.length c2, .string y10]] w fun e w' => e = .returned (.bool false) ∧ Below w.heap.size w w' := by
  have hne := bool_ne h
  clear h
  go_enter Tryd.func19, Tryd.ntmps19
  go_wp2
  go_ret
  exact ⟨rfl, ((Below.refl _ w).alloc (Nat.le_refl _) _).alloc (by simp) _⟩

set_option maxHeartbeats 1000000 in
theorem same5_no4 (x0 : Int) (x1 : Int) (x2 : Bool) (x3 : Bool) (x4 : Int) (y4 : Int) (x5 : Int) (y5 : Int) (x6 : Int) (y6 : Int) (x7 : Int) (y7 : Int) (x8 : Int) (y8 : Int) (x10 : ByteArray) (y10 : ByteArray) (o1 o2 : Option Addr) (c1 c2 : Nat) (l m : List Opt) (w : World) (h : ¬ x4 = y4) :
    Calls Tryd.prog 19 #[.agg #[.int .i64 x0, .int .i64 x1, .bool x2, .bool x3, .int .i64 x4, .int .i64 x5, .int .i64 x6, .int .u32 x7, .int .u32 x8, .slice o1 l.length c1, .string x10], .agg #[.int .i64 x0, .int .i64 x1, .bool x2, .bool x3, .int .i64 y4, .int .i64 y5, .int .i64 y6, .int .u32 y7, .int .u32 y8, .slice o2 m.length c2, .string y10]] w fun e w' => e = .returned (.bool false) ∧ Below w.heap.size w w' := by
  have hne := int_ne h
  clear h
  go_enter Tryd.func19, Tryd.ntmps19
  go_wp2
  go_ret
  exact ⟨rfl, ((Below.refl _ w).alloc (Nat.le_refl _) _).alloc (by simp) _⟩

set_option maxHeartbeats 1000000 in
theorem same5_no5 (x0 : Int) (x1 : Int) (x2 : Bool) (x3 : Bool) (x4 : Int) (x5 : Int) (y5 : Int) (x6 : Int) (y6 : Int) (x7 : Int) (y7 : Int) (x8 : Int) (y8 : Int) (x10 : ByteArray) (y10 : ByteArray) (o1 o2 : Option Addr) (c1 c2 : Nat) (l m : List Opt) (w : World) (h : ¬ x5 = y5) :
    Calls Tryd.prog 19 #[.agg #[.int .i64 x0, .int .i64 x1, .bool x2, .bool x3, .int .i64 x4, .int .i64 x5, .int .i64 x6, .int .u32 x7, .int .u32 x8, .slice o1 l.length c1, .string x10], .agg #[.int .i64 x0, .int .i64 x1, .bool x2, .bool x3, .int .i64 x4, .int .i64 y5, .int .i64 y6, .int .u32 y7, .int .u32 y8, .slice o2 m.length c2, .string y10]] w fun e w' => e = .returned (.bool false) ∧ Below w.heap.size w w' := by
  have hne := int_ne h
  clear h
  go_enter Tryd.func19, Tryd.ntmps19
  go_wp2
  go_ret
  exact ⟨rfl, ((Below.refl _ w).alloc (Nat.le_refl _) _).alloc (by simp) _⟩

set_option maxHeartbeats 1000000 in
theorem same5_no6 (x0 : Int) (x1 : Int) (x2 : Bool) (x3 : Bool) (x4 : Int) (x5 : Int) (x6 : Int) (y6 : Int) (x7 : Int) (y7 : Int) (x8 : Int) (y8 : Int) (x10 : ByteArray) (y10 : ByteArray) (o1 o2 : Option Addr) (c1 c2 : Nat) (l m : List Opt) (w : World) (h : ¬ x6 = y6) :
    Calls Tryd.prog 19 #[.agg #[.int .i64 x0, .int .i64 x1, .bool x2, .bool x3, .int .i64 x4, .int .i64 x5, .int .i64 x6, .int .u32 x7, .int .u32 x8, .slice o1 l.length c1, .string x10], .agg #[.int .i64 x0, .int .i64 x1, .bool x2, .bool x3, .int .i64 x4, .int .i64 x5, .int .i64 y6, .int .u32 y7, .int .u32 y8, .slice o2 m.length c2, .string y10]] w fun e w' => e = .returned (.bool false) ∧ Below w.heap.size w w' := by
  have hne := int_ne h
  clear h
  go_enter Tryd.func19, Tryd.ntmps19
  go_wp2
  go_ret
  exact ⟨rfl, ((Below.refl _ w).alloc (Nat.le_refl _) _).alloc (by simp) _⟩

set_option maxHeartbeats 1000000 in
theorem same5_no7 (x0 : Int) (x1 : Int) (x2 : Bool) (x3 : Bool) (x4 : Int) (x5 : Int) (x6 : Int) (x7 : Int) (y7 : Int) (x8 : Int) (y8 : Int) (x10 : ByteArray) (y10 : ByteArray) (o1 o2 : Option Addr) (c1 c2 : Nat) (l m : List Opt) (w : World) (h : ¬ x7 = y7) :
    Calls Tryd.prog 19 #[.agg #[.int .i64 x0, .int .i64 x1, .bool x2, .bool x3, .int .i64 x4, .int .i64 x5, .int .i64 x6, .int .u32 x7, .int .u32 x8, .slice o1 l.length c1, .string x10], .agg #[.int .i64 x0, .int .i64 x1, .bool x2, .bool x3, .int .i64 x4, .int .i64 x5, .int .i64 x6, .int .u32 y7, .int .u32 y8, .slice o2 m.length c2, .string y10]] w fun e w' => e = .returned (.bool false) ∧ Below w.heap.size w w' := by
  have hne := int_ne h
  clear h
  go_enter Tryd.func19, Tryd.ntmps19
  go_wp2
  go_ret
  exact ⟨rfl, ((Below.refl _ w).alloc (Nat.le_refl _) _).alloc (by simp) _⟩

set_option maxHeartbeats 1000000 in
theorem same5_no8 (x0 : Int) (x1 : Int) (x2 : Bool) (x3 : Bool) (x4 : Int) (x5 : Int) (x6 : Int) (x7 : Int) (x8 : Int) (y8 : Int) (x10 : ByteArray) (y10 : ByteArray) (o1 o2 : Option Addr) (c1 c2 : Nat) (l m : List Opt) (w : World) (h : ¬ x8 = y8) :
    Calls Tryd.prog 19 #[.agg #[.int .i64 x0, .int .i64 x1, .bool x2, .bool x3, .int .i64 x4, .int .i64 x5, .int .i64 x6, .int .u32 x7, .int .u32 x8, .slice o1 l.length c1, .string x10], .agg #[.int .i64 x0, .int .i64 x1, .bool x2, .bool x3, .int .i64 x4, .int .i64 x5, .int .i64 x6, .int .u32 x7, .int .u32 y8, .slice o2 m.length c2, .string y10]] w fun e w' => e = .returned (.bool false) ∧ Below w.heap.size w w' := by
  have hne := int_ne h
  clear h
  go_enter Tryd.func19, Tryd.ntmps19
  go_wp2
  go_ret
  exact ⟨rfl, ((Below.refl _ w).alloc (Nat.le_refl _) _).alloc (by simp) _⟩

set_option maxHeartbeats 1000000 in
theorem same5_no10 (x0 : Int) (x1 : Int) (x2 : Bool) (x3 : Bool) (x4 : Int) (x5 : Int) (x6 : Int) (x7 : Int) (x8 : Int) (x10 : ByteArray) (y10 : ByteArray) (o1 o2 : Option Addr) (c1 c2 : Nat) (l m : List Opt) (w : World) (h : ¬ x10 = y10) :
    Calls Tryd.prog 19 #[.agg #[.int .i64 x0, .int .i64 x1, .bool x2, .bool x3, .int .i64 x4, .int .i64 x5, .int .i64 x6, .int .u32 x7, .int .u32 x8, .slice o1 l.length c1, .string x10], .agg #[.int .i64 x0, .int .i64 x1, .bool x2, .bool x3, .int .i64 x4, .int .i64 x5, .int .i64 x6, .int .u32 x7, .int .u32 x8, .slice o2 m.length c2, .string y10]] w fun e w' => e = .returned (.bool false) ∧ Below w.heap.size w w' := by
  have hne := text_no h
  clear h
  go_enter Tryd.func19, Tryd.ntmps19
  go_wp2
  go_ret
  exact ⟨rfl, ((Below.refl _ w).alloc (Nat.le_refl _) _).alloc (by simp) _⟩

set_option maxHeartbeats 1000000 in
theorem same5_yes (x0 : Int) (x1 : Int) (x2 : Bool) (x3 : Bool) (x4 : Int) (x5 : Int) (x6 : Int) (x7 : Int) (x8 : Int) (x10 : ByteArray) (o1 o2 : Option Addr) (c1 c2 : Nat) (l m : List Opt) (w : World) (h1 : OptRow w o1 l) (h2 : OptRow w o2 m) (hl : l.length ≤ maxLen) (hm : m.length ≤ maxLen) :
    Calls Tryd.prog 19 #[.agg #[.int .i64 x0, .int .i64 x1, .bool x2, .bool x3, .int .i64 x4, .int .i64 x5, .int .i64 x6, .int .u32 x7, .int .u32 x8, .slice o1 l.length c1, .string x10], .agg #[.int .i64 x0, .int .i64 x1, .bool x2, .bool x3, .int .i64 x4, .int .i64 x5, .int .i64 x6, .int .u32 x7, .int .u32 x8, .slice o2 m.length c2, .string x10]] w fun e w' => e = .returned (.bool (sameB l m)) ∧ Below w.heap.size w w' := by
  have H := Lib.hid (fun w' (hb : Below w.heap.size w w') => same_any o1 o2 c1 c2 l m w' (h1.carry hb) (h2.carry hb) hl hm)
  have hb : Below w.heap.size w ((w.alloc (.cells #[.int .i64 x0, .int .i64 x1, .bool x2, .bool x3, .int .i64 x4, .int .i64 x5, .int .i64 x6, .int .u32 x7, .int .u32 x8, .slice o1 l.length c1, .string x10] 36)).alloc (.cells #[.int .i64 x0, .int .i64 x1, .bool x2, .bool x3, .int .i64 x4, .int .i64 x5, .int .i64 x6, .int .u32 x7, .int .u32 x8, .slice o2 m.length c2, .string x10] 36)) := ((Below.refl _ w).alloc (Nat.le_refl _) _).alloc (by simp) _
  clear h1 h2
  go_enter Tryd.func19, Tryd.ntmps19
  go_wp2_with fail
  refine (H.out _ hb).mono ?_
  rintro e w1 ⟨rfl, hb1⟩
  have hbw := hb.trans (hb1.mono (by simp; omega))
  clear hb hb1 H
  go_wp2
  go_ret
  exact ⟨rfl, hbw⟩
#print axioms same5_yes
end Go.Proofs.YtncnildpbccpaaaDoor

