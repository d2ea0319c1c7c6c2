/- The walks of what asks for one category. -/
import Derived.Test.YtdipoaekdafbeaaProg
import Derived.Test.YtdipoaekdafbeaaCtMath
import Derived.WalkKit
import Derived.Below
import Derived.KernelRfl
import Derived.Lib.Hide
import Derived.Deep.QuietTactic
import Derived.BigQuiet
import Derived.Deep.WholeRow
import Derived.Deep.MidRow
namespace Go.Proofs.Ytdipoaekdafbeaa
open Go.RowKit
set_option maxRecDepth 100000

theorem below_drewN {B : Nat} {a w : World} (h : Below B a w) (n : Nat) : Below B a (w.drewN n) := ⟨h.os, h.tape, h.output, h.size, h.block⟩
theorem isCat_yes (k : Nat) (w : World) (h : k < 240) :
    Calls Try.prog 60 #[.int .i64 k] w fun e w' => e = .returned (.bool true) ∧ w = w' := by
  have h1 : (k : Int) ≤ 239 := by omega
  go_enter Try.func60, Try.ntmps60
  go_wp2
  go_ret
  exact ⟨rfl, rfl⟩
theorem isCat_no (k : Int) (w : World) (h : k < 0 ∨ 239 < k) :
    Calls Try.prog 60 #[.int .i64 k] w fun e w' => e = .returned (.bool false) ∧ w = w' := by
  rcases h with h | h
  · have h1 : ¬ (0 : Int) ≤ k := by omega
    go_enter Try.func60, Try.ntmps60
    go_wp2
    go_ret
    exact ⟨rfl, rfl⟩
  · have h1 : (0 : Int) ≤ k := by omega
    have h2 : ¬ k ≤ 239 := by omega
    go_enter Try.func60, Try.ntmps60
    go_wp2
    go_ret
    exact ⟨rfl, rfl⟩

theorem ret_pair {k l : IntKind} {a b c d : Int} (h : a = b) (h' : c = d) : Ending.returned (.tuple #[.int k a, .int l c]) = .returned (.tuple #[.int k b, .int l d]) := by rw [h, h']
theorem ret_bool {a b : Bool} (h : a = b) : Ending.returned (.bool a) = .returned (.bool b) := by rw [h]
theorem bit_of (r : Nat) (h : r < 8) : (128 : Int) / 2 ^ r = ((2 ^ (7 - r) : Nat) : Int) := by
  have : (List.range 8).all (fun r => (128 : Int) / 2 ^ r == ((2 ^ (7 - r) : Nat) : Int)) = true := by decide
  exact eq_of_beq (List.all_eq_true.1 this r (List.mem_range.2 h))
theorem place_any (k : Nat) (w : World) (h : k < 240) :
    Calls Try.prog 61 #[.int .i64 k] w fun e w' => e = .returned (.tuple #[.int .i64 (k / 8 : Nat), .int .u8 (2 ^ (7 - k % 8) : Nat)]) ∧ ∃ m, w' = w.drewN m := by
  have Hb := Lib.hid (bit_of (k % 8) (by omega))
  go_enter Try.func61, Try.ntmps61
  go_wp2
  go_quiet (fail)
  go_wp2
  go_ret2
  exact ⟨ret_pair (by omega) Hb.out, _, rfl⟩

theorem u8_bitnat (a : Nat) (ha : a < 256) : (BitVec.ofInt 8 (a : Int)).toNat = a := by
  have e : (((2 : Nat) ^ 8 : Nat) : Int) = 256 := by decide
  rw [BitVec.toNat_ofInt, e]
  omega
theorem u8_in (a : Nat) (h : a < 256) : IntKind.u8.wrap (a : Int) = a := IntWalk.u8_in _ (by omega)
theorem u8_and (a b : Nat) (ha : a < 256) (hb : b < 256) : bits .and .u8 (a : Int) (b : Int) = ((a &&& b : Nat) : Int) := by
  show IntKind.u8.wrap ((BitVec.ofInt 8 (a : Int) &&& BitVec.ofInt 8 (b : Int)).toNat : Int) = _
  have hle : a &&& b ≤ a := Nat.and_le_left
  rw [BitVec.toNat_and, u8_bitnat a ha, u8_bitnat b hb, u8_in _ (by omega)]
theorem u8_or (a b : Nat) (ha : a < 256) (hb : b < 256) : bits .or .u8 (a : Int) (b : Int) = ((a ||| b : Nat) : Int) := by
  show IntKind.u8.wrap ((BitVec.ofInt 8 (a : Int) ||| BitVec.ofInt 8 (b : Int)).toNat : Int) = _
  have hlt : a ||| b < 2 ^ 8 := Nat.or_lt_two_pow ha hb
  rw [BitVec.toNat_or, u8_bitnat a ha, u8_bitnat b hb, u8_in _ (by omega)]
theorem pow_lt8 (r : Nat) (h : r < 8) : 2 ^ r < 256 := Nat.pow_lt_pow_right (m := r) (n := 8) (by decide) h
theorem and_pow (a i : Nat) : a &&& 2 ^ i = if a.testBit i then 2 ^ i else 0 := by
  apply Nat.eq_of_testBit_eq
  intro j
  rw [Nat.testBit_and, Nat.testBit_two_pow]
  by_cases hj : i = j
  · subst hj; cases h : a.testBit i <;> simp
  · cases h : a.testBit i <;> simp [hj]

theorem place_is (k i y : Nat) (w : World) (h : k < 240) (hi : k / 8 = i) (hy : 2 ^ (7 - k % 8) = y) :
    Calls Try.prog 61 #[.int .i64 k] w fun e w' => e = .returned (.tuple #[.int .i64 i, .int .u8 y]) ∧ ∃ m, w' = w.drewN m := by
  subst hi; subst hy
  exact place_any k w h

theorem Has_in (n k : Nat) (w : World) (h : k < 240) (b : Bool) (hb : C.hasN n k = b) :
    Calls Try.prog 59 #[.agg (C.cv n), .int .i64 k] w fun e w' => e = .returned (.bool b) ∧ Below w.heap.size w w' := by
  have hg : (C.cv n)[k / 8]? = some (.int .u8 (C.byte n (k / 8))) := C.bv_get _ _ (by omega)
  have ha := u8_and (C.byte n (k / 8)) (2 ^ (7 - k % 8)) (C.byte_lt _ _) (pow_lt8 _ (by omega))
  rw [and_pow, C.has_bit n k h, hb] at ha
  have Hp := Lib.hid (fun w => place_is k _ _ w h rfl rfl)
  clear hb
  generalize C.cv n = X at *
  have hp : 0 < 2 ^ (7 - k % 8) := Nat.pow_pos (by decide)
  have hk8 : k / 8 < 30 := by omega
  generalize C.byte n (k / 8) = x at *
  generalize 2 ^ (7 - k % 8) = y at *
  generalize k / 8 = i at *
  have hq : ((if b = true then y else 0 : Nat) : Int) ≠ 0 ↔ b = true := by cases b <;> simp; omega
  generalize (if b = true then y else 0) = z at *
  have Hz := Lib.hid hq
  clear hq
  go_enter Try.func59, Try.ntmps59
  go_wp2_with fail
  refine (isCat_yes k _ h).mono ?_
  rintro e w1 ⟨rfl, rfl⟩
  go_wp2_with fail
  refine (Hp.out _).mono ?_
  rintro e w1 ⟨rfl, m, rfl⟩
  go_wp2
  go_ret
  refine ⟨ret_bool ?_, below_drewN ((Below.refl _ w).alloc (Nat.le_refl _) _) m⟩
  have hz := Hz.out
  cases b
  · have : (z : Int) = 0 := by simpa using hz
    simp [this]
  · have : (z : Int) ≠ 0 := hz.2 rfl
    simpa using this
theorem Has_out (n : Nat) (k : Int) (w : World) (h : k < 0 ∨ 239 < k) :
    Calls Try.prog 59 #[.agg (C.cv n), .int .i64 k] w fun e w' => e = .returned (.bool false) ∧ Below w.heap.size w w' := by
  generalize C.cv n = X at *
  go_enter Try.func59, Try.ntmps59
  go_wp2_with fail
  refine (isCat_no k _ h).mono ?_
  rintro e w1 ⟨rfl, rfl⟩
  go_wp2
  go_ret
  exact ⟨rfl, (Below.refl _ w).alloc (Nat.le_refl _) _⟩

/-- The document's. -/
theorem shr_bit (x r : Nat) (b : Bool) (hb : x.testBit (7 - r) = b) : x / 2 ^ (7 - r) % 2 = (if b = true then 1 else 0) := by
  have : x.testBit (7 - r) = decide (x / 2 ^ (7 - r) % 2 = 1) := Nat.testBit_eq_decide_div_mod_eq
  rw [hb] at this
  cases b
  · have := of_decide_eq_false this.symm; simp; omega
  · have := of_decide_eq_true this.symm; simp; omega
theorem and_one8 (x r : Nat) (hx : x < 256) : bits .and .u8 ((x : Int) / 2 ^ r) 1 = ((x / 2 ^ r % 2 : Nat) : Int) := by
  have e : (x : Int) / 2 ^ r = ((x / 2 ^ r : Nat) : Int) := by simp
  have hle : x / 2 ^ r ≤ x := Nat.div_le_self _ _
  rw [e, show (1 : Int) = ((1 : Nat) : Int) from rfl, u8_and _ 1 (by omega) (by omega), Nat.and_one_is_mod]
theorem RHas_in (n k : Nat) (w : World) (h : k < 240) (b : Bool) (hb : C.hasN n k = b) :
    Calls Try.prog 37 #[.agg (C.cv n), .int .i64 k] w fun e w' => e = .returned (.bool b) ∧ Below w.heap.size w w' := by
  have hg : (C.cv n)[k / 8]? = some (.int .u8 (C.byte n (k / 8))) := C.bv_get _ _ (by omega)
  have Hs := Lib.hid (shr_bit (C.byte n (k / 8)) (k % 8) b (by rw [C.has_bit n k h, hb]))
  have hx := C.byte_lt n (k / 8)
  clear hb
  generalize C.cv n = X at *
  have hk8 : k / 8 < 30 := by omega
  generalize C.byte n (k / 8) = x at *
  go_enter Try.func37, Try.ntmps37
  go_wp2
  go_ret
  refine ⟨ret_bool ?_, (Below.refl _ w).alloc (Nat.le_refl _) _⟩
  rw [and_one8 x _ hx, Hs.out]
  cases b <;> rfl
theorem RHas_out (n : Nat) (k : Int) (w : World) (h : k < 0 ∨ 239 < k) :
    Calls Try.prog 37 #[.agg (C.cv n), .int .i64 k] w fun e w' => e = .returned (.bool false) ∧ Below w.heap.size w w' := by
  generalize C.cv n = X at *
  rcases h with h | h
  · have h1 : ¬ (0 : Int) ≤ k := by omega
    go_enter Try.func37, Try.ntmps37
    go_wp2
    go_ret
    exact ⟨rfl, (Below.refl _ w).alloc (Nat.le_refl _) _⟩
  · have h1 : (0 : Int) ≤ k := by omega
    have h2 : ¬ k < 240 := by omega
    go_enter Try.func37, Try.ntmps37
    go_wp2
    go_ret
    exact ⟨rfl, (Below.refl _ w).alloc (Nat.le_refl _) _⟩
theorem has_cases (n : Nat) (k : Int) : (k < 0 ∨ 239 < k) ∧ C.has n k = false ∨ ∃ j : Nat, j < 240 ∧ k = j ∧ C.has n k = C.hasN n j := by
  by_cases h : k < 0 ∨ 239 < k
  · refine .inl ⟨h, ?_⟩
    unfold C.has C.hasN
    rcases h with h | h
    · simp [show ¬ 0 ≤ k by omega]
    · simp [show ¬ k.toNat < 240 by omega]
  · refine .inr ⟨k.toNat, by omega, by omega, ?_⟩
    unfold C.has
    simp [show 0 ≤ k by omega]
theorem Has_any (n : Nat) (k : Int) (w : World) :
    Calls Try.prog 59 #[.agg (C.cv n), .int .i64 k] w fun e w' => e = .returned (.bool (C.has n k)) ∧ Below w.heap.size w w' := by
  rcases has_cases n k with ⟨h, e⟩ | ⟨j, h, rfl, e⟩
  · rw [e]; exact Has_out n k w h
  · rw [e]; exact Has_in n j w h _ rfl
theorem RHas_any (n : Nat) (k : Int) (w : World) :
    Calls Try.prog 37 #[.agg (C.cv n), .int .i64 k] w fun e w' => e = .returned (.bool (C.has n k)) ∧ Below w.heap.size w w' := by
  rcases has_cases n k with ⟨h, e⟩ | ⟨j, h, rfl, e⟩
  · rw [e]; exact RHas_out n k w h
  · rw [e]; exact RHas_in n j w h _ rfl
end Go.Proofs.Ytdipoaekdafbeaa
