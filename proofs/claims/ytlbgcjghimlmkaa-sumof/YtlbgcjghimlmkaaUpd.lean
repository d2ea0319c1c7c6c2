/- The walks of sum.Update and of the document's two bytes. -/
import Derived.Test.YtlbgcjghimlmkaaRef
namespace Go.Proofs.Ytlbgcjghimlmkaa
open Go.RowKit

/-- A short's two bytes, the higher first. -/
def two (n : Nat) : ByteArray := ⟨#[UInt8.ofNat (n / 256), UInt8.ofNat (n % 256)]⟩

theorem two_size (n : Nat) : (two n).size = 2 := rfl

set_option maxHeartbeats 400000 in
theorem short_any (n : Nat) (w : World) (hn : n ≤ 65535) :
    Calls Try.prog 16 #[.int .i64 n] w fun e w' => e = .returned (.string (two n)) ∧ Below w.heap.size w w' := by
  have hcells : ∀ j (hj : j < [UInt8.ofNat (n / 256), UInt8.ofNat (n % 256)].length), (w.alloc (.cells #[.int .u8 ((n : Int) / 256), .int .u8 ((n : Int) % 256)] 5)).cell? ((⟨w.heap.size, 0, none⟩ : Addr).add j) = some (.int .u8 ([UInt8.ofNat (n / 256), UInt8.ofNat (n % 256)][j].toNat : Int)) := by
    intro j hj
    match j, hj with
    | 0, _ => simp [Addr.add]; omega
    | 1, _ => simp [Addr.add]
  have hcv : (convert 44 9 (.slice (some ⟨w.heap.size, 0, none⟩) 2 2)).run Try.prog (w.alloc (.cells #[.int .u8 ((n : Int) / 256), .int .u8 ((n : Int) % 256)] 5)) = .ok (.string (two n)) (w.alloc (.cells #[.int .u8 ((n : Int) / 256), .int .u8 ((n : Int) % 256)] 5)) := run_convert_bytes_back (P := Try.prog) _ 44 9 5 ⟨w.heap.size, 0, none⟩ 2 _ Try.underlying44 Try.underlying5 Try.underlying9 hcells
  clear hcells
  go_enter Try.func16, Try.ntmps16
  go_wp2
  go_ret
  exact ⟨rfl, (Below.refl _ _).alloc (Nat.le_refl _) _⟩

set_option maxHeartbeats 400000 in
theorem isshort_yes (a : Int) (w : World) (h1 : 0 ≤ a) (h2 : a ≤ 65535) :
    Calls Try.prog 23 #[.int .i64 a] w fun e w' => e = .returned (.bool true) ∧ w = w' := by
  have hd : decide (a ≤ 65535) = true := by simpa using h2
  go_enter Try.func23, Try.ntmps23
  go_wp2
  go_ret
  exact ⟨by simp, rfl⟩

set_option maxHeartbeats 400000 in
theorem isshort_no (a : Int) (w : World) (h : ¬ (0 ≤ a ∧ a ≤ 65535)) :
    Calls Try.prog 23 #[.int .i64 a] w fun e w' => e = .returned (.bool false) ∧ w = w' := by
  by_cases h1 : 0 ≤ a
  · have h2 : ¬ a ≤ 65535 := by omega
    clear h
    go_enter Try.func23, Try.ntmps23
    go_wp2
    go_ret
    exact ⟨by simp, rfl⟩
  · clear h
    go_enter Try.func23, Try.ntmps23
    go_wp2
    go_ret
    exact ⟨rfl, rfl⟩

set_option maxHeartbeats 400000 in
theorem update_bad (a b c : Int) (w : World) (h : ¬ (0 ≤ a ∧ a ≤ 65535) ∨ ¬ (0 ≤ b ∧ b ≤ 65535) ∨ ¬ (0 ≤ c ∧ c ≤ 65535)) :
    Calls Try.prog 15 #[.int .i64 a, .int .i64 b, .int .i64 c] w fun e w' => e = .returned (.int .i64 0) ∧ w = w' := by
  have H := Lib.hid h
  clear h
  by_cases ha : 0 ≤ a ∧ a ≤ 65535
  · by_cases hb : 0 ≤ b ∧ b ≤ 65535
    · have hc : ¬ (0 ≤ c ∧ c ≤ 65535) := by rcases H.out with h | h | h; exact absurd ha h; exact absurd hb h; exact h
      have Hc := Lib.hid hc
      clear hc
      go_enter Try.func15, Try.ntmps15
      go_wp2_with fail
      refine (isshort_yes a _ ha.1 ha.2).mono ?_
      rintro e w1 ⟨rfl, rfl⟩
      go_wp2_with fail
      refine (isshort_yes b _ hb.1 hb.2).mono ?_
      rintro e w1 ⟨rfl, rfl⟩
      go_wp2_with fail
      refine (isshort_no c _ Hc.out).mono ?_
      rintro e w1 ⟨rfl, rfl⟩
      go_wp2
      go_ret
      exact ⟨rfl, rfl⟩
    · have Hb := Lib.hid hb
      clear hb
      go_enter Try.func15, Try.ntmps15
      go_wp2_with fail
      refine (isshort_yes a _ ha.1 ha.2).mono ?_
      rintro e w1 ⟨rfl, rfl⟩
      go_wp2_with fail
      refine (isshort_no b _ Hb.out).mono ?_
      rintro e w1 ⟨rfl, rfl⟩
      go_wp2
      go_ret
      exact ⟨rfl, rfl⟩
  · have Ha := Lib.hid ha
    clear ha
    go_enter Try.func15, Try.ntmps15
    go_wp2_with fail
    refine (isshort_no a _ Ha.out).mono ?_
    rintro e w1 ⟨rfl, rfl⟩
    go_wp2
    go_ret
    exact ⟨rfl, rfl⟩

set_option maxHeartbeats 400000 in
theorem update_good (a b c : Nat) (w : World) (ha : a ≤ 65535) (hb : b ≤ 65535) (hc : c ≤ 65535) :
    Calls Try.prog 15 #[.int .i64 a, .int .i64 b, .int .i64 c] w fun e w' => e = .returned (.int .i64 ((65535 - M.fold ((65535 - a) + (65535 - b) + c) : Nat) : Int)) ∧ w = w' := by
  have hf := M.fold_le ((65535 - a) + (65535 - b) + c)
  go_enter Try.func15, Try.ntmps15
  go_wp2_with fail
  refine (isshort_yes a _ (by omega) (by omega)).mono ?_
  rintro e w1 ⟨rfl, rfl⟩
  go_wp2_with fail
  refine (isshort_yes b _ (by omega) (by omega)).mono ?_
  rintro e w1 ⟨rfl, rfl⟩
  go_wp2_with fail
  refine (isshort_yes c _ (by omega) (by omega)).mono ?_
  rintro e w1 ⟨rfl, rfl⟩
  go_wp2_with fail
  rw [show (65535 - (a : Int) + (65535 - (b : Int)) + (c : Int)) = (((65535 - a) + (65535 - b) + c : Nat) : Int) from by omega]
  refine (fold_any _ _ (by omega)).mono ?_
  rintro e w1 ⟨rfl, rfl⟩
  go_wp2
  go_ret
  exact ⟨ret_int (by omega), rfl⟩
#print axioms short_any
#print axioms update_bad
#print axioms update_good
end Go.Proofs.Ytlbgcjghimlmkaa
