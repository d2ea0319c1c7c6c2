/- The walks of what stands ahead of a segment, by the program and by the document. -/
import Derived.Test.YtohemlejceiojaaText
import Derived.IntWalk
namespace Go.Proofs.Ytohemlejceiojaa
open Go.RowKit

/-- The lowest byte of a number, and its second one. -/
def low (p : Int) : Nat := (p % 256).toNat
def low2 (p : Int) : Nat := (p % 65536).toNat

/-- The twelve bytes. -/
def pseudo (a b : Nat) (p z : Int) : List UInt8 := word a ++ word b ++ [0, UInt8.ofNat (low p)] ++ be2 (low2 z)

theorem and_255 (p : Int) : bits BinOp.and IntKind.i64 p 255 = p % 256 := by
  have h1 : (BitVec.ofInt 64 p).toNat = (p % 18446744073709551616).toNat := by
    have e : (((2 : Nat) ^ 64 : Nat) : Int) = 18446744073709551616 := by decide
    rw [BitVec.toNat_ofInt, e]
  have h2 : (BitVec.ofInt 64 255).toNat = 2 ^ 8 - 1 := by decide
  show IntKind.i64.wrap ((BitVec.ofInt 64 p &&& BitVec.ofInt 64 255).toNat : Int) = _
  rw [BitVec.toNat_and, h2, Nat.and_two_pow_sub_one_eq_mod, h1, IntWalk.i64_in _ (by omega)]
  omega

theorem and_65535 (p : Int) : bits BinOp.and IntKind.i64 p 65535 = p % 65536 := by
  have h1 : (BitVec.ofInt 64 p).toNat = (p % 18446744073709551616).toNat := by
    have e : (((2 : Nat) ^ 64 : Nat) : Int) = 18446744073709551616 := by decide
    rw [BitVec.toNat_ofInt, e]
  have h2 : (BitVec.ofInt 64 65535).toNat = 2 ^ 16 - 1 := by decide
  show IntKind.i64.wrap ((BitVec.ofInt 64 p &&& BitVec.ofInt 64 65535).toNat : Int) = _
  rw [BitVec.toNat_and, h2, Nat.and_two_pow_sub_one_eq_mod, h1, IntWalk.i64_in _ (by omega)]
  omega

theorem word_length (n : Nat) : (word n).length = 4 := rfl
theorem be2_length (n : Nat) : (be2 n).length = 2 := rfl

theorem low_cast (p : Int) : (low p : Int) = p % 256 := by unfold low; omega
theorem low2_cast (p : Int) : (low2 p : Int) = p % 65536 := by unfold low2; omega
theorem low_le (p : Int) : low p ≤ 255 := by unfold low; omega
theorem low2_le (p : Int) : low2 p ≤ 65535 := by unfold low2; omega

theorem WordRow.two (a b : Nat) (W : World) (r : Nat) (hr : r = W.heap.size) (ha : a < 4294967296) (hb : b < 4294967296) : WordRow [a, b] r (W.alloc (.cells #[.int .u32 a, .int .u32 b] 22)) :=
  ⟨_, by rw [hr]; exact heap_alloc_new W _, fun i hi => by
    match i, hi with
    | 0, _ => exact ⟨rfl, ha⟩
    | 1, _ => exact ⟨rfl, hb⟩⟩

theorem IntRow.two (a b : Int) (w : World) : IntRow [a, b] w.heap.size (w.alloc (.cells #[.int .i64 a, .int .i64 b] 3)) :=
  ⟨_, heap_alloc_new w _, fun i hi => by
    match i, hi with
    | 0, _ => rfl
    | 1, _ => rfl⟩

theorem putsW_two (a b : Nat) : putsW [] [a, b] = word a ++ word b := by
  simp only [putsW]
  rw [addTo_small [] _ (by simp [word_length]), addTo_small _ _ (by simp [word_length])]
  rfl

theorem puts1_two (l : List UInt8) (n : Nat) (h : l.length ≤ 100) (hn : n ≤ 255) : puts be1 255 l [0, (n : Int)] = some (l ++ [0, UInt8.ofNat n]) := by
  simp only [puts]
  have e1 : addTo l (be1 (0 : Int).toNat) = l ++ [0] := addTo_small _ _ (by show l.length + 1 ≤ 65536; omega)
  have e2 : addTo (l ++ [0]) (be1 (n : Int).toNat) = l ++ [0] ++ [UInt8.ofNat n] := addTo_small _ _ (by simp [be1]; omega)
  rw [if_pos (by omega), if_pos (by omega), e1, e2]
  simp

set_option maxHeartbeats 1000000 in
theorem pseudo_any (a b : Nat) (p z : Int) (w : World) (ha : a < 4294967296) (hb : b < 4294967296) :
    Calls Try.prog 18 #[.int .u32 a, .int .u32 b, .int .i64 p, .int .i64 z] w fun e w' => e = .returned (.string ⟨(pseudo a b p z).toArray⟩) ∧ Below w.heap.size w w' := by
  have e1 := and_255 p
  have e2 := and_65535 z
  rw [← low_cast] at e1
  rw [← low2_cast] at e2
  have h1 := low_le p
  have h2 := low2_le z
  have Hps := Lib.hid (show pseudo a b p z = word a ++ word b ++ [0, UInt8.ofNat (low p)] ++ be2 (low2 z) from rfl)
  generalize pseudo a b p z = ps at *
  generalize low p = x at *
  generalize low2 z = y at *
  go_enter Try.func18, Try.ntmps18
  go_wp2_with fail
  refine (Word_any w.heap.size w.heap.size _ 2 [] [a, b] _ ((Wr.new w).alloc _) (by simp) (WordRow.two a b _ _ (by simp) ha hb) (by omega) (by simp)).mono ?_
  rintro e w1 ⟨rfl, hw1, hk1⟩
  rw [putsW_two] at hw1
  have b1 : Below w.heap.size w w1 := (((Below.refl _ w).alloc (Nat.le_refl _) _).alloc (by simp) _).trans hk1.below
  have z1 : w.heap.size < w1.heap.size := hw1.lt
  clear hk1
  go_wp2_with fail
  refine (Byte_any w.heap.size w.heap.size _ 2 (word a ++ word b) [0, (x : Int)] _ (hw1.alloc _) (by simp [word_length]) (IntRow.two _ _ w1) (by omega) (by simp)).mono ?_
  rintro e w2 ⟨rfl, hw2, hk2⟩
  rw [puts1_two _ _ (by simp [word_length]) h1] at hw2
  have hw2' := hw2.1
  have b2 : Below w.heap.size w w2 := (b1.alloc (by omega) _).trans hk2.below
  have z2 : w.heap.size < w2.heap.size := hw2'.lt
  clear hk2 hw2 b1 hw1
  go_wp2_with fail
  refine (Short_any w.heap.size w.heap.size _ 1 (word a ++ word b ++ [0, UInt8.ofNat x]) [(y : Int)] _ (hw2'.alloc _) (by simp [word_length]) (IntRow.new _ w2 _ rfl) (by omega) (by simp)).mono ?_
  rintro e w3 ⟨rfl, hw3, hk3⟩
  rw [puts2_one _ _ (by simp [word_length]) h2] at hw3
  have hw3' := hw3.1
  have b3 : Below w.heap.size w w3 := (b2.alloc (by omega) _).trans hk3.below
  clear hk3 hw3 b2 hw2'
  go_wp2_with fail
  refine (Done_any w.heap.size w.heap.size _ w3 hw3' (by simp [word_length, be2_length])).mono ?_
  rintro e w4 ⟨rfl, rfl⟩
  rw [← Hps.out]
  go_wp2
  go_ret
  exact ⟨rfl, b3⟩

set_option maxHeartbeats 1000000 in
theorem refpseudo_any (a b : Nat) (p z : Int) (w : World) (ha : a < 4294967296) (hb : b < 4294967296) :
    Calls Try.prog 23 #[.int .u32 a, .int .u32 b, .int .i64 p, .int .i64 z] w fun e w' => e = .returned (.string ⟨(pseudo a b p z).toArray⟩) ∧ Below w.heap.size w w' := by
  have hcells : ∀ j (hj : j < (pseudo a b p z).length), (w.alloc (.cells #[.int .u8 ((a : Int) / 16777216), .int .u8 ((a : Int) / 65536 % 256), .int .u8 ((a : Int) / 256 % 256), .int .u8 ((a : Int) % 256), .int .u8 ((b : Int) / 16777216), .int .u8 ((b : Int) / 65536 % 256), .int .u8 ((b : Int) / 256 % 256), .int .u8 ((b : Int) % 256), .int .u8 0, .int .u8 (p % 256), .int .u8 (z / 256 % 256), .int .u8 (z % 256)] 5)).cell? ((⟨w.heap.size, 0, none⟩ : Addr).add j) = some (.int .u8 ((pseudo a b p z)[j].toNat : Int)) := by
    intro j hj
    rw [Addr.add_lit, Nat.zero_add, World.cell?_alloc_new]
    have h1 := low_cast p
    have h2 := low2_cast z
    match j, hj with
    | 0, _ => simp [pseudo, word]; omega
    | 1, _ => simp [pseudo, word]
    | 2, _ => simp [pseudo, word]
    | 3, _ => simp [pseudo, word]
    | 4, _ => simp [pseudo, word]; omega
    | 5, _ => simp [pseudo, word]
    | 6, _ => simp [pseudo, word]
    | 7, _ => simp [pseudo, word]
    | 8, _ => simp [pseudo, word]
    | 9, _ => simp [pseudo, word]; omega
    | 10, _ => simp [pseudo, word, be2]; omega
    | 11, _ => simp [pseudo, word, be2]; omega
  have hcv : (convert 35 9 (.slice (some ⟨w.heap.size, 0, none⟩) 12 12)).run Try.prog _ = .ok (.string ⟨(pseudo a b p z).toArray⟩) _ := run_convert_bytes_back (P := Try.prog) _ 35 9 5 ⟨w.heap.size, 0, none⟩ 12 _ Try.underlying35 Try.underlying5 Try.underlying9 hcells
  clear hcells
  obtain ⟨s, hs⟩ : ∃ s : ByteArray, s = ⟨(pseudo a b p z).toArray⟩ := ⟨_, rfl⟩
  rw [← hs] at hcv ⊢
  clear hs
  go_enter Try.func23, Try.ntmps23
  go_wp2
  go_ret
  exact ⟨rfl, (Below.refl _ _).alloc (Nat.le_refl _) _⟩
#print axioms pseudo_any
#print axioms refpseudo_any
end Go.Proofs.Ytohemlejceiojaa
