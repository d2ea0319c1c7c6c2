/- The walks of what a writer writes: numbers, texts, and what it says at the end. -/
import Derived.Test.YtohemlejceiojaaWriter
namespace Go.Proofs.Ytohemlejceiojaa
open Go.RowKit

/-- A word's four bytes, the highest first. -/
def word (n : Nat) : List UInt8 := [UInt8.ofNat (n / 16777216), UInt8.ofNat (n / 65536), UInt8.ofNat (n / 256), UInt8.ofNat n]

theorem word_0 (n : Nat) (h : n < 4294967296) : ((UInt8.ofNat (n / 16777216)).toNat : Int) = (n : Int) / 16777216 := by simp; omega
theorem word_1 (n : Nat) : ((UInt8.ofNat (n / 65536)).toNat : Int) = (n : Int) / 65536 % 256 := by simp
theorem word_2 (n : Nat) : ((UInt8.ofNat (n / 256)).toNat : Int) = (n : Int) / 256 % 256 := by simp
theorem word_3 (n : Nat) : ((UInt8.ofNat n).toNat : Int) = (n : Int) % 256 := by simp

/-- The block in which a word's bytes lie for a moment. -/
abbrev wordObj (n : Nat) : Obj := .cells #[.int .u8 ((n : Int) / 16777216), .int .u8 ((n : Int) / 65536 % 256), .int .u8 ((n : Int) / 256 % 256), .int .u8 ((n : Int) % 256)] 76

theorem Wr.alloc {base b : Nat} {l : List UInt8} {w : World} (h : Wr base b l w) (o : Obj) : Wr base b l (w.alloc o) := by
  obtain ⟨hlow, ao, cap, hcell, hbuf⟩ := h
  exact ⟨hlow, ao, cap, (Below.heap_alloc w o b (lt_of_block hcell)).trans hcell, World.ownsRow.alloc hbuf o⟩

theorem Wr.lt {base b : Nat} {l : List UInt8} {w : World} (h : Wr base b l w) : b < w.heap.size := by
  obtain ⟨_, _, _, hcell, _⟩ := h
  exact lt_of_block hcell

set_option maxHeartbeats 1000000 in
theorem number_1 (base b : Nat) (l : List UInt8) (n : Nat) (w : World) (h : Wr base b l w) (hl : l.length ≤ 65536) (hn : n < 4294967296) :
    Calls Try.prog 32 #[.pointer (some ⟨b, 0, none⟩), .int .u32 n, .int .i64 1] w fun e w' => e = .returned (.tuple #[]) ∧ Wr base b (addTo l ([UInt8.ofNat n])) w' ∧ Kp base b w w' := by
  have hb := h.lt
  have hlow := h.low
  have hcells : ∀ j (hj : j < ([UInt8.ofNat n]).length), (w.alloc (wordObj n)).cell? ((⟨w.heap.size, 3, none⟩ : Addr).add j) = some (.int .u8 (([UInt8.ofNat n])[j].toNat : Int)) := by
    intro j hj
    match j, hj with
    | 0, _ => simp [Addr.add]
  have hcv : (convert 35 9 (.slice (some ⟨w.heap.size, 3, none⟩) 1 1)).run Try.prog (w.alloc (wordObj n)) = .ok (.string ⟨([UInt8.ofNat n]).toArray⟩) (w.alloc (wordObj n)) := run_convert_bytes_back (P := Try.prog) _ 35 9 5 ⟨w.heap.size, 3, none⟩ 1 _ Try.underlying35 Try.underlying5 Try.underlying9 hcells
  clear hcells
  obtain ⟨s, hs⟩ : ∃ s : ByteArray, s = ⟨([UInt8.ofNat n]).toArray⟩ := ⟨_, rfl⟩
  have hsz : s.size = 1 := by rw [hs]; rfl
  have hl2 : s.data.toList = [UInt8.ofNat n] := by rw [hs]
  rw [← hs] at hcv
  rw [← hl2]
  clear hs hl2
  have Hsz := Lib.hid hsz
  clear hsz
  go_enter Try.func32, Try.ntmps32
  go_wp2_with fail
  refine (add_any base b l s _ (h.alloc _) hl (by rw [Hsz.out]; omega)).mono ?_
  rintro e w1 ⟨rfl, hw1, hb1⟩
  go_wp2
  go_end0
  exact ⟨rfl, hw1, (Kp.alloc w _ (by omega)).trans hb1⟩

set_option maxHeartbeats 1000000 in
theorem number_2 (base b : Nat) (l : List UInt8) (n : Nat) (w : World) (h : Wr base b l w) (hl : l.length ≤ 65536) (hn : n < 4294967296) :
    Calls Try.prog 32 #[.pointer (some ⟨b, 0, none⟩), .int .u32 n, .int .i64 2] w fun e w' => e = .returned (.tuple #[]) ∧ Wr base b (addTo l ([UInt8.ofNat (n / 256), UInt8.ofNat n])) w' ∧ Kp base b w w' := by
  have hb := h.lt
  have hlow := h.low
  have hcells : ∀ j (hj : j < ([UInt8.ofNat (n / 256), UInt8.ofNat n]).length), (w.alloc (wordObj n)).cell? ((⟨w.heap.size, 2, none⟩ : Addr).add j) = some (.int .u8 (([UInt8.ofNat (n / 256), UInt8.ofNat n])[j].toNat : Int)) := by
    intro j hj
    match j, hj with
    | 0, _ => simp [Addr.add]
    | 1, _ => simp [Addr.add]
  have hcv : (convert 35 9 (.slice (some ⟨w.heap.size, 2, none⟩) 2 2)).run Try.prog (w.alloc (wordObj n)) = .ok (.string ⟨([UInt8.ofNat (n / 256), UInt8.ofNat n]).toArray⟩) (w.alloc (wordObj n)) := run_convert_bytes_back (P := Try.prog) _ 35 9 5 ⟨w.heap.size, 2, none⟩ 2 _ Try.underlying35 Try.underlying5 Try.underlying9 hcells
  clear hcells
  obtain ⟨s, hs⟩ : ∃ s : ByteArray, s = ⟨([UInt8.ofNat (n / 256), UInt8.ofNat n]).toArray⟩ := ⟨_, rfl⟩
  have hsz : s.size = 2 := by rw [hs]; rfl
  have hl2 : s.data.toList = [UInt8.ofNat (n / 256), UInt8.ofNat n] := by rw [hs]
  rw [← hs] at hcv
  rw [← hl2]
  clear hs hl2
  have Hsz := Lib.hid hsz
  clear hsz
  go_enter Try.func32, Try.ntmps32
  go_wp2_with fail
  refine (add_any base b l s _ (h.alloc _) hl (by rw [Hsz.out]; omega)).mono ?_
  rintro e w1 ⟨rfl, hw1, hb1⟩
  go_wp2
  go_end0
  exact ⟨rfl, hw1, (Kp.alloc w _ (by omega)).trans hb1⟩

set_option maxHeartbeats 1000000 in
theorem number_4 (base b : Nat) (l : List UInt8) (n : Nat) (w : World) (h : Wr base b l w) (hl : l.length ≤ 65536) (hn : n < 4294967296) :
    Calls Try.prog 32 #[.pointer (some ⟨b, 0, none⟩), .int .u32 n, .int .i64 4] w fun e w' => e = .returned (.tuple #[]) ∧ Wr base b (addTo l (word n)) w' ∧ Kp base b w w' := by
  have hb := h.lt
  have hlow := h.low
  have hcells : ∀ j (hj : j < (word n).length), (w.alloc (wordObj n)).cell? ((⟨w.heap.size, 0, none⟩ : Addr).add j) = some (.int .u8 ((word n)[j].toNat : Int)) := by
    intro j hj
    match j, hj with
    | 0, _ => simp [Addr.add, word]; omega
    | 1, _ => simp [Addr.add, word]
    | 2, _ => simp [Addr.add, word]
    | 3, _ => simp [Addr.add, word]
  have hcv : (convert 35 9 (.slice (some ⟨w.heap.size, 0, none⟩) 4 4)).run Try.prog (w.alloc (wordObj n)) = .ok (.string ⟨(word n).toArray⟩) (w.alloc (wordObj n)) := run_convert_bytes_back (P := Try.prog) _ 35 9 5 ⟨w.heap.size, 0, none⟩ 4 _ Try.underlying35 Try.underlying5 Try.underlying9 hcells
  clear hcells
  obtain ⟨s, hs⟩ : ∃ s : ByteArray, s = ⟨(word n).toArray⟩ := ⟨_, rfl⟩
  have hsz : s.size = 4 := by rw [hs]; rfl
  have hl2 : s.data.toList = word n := by rw [hs]
  rw [← hs] at hcv
  rw [← hl2]
  clear hs hl2
  have Hsz := Lib.hid hsz
  clear hsz
  go_enter Try.func32, Try.ntmps32
  go_wp2_with fail
  refine (add_any base b l s _ (h.alloc _) hl (by rw [Hsz.out]; omega)).mono ?_
  rintro e w1 ⟨rfl, hw1, hb1⟩
  go_wp2
  go_end0
  exact ⟨rfl, hw1, (Kp.alloc w _ (by omega)).trans hb1⟩

#print axioms number_4
end Go.Proofs.Ytohemlejceiojaa
