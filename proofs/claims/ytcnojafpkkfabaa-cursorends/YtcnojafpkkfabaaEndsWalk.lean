/- The law of no reader, no writer, and too many bytes: its walk. -/
import Derived.Test.YtcnojafpkkfabaaText
import Derived.Test.YtcnojafpkkfabaaReader
import Derived.OpenShut
namespace Go.Proofs.Ytcnojafpkkfabaa
open Go.RowKit

/-- So many noughts. -/
def zeros (n : Nat) : List UInt8 := List.replicate n 0

theorem zeros_length (n : Nat) : (zeros n).length = n := List.length_replicate

theorem made_zeros (n : Nat) : (madeCells (Value.int .u8 0).cells (n * 1)).toList = bytesV (zeros n) := by
  unfold zeros bytesV
  rw [List.map_replicate]
  rw [List.eq_replicate_iff]
  refine ⟨by simp [madeCells], fun b hb => ?_⟩
  simp only [madeCells, Value.cells, Array.toList_map, List.mem_map] at hb
  obtain ⟨x, _, rfl⟩ := hb
  simp [Nat.mod_one]

/-- A row of so many noughts, made by a call. -/
theorem make_bytes (base n : Nat) (w : World) (hn : n ≤ 100000) (hb : base ≤ w.heap.size) :
    ∃ w', (Instr.makeSlice 39 (.int .i64 (n : Int)) (.int .i64 (n : Int))).run Try.prog w = .ok (.slice (some ⟨w.heap.size, 0, none⟩) n n) w' ∧ Buf base (some ⟨w.heap.size, 0, none⟩) n (zeros n) w' ∧ w.grownBy w' none := by
  obtain ⟨i, hi, hz0, hz1, hz2⟩ := info_parts Try.info5
  obtain ⟨w', hr, ho, hg⟩ := run_make_full (P := Try.prog) w base 39 5 i (.int .u8 0) 1 Try.underlying39 hi hz0 hz1 .i64 .i64 n (by rw [hz2]; omega) (by unfold maxLen; omega) hb
  rw [made_zeros] at ho
  exact ⟨w', hr, by unfold Buf; rw [zeros_length]; exact ho, hg⟩

theorem puts1_full (l : List UInt8) (n : Nat) (hn : n ≤ 255) : puts be1 255 l [(n : Int)] = some (addTo l (be1 n)) := by
  simp only [puts]
  rw [if_pos (by omega)]
  simp

theorem Wr.grown {base b : Nat} {l : List UInt8} {w w' : World} (h : Wr base b l w) (hg : w.grownBy w' none) : Wr base b l w' := by
  obtain ⟨hlow, ao, cap, hcell, hbuf⟩ := h
  exact ⟨hlow, ao, cap, (hg.block b (lt_of_block hcell) (by simp)).trans hcell, World.ownsRow.kept hbuf hg (by cases Value.ownBlock (.slice ao l.length cap) <;> simp)⟩

theorem full_length (l : List UInt8) (n : Nat) (h : l.length = 65535) : (addTo l (be1 n)).length = 65536 := by
  unfold addTo be1
  rw [List.length_append, List.length_take, h]
  rfl

set_option maxHeartbeats 2000000 in
theorem ends_any (n : Int) (c : Nat) (w : World) (hc : c ≤ 255) :
    Calls Try.prog 6 #[.int .i64 n, .int .u8 c] w fun e w' => e = .returned (.bool true) ∧ Below w.heap.size w w' := by
  go_enter Try.func6, Try.ntmps6
  go_wp2_with fail
  refine (awake_any _).mono ?_
  rintro e w1 ⟨rfl, hb1⟩
  have k1 := below_then (below_start w) hb1
  clear hb1
  go_wp2_with fail
  refine (Byte_nil _ _).mono ?_
  rintro e w2 ⟨rfl, rfl⟩
  go_wp2_with fail
  refine (Short_nil _ _).mono ?_
  rintro e w2 ⟨rfl, rfl⟩
  go_wp2_with fail
  refine (Text_nil _ _).mono ?_
  rintro e w2 ⟨rfl, rfl⟩
  go_wp2_with fail
  refine (Done_nil _).mono ?_
  rintro e w2 ⟨rfl, rfl⟩
  go_wp2_with fail
  have hB : w1.heap.size + 1 + 1 + 1 = (((w1.alloc (.cells #[.int .i64 n] 3)).alloc (.cells #[.int .i64 n] 3)).alloc (.cells #[.string ⟨#[120]⟩] 9)).heap.size := by simp
  have hw3 := Wr.new (((w1.alloc (.cells #[.int .i64 n] 3)).alloc (.cells #[.int .i64 n] 3)).alloc (.cells #[.string ⟨#[120]⟩] 9))
  rw [← hB] at hw3
  have k3 : Below w.heap.size w ((((w1.alloc (.cells #[.int .i64 n] 3)).alloc (.cells #[.int .i64 n] 3)).alloc (.cells #[.string ⟨#[120]⟩] 9)).alloc (.cells #[.bool false, .slice none 0 0] 41)) := by
    have := k1.2
    exact (((k1.1.alloc this _).alloc (by simp; omega) _).alloc (by simp; omega) _).alloc (by simp; omega) _
  generalize ((((w1.alloc (.cells #[.int .i64 n] 3)).alloc (.cells #[.int .i64 n] 3)).alloc (.cells #[.string ⟨#[120]⟩] 9)).alloc (.cells #[.bool false, .slice none 0 0] 41)) = W at *
  have k2 := k1.2
  clear hB k1
  generalize hBB : w1.heap.size + 1 + 1 + 1 = B at *
  have hlB : w.heap.size ≤ B := by omega
  clear hBB k2
  have hltB := hw3.lt
  obtain ⟨w5, hr5, hbuf5, hg5⟩ := make_bytes B 65535 W (by omega) (by omega)
  have hr5' : (Instr.makeSlice 39 (.int .i64 65535) (.int .i64 65535)).run Try.prog W = .ok (.slice (some ⟨W.heap.size, 0, none⟩) 65535 65535) w5 := hr5
  clear hr5
  have hcv := hbuf5.text
  rw [zeros_length] at hcv
  obtain ⟨t, ht⟩ : ∃ t : ByteArray, t = ⟨(zeros 65535).toArray⟩ := ⟨_, rfl⟩
  have htz : t.size = 65535 := by rw [ht]; show (zeros 65535).toArray.size = 65535; rw [List.size_toArray]; exact zeros_length _
  rw [← ht] at hcv
  clear ht hbuf5
  have hw5 := hw3.grown hg5
  have k5 : Below w.heap.size w w5 := k3.grown hg5 (by omega) (fun k hk => by cases hk)
  clear hw3 k3 hg5
  have Htz := Lib.hid htz
  clear htz
  rw [hr5']
  go_wp2_with fail
  clear hr5' hcv
  refine (Text_one B B [] t _ hw5 (by simp) (by rw [Htz.out]; omega) _ rfl).mono ?_
  rintro e w6 ⟨rfl, hw6, hb6⟩
  have htl : t.data.toList.length = 65535 := by rw [Array.length_toList]; exact Htz.out
  rw [addTo_small [] t.data.toList (by rw [htl]; simp), List.nil_append] at hw6
  have Htl := Lib.hid htl
  clear htl
  have k6 : Below w.heap.size w w6 := k5.trans (hb6.mono hlB)
  clear hb6 k5 hw5
  go_wp2_with fail
  refine (Done_any B B _ w6 hw6 (by rw [Htl.out]; omega)).mono ?_
  rintro e w7 ⟨rfl, rfl⟩
  rw [show (⟨t.data.toList.toArray⟩ : ByteArray) = t from rfl]
  go_wp2_with fail
  have hlt6 := hw6.lt
  refine (Byte_any B B _ 1 t.data.toList [(c : Int)] _ (hw6.alloc _) (by rw [Htl.out]; omega) (IntRow.new _ w6 _ rfl) (by omega) (by simp)).mono ?_
  rintro e w7 ⟨rfl, haf, hkp⟩
  rw [puts1_full _ _ hc] at haf
  have hw7 := haf.1
  have k7 : Below w.heap.size w w7 := (k6.alloc (by omega) _).trans (hkp.below.mono hlB)
  clear haf hkp k6 hw6
  go_wp2_with fail
  have hfl := full_length t.data.toList c Htl.out
  refine (Done_long B B _ w7 hw7 (by rw [hfl]; omega) (by rw [hfl]; omega)).mono ?_
  rintro e w8 ⟨rfl, rfl⟩
  clear hfl hw7
  go_wp2_with fail
  refine (RByte_nil _).mono ?_
  rintro e w8 ⟨rfl, rfl⟩
  go_wp2_with fail
  refine (RShort_nil _).mono ?_
  rintro e w8 ⟨rfl, rfl⟩
  go_wp2_with fail
  refine (RWord_nil _).mono ?_
  rintro e w8 ⟨rfl, rfl⟩
  go_wp2_with fail
  refine (take_nil _ _).mono ?_
  rintro e w8 ⟨rfl, rfl⟩
  rw [show nobytes = ⟨#[]⟩ from rfl]
  go_wp2_with fail
  refine (Rest_nil _).mono ?_
  rintro e w8 ⟨rfl, rfl⟩
  rw [show nobytes = ⟨#[]⟩ from rfl]
  go_wp2_with fail
  refine (Left_nil _).mono ?_
  rintro e w8 ⟨rfl, rfl⟩
  go_wp2_with fail
  refine (Ok_nil _).mono ?_
  rintro e w8 ⟨rfl, rfl⟩
  have htz := Htz.out
  go_wp2
  go_ret
  exact ⟨rfl, k7⟩

theorem ends_all (n c : Int) (hc : (Lit.int .u8 c).wf = true) (w : World) :
    Calls Try.prog 6 #[.int .i64 n, .int .u8 c] w fun e w' => e = .returned (.bool true) ∧ Below w.heap.size w w' := by
  have bc := bounds_u8 hc
  obtain ⟨c', rfl⟩ := Int.eq_ofNat_of_zero_le bc.1
  exact ends_any n c' w (by omega)
#print axioms ends_all
end Go.Proofs.Ytcnojafpkkfabaa
