/- TrieFull, walked whole. -/
import Derived.Test.YtepjefgbbobphaaTrPrefers
import Derived.Test.YtepjefgbbobphaaTrNil
namespace Go.Proofs.Ytepjefgbbobphaa
open Go.RowKit
set_option maxRecDepth 100000
set_option linter.unusedVariables false
open R

namespace R
/-- The routes that the law adds: one for each first byte. -/
def fr (i : Nat) : Rt := ⟨i * 16777216, 8, 0⟩
def frs (k : Nat) : List Rt := (List.range k).map fr
theorem frs_succ (k : Nat) : frs (k + 1) = frs k ++ [fr k] := by unfold frs; rw [List.range_succ, List.map_append]; rfl
theorem frs_len (k : Nat) : (frs k).length = k := by simp [frs]
theorem fr_right (i : Nat) : A.right (fr i).a (fr i).b = true := by
  unfold A.right fr
  simp only [decide_eq_true_eq]
  refine ⟨by omega, by omega, ?_⟩
  show i * 16777216 % 2 ^ (32 - (8 : Int).toNat) = 0
  rw [show (2 : Nat) ^ (32 - (8 : Int).toNat) = 16777216 from rfl]
  exact Nat.mul_mod_left _ _
theorem fr_add (k : Nat) (hk : k < 256) : addE (frs k) (fr k) = 0 := by
  unfold addE
  rw [if_neg (by rw [fr_right]; simp), if_neg ?_, if_neg (by rw [frs_len]; omega)]
  intro h
  obtain ⟨s, hs, h1, h2⟩ := has_iff.1 h
  obtain ⟨j, hj, rfl⟩ := List.mem_map.1 hs
  have := List.mem_range.1 hj
  unfold fr at h1
  simp only at h1
  omega
theorem zR_right : A.right zR.a zR.b = true := by kernel_rfl
theorem zR_not (l : List Rt) (h : ∀ s ∈ l, s.b = 8) : has l zR.a zR.b = false := by
  cases hh : has l zR.a zR.b
  · rfl
  · obtain ⟨s, hs, _, h2⟩ := has_iff.1 hh
    rw [h s hs] at h2
    cases h2
theorem zR_full (l : List Rt) (h : ∀ s ∈ l, s.b = 8) (hl : l.length = 256) : addE l zR = 9 := by
  unfold addE
  rw [if_neg (by rw [zR_right]; simp), if_neg (by rw [zR_not l h]; simp), if_pos (by omega)]
theorem zR_room (l : List Rt) (h : ∀ s ∈ l, s.b = 8) (hl : l.length = 255) : addE l zR = 0 := by
  unfold addE
  rw [if_neg (by rw [zR_right]; simp), if_neg (by rw [zR_not l h]; simp), if_neg (by omega)]
theorem frs_eight (k : Nat) : ∀ s ∈ frs k, s.b = 8 := fun s hs => by
  obtain ⟨j, _, rfl⟩ := List.mem_map.1 hs
  rfl
end R

set_option maxHeartbeats 8000000 in
theorem full_all (n : Nat) (a : Nat) (pa : Nat) (pb : Int) (w : World) (hn : n < 256) :
    Calls Try.prog 5 #[.int .u8 n, .int .u32 a, .agg #[.int .u32 pa, .int .i64 pb]] w fun e w' => e = .returned (.bool true) ∧ Below w.heap.size w w' := by
  have hb0 : Below w.heap.size w (w.alloc (.cells #[.int .u32 pa, .int .i64 pb] 29)) := (Below.refl _ w).alloc (Nat.le_refl _) _
  have HB : Hid ((w.alloc (.cells #[.int .u32 pa, .int .i64 pb] 29)).heap[w.heap.size]? = some (.cells #[.int .u32 pa, .int .i64 pb] 29 (0, 0))) := Lib.hid (heap_alloc_new w _)
  go_enter Try.func5, Try.ntmps5
  go_wp2_with fail
  refine (awake_any _).mono ?_
  rintro e w1 ⟨rfl, hb1⟩
  have hbw1 := hb0.trans (hb1.mono hb0.size)
  have HB1 := Lib.hid ((hb1.block _ (heap_lt HB.out)).trans HB.out)
  have hs1 := heap_lt HB1.out
  clear hb0 hb1 HB
  go_wp2_with fail
  refine (New_any w1).mono ?_
  rintro e w2 ⟨g, rfl, hT2, hb2⟩
  have HT2 : Hid (TrieAt (Mine w1 w2) w2 g st0) := Lib.hid hT2
  clear hT2
  go_wp2
  go_loopw [8] (fun i wr => ∃ (k : Nat) (st : St), k ≤ 256 ∧ i = .int .i64 k ∧ TrieAt (Mine w1 wr) wr g st ∧ Inv st (R.frs k) ∧ st.nodes.length ≤ 1 + 32 * k ∧ Below w1.heap.size w1 wr) (fun i _ => 256 - (intOf i).toNat)
  case atStart => exact ⟨0, st0, Nat.zero_le _, rfl, HT2.out, Inv.new, Nat.le_refl _, hb2⟩
  case round =>
    clear HT2 hb2
    obtain ⟨k, st, hk, rfl, hT, hI, hnl, hb⟩ := hrel
    have HT := Lib.hid hT
    have HI := Lib.hid hI
    have hbs := hb.size
    clear hT hI
    by_cases hkl : k < 256
    · have hkl' : (k : Int) < 256 := by omega
      have HA := Lib.hid (Add_any (Mine w1 wr) g st (R.frs k) (R.fr k) wr HT.out (fun k hk => hk.2) HI.out (by show k * 16777216 < _; omega) (by rw [R.frs_len]; omega) (by omega))
      rw [R.fr_add k hkl] at HA
      have HA : Hid (Calls Try.prog 10 #[.pointer (some ⟨g, 0, none⟩), .agg #[.int .u32 ((k * 16777216 : Nat) : Int), .int .i64 8, .int .i64 0]] wr _) := HA
      rw [show ((k * 16777216 : Nat) : Int) = (k : Int) * 16777216 from by simp] at HA
      go_wp2_with fail
      refine HA.out.mono ?_
      rintro e w3 ⟨rfl, hc3, st3, hT3, hI3, hl3⟩
      have HT3 := Lib.hid (hT3.up hbs hc3.size)
      have HI3 : Hid (Inv st3 (R.frs (k + 1))) := Lib.hid (by rw [R.frs_succ]; exact hI3)
      have hbw3 := hb.trans (hc3.below (fun k hk => hk.1) hbs)
      clear hT3 hI3 hc3 HA HT HI
      go_wp2
      go_roundw
      case rel => exact ⟨k + 1, st3, by omega, by go_num, HT3.out, HI3.out, by omega, hbw3⟩
      case measure => simp [intOf]; omega
    · obtain rfl : k = 256 := by omega
      have hl256 := R.frs_len 256
      have HR8 := Lib.hid (R.frs_eight 256)
      -- the routes without the one
      have hx : R.fr n ∈ R.frs 256 := List.mem_map.2 ⟨n, List.mem_range.2 hn, rfl⟩
      have hnd : (R.frs 256).Nodup := by obtain ⟨pl, hR, _⟩ := HI.out; exact hR.rnd
      have HA := Lib.hid (Add_any (Mine w1 wr) g st (R.frs 256) zR wr HT.out (fun k hk => hk.2) HI.out (by decide) (by rw [hl256]; omega) (by omega))
      rw [R.zR_full _ HR8.out hl256] at HA
      have HA : Hid (Calls Try.prog 10 #[.pointer (some ⟨g, 0, none⟩), .agg #[.int .u32 0, .int .i64 0, .int .i64 0]] wr _) := HA
      generalize hfrs : R.frs 256 = l0 at *
      have hm : ∀ r, r ∈ l0.erase (R.fr n) ↔ r ∈ l0 ∧ r ≠ R.fr n := fun r => by rw [hnd.mem_erase_iff]; exact And.comm
      have hnd2 : (l0.erase (R.fr n)).Nodup := hnd.sublist List.erase_sublist
      have hln2 : (l0.erase (R.fr n)).length + 1 = l0.length := by rw [List.length_erase_of_mem hx]; omega
      have H8 : Hid (∀ s ∈ l0.erase (R.fr n), s.b = 8) := Lib.hid fun s hs => HR8.out s ((hm s).1 hs).1
      have Hm := Lib.hid hm
      have Hx := Lib.hid hx
      have Hnd2 := Lib.hid hnd2
      have Hln2 := Lib.hid hln2
      have H256 := Lib.hid hl256
      clear hm hx hnd2 hln2 hnd hl256 hfrs
      go_wp2_with fail
      refine HA.out.mono ?_
      rintro e w3 ⟨rfl, hc3, st3, hT3, hI3, hl3⟩
      have HT3 := Lib.hid (hT3.up hbs hc3.size)
      have HI3 : Hid (Inv st3 l0) := Lib.hid hI3
      have hbw3 := hb.trans (hc3.below (fun k hk => hk.1) hbs)
      have hbs3 := hbw3.size
      clear hT3 hI3 hc3 HA HT HI
      have HD := Lib.hid (Drop_ok (Mine w1 w3) g st3 l0 (l0.erase (R.fr n)) (R.fr n) w3 eq_node HT3.out (fun k hk => hk.2) HI3.out Hx.out Hm.out Hnd2.out Hln2.out (by rw [H256.out]; omega) (by omega))
      have HD : Hid (Calls Try.prog 13 #[.pointer (some ⟨g, 0, none⟩), .agg #[.int .u32 ((n * 16777216 : Nat) : Int), .int .i64 8]] w3 _) := HD
      rw [show ((n * 16777216 : Nat) : Int) = (n : Int) * 16777216 from by simp] at HD
      go_wp2_with fail
      refine HD.out.mono ?_
      rintro e w4 ⟨rfl, hc4, st4, hT4, hI4, hl4⟩
      have HT4 := Lib.hid (hT4.up hbs3 hc4.size)
      have HI4 := Lib.hid hI4
      have hbw4 := hbw3.trans (hc4.below (fun k hk => hk.1) hbs3)
      have hbs4 := hbw4.size
      clear hT4 hI4 hc4 HD HT3 HI3
      have hl255 : (l0.erase (R.fr n)).length = 255 := by have := Hln2.out; have := H256.out; omega
      have HA := Lib.hid (Add_any (Mine w1 w4) g st4 (l0.erase (R.fr n)) zR w4 HT4.out (fun k hk => hk.2) HI4.out (by decide) (by rw [hl255]; omega) (by omega))
      rw [R.zR_room _ H8.out hl255] at HA
      have HA : Hid (Calls Try.prog 10 #[.pointer (some ⟨g, 0, none⟩), .agg #[.int .u32 0, .int .i64 0, .int .i64 0]] w4 _) := HA
      clear hl255
      go_wp2_with fail
      refine HA.out.mono ?_
      rintro e w5 ⟨rfl, hc5, _⟩
      have hbw5 := hbw4.trans (hc5.below (fun k hk => hk.1) hbs4)
      have hbw5x := hbw1.trans (hbw5.mono hbw1.size)
      have HB5 := Lib.hid ((hbw5.block _ (heap_lt HB1.out)).trans HB1.out)
      clear hc5 HA HT4 HI4 H8 Hm Hx Hnd2 Hln2 H256 HR8 HB1 hb hbw1 hbw3 hbw4 hbw5
      go_wp2_with fail
      refine (Find_nil a _).mono ?_
      rintro e w6 ⟨rfl, hb6⟩
      have hbw6 := hbw5x.trans (hb6.mono hbw5x.size)
      have HB6 := Lib.hid ((hb6.block _ (heap_lt HB5.out)).trans HB5.out)
      clear hb6 HB5 hbw5x
      unfold Rt.agg zR
      dsimp only
      have hb7 : Below w6.heap.size w6 (w6.alloc (.cells #[.int .u32 0, .int .i64 0, .int .i64 0] 31)) := (Below.refl _ _).alloc (Nat.le_refl _) _
      have HB7 := Lib.hid ((hb7.block _ (heap_lt HB6.out)).trans HB6.out)
      have hbw7 := hbw6.trans (hb7.mono hbw6.size)
      clear hb7 HB6 hbw6
      go_upto_region 14 with fail
      generalize w6.alloc (.cells #[.int .u32 0, .int .i64 0, .int .i64 0] 31) = w7 at *
      have p0 : w7.cell? ⟨w.heap.size, 0, none⟩ = some (.int .u32 pa) := (cell_of_row w7 _ 0 _ _ (0, 0) HB7.out).trans rfl
      have p1 : w7.cell? ⟨w.heap.size, 1, none⟩ = some (.int .i64 pb) := (cell_of_row w7 _ 1 _ _ (0, 0) HB7.out).trans rfl
      go_wp2_with fail
      refine (Get_nil pa pb _).mono ?_
      rintro e w8 ⟨rfl, hb8⟩
      have HB8 := Lib.hid ((hb8.block _ (heap_lt HB7.out)).trans HB7.out)
      have hbw8 := hbw7.trans (hb8.mono hbw7.size)
      clear hb8 HB7 hbw7 p0 p1
      unfold Rt.agg zR
      dsimp only
      have hb9 : Below w8.heap.size w8 (w8.alloc (.cells #[.int .u32 0, .int .i64 0, .int .i64 0] 31)) := (Below.refl _ _).alloc (Nat.le_refl _) _
      have HB9 := Lib.hid ((hb9.block _ (heap_lt HB8.out)).trans HB8.out)
      have hbw9 := hbw8.trans (hb9.mono hbw8.size)
      clear hb9 HB8 hbw8
      go_upto_region 15 with fail
      generalize w8.alloc (.cells #[.int .u32 0, .int .i64 0, .int .i64 0] 31) = w9 at *
      have p0 : w9.cell? ⟨w.heap.size, 0, none⟩ = some (.int .u32 pa) := (cell_of_row w9 _ 0 _ _ (0, 0) HB9.out).trans rfl
      have p1 : w9.cell? ⟨w.heap.size, 1, none⟩ = some (.int .i64 pb) := (cell_of_row w9 _ 1 _ _ (0, 0) HB9.out).trans rfl
      have HAn := Lib.hid (Add_nil ⟨pa, pb, 0⟩ w9)
      have HAn : Hid (Calls Try.prog 10 #[.pointer none, .agg #[.int .u32 pa, .int .i64 pb, .int .i64 0]] w9 _) := HAn
      go_wp2_with fail
      refine HAn.out.mono ?_
      rintro e w10 ⟨rfl, hb10⟩
      have HB10 := Lib.hid ((hb10.block _ (heap_lt HB9.out)).trans HB9.out)
      have hbw10 := hbw9.trans (hb10.mono hbw9.size)
      clear hb10 HB9 hbw9 p0 p1 HAn
      have p0 : w10.cell? ⟨w.heap.size, 0, none⟩ = some (.int .u32 pa) := (cell_of_row w10 _ 0 _ _ (0, 0) HB10.out).trans rfl
      have p1 : w10.cell? ⟨w.heap.size, 1, none⟩ = some (.int .i64 pb) := (cell_of_row w10 _ 1 _ _ (0, 0) HB10.out).trans rfl
      go_wp2_with fail
      refine (Drop_nil pa pb _).mono ?_
      rintro e w11 ⟨rfl, hb11⟩
      have hbw11 := hbw10.trans (hb11.mono hbw10.size)
      clear hb11 HB10 hbw10 p0 p1
      go_wp2_with fail
      refine (Len_nil _).mono ?_
      rintro e w12 ⟨rfl, rfl⟩
      go_wp2_with fail
      refine (Nodes_nil _).mono ?_
      rintro e w12 ⟨rfl, rfl⟩
      go_wp2_with fail
      refine (All_nil _).mono ?_
      rintro e w12 ⟨rfl, hb12⟩
      have hbw12 := hbw11.trans (hb12.mono hbw11.size)
      go_wp2
      go_ret
      exact ⟨rfl, hbw12⟩
theorem full_int (n a : Int) (pa : Nat) (pb : Int) (w : World) (hn : 0 ≤ n ∧ n ≤ 255) (ha : 0 ≤ a ∧ a ≤ 4294967295) :
    Calls Try.prog 5 #[.int .u8 n, .int .u32 a, .agg #[.int .u32 pa, .int .i64 pb]] w fun e w' => e = .returned (.bool true) ∧ Below w.heap.size w w' := by
  obtain ⟨n, rfl⟩ := Int.eq_ofNat_of_zero_le hn.1
  obtain ⟨a, rfl⟩ := Int.eq_ofNat_of_zero_le ha.1
  exact full_all n a pa pb w (by omega)
#print axioms full_int
end Go.Proofs.Ytepjefgbbobphaa
