/- The walks of a number that is told. -/
import Derived.Test.YtlnmpibhjpedcaaDoorAddrLow
import Derived.Test.YtlnmpibhjpedcaaDoorShelf
import Derived.Lib.AtoiAllCases
import Derived.Lib.AtoiTie
import Derived.Lib.AppendIntMem
import Derived.Lib.Strings
namespace Go.Proofs.YtlnmpibhjpedcaaDoor
open Go.RowKit

theorem gPow : Tryd.prog.globalNamed "internal/strconv.uint64pow10" = some 3 := by kernel_rfl

/-- What the library's variables must hold. -/
structure Laid (w : World) : Prop where
  size : 4 ≤ w.heap.size
  most : ∃ m : Int, w.cell? ⟨0, 0, none⟩ = some (.int .i64 m)
  syn : ∃ t p, w.cell? ⟨1, 0, none⟩ = some (.iface t p)
  ran : ∃ t p, w.cell? ⟨2, 0, none⟩ = some (.iface t p)
  tab : Lib.TabIs Tryd.prog w "internal/strconv.uint64pow10" .u64 Lib.pow10Tab

theorem Laid.below {B : Nat} {w w' : World} (h : Laid w) (hB : 4 ≤ B) (hb : Below B w w') (hs : w.heap.size ≤ w'.heap.size) : Laid w' := by
  obtain ⟨h0, ⟨m, h1⟩, ⟨t, p, h2⟩, ⟨t', p', h3⟩, h4⟩ := h
  refine ⟨by omega, ⟨m, ?_⟩, ⟨t, p, ?_⟩, ⟨t', p', ?_⟩, ?_⟩
  · rw [hb.cell (p := ⟨0, 0, none⟩) (show 0 < B by omega)]; exact h1
  · rw [hb.cell (p := ⟨1, 0, none⟩) (show 1 < B by omega)]; exact h2
  · rw [hb.cell (p := ⟨2, 0, none⟩) (show 2 < B by omega)]; exact h3
  · unfold Lib.TabIs World.var? at *
    rw [gPow] at *
    have := hb.block 3 (by omega)
    simp only [Option.bind_some] at *
    rw [this]; exact h4

/-- The number that a text tells, and only so. -/
def A.num (most : Nat) (s : ByteArray) : Option Nat :=
  match Lib.atoiAll s.data.toList with
  | .ok v => if 0 ≤ v ∧ v ≤ most ∧ (⟨(Lib.itoa v).toArray⟩ : ByteArray) = s then some v.toNat else none
  | _ => none

set_option maxHeartbeats 400000 in
theorem number_syn (s : ByteArray) (most : Nat) (w : World) (hl : s.size ≤ 281474976710656) (L : Laid w) (h : Lib.atoiAll s.data.toList = .«syntax») :
    Calls Tryd.prog 26 #[.string s, .int .i64 most] w fun e w' => e = .returned (.tuple #[.int .i64 0, .bool false]) ∧ Below w.heap.size w w' := by
  obtain ⟨t, p, hv⟩ := L.syn
  have HL := Lib.hid L
  clear L
  go_enter Tryd.func26, Tryd.ntmps26
  go_wp2_with fail
  refine (Tryd.strconv_Atoi_syntax s hl h _ w hv (.inr ⟨_, _, rfl⟩)).mono ?_
  rintro e w1 ⟨N, rfl, hN, hblk, hb⟩
  go_wp2
  exact bodyPost_ret (v := .tuple #[.int .i64 0, .bool false]) (by simp [results, Tryd.results26, go_sem]) rfl ⟨rfl, hb⟩

set_option maxHeartbeats 400000 in
theorem number_ran (s : ByteArray) (most : Nat) (w : World) (hl : s.size ≤ 281474976710656) (L : Laid w) (h : Lib.atoiAll s.data.toList = .range) :
    Calls Tryd.prog 26 #[.string s, .int .i64 most] w fun e w' => e = .returned (.tuple #[.int .i64 0, .bool false]) ∧ Below w.heap.size w w' := by
  obtain ⟨t, p, hv⟩ := L.ran
  have HL := Lib.hid L
  clear L
  go_enter Tryd.func26, Tryd.ntmps26
  go_wp2_with fail
  refine (Tryd.strconv_Atoi_range s hl h _ w hv (.inr ⟨_, _, rfl⟩)).mono ?_
  rintro e w1 ⟨N, rfl, hN, hblk, hb⟩
  go_wp2
  exact bodyPost_ret (v := .tuple #[.int .i64 0, .bool false]) (by simp [results, Tryd.results26, go_sem]) rfl ⟨rfl, hb⟩

theorem text_ne {t s : ByteArray} (h : ¬ t = s) : (t.toList == s.toList) = false := by
  rw [beq_eq_false_iff_ne, Lib.toList_data, Lib.toList_data]
  intro e
  apply h
  cases t; cases s
  simp only [ByteArray.mk.injEq]
  exact Array.toList_inj.1 e

theorem below_bytes {w w1 : World} (h : w1 = w ∨ ∃ t, w1 = Lib.bytesWorld w 5 t) : Below w.heap.size w w1 := by
  rcases h with rfl | ⟨t, rfl⟩
  · exact Below.refl _ _
  · exact Lib.bytesWorld_below w 5 t

set_option maxHeartbeats 400000 in
theorem number_out (s : ByteArray) (most : Nat) (v : Int) (w : World) (hl : s.size ≤ 281474976710656) (h : Lib.atoiAll s.data.toList = .ok v) (hv : v < 0 ∨ (most : Int) < v) :
    Calls Tryd.prog 26 #[.string s, .int .i64 most] w fun e w' => e = .returned (.tuple #[.int .i64 0, .bool false]) ∧ Below w.heap.size w w' := by
  rcases hv with h0 | h1
  · go_enter Tryd.func26, Tryd.ntmps26
    go_wp2_with fail
    refine (Tryd.strconv_Atoi_ok s (by omega) v h w).mono ?_
    rintro e w1 ⟨rfl, hb⟩
    have k1 := below_bytes hb
    clear hb
    go_wp2
    exact bodyPost_ret (v := .tuple #[.int .i64 0, .bool false]) (by simp [results, Tryd.results26, go_sem]) rfl ⟨rfl, k1⟩
  · have h2 : ¬ v < 0 := by omega
    go_enter Tryd.func26, Tryd.ntmps26
    go_wp2_with fail
    refine (Tryd.strconv_Atoi_ok s (by omega) v h w).mono ?_
    rintro e w1 ⟨rfl, hb⟩
    have k1 := below_bytes hb
    clear hb
    go_wp2
    exact bodyPost_ret (v := .tuple #[.int .i64 0, .bool false]) (by simp [results, Tryd.results26, go_sem]) rfl ⟨rfl, k1⟩

set_option maxHeartbeats 400000 in
theorem number_in (s : ByteArray) (most v : Nat) (w : World) (hl : s.size ≤ 281474976710656) (L : Laid w) (hm : most ≤ 255) (h : Lib.atoiAll s.data.toList = .ok (v : Int)) (hv : v ≤ most) :
    Calls Tryd.prog 26 #[.string s, .int .i64 most] w fun e w' => e = .returned (.tuple (if (⟨(Lib.itoa (v : Int)).toArray⟩ : ByteArray) = s then #[.int .i64 v, .bool true] else #[.int .i64 0, .bool false])) ∧ Below w.heap.size w w' := by
  have HL := Lib.hid L
  clear L
  generalize ht : (⟨(Lib.itoa (v : Int)).toArray⟩ : ByteArray) = t
  have Ht := Lib.hid ht
  clear ht
  have h2 : ¬ (v : Int) < 0 := by omega
  have h3 : ¬ (most : Int) < v := by omega
  by_cases hts : t = s
  · subst hts
    rw [if_pos rfl]
    go_enter Tryd.func26, Tryd.ntmps26
    go_wp2_with fail
    refine (Tryd.strconv_Atoi_ok t (by omega) v h w).mono ?_
    rintro e w1 ⟨rfl, hb⟩
    have k1 := below_bytes hb
    clear hb
    go_wp2_with fail
    refine (Tryd.strconv_Itoa (v : Int) (by omega) (by omega) w1 (HL.out.below HL.out.size k1 k1.size).tab).mono ?_
    rintro e w2 ⟨rfl, k, os, hw2⟩
    rw [Ht.out]
    go_wp2
    exact bodyPost_ret (v := .tuple #[.int .i64 v, .bool true]) (by simp [results, Tryd.results26, go_sem]) rfl ⟨rfl, k1.trans (by subst hw2; exact Lib.below_grow _ _ k1.size _ _)⟩
  · rw [if_neg hts]
    have hts2 := text_ne hts
    go_enter Tryd.func26, Tryd.ntmps26
    go_wp2_with fail
    refine (Tryd.strconv_Atoi_ok s (by omega) v h w).mono ?_
    rintro e w1 ⟨rfl, hb⟩
    have k1 := below_bytes hb
    clear hb
    go_wp2_with fail
    refine (Tryd.strconv_Itoa (v : Int) (by omega) (by omega) w1 (HL.out.below HL.out.size k1 k1.size).tab).mono ?_
    rintro e w2 ⟨rfl, k, os, hw2⟩
    rw [Ht.out]
    go_wp2
    exact bodyPost_ret (v := .tuple #[.int .i64 0, .bool false]) (by simp [results, Tryd.results26, go_sem]) rfl ⟨rfl, k1.trans (by subst hw2; exact Lib.below_grow _ _ k1.size _ _)⟩

/-- What 'number' hands back. -/
def A.numIs (most : Nat) (s : ByteArray) : Array Value := match A.num most s with | some n => #[.int .i64 n, .bool true] | none => #[.int .i64 0, .bool false]

theorem number_any (s : ByteArray) (most : Nat) (w : World) (hl : s.size ≤ 281474976710656) (L : Laid w) (hm : most ≤ 255) :
    Calls Tryd.prog 26 #[.string s, .int .i64 most] w fun e w' => e = .returned (.tuple (A.numIs most s)) ∧ Below w.heap.size w w' := by
  cases h : Lib.atoiAll s.data.toList with
  | ok v =>
    by_cases hv : v < 0 ∨ (most : Int) < v
    · have e : A.numIs most s = #[.int .i64 0, .bool false] := by
        unfold A.numIs A.num
        rw [h]
        simp only []
        rw [if_neg (by omega)]
      rw [e]
      exact number_out s most v w hl h hv
    · obtain ⟨n, rfl⟩ := Int.eq_ofNat_of_zero_le (show 0 ≤ v by omega)
      have e : A.numIs most s = if (⟨(Lib.itoa (n : Int)).toArray⟩ : ByteArray) = s then #[.int .i64 n, .bool true] else #[.int .i64 0, .bool false] := by
        unfold A.numIs A.num
        rw [h]
        simp only []
        by_cases ht : (⟨(Lib.itoa (n : Int)).toArray⟩ : ByteArray) = s
        · rw [if_pos ht, if_pos ⟨by omega, by omega, ht⟩]; simp
        · rw [if_neg ht, if_neg (fun h => ht h.2.2)]
      rw [e]
      exact number_in s most n w hl L hm h (by omega)
  | «syntax» =>
    have e : A.numIs most s = #[.int .i64 0, .bool false] := by
      unfold A.numIs A.num
      rw [h]
    rw [e]
    exact number_syn s most w hl L h
  | range =>
    have e : A.numIs most s = #[.int .i64 0, .bool false] := by
      unfold A.numIs A.num
      rw [h]
    rw [e]
    exact number_ran s most w hl L h
#print axioms number_any
end Go.Proofs.YtlnmpibhjpedcaaDoor
