/- The walk of SegmentEncodes. -/
import Derived.Test.YtohemlejceiojaaSgRefEnc
import Derived.Test.YtohemlejceiojaaSgAwake
namespace Go.Proofs.Ytohemlejceiojaa
open Go.RowKit
set_option linter.unusedVariables false
set_option maxRecDepth 100000

set_option maxHeartbeats 800000 in
theorem encodes_long (p src dst sp dp sq ak fl wi : Int) (d : ByteArray) (w : World) (hd : (2000 < d.size ∧ d.size < 65000) ∨ 66000 < d.size) :
    Calls Try.prog 3 #[.int .i64 p, .int .u32 src, .int .u32 dst, sg sp dp sq ak fl wi d] w fun e w' => e = .returned (.bool true) ∧ Below w.heap.size w w' := by
  have HA := Lib.hid seg_awake
  have hb0 : Below w.heap.size w (w.alloc (sgO sp dp sq ak fl wi d)) := (Below.refl _ w).alloc (Nat.le_refl _) _
  by_cases h1 : 2000 < d.size
  · have i1 : (2000 : Int) < (d.size : Int) := by omega
    by_cases h2 : d.size < 65000
    · have i2 : (d.size : Int) < 65000 := by omega
      go_enter Try.func3, Try.ntmps3
      go_wp2_with fail
      refine (HA.out _).mono ?_
      rintro e w1 ⟨rfl, hb1⟩
      clear HA
      go_wp2
      go_ret
      exact ⟨rfl, hb0.trans (hb1.mono (by simp))⟩
    · have i2 : ¬ (d.size : Int) < 65000 := by omega
      have i3 : (66000 : Int) < (d.size : Int) := by omega
      go_enter Try.func3, Try.ntmps3
      go_wp2_with fail
      refine (HA.out _).mono ?_
      rintro e w1 ⟨rfl, hb1⟩
      clear HA
      go_wp2
      go_ret
      exact ⟨rfl, hb0.trans (hb1.mono (by simp))⟩
  · exact absurd hd (by omega)

set_option maxHeartbeats 800000 in
theorem encodes_no (p : Int) (src dst : Nat) (sp dp sq ak fl wi : Int) (d : ByteArray) (w : World) (h1 : ¬ 2000 < d.size ∨ ¬ d.size < 65000) (h2 : ¬ 66000 < d.size) (hr : S.right p sp dp sq ak fl wi d.size = false) :
    Calls Try.prog 3 #[.int .i64 p, .int .u32 src, .int .u32 dst, sg sp dp sq ak fl wi d] w fun e w' => e = .returned (.bool true) ∧ Below w.heap.size w w' := by
  have HA := Lib.hid seg_awake
  have HE := Lib.hid (fun w => senc_bad p sp dp sq ak fl wi src dst d w (by omega) hr)
  have HR := Lib.hid (fun w => refsright_any p sp dp sq ak fl wi d w (by omega) false hr.symm)
  have HS := Lib.hid (fun w => sright_any p sp dp sq ak fl wi d w (by omega) false hr.symm)
  clear hr
  have hb0 : Below w.heap.size w (w.alloc (sgO sp dp sq ak fl wi d)) := (Below.refl _ w).alloc (Nat.le_refl _) _
  have hc0 : (w.alloc (sgO sp dp sq ak fl wi d)).heap[w.heap.size]? = some (sgO sp dp sq ak fl wi d) := heap_alloc_new w _
  have i2 : ¬ (66000 : Int) < (d.size : Int) := by omega
  by_cases hh : 2000 < d.size
  all_goals
    first | (have i0 : (2000 : Int) < (d.size : Int) := by omega) | (have i0 : ¬ (2000 : Int) < (d.size : Int) := by omega)
    first | (have i1 : ¬ (d.size : Int) < 65000 := by omega) | skip
    clear h1 h2 hh
    go_enter Try.func3, Try.ntmps3
    go_wp2_with fail
    refine (HE.out _).mono ?_
    rintro e1 w1 ⟨rfl, hb1⟩
    have hc1 := (hb1.block _ (lt_of_block hc0)).trans hc0
    have hbw1 : Below w.heap.size w w1 := hb0.trans (hb1.mono (by simp))
    clear hb1 hb0 hc0 HE
    have k0 := rsg hc1 0 _ rfl
    have k1 := rsg hc1 1 _ rfl
    have k2 := rsg hc1 2 _ rfl
    have k3 := rsg hc1 3 _ rfl
    have k4 := rsg hc1 4 _ rfl
    have k5 := rsg hc1 5 _ rfl
    have k6 := rsg hc1 6 _ rfl
    go_wp2_with fail
    refine (HR.out _).mono ?_
    rintro e2 w2 ⟨rfl, hb2⟩
    have hc2 := (hb2.block _ (lt_of_block hc1)).trans hc1
    have hbw2 := hbw1.trans (hb2.mono hbw1.size)
    clear hb2 hc1 hbw1 HR k0 k1 k2 k3 k4 k5 k6
    have k0 := rsg hc2 0 _ rfl
    have k1 := rsg hc2 1 _ rfl
    have k2 := rsg hc2 2 _ rfl
    have k3 := rsg hc2 3 _ rfl
    have k4 := rsg hc2 4 _ rfl
    have k5 := rsg hc2 5 _ rfl
    have k6 := rsg hc2 6 _ rfl
    go_wp2_with fail
    refine (HS.out _).mono ?_
    rintro e3 w3 ⟨rfl, hb3⟩
    have hc3 := (hb3.block _ (lt_of_block hc2)).trans hc2
    have hbw3 := hbw2.trans (hb3.mono hbw2.size)
    clear hb3 hc2 hbw2 HS k0 k1 k2 k3 k4 k5 k6
    have k0 := rsg hc3 0 _ rfl
    have k1 := rsg hc3 1 _ rfl
    have k2 := rsg hc3 2 _ rfl
    have k3 := rsg hc3 3 _ rfl
    have k4 := rsg hc3 4 _ rfl
    have k5 := rsg hc3 5 _ rfl
    have k6 := rsg hc3 6 _ rfl
    go_wp2_with fail
    refine (HA.out _).mono ?_
    rintro e9 w9 ⟨rfl, hb9⟩
    have hbw9 := hbw3.trans (hb9.mono hbw3.size)
    clear hb9 hbw3
    go_wp2
    go_ret
    exact ⟨rfl, hbw9⟩

theorem renc_any (p sp dp sq ak fl wi : Int) (src dst : Nat) (d : ByteArray) (w : World) (hsrc : src < 4294967296) (hdst : dst < 4294967296) (hsq : 0 ≤ sq ∧ sq < 4294967296) (hak : 0 ≤ ak ∧ ak < 4294967296) (hr : S.right p sp dp sq ak fl wi d.size = true) :
    Calls Try.prog 10 #[.int .i64 p, .int .u32 src, .int .u32 dst, sg sp dp sq ak fl wi d] w fun e w' => e = .returned (.string (ba (S.enc p src dst sp dp sq ak fl wi d))) ∧ Below w.heap.size w w' := by
  have hr' : S.Right p sp dp sq ak fl wi d.size := of_decide_eq_true hr
  have hp : p = 6 ∨ p = 17 := by unfold S.Right at hr'; omega
  unfold S.Right S.fits at hr'
  obtain ⟨a1, rfl⟩ : ∃ n : Nat, sp = n := ⟨sp.toNat, by omega⟩
  obtain ⟨a2, rfl⟩ : ∃ n : Nat, dp = n := ⟨dp.toNat, by omega⟩
  obtain ⟨a3, rfl⟩ : ∃ n : Nat, sq = n := ⟨sq.toNat, by omega⟩
  obtain ⟨a4, rfl⟩ : ∃ n : Nat, ak = n := ⟨ak.toNat, by omega⟩
  rcases hp with rfl | rfl
  · obtain ⟨a5, rfl⟩ : ∃ n : Nat, fl = n := ⟨fl.toNat, by omega⟩
    obtain ⟨a6, rfl⟩ : ∃ n : Nat, wi = n := ⟨wi.toNat, by omega⟩
    unfold S.enc
    rw [if_pos rfl]
    simp only [Int.toNat_natCast]
    exact renc6 src dst a1 a2 a3 a4 a5 a6 d w hsrc hdst (by omega) (by omega) (by omega) (by omega) (by omega) (by omega) (by omega)
  · obtain ⟨e1, e2, e3, e4⟩ : (a3 : Int) = 0 ∧ (a4 : Int) = 0 ∧ fl = 0 ∧ wi = 0 := by omega
    unfold S.enc
    rw [if_neg (by decide), e1, e2, e3, e4]
    simp only [Int.toNat_natCast]
    exact renc17 src dst a1 a2 d w hsrc hdst (by omega) (by omega) (by omega)

set_option maxHeartbeats 800000 in
theorem encodes_yes (p : Int) (src dst : Nat) (sp dp sq ak fl wi : Int) (d : ByteArray) (w : World) (hsrc : src < 4294967296) (hdst : dst < 4294967296) (hsq : 0 ≤ sq ∧ sq < 4294967296) (hak : 0 ≤ ak ∧ ak < 4294967296) (h1 : ¬ 2000 < d.size ∨ ¬ d.size < 65000) (h2 : ¬ 66000 < d.size) (hr : S.right p sp dp sq ak fl wi d.size = true) :
    Calls Try.prog 3 #[.int .i64 p, .int .u32 src, .int .u32 dst, sg sp dp sq ak fl wi d] w fun e w' => e = .returned (.bool true) ∧ Below w.heap.size w w' := by
  have HA := Lib.hid seg_awake
  have HE := Lib.hid (fun w => senc_yes p sp dp sq ak fl wi src dst d w hsrc hdst hsq hak hr)
  have HF := Lib.hid (fun w => renc_any p sp dp sq ak fl wi src dst d w hsrc hdst hsq hak hr)
  have HP := Lib.hid (fun w => sparse_any p src dst (S.enc p src dst sp dp sq ak fl wi d) w (by rw [enc_length]; split <;> omega) hsrc hdst)
  rw [S.back p sp dp sq ak fl wi src dst d hsq hak hr] at HP
  have HR := Lib.hid (fun w => refsright_any p sp dp sq ak fl wi d w (by omega) true hr.symm)
  have HS := Lib.hid (fun w => sright_any p sp dp sq ak fl wi d w (by omega) true hr.symm)
  clear hr hsq hak hsrc hdst
  generalize ba (S.enc p src dst sp dp sq ak fl wi d) = A at *
  have hb0 : Below w.heap.size w (w.alloc (sgO sp dp sq ak fl wi d)) := (Below.refl _ w).alloc (Nat.le_refl _) _
  have hc0 : (w.alloc (sgO sp dp sq ak fl wi d)).heap[w.heap.size]? = some (sgO sp dp sq ak fl wi d) := heap_alloc_new w _
  have i2 : ¬ (66000 : Int) < (d.size : Int) := by omega
  by_cases hh : 2000 < d.size
  all_goals
    first | (have i0 : (2000 : Int) < (d.size : Int) := by omega) | (have i0 : ¬ (2000 : Int) < (d.size : Int) := by omega)
    first | (have i1 : ¬ (d.size : Int) < 65000 := by omega) | skip
    clear h1 h2 hh
    go_enter Try.func3, Try.ntmps3
    go_wp2_with fail
    refine (HE.out _).mono ?_
    rintro e1 w1 ⟨rfl, hb1⟩
    have hc1 := (hb1.block _ (lt_of_block hc0)).trans hc0
    have hbw1 : Below w.heap.size w w1 := hb0.trans (hb1.mono (by simp))
    clear hb1 hb0 hc0 HE
    have k0 := rsg hc1 0 _ rfl
    have k1 := rsg hc1 1 _ rfl
    have k2 := rsg hc1 2 _ rfl
    have k3 := rsg hc1 3 _ rfl
    have k4 := rsg hc1 4 _ rfl
    have k5 := rsg hc1 5 _ rfl
    have k6 := rsg hc1 6 _ rfl
    go_wp2_with fail
    refine (HR.out _).mono ?_
    rintro e2 w2 ⟨rfl, hb2⟩
    have hc2 := (hb2.block _ (lt_of_block hc1)).trans hc1
    have hbw2 := hbw1.trans (hb2.mono hbw1.size)
    clear hb2 hc1 hbw1 HR k0 k1 k2 k3 k4 k5 k6
    have k0 := rsg hc2 0 _ rfl
    have k1 := rsg hc2 1 _ rfl
    have k2 := rsg hc2 2 _ rfl
    have k3 := rsg hc2 3 _ rfl
    have k4 := rsg hc2 4 _ rfl
    have k5 := rsg hc2 5 _ rfl
    have k6 := rsg hc2 6 _ rfl
    go_wp2_with fail
    refine (HP.out _).mono ?_
    rintro e3 w3 ⟨rfl, hb3⟩
    have hc3 := (hb3.block _ (lt_of_block hc2)).trans hc2
    have hbw3 := hbw2.trans (hb3.mono hbw2.size)
    clear hb3 hc2 hbw2 HP k0 k1 k2 k3 k4 k5 k6
    have k0 := rsg hc3 0 _ rfl
    have k1 := rsg hc3 1 _ rfl
    have k2 := rsg hc3 2 _ rfl
    have k3 := rsg hc3 3 _ rfl
    have k4 := rsg hc3 4 _ rfl
    have k5 := rsg hc3 5 _ rfl
    have k6 := rsg hc3 6 _ rfl
    clear k0 k1 k2 k3 k4 k5 k6
    have hc3' : (w3.alloc (.cells #[.int .i64 sp, .int .i64 dp, .int .u32 sq, .int .u32 ak, .int .i64 fl, .int .i64 wi, .string d] 24)).heap[w.heap.size]? = some (sgO sp dp sq ak fl wi d) := (Below.heap_alloc w3 _ _ (lt_of_block hc3)).trans hc3
    have k0 := rsg hc3' 0 _ rfl
    have k1 := rsg hc3' 1 _ rfl
    have k2 := rsg hc3' 2 _ rfl
    have k3 := rsg hc3' 3 _ rfl
    have k4 := rsg hc3' 4 _ rfl
    have k5 := rsg hc3' 5 _ rfl
    have k6 := rsg hc3' 6 _ rfl
    have ht3 : (w3.alloc (.cells #[.int .i64 sp, .int .i64 dp, .int .u32 sq, .int .u32 ak, .int .i64 fl, .int .i64 wi, .string d] 24)).heap[w3.heap.size]? = some (sgO sp dp sq ak fl wi d) := heap_alloc_new w3 _
    have hbw3' : Below w.heap.size w (w3.alloc (.cells #[.int .i64 sp, .int .i64 dp, .int .u32 sq, .int .u32 ak, .int .i64 fl, .int .i64 wi, .string d] 24)) := hbw3.alloc hbw3.size _
    go_wp2_with fail
    refine (HF.out _).mono ?_
    rintro e4 w4 ⟨rfl, hb4⟩
    have hc4 := (hb4.block _ (lt_of_block hc3')).trans hc3'
    have ht4 := (hb4.block _ (lt_of_block ht3)).trans ht3
    have hbw4 := hbw3'.trans (hb4.mono hbw3'.size)
    clear hb4 hc3 hc3' ht3 hbw3 hbw3' HF k0 k1 k2 k3 k4 k5 k6
    have k0 := rsg hc4 0 _ rfl
    have k1 := rsg hc4 1 _ rfl
    have k2 := rsg hc4 2 _ rfl
    have k3 := rsg hc4 3 _ rfl
    have k4 := rsg hc4 4 _ rfl
    have k5 := rsg hc4 5 _ rfl
    have k6 := rsg hc4 6 _ rfl
    generalize w3.heap.size = B3 at *
    go_wp2_with fail
    refine (HS.out _).mono ?_
    rintro e5 w5 ⟨rfl, hb5⟩
    have hc5 := (hb5.block _ (lt_of_block hc4)).trans hc4
    have ht5 := (hb5.block _ (lt_of_block ht4)).trans ht4
    have hbw5 := hbw4.trans (hb5.mono hbw4.size)
    clear hb5 hc4 ht4 hbw4 HS k0 k1 k2 k3 k4 k5 k6
    have k0 := rsg hc5 0 _ rfl
    have k1 := rsg hc5 1 _ rfl
    have k2 := rsg hc5 2 _ rfl
    have k3 := rsg hc5 3 _ rfl
    have k4 := rsg hc5 4 _ rfl
    have k5 := rsg hc5 5 _ rfl
    have k6 := rsg hc5 6 _ rfl
    have j0 := rsg ht5 0 _ rfl
    have j1 := rsg ht5 1 _ rfl
    have j2 := rsg ht5 2 _ rfl
    have j3 := rsg ht5 3 _ rfl
    have j4 := rsg ht5 4 _ rfl
    have j5 := rsg ht5 5 _ rfl
    have j6 := rsg ht5 6 _ rfl
    go_wp2_with fail
    refine (HA.out _).mono ?_
    rintro e9 w9 ⟨rfl, hb9⟩
    have hbw9 := hbw5.trans (hb9.mono hbw5.size)
    clear hb9 hbw5
    go_wp2
    go_ret
    exact ⟨rfl, hbw9⟩

theorem encodes_all (p src dst sp dp sq ak fl wi : Int) (d : ByteArray) (hsrc : 0 ≤ src ∧ src < 4294967296) (hdst : 0 ≤ dst ∧ dst < 4294967296) (hsq : 0 ≤ sq ∧ sq < 4294967296) (hak : 0 ≤ ak ∧ ak < 4294967296) (w : World) :
    Calls Try.prog 3 #[.int .i64 p, .int .u32 src, .int .u32 dst, sg sp dp sq ak fl wi d] w fun e w' => e = .returned (.bool true) ∧ Below w.heap.size w w' := by
  obtain ⟨src, rfl⟩ : ∃ n : Nat, src = n := ⟨src.toNat, by omega⟩
  obtain ⟨dst, rfl⟩ : ∃ n : Nat, dst = n := ⟨dst.toNat, by omega⟩
  by_cases h : (2000 < d.size ∧ d.size < 65000) ∨ 66000 < d.size
  · exact encodes_long p src dst sp dp sq ak fl wi d w h
  · cases hr : S.right p sp dp sq ak fl wi d.size
    · exact encodes_no p src dst sp dp sq ak fl wi d w (by omega) (by omega) hr
    · exact encodes_yes p src dst sp dp sq ak fl wi d w (by omega) (by omega) (by omega) (by omega) (by omega) (by omega) hr
#print axioms encodes_all
end Go.Proofs.Ytohemlejceiojaa
