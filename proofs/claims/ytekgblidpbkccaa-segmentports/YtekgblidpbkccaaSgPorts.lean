/- The walk of SegmentPorts. -/
import Derived.Test.YtekgblidpbkccaaSgAwake
import Derived.Test.YtekgblidpbkccaaSgParse
namespace Go.Proofs.Ytekgblidpbkccaa
open Go.RowKit
set_option linter.unusedVariables false
set_option maxRecDepth 100000

theorem sports_enc (p sp dp sq ak fl wi : Int) (src dst : Nat) (d : ByteArray) (n : Nat) (w : World) (hd : d.size ≤ 1000) (hp : p = 6 ∨ p = 17) (hr : S.right p sp dp sq ak fl wi d.size = true) (hn : 8 ≤ n) (hn2 : n ≤ (S.enc p src dst sp dp sq ak fl wi d).length) :
    Calls Try.prog 14 #[.int .i64 p, .string ((ba (S.enc p src dst sp dp sq ak fl wi d)).extract 0 n)] w fun e w' => e = .returned (.tuple #[.int .i64 sp, .int .i64 dp, .bool true]) ∧ Below w.heap.size w w' := by
  have hr' : S.Right p sp dp sq ak fl wi d.size := of_decide_eq_true hr
  have h0 : 0 ≤ sp ∧ 0 ≤ dp ∧ sp ≤ 65535 ∧ dp ≤ 65535 := by unfold S.Right S.fits at hr'; omega
  have hl := enc_length p src dst sp dp sq ak fl wi d
  have hl2 : (S.enc p src dst sp dp sq ak fl wi d).length ≤ 2000 := by rw [hl]; split <;> omega
  rw [ba_take]
  have hlt : ((S.enc p src dst sp dp sq ak fl wi d).take n).length = n := by rw [List.length_take]; omega
  have h := sports_yes p ((S.enc p src dst sp dp sq ak fl wi d).take n) w (by omega) hp (by omega)
  obtain ⟨t, ht⟩ := enc_ports p src dst sp dp sq ak fl wi d
  have hq := ports_of sp.toNat dp.toNat t (by omega) (by omega) n (by omega)
  rw [← ht] at hq
  rw [hq.1, hq.2, show ((sp.toNat : Nat) : Int) = sp by omega, show ((dp.toNat : Nat) : Int) = dp by omega] at h
  exact h

set_option maxHeartbeats 2000000 in
theorem ports_tcp (src dst : Nat) (sp dp sq ak fl wi : Int) (d : ByteArray) (cut : Nat) (w : World) (hsrc : src < 4294967296) (hdst : dst < 4294967296) (hsq : 0 ≤ sq ∧ sq < 4294967296) (hak : 0 ≤ ak ∧ ak < 4294967296) (hc : cut < 256) (hd : d.size ≤ 1000) :
    Calls Try.prog 6 #[.bool false, .int .u32 src, .int .u32 dst, sg sp dp sq ak fl wi d, .int .u8 cut] w fun e w' => e = .returned (.bool true) ∧ Below w.heap.size w w' := by
  have HA := Lib.hid seg_awake
  have hb0 : Below w.heap.size w (w.alloc (sgO sp dp sq ak fl wi d)) := (Below.refl _ w).alloc (Nat.le_refl _) _
  cases hr : S.right 6 sp dp sq ak fl wi d.size
  · have HE := Lib.hid (fun w => senc_bad 6 sp dp sq ak fl wi src dst d w (by omega) hr)
    clear hr
    go_enter Try.func6, Try.ntmps6
    go_wp2_with fail
    refine (HE.out _).mono ?_
    rintro e w1 ⟨rfl, hb1⟩
    have hb1w := hb0.trans (hb1.mono hb0.size)
    clear HE hb0 hb1
    go_wp2_with fail
    refine (HA.out _).mono ?_
    rintro e w2 ⟨rfl, hb2⟩
    have hb2w := hb1w.trans (hb2.mono hb1w.size)
    clear HA hb1w hb2
    go_wp2
    go_ret
    exact ⟨rfl, hb2w⟩
  · have HE := Lib.hid (fun w => senc_yes 6 sp dp sq ak fl wi src dst d w hsrc hdst hsq hak hr)
    have HP := Lib.hid (fun n w => sports_enc 6 sp dp sq ak fl wi src dst d n w hd (.inl rfl) hr)
    have hl := enc_length 6 src dst sp dp sq ak fl wi d
    rw [if_pos rfl] at hl
    have hz := ba_size (S.enc 6 src dst sp dp sq ak fl wi d)
    clear hr
    generalize S.enc 6 src dst sp dp sq ak fl wi d = L at *
    go_enter Try.func6, Try.ntmps6
    go_wp2_with fail
    refine (HE.out _).mono ?_
    rintro e w1 ⟨rfl, hb1⟩
    have hb1w := hb0.trans (hb1.mono hb0.size)
    have c0 : w1.cell? ⟨w.heap.size, 0, none⟩ = some (.int .i64 sp) := (hb1.cell (p := ⟨w.heap.size, 0, none⟩) (by simp)).trans (by simp)
    have c1 : w1.cell? ⟨w.heap.size, 1, none⟩ = some (.int .i64 dp) := (hb1.cell (p := ⟨w.heap.size, 1, none⟩) (by simp)).trans (by simp)
    have hs1 : w.heap.size < w1.heap.size := by have := hb1.size; simp at this; omega
    clear HE hb0 hb1
    generalize ba L = B at *
    go_wp2_with fail
    all_goals
      first
        | (rw [show ((20 : Int) + (d.size : Int)).toNat = 20 + d.size by omega]; refine (HP.out (20 + d.size) _ (by omega) (by omega)).mono ?_)
        | (rw [show ((8 : Int) + (cut : Int)).toNat = 8 + cut by omega]; refine (HP.out (8 + cut) _ (by omega) (by omega)).mono ?_)
      rintro e w2 ⟨rfl, hb2⟩
      have k0 := (hb2.cell (p := ⟨w.heap.size, 0, none⟩) hs1).trans c0
      have k1 := (hb2.cell (p := ⟨w.heap.size, 1, none⟩) hs1).trans c1
      have hb2w := hb1w.trans (hb2.mono hb1w.size)
      clear c0 c1 hb2 hb1w HP
      go_wp2_with fail
      refine (HA.out _).mono ?_
      rintro e w3 ⟨rfl, hb3⟩
      have hb3w := hb2w.trans (hb3.mono hb2w.size)
      clear k0 k1 hb2w hb3
      go_wp2
      go_ret
      exact ⟨rfl, hb3w⟩

set_option maxHeartbeats 2000000 in
theorem ports_udp (src dst : Nat) (sp dp sq ak fl wi : Int) (d : ByteArray) (cut : Nat) (w : World) (hsrc : src < 4294967296) (hdst : dst < 4294967296) (hc : cut < 256) (hd : d.size ≤ 1000) :
    Calls Try.prog 6 #[.bool true, .int .u32 src, .int .u32 dst, sg sp dp sq ak fl wi d, .int .u8 cut] w fun e w' => e = .returned (.bool true) ∧ Below w.heap.size w w' := by
  have HA := Lib.hid seg_awake
  have hb0 : Below w.heap.size w (w.alloc (sgO sp dp sq ak fl wi d)) := (Below.refl _ w).alloc (Nat.le_refl _) _
  cases hr : S.right 17 sp dp 0 0 0 0 d.size
  · have HE := Lib.hid (fun w => senc_bad 17 sp dp 0 0 0 0 src dst d w (by omega) hr)
    clear hr
    go_enter Try.func6, Try.ntmps6
    go_wp2_with fail
    refine (HE.out _).mono ?_
    rintro e w1 ⟨rfl, hb1⟩
    have hb1w : Below w.heap.size w w1 := by
      refine Below.trans ?_ (hb1.mono ?_)
      · exact (Below.refl _ w).alloc (Nat.le_refl _) _
      · simp
    clear HE hb0 hb1
    go_wp2_with fail
    refine (HA.out _).mono ?_
    rintro e w2 ⟨rfl, hb2⟩
    have hb2w := hb1w.trans (hb2.mono hb1w.size)
    clear HA hb1w hb2
    go_wp2
    go_ret
    exact ⟨rfl, hb2w⟩
  · have HE := Lib.hid (fun w => senc_yes 17 sp dp 0 0 0 0 src dst d w hsrc hdst (by omega) (by omega) hr)
    have HP := Lib.hid (fun n w => sports_enc 17 sp dp 0 0 0 0 src dst d n w hd (.inr rfl) hr)
    have hl := enc_length 17 src dst sp dp 0 0 0 0 d
    rw [if_neg (by decide)] at hl
    have hz := ba_size (S.enc 17 src dst sp dp 0 0 0 0 d)
    clear hr
    generalize S.enc 17 src dst sp dp 0 0 0 0 d = L at *
    go_enter Try.func6, Try.ntmps6
    go_wp2_with fail
    refine (HE.out _).mono ?_
    rintro e w1 ⟨rfl, hb1⟩
    have hb1w : Below w.heap.size w w1 := by
      refine Below.trans ?_ (hb1.mono ?_)
      · exact (Below.refl _ w).alloc (Nat.le_refl _) _
      · simp
    have c0 : w1.cell? ⟨w.heap.size, 0, none⟩ = some (.int .i64 sp) := (hb1.cell (p := ⟨w.heap.size, 0, none⟩) (by simp)).trans (by first | (simp; done) | (simp [go_sem]; done))
    have c1 : w1.cell? ⟨w.heap.size, 1, none⟩ = some (.int .i64 dp) := (hb1.cell (p := ⟨w.heap.size, 1, none⟩) (by simp)).trans (by first | (simp; done) | (simp [go_sem]; done))
    have hs1 : w.heap.size < w1.heap.size := by have := hb1.size; simp at this; omega
    clear HE hb0 hb1
    generalize ba L = B at *
    go_wp2_with fail
    all_goals
      first
        | (rw [show ((8 : Int) + (d.size : Int)).toNat = 8 + d.size by omega]; refine (HP.out (8 + d.size) _ (by omega) (by omega)).mono ?_)
        | (rw [show ((8 : Int) + (cut : Int)).toNat = 8 + cut by omega]; refine (HP.out (8 + cut) _ (by omega) (by omega)).mono ?_)
      rintro e w2 ⟨rfl, hb2⟩
      have k0 := (hb2.cell (p := ⟨w.heap.size, 0, none⟩) hs1).trans c0
      have k1 := (hb2.cell (p := ⟨w.heap.size, 1, none⟩) hs1).trans c1
      have hb2w := hb1w.trans (hb2.mono hb1w.size)
      clear c0 c1 hb2 hb1w HP
      go_wp2_with fail
      refine (HA.out _).mono ?_
      rintro e w3 ⟨rfl, hb3⟩
      have hb3w := hb2w.trans (hb3.mono hb2w.size)
      clear k0 k1 hb2w hb3
      go_wp2
      go_ret
      exact ⟨rfl, hb3w⟩

theorem ports_long (u : Bool) (src dst : Int) (sp dp sq ak fl wi : Int) (d : ByteArray) (cut : Int) (w : World) (hd : 1000 < d.size) :
    Calls Try.prog 6 #[.bool u, .int .u32 src, .int .u32 dst, sg sp dp sq ak fl wi d, .int .u8 cut] w fun e w' => e = .returned (.bool true) ∧ Below w.heap.size w w' := by
  have HA := Lib.hid seg_awake
  have hb0 : Below w.heap.size w (w.alloc (sgO sp dp sq ak fl wi d)) := (Below.refl _ w).alloc (Nat.le_refl _) _
  have q1 : (1000 : Int) < (d.size : Int) := by omega
  go_enter Try.func6, Try.ntmps6
  go_wp2_with fail
  refine (HA.out _).mono ?_
  rintro e w1 ⟨rfl, hb1⟩
  have hb1w := hb0.trans (hb1.mono hb0.size)
  clear HA hb0 hb1
  go_wp2
  go_ret
  exact ⟨rfl, hb1w⟩

theorem ports_all (u : Bool) (src dst : Int) (sp dp sq ak fl wi : Int) (d : ByteArray) (cut : Int) (w : World) (hsrc : 0 ≤ src ∧ src < 4294967296) (hdst : 0 ≤ dst ∧ dst < 4294967296) (hsq : 0 ≤ sq ∧ sq < 4294967296) (hak : 0 ≤ ak ∧ ak < 4294967296) (hc : 0 ≤ cut ∧ cut < 256) :
    Calls Try.prog 6 #[.bool u, .int .u32 src, .int .u32 dst, sg sp dp sq ak fl wi d, .int .u8 cut] w fun e w' => e = .returned (.bool true) ∧ Below w.heap.size w w' := by
  by_cases hd : 1000 < d.size
  · exact ports_long u src dst sp dp sq ak fl wi d cut w hd
  · obtain ⟨s, rfl⟩ : ∃ n : Nat, src = n := ⟨src.toNat, by omega⟩
    obtain ⟨t, rfl⟩ : ∃ n : Nat, dst = n := ⟨dst.toNat, by omega⟩
    obtain ⟨c, rfl⟩ : ∃ n : Nat, cut = n := ⟨cut.toNat, by omega⟩
    cases u
    · exact ports_tcp s t sp dp sq ak fl wi d c w (by omega) (by omega) hsq hak (by omega) (by omega)
    · exact ports_udp s t sp dp sq ak fl wi d c w (by omega) (by omega) (by omega) (by omega)
#print axioms ports_all
end Go.Proofs.Ytekgblidpbkccaa
