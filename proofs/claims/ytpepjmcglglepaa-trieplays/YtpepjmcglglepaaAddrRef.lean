/- The walks of the document's own answers on prefixes and kinds. -/
import Derived.Test.YtpepjmcglglepaaAddrLow
import Derived.IntWalk
namespace Go.Proofs.Ytpepjmcglglepaa
open Go.RowKit

theorem and_one (x : Nat) (hx : x < 4294967296) : bits BinOp.and IntKind.u32 (x : Int) 1 = ((x % 2 : Nat) : Int) := by
  have h := and_u32 x 1 hx (by decide)
  rw [Nat.and_one_is_mod] at h
  exact h

theorem bit_int (a k : Nat) (ha : a < 4294967296) : bits BinOp.and IntKind.u32 ((a : Int) / 2 ^ (31 - k)) 1 = ((A.bit a k : Nat) : Int) := by
  have hd : a / 2 ^ (31 - k) < 4294967296 := Nat.lt_of_le_of_lt (Nat.div_le_self _ _) ha
  have e : (a : Int) / 2 ^ (31 - k) = ((a / 2 ^ (31 - k) : Nat) : Int) := by rw [Int.natCast_ediv]; simp
  rw [e, and_one _ hd]
  rfl

set_option maxHeartbeats 400000 in
theorem bit_any (a k : Nat) (w : World) (ha : a < 4294967296) (hk : k ≤ 31) :
    Calls Try.prog 24 #[.int .u32 a, .int .i64 k] w fun e w' => e = .returned (.int .i64 (A.bit a k)) ∧ w = w' := by
  have hl := A.bit_le a k
  have h1 := bit_int a k ha
  go_enter Try.func24, Try.ntmps24
  go_wp2
  go_ret
  exact ⟨rfl, rfl⟩

theorem low_one (p k : Nat) (hk : k < 32) (h : A.bit p k = 1) : p % 2 ^ (32 - k) ≠ 0 := by
  rw [A.low_step p k hk, h]
  have := Nat.two_pow_pos (31 - k)
  omega
theorem low_zero (p k : Nat) (hk : k < 32) (h : A.bit p k = 0) : p % 2 ^ (32 - k) = p % 2 ^ (32 - (k + 1)) := by
  rw [A.low_step p k hk, h, show 32 - (k + 1) = 31 - k by omega]
  omega
theorem high_mono (p a m n : Nat) (h : m ≤ n) (hn : n ≤ 32) (e : p / 2 ^ (32 - n) = a / 2 ^ (32 - n)) : p / 2 ^ (32 - m) = a / 2 ^ (32 - m) := by
  have hm : 2 ^ (32 - m) = 2 ^ (32 - n) * 2 ^ (n - m) := by rw [← Nat.pow_add]; congr 1; omega
  rw [hm, ← Nat.div_div_eq_div_mul, ← Nat.div_div_eq_div_mul, e]

set_option maxHeartbeats 1000000 in
theorem refright_any (p : Nat) (b : Int) (w : World) (hp : p < 4294967296) :
    Calls Try.prog 9 #[.agg #[.int .u32 p, .int .i64 b]] w fun e w' => e = .returned (.bool (A.right p b)) ∧ Below w.heap.size w w' := by
  by_cases h0 : b < 0
  · have H := Lib.hid (show A.right p b = false by unfold A.right; simp; omega)
    go_enter Try.func9, Try.ntmps9
    go_wp2
    go_ret
    exact ⟨by rw [H.out]; rfl, (Below.refl _ w).alloc (Nat.le_refl _) _⟩
  · by_cases h1 : 32 < b
    · have H := Lib.hid (show A.right p b = false by unfold A.right; simp; omega)
      go_enter Try.func9, Try.ntmps9
      go_wp2
      go_ret
      exact ⟨by rw [H.out]; rfl, (Below.refl _ w).alloc (Nat.le_refl _) _⟩
    · obtain ⟨n, rfl⟩ := Int.eq_ofNat_of_zero_le (show 0 ≤ b by omega)
      have hn : n ≤ 32 := by omega
      have H := Lib.hid (show A.right p (n : Int) = decide (p % 2 ^ (32 - n) = 0) by unfold A.right; simp; omega)
      go_enter Try.func9, Try.ntmps9
      go_wp2
      go_loop [3] (fun i => ∃ k : Nat, n ≤ k ∧ k ≤ 32 ∧ i = .int .i64 k ∧ Hid (p % 2 ^ (32 - n) = p % 2 ^ (32 - k))) (fun i => 32 - (intOf i).toNat)
      case atStart => exact ⟨n, Nat.le_refl _, hn, rfl, rfl⟩
      case round =>
        obtain ⟨k, hk1, hk2, rfl, hm⟩ := hrel
        by_cases hlt : k < 32
        · have hb := A.bit_le p k
          have Hp := Lib.hid hp
          by_cases h2 : A.bit p k = 1
          · have E := Lib.hid (show A.right p (n : Int) = false by rw [H.out, hm.out]; exact decide_eq_false (low_one p k hlt h2))
            go_wp2_with fail
            refine (bit_any p k _ Hp.out (by omega)).mono ?_
            rintro e w1 ⟨rfl, rfl⟩
            go_wp2
            go_ret
            exact ⟨by rw [E.out]; rfl, (Below.refl _ w).alloc (Nat.le_refl _) _⟩
          · have h3 : A.bit p k = 0 := by omega
            have hm2 := Lib.hid (hm.out.trans (low_zero p k hlt h3))
            clear h2
            go_wp2_with fail
            refine (bit_any p k _ Hp.out (by omega)).mono ?_
            rintro e w1 ⟨rfl, rfl⟩
            go_wp2
            go_round
            case rel => exact ⟨k + 1, by omega, by omega, by go_num, hm2⟩
            case measure => simp [intOf]; omega
        · have hk3 : k = 32 := by omega
          subst hk3
          have E := Lib.hid (show A.right p (n : Int) = true by rw [H.out, hm.out]; simp; omega)
          go_wp2
          go_ret
          exact ⟨by rw [E.out]; rfl, (Below.refl _ w).alloc (Nat.le_refl _) _⟩

set_option maxHeartbeats 1000000 in
theorem refholds_any (p : Nat) (b : Int) (a : Nat) (w : World) (hp : p < 4294967296) (ha : a < 4294967296) :
    Calls Try.prog 26 #[.agg #[.int .u32 p, .int .i64 b], .int .u32 a] w fun e w' => e = .returned (.bool (A.holds p b a)) ∧ Below w.heap.size w w' := by
  have Hp := Lib.hid hp
  have Ha := Lib.hid ha
  cases hr : A.right p b
  · have E := Lib.hid (show A.holds p b a = false by unfold A.holds; rw [hr]; rfl)
    have Hr := Lib.hid hr
    clear hr hp ha
    go_enter Try.func26, Try.ntmps26
    go_wp2_with fail
    refine (refright_any p b _ Hp.out).mono ?_
    rintro e w1 ⟨rfl, hb1⟩
    rw [Hr.out]
    go_wp2
    go_ret
    exact ⟨by rw [E.out]; rfl, ((Below.refl _ w).alloc (Nat.le_refl _) _).trans (hb1.mono (by simp))⟩
  · have hb : 0 ≤ b ∧ b ≤ 32 := by unfold A.right at hr; simp at hr; omega
    obtain ⟨n, rfl⟩ := Int.eq_ofNat_of_zero_le hb.1
    have hn : n ≤ 32 := by omega
    have H := Lib.hid (show A.holds p (n : Int) a = decide (p / 2 ^ (32 - n) = a / 2 ^ (32 - n)) by unfold A.holds; rw [hr]; simp)
    have Hr := Lib.hid hr
    have z1 := Lib.hid (show p / 2 ^ (32 - 0) = a / 2 ^ (32 - 0) by rw [Nat.div_eq_of_lt (by simpa using hp), Nat.div_eq_of_lt (by simpa using ha)])
    clear hr hp ha hb
    go_enter Try.func26, Try.ntmps26
    go_wp2_with fail
    refine (refright_any p n _ Hp.out).mono ?_
    rintro e w1 ⟨rfl, hb1⟩
    rw [Hr.out]
    have q0 := cell_kept (b := w.heap.size) (o := 0) (v := .int .u32 p) hb1 (by simp) (by simp)
    have q1 := cell_kept (b := w.heap.size) (o := 1) (v := .int .i64 n) hb1 (by simp) (by simp)
    have K1 := Lib.hid (((Below.refl _ w).alloc (Nat.le_refl _) _).trans (hb1.mono (by simp)))
    clear hb1
    go_wp2
    go_loop [5] (fun i => ∃ k : Nat, k ≤ n ∧ i = .int .i64 k ∧ Hid (p / 2 ^ (32 - k) = a / 2 ^ (32 - k))) (fun i => n - (intOf i).toNat)
    case atStart => exact ⟨0, Nat.zero_le _, rfl, z1⟩
    case round =>
      obtain ⟨k, hk, rfl, hm⟩ := hrel
      by_cases hlt : k < n
      · have hx := A.bit_le p k
        have hy := A.bit_le a k
        have hs := A.high_same p a k (by omega)
        have e31 : 32 - (k + 1) = 31 - k := by omega
        by_cases h2 : A.bit p k = A.bit a k
        · have hm2 := Lib.hid (show p / 2 ^ (32 - (k + 1)) = a / 2 ^ (32 - (k + 1)) by rw [e31]; exact hs.2 ⟨hm.out, h2⟩)
          generalize hbp : A.bit p k = bp at *
          generalize hba : A.bit a k = ba at *
          subst h2
          have Hbp := Lib.hid hbp
          have Hba := Lib.hid hba
          clear hs hbp hba e31 hx hy
          go_wp2_with fail
          refine (bit_any p k _ Hp.out (by omega)).mono ?_
          rintro e w2 ⟨rfl, rfl⟩
          rw [Hbp.out]
          go_wp2_with fail
          refine (bit_any a k _ Ha.out (by omega)).mono ?_
          rintro e w2 ⟨rfl, rfl⟩
          rw [Hba.out]
          go_wp2
          go_round
          case rel => exact ⟨k + 1, by omega, by go_num, hm2⟩
          case measure => simp [intOf]; omega
        · have E := Lib.hid (show A.holds p (n : Int) a = false by
            rw [H.out]
            apply decide_eq_false
            intro he
            have h3 := high_mono p a (k + 1) n (by omega) hn he
            rw [e31] at h3
            exact h2 (hs.1 h3).2)
          generalize hbp : A.bit p k = bp at *
          generalize hba : A.bit a k = ba at *
          have Hbp := Lib.hid hbp
          have Hba := Lib.hid hba
          have h4 : ((bp : Int) == (ba : Int)) = false := by rw [beq_eq_false_iff_ne]; omega
          clear hs hbp hba e31 hx hy
          go_wp2_with fail
          refine (bit_any p k _ Hp.out (by omega)).mono ?_
          rintro e w2 ⟨rfl, rfl⟩
          rw [Hbp.out]
          go_wp2_with fail
          refine (bit_any a k _ Ha.out (by omega)).mono ?_
          rintro e w2 ⟨rfl, rfl⟩
          rw [Hba.out]
          go_wp2
          go_ret
          exact ⟨by rw [E.out]; rfl, K1.out⟩
      · have hk3 : k = n := by omega
        subst hk3
        have E := Lib.hid (show A.holds p (k : Int) a = true by rw [H.out]; exact decide_eq_true hm.out)
        go_wp2
        go_ret
        exact ⟨by rw [E.out]; rfl, K1.out⟩

end Go.Proofs.Ytpepjmcglglepaa
