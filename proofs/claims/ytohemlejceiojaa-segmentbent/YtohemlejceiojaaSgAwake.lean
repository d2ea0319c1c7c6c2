/- The walk of what the laws of segments ask first. -/
import Derived.Test.YtohemlejceiojaaSgLen
namespace Go.Proofs.Ytohemlejceiojaa
open Go.RowKit
set_option linter.unusedVariables false
set_option maxRecDepth 100000

theorem rightA : S.right 6 0 0 0 0 2 0 (⟨#[]⟩ : ByteArray).size = true := by
  have e : (⟨#[]⟩ : ByteArray).size = 0 := rfl
  rw [e]; unfold S.right; refine decide_eq_true ?_; unfold S.Right S.fits; omega
theorem rightB : S.right 17 0 0 0 0 0 0 (⟨#[97, 98]⟩ : ByteArray).size = true := by
  have e : (⟨#[97, 98]⟩ : ByteArray).size = 2 := rfl
  rw [e]; unfold S.right; refine decide_eq_true ?_; unfold S.Right S.fits; omega

theorem seg_awake (w : World) : Calls Try.prog 5 #[] w fun e w' => e = .returned (.bool true) ∧ Below w.heap.size w w' := by
  obtain ⟨A, hA, H1⟩ : ∃ A : ByteArray, A.size = 20 ∧ ∀ w, Calls Try.prog 6 #[.int .i64 6, .int .u32 1, .int .u32 2, sg 0 0 0 0 2 0 ⟨#[]⟩] w fun e w' => e = .returned (.tuple #[.string A, .int .i64 0]) ∧ Below w.heap.size w w' :=
    ⟨ba (S.enc 6 1 2 0 0 0 0 2 0 ⟨#[]⟩), (by rw [ba_size, enc_length]; rfl), fun w => senc_yes 6 0 0 0 0 2 0 1 2 ⟨#[]⟩ w (by omega) (by omega) (by omega) (by omega) rightA⟩
  obtain ⟨B, hB, H2⟩ : ∃ A : ByteArray, A.size = 10 ∧ ∀ w, Calls Try.prog 6 #[.int .i64 17, .int .u32 1, .int .u32 2, sg 0 0 0 0 0 0 ⟨#[97, 98]⟩] w fun e w' => e = .returned (.tuple #[.string A, .int .i64 0]) ∧ Below w.heap.size w w' :=
    ⟨ba (S.enc 17 1 2 0 0 0 0 0 0 ⟨#[97, 98]⟩), (by rw [ba_size, enc_length]; rfl), fun w => senc_yes 17 0 0 0 0 0 0 1 2 ⟨#[97, 98]⟩ w (by omega) (by omega) (by omega) (by omega) rightB⟩
  have H1 := Lib.hid H1
  have H2 := Lib.hid H2
  go_enter Try.func5, Try.ntmps5
  go_wp2_with fail
  refine (H1.out _).mono ?_
  rintro e w1 ⟨rfl, hb1⟩
  go_wp2_with fail
  refine (H2.out _).mono ?_
  rintro e w2 ⟨rfl, hb2⟩
  have hb := hb1.trans (hb2.mono hb1.size)
  clear hb1 hb2 H1 H2
  go_wp2
  go_ret
  exact ⟨rfl, hb⟩
#print axioms seg_awake
end Go.Proofs.Ytohemlejceiojaa
