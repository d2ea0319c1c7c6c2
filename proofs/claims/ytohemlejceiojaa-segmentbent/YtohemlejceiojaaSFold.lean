/- The walk of the function that brings carries round. -/
import Derived.Test.YtohemlejceiojaaRows
import Derived.Test.YtohemlejceiojaaSMath
import Derived.WalkKit
import Derived.WalkSpells
import Derived.WalkSmall
import Derived.Lib.Hide
namespace Go.Proofs.Ytohemlejceiojaa
open Go.RowKit

theorem and_low (k : Nat) (h : k < 4611686018427387904) : bits BinOp.and IntKind.u64 (k : Int) 65535 = (k : Int) % 65536 := by
  have h1 := bits_and_u64_nat k 65535 (by omega) (by omega)
  have e : k &&& 65535 = k % 65536 := Nat.and_two_pow_sub_one_eq_mod k 16
  rw [e] at h1
  exact h1.trans (by omega)

theorem ret_int {k : IntKind} {a b : Int} (h : a = b) : Ending.returned (.int k a) = .returned (.int k b) := by rw [h]

set_option maxHeartbeats 400000 in
theorem fold_any (n : Nat) (w : World) (hn : n < 4611686018427387904) :
    Calls Try.prog 44 #[.int .u64 n] w fun e w' => e = .returned (.int .i64 (M.fold n)) ∧ w = w' := by
  go_enter Try.func44, Try.ntmps44
  go_wp2
  go_loop [0] (fun x => ∃ k : Nat, k ≤ n ∧ x = .int .u64 k ∧ M.fold k = M.fold n) (fun x => (intOf x).toNat)
  case atStart => exact ⟨n, Nat.le_refl _, rfl, rfl⟩
  case round =>
    obtain ⟨k, hk, rfl, hf⟩ := hrel
    have Hf := Lib.hid hf
    clear hf
    have hb := and_low k (by omega)
    by_cases hlt : 65535 < k
    · go_wp2
      clear hb
      go_round
      case rel => exact ⟨k / 65536 + k % 65536, by omega, by go_num, by rw [M.fold_step k hlt]; exact Hf.out⟩
      case measure => simp [intOf]; omega
    · go_wp2
      go_ret
      exact ⟨ret_int (by rw [← Hf.out, M.fold_small k (by omega)]), rfl⟩
#print axioms fold_any
end Go.Proofs.Ytohemlejceiojaa
