/- The walk of SegmentBent. -/
import Derived.Test.YtohemlejceiojaaSgBent
import Derived.Test.YtohemlejceiojaaSgAwake
import Derived.Test.YtohemlejceiojaaSgEncodes
namespace Go.Proofs.Ytohemlejceiojaa
open Go.RowKit
set_option linter.unusedVariables false
set_option maxRecDepth 100000

set_option maxHeartbeats 800000 in
theorem sbent_long (u : Bool) (src dst sp dp sq ak fl wi at_ : Int) (d : ByteArray) (w : World) (hd : 1000 < d.size) :
    Calls Try.prog 4 #[.bool u, .int .u32 src, .int .u32 dst, sg sp dp sq ak fl wi d, .int .u16 at_] w fun e w' => e = .returned (.bool true) ∧ Below w.heap.size w w' := by
  have HA := Lib.hid seg_awake
  have hb0 : Below w.heap.size w (w.alloc (sgO sp dp sq ak fl wi d)) := (Below.refl _ w).alloc (Nat.le_refl _) _
  have i1 : (1000 : Int) < (d.size : Int) := by omega
  go_enter Try.func4, Try.ntmps4
  go_wp2_with fail
  refine (HA.out _).mono ?_
  rintro e w1 ⟨rfl, hb1⟩
  clear HA
  go_wp2
  go_ret
  exact ⟨rfl, hb0.trans (hb1.mono (by simp))⟩

set_option maxHeartbeats 800000 in
theorem sbent_no6 (src dst : Nat) (sp dp sq ak fl wi at_ : Int) (d : ByteArray) (w : World) (hd : ¬ 1000 < d.size) (hr : S.right 6 sp dp sq ak fl wi d.size = false) :
    Calls Try.prog 4 #[.bool false, .int .u32 src, .int .u32 dst, sg sp dp sq ak fl wi d, .int .u16 at_] w fun e w' => e = .returned (.bool true) ∧ Below w.heap.size w w' := by
  have HA := Lib.hid seg_awake
  have HE := Lib.hid (fun w => senc_bad 6 sp dp sq ak fl wi src dst d w (by omega) hr)
  have hb0 : Below w.heap.size w (w.alloc (sgO sp dp sq ak fl wi d)) := (Below.refl _ w).alloc (Nat.le_refl _) _
  have i1 : ¬ (1000 : Int) < (d.size : Int) := by omega
  clear hr
  go_enter Try.func4, Try.ntmps4
  go_wp2_with fail
  refine (HE.out _).mono ?_
  rintro e w1 ⟨rfl, hb1⟩
  have hb1w := hb0.trans (hb1.mono hb0.size)
  clear hb1 hb0 HE
  go_wp2_with fail
  refine (HA.out _).mono ?_
  rintro e w2 ⟨rfl, hb2⟩
  have hb2w := hb1w.trans (hb2.mono hb1w.size)
  clear hb2 hb1w HA
  go_wp2
  go_ret
  exact ⟨rfl, hb2w⟩
set_option maxHeartbeats 800000 in
theorem sbent_no17 (src dst : Nat) (sp dp sq ak fl wi at_ : Int) (d : ByteArray) (w : World) (hd : ¬ 1000 < d.size) (hr : S.right 17 sp dp 0 0 0 0 d.size = false) :
    Calls Try.prog 4 #[.bool true, .int .u32 src, .int .u32 dst, sg sp dp sq ak fl wi d, .int .u16 at_] w fun e w' => e = .returned (.bool true) ∧ Below w.heap.size w w' := by
  have HA := Lib.hid seg_awake
  have HE := Lib.hid (fun w => senc_bad 17 sp dp 0 0 0 0 src dst d w (by omega) hr)
  have hb0 : Below w.heap.size w (w.alloc (sgO sp dp 0 0 0 0 d)) := (Below.refl _ w).alloc (Nat.le_refl _) _
  have i1 : ¬ (1000 : Int) < (d.size : Int) := by omega
  clear hr
  go_enter Try.func4, Try.ntmps4
  go_wp2_with fail
  refine (HE.out _).mono ?_
  rintro e w1 ⟨rfl, hb1⟩
  have hb1w := hb0.trans (hb1.mono hb0.size)
  clear hb1 hb0 HE
  go_wp2_with fail
  refine (HA.out _).mono ?_
  rintro e w2 ⟨rfl, hb2⟩
  have hb2w := hb1w.trans (hb2.mono hb1w.size)
  clear hb2 hb1w HA
  go_wp2
  go_ret
  exact ⟨rfl, hb2w⟩
end Go.Proofs.Ytohemlejceiojaa
