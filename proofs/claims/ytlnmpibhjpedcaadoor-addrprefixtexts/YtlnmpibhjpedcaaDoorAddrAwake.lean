/- The walks of kinds and of the document's example. -/
import Derived.Test.YtlnmpibhjpedcaaDoorAddrPre
namespace Go.Proofs.YtlnmpibhjpedcaaDoor
open Go.RowKit

set_option maxHeartbeats 400000 in
theorem split_any (a : Nat) (w : World) (ha : a < 4294967296) :
    Calls Tryd.prog 27 #[.int .u32 a] w fun e w' => e = .returned (.agg #[.int .u8 ((a : Int) / 16777216), .int .u8 ((a : Int) / 65536 % 256), .int .u8 ((a : Int) / 256 % 256), .int .u8 ((a : Int) % 256)]) ∧ Below w.heap.size w w' := by
  go_enter Tryd.func27, Tryd.ntmps27
  go_wp2
  exact bodyPost_ret (v := .agg #[.int .u8 ((a : Int) / 16777216), .int .u8 ((a : Int) / 65536 % 256), .int .u8 ((a : Int) / 256 % 256), .int .u8 ((a : Int) % 256)]) (by simp [results, Tryd.results27, go_sem]) rfl ⟨rfl, (Below.refl _ _).alloc (Nat.le_refl _) _⟩

/-- An address's kind. -/
def A.kind (a : Nat) : Nat := if a < 16777216 then 0 else if 2130706432 ≤ a ∧ a < 2147483648 then 1 else if 3758096384 ≤ a ∧ a < 4026531840 then 2 else if 4026531840 ≤ a then 3 else 4

set_option maxHeartbeats 1000000 in
theorem kind_any (a : Nat) (w : World) (ha : a < 4294967296) :
    Calls Tryd.prog 12 #[.int .u32 a] w fun e w' => e = .returned (.int .i64 (A.kind a)) ∧ Below w.heap.size w w' := by
  have Ha := Lib.hid ha
  have hix : ∀ (w : World) (x0 x1 x2 x3 : Value), (Instr.index 49 (.agg #[x0, x1, x2, x3]) (.int .i64 0)).run Tryd.prog w = .ok x0 w := fun _ _ _ _ _ => by kernel_rfl
  generalize hf : (a : Int) / 16777216 = f
  generalize hk : ((A.kind a : Nat) : Int) = k
  have HK : Hid (k = if f = 0 then 0 else if f = 127 then 1 else if 240 ≤ f then 3 else if 224 ≤ f then 2 else 4) := by
    rw [← hk, ← hf]
    unfold A.kind
    show ((_ : Nat) : Int) = _
    repeat' split
    all_goals omega
  have hf1 : 0 ≤ f := by omega
  have hf2 : f < 256 := by omega
  have Hf := Lib.hid hf
  clear hk
  by_cases h0 : f = 0
  · have e : k = 0 := by rw [HK.out, if_pos h0]
    subst h0
    have He := Lib.hid e
    clear e
    go_enter Tryd.func12, Tryd.ntmps12
    go_wp2_with fail
    refine (split_any a _ Ha.out).mono ?_
    rintro e w1 ⟨rfl, hb⟩
    rw [Hf.out]
    generalize (.int .u8 ((a : Int) / 65536 % 256) : Value) = x1
    generalize (.int .u8 ((a : Int) / 256 % 256) : Value) = x2
    generalize (.int .u8 ((a : Int) % 256) : Value) = x3
    clear hf
    go_wp2
    go_ret
    exact ⟨by rw [He.out]; rfl, hb⟩
  · by_cases h1 : f = 127
    · have e : k = 1 := by rw [HK.out, if_neg h0, if_pos h1]
      subst h1
      have He := Lib.hid e
      clear e
      go_enter Tryd.func12, Tryd.ntmps12
      go_wp2_with fail
      refine (split_any a _ Ha.out).mono ?_
      rintro e w1 ⟨rfl, hb⟩
      rw [Hf.out]
      generalize (.int .u8 ((a : Int) / 65536 % 256) : Value) = x1
      generalize (.int .u8 ((a : Int) / 256 % 256) : Value) = x2
      generalize (.int .u8 ((a : Int) % 256) : Value) = x3
      clear hf
      go_wp2
      go_ret
      exact ⟨by rw [He.out]; rfl, hb⟩
    · by_cases h2 : 240 ≤ f
      · have e : k = 3 := by rw [HK.out, if_neg h0, if_neg h1, if_pos h2]
        have He := Lib.hid e
        clear e
        go_enter Tryd.func12, Tryd.ntmps12
        go_wp2_with fail
        refine (split_any a _ Ha.out).mono ?_
        rintro e w1 ⟨rfl, hb⟩
        rw [Hf.out]
        generalize (.int .u8 ((a : Int) / 65536 % 256) : Value) = x1
        generalize (.int .u8 ((a : Int) / 256 % 256) : Value) = x2
        generalize (.int .u8 ((a : Int) % 256) : Value) = x3
        clear hf
        go_wp2
        go_ret
        exact ⟨by rw [He.out]; rfl, hb⟩
      · by_cases h3 : 224 ≤ f
        · have e : k = 2 := by rw [HK.out, if_neg h0, if_neg h1, if_neg h2, if_pos h3]
          have He := Lib.hid e
          clear e
          go_enter Tryd.func12, Tryd.ntmps12
          go_wp2_with fail
          refine (split_any a _ Ha.out).mono ?_
          rintro e w1 ⟨rfl, hb⟩
          rw [Hf.out]
          generalize (.int .u8 ((a : Int) / 65536 % 256) : Value) = x1
          generalize (.int .u8 ((a : Int) / 256 % 256) : Value) = x2
          generalize (.int .u8 ((a : Int) % 256) : Value) = x3
          clear hf
          go_wp2
          go_ret
          exact ⟨by rw [He.out]; rfl, hb⟩
        · have e : k = 4 := by rw [HK.out, if_neg h0, if_neg h1, if_neg h2, if_neg h3]
          have He := Lib.hid e
          clear e
          go_enter Tryd.func12, Tryd.ntmps12
          go_wp2_with fail
          refine (split_any a _ Ha.out).mono ?_
          rintro e w1 ⟨rfl, hb⟩
          rw [Hf.out]
          generalize (.int .u8 ((a : Int) / 65536 % 256) : Value) = x1
          generalize (.int .u8 ((a : Int) / 256 % 256) : Value) = x2
          generalize (.int .u8 ((a : Int) % 256) : Value) = x3
          clear hf
          go_wp2
          go_ret
          exact ⟨by rw [He.out]; rfl, hb⟩

theorem s_prefix : A.prefixIs ⟨#[49, 48, 46, 49, 46, 48, 46, 48, 47, 49, 54]⟩ = #[.agg #[.int .u32 167837696, .int .i64 16], .bool true] := by
  have h : A.prefix ⟨#[49, 48, 46, 49, 46, 48, 46, 48, 47, 49, 54]⟩ = some (167837696, 16) := by kernel_rfl
  unfold A.prefixIs; rw [h]; rfl

theorem s_addr : A.parseIs ⟨#[49, 48, 46, 49, 46, 50, 46, 51]⟩ = #[.int .u32 167838211, .bool true] := by
  have h : A.parse ⟨#[49, 48, 46, 49, 46, 50, 46, 51]⟩ = some 167838211 := by kernel_rfl
  unfold A.parseIs; rw [h]; rfl

set_option maxHeartbeats 1000000 in
theorem awake_any (w : World) (L : Laid w) :
    Calls Tryd.prog 8 #[] w fun e w' => e = .returned (.bool true) ∧ Below w.heap.size w w' := by
  have HL := Lib.hid L
  clear L
  go_enter Tryd.func8, Tryd.ntmps8
  go_wp2_with fail
  refine (prefix_any ⟨#[49, 48, 46, 49, 46, 48, 46, 48, 47, 49, 54]⟩ _ (by decide) HL.out).mono ?_
  rintro e w1 ⟨rfl, hb1⟩
  rw [s_prefix]
  have K1 := Lib.hid hb1
  clear hb1
  go_wp2_with fail
  have k0 := K1.out.alloc K1.out.size (.cells #[.int .u32 167837696, .int .i64 16] 30)
  refine (parse_any ⟨#[49, 48, 46, 49, 46, 50, 46, 51]⟩ _ (by decide) (HL.out.below HL.out.size k0 k0.size)).mono ?_
  rintro e w2 ⟨rfl, hb2⟩
  rw [s_addr]
  have K2 := Lib.hid (k0.trans (hb2.mono k0.size))
  have b2 : w2.heap[w1.heap.size]? = some (.cells #[.int .u32 167837696, .int .i64 16] 30 (0, 0)) := by
    rw [hb2.block w1.heap.size (by simp)]; exact blk_new _ _
  obtain ⟨q0, q1, _, _⟩ := blk_facts b2
  clear hb2 k0 b2
  go_wp2_with fail
  refine (holds_any 167837696 16 167838211 _ (by decide)).mono ?_
  rintro e w3 ⟨rfl, hb3⟩
  rw [show A.holds 167837696 16 167838211 = true by kernel_rfl]
  have K3 := Lib.hid (K2.out.trans (hb3.mono K2.out.size))
  clear hb3 q0 q1
  go_wp2_with fail
  refine (kind_any 167838211 _ (by decide)).mono ?_
  rintro e w4 ⟨rfl, hb4⟩
  rw [show A.kind 167838211 = 4 by kernel_rfl]
  have K4 := Lib.hid (K3.out.trans (hb4.mono K3.out.size))
  clear hb4
  go_wp2
  go_ret
  exact ⟨rfl, K4.out⟩
#print axioms awake_any
end Go.Proofs.YtlnmpibhjpedcaaDoor
