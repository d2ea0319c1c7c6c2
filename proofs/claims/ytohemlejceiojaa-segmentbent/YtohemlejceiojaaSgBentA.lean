/- SegmentBent for every segment and every bit: the cases joined. -/
import Derived.Test.YtohemlejceiojaaSgBentO
import Derived.Test.YtohemlejceiojaaSgOpen
namespace Go.Proofs.Ytohemlejceiojaa
open Go.RowKit
set_option linter.unusedVariables false
set_option maxRecDepth 100000

theorem sbent_6 (src dst : Nat) (sp dp sq ak fl wi : Int) (at_ : Nat) (d : ByteArray) (w : World) (hsrc : src < 4294967296) (hdst : dst < 4294967296) (hsq : 0 ≤ sq ∧ sq < 4294967296) (hak : 0 ≤ ak ∧ ak < 4294967296) (hat : at_ < 65536) (h : ¬ 1000 < d.size) (hr : S.right 6 sp dp sq ak fl wi d.size = true) :
    Calls Try.prog 4 #[.bool false, .int .u32 src, .int .u32 dst, sg sp dp sq ak fl wi d, .int .u16 (at_ : Nat)] w fun e w' => e = .returned (.bool true) ∧ Below w.heap.size w w' := by
  have hlen : (S.enc 6 src dst sp dp sq ak fl wi d).length = 20 + d.size := by rw [enc_length]; rfl
  have hg := (S.enc_good 6 src dst sp dp sq ak fl wi d).resolve_right (fun h => h.1 rfl)
  have HE := Lib.hid (fun w => senc_yes 6 sp dp sq ak fl wi src dst d w hsrc hdst hsq hak hr)
  generalize S.enc 6 src dst sp dp sq ak fl wi d = L at *
  have hK : at_ % (8 * L.length) < 8 * L.length := Nat.mod_lt _ (by omega)
  have hj : at_ % (8 * L.length) / 8 < L.length := by omega
  have hb : at_ % (8 * L.length) % 8 < 8 := by omega
  have hne : ¬ S.perr 6 src dst (H.turn L (at_ % (8 * L.length) / 8) (at_ % (8 * L.length) % 8)) = 0 := fun e => absurd (S.perr_bent 6 src dst L _ _ hj hb hg e).1 (by decide)
  refine sbent_err6 src dst sp dp sq ak fl wi at_ d w h hat (ba L) L.length (ba_size L) (by omega) (by omega) (S.perr 6 src dst (H.turn L (at_ % (8 * L.length) / 8) (at_ % (8 * L.length) % 8))) (by omega) HE (Lib.hid fun w' => ?_)
  have hq := sparse_any 6 src dst (H.turn L (at_ % (8 * L.length) / 8) (at_ % (8 * L.length) % 8)) w' (by rw [H.turn_length]; omega) hsrc hdst
  unfold S.parsed at hq
  rw [if_neg hne] at hq
  exact hq

theorem sbent_17 (src dst : Nat) (sp dp sq ak fl wi : Int) (at_ : Nat) (d : ByteArray) (w : World) (hsrc : src < 4294967296) (hdst : dst < 4294967296) (hat : at_ < 65536) (h : ¬ 1000 < d.size) (hr : S.right 17 sp dp 0 0 0 0 d.size = true) :
    Calls Try.prog 4 #[.bool true, .int .u32 src, .int .u32 dst, sg sp dp sq ak fl wi d, .int .u16 (at_ : Nat)] w fun e w' => e = .returned (.bool true) ∧ Below w.heap.size w w' := by
  have hlen : (S.enc 17 src dst sp dp 0 0 0 0 d).length = 8 + d.size := by rw [enc_length]; rfl
  have hg := (S.enc_good 17 src dst sp dp 0 0 0 0 d).resolve_right (fun h => h.2 rfl)
  have HE := Lib.hid (fun w => senc_yes 17 sp dp 0 0 0 0 src dst d w hsrc hdst (by omega) (by omega) hr)
  generalize S.enc 17 src dst sp dp 0 0 0 0 d = L at *
  have hK : at_ % (8 * L.length) < 8 * L.length := Nat.mod_lt _ (by omega)
  have hj : at_ % (8 * L.length) / 8 < L.length := by omega
  have hb : at_ % (8 * L.length) % 8 < 8 := by omega
  have hq := Lib.hid (fun w' => sparse_any 17 src dst (H.turn L (at_ % (8 * L.length) / 8) (at_ % (8 * L.length) % 8)) w' (by rw [H.turn_length]; omega) hsrc hdst)
  by_cases hne : S.perr 17 src dst (H.turn L (at_ % (8 * L.length) / 8) (at_ % (8 * L.length) % 8)) = 0
  · have hs := (S.perr_bent 17 src dst L _ _ hj hb hg hne).2
    obtain ⟨a, b, c, e, f, g, yd, _, hsg⟩ := cs_pc 17 (H.turn L (at_ % (8 * L.length) / 8) (at_ % (8 * L.length) % 8))
    unfold S.parsed at hq
    rw [hne, if_pos rfl, hsg] at hq
    have hs' : 256 * ((H.turn L (at_ % (8 * L.length) / 8) (at_ % (8 * L.length) % 8)).getD 6 0).toNat + ((H.turn L (at_ % (8 * L.length) / 8) (at_ % (8 * L.length) % 8)).getD 7 0).toNat = 0 := hs
    exact sbent_ok17 src dst sp dp sq ak fl wi at_ d w h hat (ba L) L.length (ba_size L) (by omega) (by omega) a b c e f g yd (by rw [ba_list]; omega) (by rw [ba_list]; omega) HE hq
  · refine sbent_err17 src dst sp dp sq ak fl wi at_ d w h hat (ba L) L.length (ba_size L) (by omega) (by omega) (S.perr 17 src dst (H.turn L (at_ % (8 * L.length) / 8) (at_ % (8 * L.length) % 8))) (by omega) HE ?_
    unfold S.parsed at hq
    rw [if_neg hne] at hq
    exact hq

theorem sbent_all (u : Bool) (src dst sp dp sq ak fl wi az : Int) (d : ByteArray) (hsrc : 0 ≤ src ∧ src < 4294967296) (hdst : 0 ≤ dst ∧ dst < 4294967296) (hsq : 0 ≤ sq ∧ sq < 4294967296) (hak : 0 ≤ ak ∧ ak < 4294967296) (hat : 0 ≤ az ∧ az < 65536) (w : World) :
    Calls Try.prog 4 #[.bool u, .int .u32 src, .int .u32 dst, sg sp dp sq ak fl wi d, .int .u16 az] w fun e w' => e = .returned (.bool true) ∧ Below w.heap.size w w' := by
  obtain ⟨src, rfl⟩ : ∃ n : Nat, src = n := ⟨src.toNat, by omega⟩
  obtain ⟨dst, rfl⟩ : ∃ n : Nat, dst = n := ⟨dst.toNat, by omega⟩
  obtain ⟨at_, rfl⟩ : ∃ n : Nat, az = n := ⟨az.toNat, by omega⟩
  by_cases h : 1000 < d.size
  · exact sbent_long u src dst sp dp sq ak fl wi at_ d w h
  · cases u
    · cases hr : S.right 6 sp dp sq ak fl wi d.size
      · exact sbent_no6 src dst sp dp sq ak fl wi at_ d w h hr
      · exact sbent_6 src dst sp dp sq ak fl wi at_ d w (by omega) (by omega) hsq hak (by omega) h hr
    · cases hr : S.right 17 sp dp 0 0 0 0 d.size
      · exact sbent_no17 src dst sp dp sq ak fl wi at_ d w h hr
      · exact sbent_17 src dst sp dp sq ak fl wi at_ d w (by omega) (by omega) (by omega) h hr
open Go.ChangeShapes Go.WideShapes Go.ChangeAt Go.Deep in
theorem sg_u16 {n : Int} (h : (Lit.int .u16 n).wf = true) : 0 ≤ n ∧ n < 65536 := by
  have := bounds_u16 h
  omega
#print axioms sbent_all
end Go.Proofs.Ytohemlejceiojaa
