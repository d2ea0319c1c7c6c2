/- The walk from the root on, as a loop over it asks. -/
import Derived.Test.YtpepjmcglglepaaTrEach
import Derived.Test.YtpepjmcglglepaaRangeMv
namespace Go.Proofs.Ytpepjmcglglepaa
open Go.RowKit Go.Shelf
set_option maxRecDepth 100000
set_option linter.unusedVariables false
open R
attribute [local go_sem] Oper.semAt_some

set_option maxHeartbeats 2000000 in
theorem each_in (F : Fence) (hd : F.depth = none) (h30 : F.fn 27) (h34 : F.fn 31) (hro : F.round = none) (n l n₀ t : Nat) (st : St) (rs : List Rt) (pl : Nat → Nat → Option Nat) (hR : Rep st rs pl) (hf : Full pl rs 0 0) (J Jx : List Rt → World → Prop) (hJ : ∀ pre W W', J pre W → W.grownBy W' none → J pre W')
    (hY : ∀ pre x W, J pre W → pre.length < (R.walk st.nodes 33 0).length → YieldAt F (n - 1) Try.prog l #[Rt.agg x] W fun e W' => (e = .returned (.bool true) ∧ J (pre ++ [x]) W' ∧ KeepN n₀ W W') ∨ (e = .returned (.bool false) ∧ Jx (pre ++ [x]) W'))
    (W : World) (hn₀ : n₀ ≤ W.heap.size) (hT : TLow n₀ W t st.nodes) (h0 : J [] W) :
    CallsIn F n Try.prog 27 #[.pointer (some ⟨t, 0, none⟩), .func (.yield l) #[] #[]] W fun e W' => (∃ v, e = .returned v) ∧
      ((∃ xs, IsAll rs xs ∧ J xs W') ∨ (∃ pre, (∃ xs, IsAll rs xs ∧ pre <+: xs) ∧ Jx pre W')) := by
  have hall := walk_all hR hf
  have hdd : ∀ k : Nat, (F.depth.isSome = true → 1 ≤ k) := fun k h => by rw [hd] at h; cases h
  have hp := from_in F hd h34 hro l n₀ (R.walk st.nodes 33 0).length t st.nodes J Jx hJ (fun m pre x W hj hl => yield_any hd m (hY pre x W hj hl)) 33 0 (ok_of hR hf 33 0 0 0 (by omega) hR.root) (n - 1) [] W hn₀ hT h0 (by simp)
  refine callsIn_of_wp Try.func27 rfl h30 ?_ hro
  simp only [Try.ntmps27, List.size_toArray, List.length_cons, List.length_nil, Nat.reduceAdd, Nat.reduceSub, Array.replicate_succ, Array.replicate_zero, List.push_toArray, List.append_toArray, List.nil_append, List.cons_append]
  gi_wp2_with ((try refine ⟨hdd _, ?_⟩); gi_at_call 31; refine hp.mono ?_; clear hp; rintro e W1 (⟨rfl, hJ1, _⟩ | ⟨rfl, q, hq, hx⟩))
  · go_end0
    exact ⟨⟨_, rfl⟩, .inl ⟨_, hall, by simpa using hJ1⟩⟩
  · go_end0
    exact ⟨⟨_, rfl⟩, .inr ⟨q, ⟨_, hall, hq⟩, by simpa using hx⟩⟩
theorem each_yields (F : Fence) (hd : F.depth = none) (h30 : F.fn 27) (h34 : F.fn 31) (hro : F.round = none) (n n₀ t : Nat) (st : St) (rs : List Rt) (pl : Nat → Nat → Option Nat) (hR : Rep st rs pl) (hf : Full pl rs 0 0) (w : World) (hn₀ : n₀ ≤ w.heap.size) (hT : TLow n₀ w t st.nodes) :
    YieldsAll F n Try.prog 27 #[.pointer (some ⟨t, 0, none⟩)] (fun r : Rt => #[Rt.agg r]) (KeepN n₀) (IsAll rs) (R.walk st.nodes 33 0).length w := fun l J W hb hJ hY h0 => by
  refine (each_in F hd h30 h34 hro n l n₀ t st rs pl hR hf J (fun _ _ => False) (fun pre A B h hg => hJ pre A B none h hg (fun r e => by cases e)) (fun pre x W1 hj hl => YieldAt.mono (hY pre x W1 hj hl) fun e W' h => .inl h) W (Nat.le_trans hn₀ hb.size) (hT.below (hb.mono hn₀)) h0).mono ?_
  rintro e W' ⟨hv, h | ⟨_, _, h⟩⟩
  · exact ⟨hv, h⟩
  · exact h.elim
#print axioms each_yields
end Go.Proofs.Ytpepjmcglglepaa
