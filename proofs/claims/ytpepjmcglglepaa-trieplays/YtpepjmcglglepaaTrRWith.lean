/- The document's answer: routes without the one at a place. -/
import Derived.Test.YtpepjmcglglepaaTrRNodes
namespace Go.Proofs.Ytpepjmcglglepaa
open Go.RowKit
set_option maxRecDepth 100000
set_option linter.unusedVariables false
open R

/-- Routes that lie in a row somewhere. -/
def RtsAt (w : World) (b off : Nat) (ks : List Rt) : Prop := ∀ k, k < ks.length → ∀ j v, (ks.getD k zR).v[j]? = some v → w.cell? ⟨b, off + k * 3 + j, none⟩ = some v
theorem RtsAt.below {w w' : World} {b off : Nat} {ks : List Rt} (h : RtsAt w b off ks) (hb : b < w.heap.size) (hB : Below w.heap.size w w') : RtsAt w' b off ks := fun k hk j v hv => (hB.cell (p := ⟨b, _, none⟩) hb).trans (h k hk j v hv)
theorem routesX_one (ks : List Rt) : ∀ u ∈ routesX ks, u.oneCell' = true := fun u hu => by
  unfold routesX at hu
  obtain ⟨r, _, h⟩ := List.mem_flatMap.1 hu
  revert h
  show u ∈ [_, _, _] → _
  simp only [List.mem_cons, List.not_mem_nil, or_false]
  rintro (rfl | rfl | rfl) <;> rfl
theorem append_routes (base : Nat) (ao : Option Addr) (cap : Nat) (rs ks : List Rt) (w : World) (h : RtOwn base ao cap rs w) (b off c : Nat) (hk : RtsAt w b off ks) (ty : TypeId) (hl : rs.length ≤ 1000) (hkl : ks.length ≤ 1000) (hb : base ≤ w.heap.size) :
    ∃ ao' cap' w', (Builtin.append_ #[26, 26] ty #[.slice ao rs.length cap, .slice (some ⟨b, off, none⟩) ks.length c]).run Try.prog w = .ok (.slice ao' (rs ++ ks).length cap') w' ∧ RtOwn base ao' cap' (rs ++ ks) w' ∧ w.grownBy w' (Value.ownBlock (.slice ao rs.length cap)) := by
  obtain ⟨i, hi, hz0, hz1, hz2⟩ := parts_of Try.info_route
  have hown : w.ownsRow base 31 i.size (.slice ao rs.length cap) rs.length (routesX rs) := by rw [hz1]; exact h
  have hsrc : Src Try.prog i.size 26 (.slice (Option.some ⟨b, off, none⟩) ks.length c) ks.length (routesX ks) w := by
    rw [hz1]
    refine Src.ofSlice w Try.underlying26 ⟨b, off, none⟩ ks.length c _ (routesX_len ks) (fun j u hj => ?_) (routesX_one ks)
    rw [Addr.add_lit]
    have hj2 : j < ks.length * 3 := by rw [← routesX_len]; exact (List.getElem?_eq_some_iff.1 hj).1
    have e : j / 3 * 3 + j % 3 = j := by omega
    have := hk (j / 3) (by omega) (j % 3) u (by rw [← routesX_at ks (j / 3) (j % 3) (by omega) (by omega), e]; exact hj)
    rw [show off + j / 3 * 3 + j % 3 = off + j by omega] at this
    exact this
  obtain ⟨v', w', hr', ho, hg, _⟩ := append_own_src2 (P := Try.prog) w base 26 26 ty 31 i _ Try.underlying26 hi hz0 (by rw [hz1]; rfl) _ _ _ hown _ ks.length _ hsrc (by unfold maxLen; omega) (by rw [hz2]; have : (rs.length + ks.length) * 24 ≤ 2000 * 24 := Nat.mul_le_mul (by omega) (Nat.le_refl _); omega) hb
  have hlen : (rs ++ ks).length = rs.length + ks.length := List.length_append
  have hx : routesX (rs ++ ks) = routesX rs ++ routesX ks := by simp [routesX]
  rw [hz1, ← hx, ← hlen] at ho
  rcases ho.2 with ⟨hv, h0⟩ | ⟨g, cap', cur, hv, rest⟩
  · subst hv
    rw [hlen] at h0
    refine ⟨none, 0, w', by rw [hlen, h0]; exact hr', ?_, hg⟩
    show Own base _ 3 none 0 (rs ++ ks).length (routesX (rs ++ ks)) w'
    have : (Value.slice none (rs ++ ks).length 0) = Value.slice none 0 0 := by rw [hlen, h0]
    unfold Own
    rw [this]
    exact ho
  · subst hv
    exact ⟨_, cap', w', hr', ho, hg⟩
theorem ret_slice {a : Option Addr} {n m c : Nat} (h : n = m) : Ending.returned (.slice a n c) = .returned (.slice a m c) := by rw [h]
def R.without (l : List Rt) (n : Nat) : List Rt := l.take n ++ l.drop (n + 1)

set_option maxHeartbeats 4000000 in
theorem RWithout_any (ao : Option Addr) (cap : Nat) (l : List Rt) (n : Nat) (w : World) (hrow : RtRow w ao l) (hl : l.length ≤ 1000) (hcap : l.length ≤ cap) (hn : n < l.length) :
    Calls Try.prog 11 #[.slice ao l.length cap, .int .i64 n] w fun e w' => ∃ ao' cap', e = .returned (.slice ao' (R.without l n).length cap') ∧ RtOwn w.heap.size ao' cap' (R.without l n) w' ∧ Below w.heap.size w w' := by
  obtain ⟨b, off, rfl, hbl, hcs⟩ := hrow (by omega)
  have h1 : RtsAt w b off (l.take n) := fun k hk j v hv => hcs k (by rw [List.length_take] at hk; omega) j v (by
    rw [List.length_take] at hk
    rw [← hv, List.getD_eq_getElem?_getD, List.getD_eq_getElem?_getD, List.getElem?_take, if_pos (by omega)])
  have h2 : RtsAt w b (off + (n + 1) * 3) (l.drop (n + 1)) := fun k hk j v hv => by
    rw [List.length_drop] at hk
    have := hcs (n + 1 + k) (by omega) j v (by rw [← hv, List.getD_eq_getElem?_getD, List.getD_eq_getElem?_getD, List.getElem?_drop])
    rw [show off + (n + 1) * 3 + k * 3 + j = off + (n + 1 + k) * 3 + j by omega]
    exact this
  have e1 : (l.take n).length = n := by rw [List.length_take]; omega
  have e2 : (l.drop (n + 1)).length = l.length - (n + 1) := List.length_drop
  have hn1 : (n : Int) ≤ (cap : Int) := by omega
  have hn2 : (n : Int) + 1 ≤ (l.length : Int) := by omega
  have HN0 : Hid (RtOwn w.heap.size none 0 [] w) := Lib.hid (World.ownsRow_nil w w.heap.size 31 3)
  obtain ⟨a1, c1, w1, hr1, ho1, hg1⟩ := append_routes w.heap.size none 0 [] (l.take n) w HN0.out b off cap h1 26 (by simp) (by omega) (Nat.le_refl _)
  have hb1 : Below w.heap.size w w1 := ⟨hg1.os, hg1.tape, hg1.output, hg1.size, fun k hk => hg1.block k hk (by simp [Value.ownBlock])⟩
  rw [List.nil_append] at ho1 hr1
  obtain ⟨off2, ho2⟩ : ∃ off2, off2 = if cap = n + 1 then off else off + (n + 1) * 3 := ⟨_, rfl⟩
  have h3 : RtsAt w1 b off2 (l.drop (n + 1)) := by
    rw [ho2]
    split
    · intro k hk
      rw [e2] at hk
      omega
    · exact h2.below hbl hb1
  obtain ⟨a2, c2, w2, hr2, ho3, hg2⟩ := append_routes w.heap.size a1 c1 (l.take n) (l.drop (n + 1)) w1 ho1 b off2 (cap - (n + 1)) h3 26 (by omega) (by omega) hb1.size
  have hb2 : Below w.heap.size w w2 := hb1.trans ⟨hg2.os, hg2.tape, hg2.output, hg2.size, fun k hk => hg2.block k (Nat.lt_of_lt_of_le hk hb1.size) (fun e => by have := ho1.low k e.symm; omega)⟩
  rw [e1] at hr1 hr2
  rw [e2] at hr2
  have HR1 := Lib.hid hr1
  have HO := Lib.hid ho3
  clear h1 h2 h3 hcs hrow hr1 hb1 hg1 hg2 ho1 HN0 ho3
  by_cases hc : cap = n + 1
  · subst hc
    rw [if_pos rfl] at ho2
    subst ho2
    have e0 : l.length - (n + 1) = 0 := by omega
    rw [Nat.sub_self, e0] at hr2
    have HR2 := Lib.hid hr2
    clear hr2
    go_enter Try.func11, Try.ntmps11
    go_wp2_with (first | (at_builtin; refine listAppend rfl _ _ _ _ rfl _ _ rfl rfl _ _ HR1.out ?_) | (at_builtin; refine listAppend rfl _ _ _ _ rfl _ _ rfl rfl _ _ HR2.out ?_))
    go_ret
    exact ⟨_, _, ret_slice (by show _ = (l.take n ++ l.drop (n + 1)).length; rw [List.length_append, e1, e2]; omega), HO.out, hb2⟩
  · rw [if_neg hc] at ho2
    subst ho2
    have HR2 := Lib.hid hr2
    clear hr2
    go_enter Try.func11, Try.ntmps11
    go_wp2_with (first | (at_builtin; refine listAppend rfl _ _ _ _ rfl _ _ rfl rfl _ _ HR1.out ?_) | (at_builtin; refine listAppend rfl _ _ _ _ rfl _ _ rfl rfl _ _ HR2.out ?_))
    go_ret
    exact ⟨_, _, ret_slice (by show _ = (l.take n ++ l.drop (n + 1)).length; rw [List.length_append, e1, e2]), HO.out, hb2⟩
end Go.Proofs.Ytpepjmcglglepaa
