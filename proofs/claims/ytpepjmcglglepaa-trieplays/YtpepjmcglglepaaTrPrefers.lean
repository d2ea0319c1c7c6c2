/- TriePrefers, walked whole. -/
import Derived.Test.YtpepjmcglglepaaTrAwake
import Derived.Test.YtpepjmcglglepaaTrOpen
namespace Go.Proofs.Ytpepjmcglglepaa
open Go.RowKit
set_option maxRecDepth 100000
set_option linter.unusedVariables false
open R

/-- What the law made: a trie in blocks of its own. -/
abbrev Mine (w w' : World) : Nat → Prop := fun k => w.heap.size ≤ k ∧ k < w'.heap.size
theorem TrieAt.mono {X Y : Nat → Prop} {w : World} {g : Nat} {st : St} (h : TrieAt X w g st) (hXY : ∀ k, X k → Y k) : TrieAt Y w g st := by
  obtain ⟨t, h1, h2, h3⟩ := h
  exact ⟨t, h1, hXY _ h2, h3.mono fun k hk => ⟨hXY k hk.1, hk.2⟩⟩
theorem TrieAt.up {w w1 w2 : World} {g : Nat} {st : St} (h : TrieAt (Up (Mine w w1) w1 w2) w2 g st) (h1 : w.heap.size ≤ w1.heap.size) (h2 : w1.heap.size ≤ w2.heap.size) : TrieAt (Mine w w2) w2 g st := h.mono fun k hk => by
  rcases hk with hk | hk
  · exact ⟨hk.1, by omega⟩
  · exact ⟨by omega, hk.2⟩
theorem TrieAt.more {w w1 w2 : World} {g : Nat} {st : St} (h : TrieAt (Mine w w1) w1 g st) (hb : Below w1.heap.size w1 w2) : TrieAt (Mine w w2) w2 g st := (h.below hb).mono fun k hk => ⟨hk.1, Nat.lt_of_lt_of_le hk.2 hb.size⟩
theorem RtRow.at {w : World} {ao : Option Addr} {l : List Rt} (h : RtRow w ao l) (k : Nat) (hk : k < l.length) : ∃ b off, ao = some ⟨b, off, none⟩ ∧ w.cell? ⟨b, off + k * 3, none⟩ = some (.int .u32 (l.getD k zR).a) ∧ w.cell? ⟨b, off + k * 3 + 1, none⟩ = some (.int .i64 (l.getD k zR).b) ∧ w.cell? ⟨b, off + k * 3 + 2, none⟩ = some (.int .i64 (l.getD k zR).o) := by
  obtain ⟨b, off, h1, h2, h3⟩ := h (by omega)
  exact ⟨b, off, h1, h3 k hk 0 _ rfl, h3 k hk 1 _ rfl, h3 k hk 2 _ rfl⟩
theorem getD_mem (l : List Rt) (k : Nat) (h : k < l.length) : l.getD k zR ∈ l := by
  rw [List.getD_eq_getElem?_getD, List.getElem?_eq_getElem h]
  exact List.getElem_mem h

namespace R
/-- Of the first k routes each right prefix is there. -/
def Cov (l : List Rt) (rs : List Rt) (k : Nat) : Prop := ∀ j, j < k → A.right (l.getD j zR).a (l.getD j zR).b = true → ∃ s ∈ rs, s.a = (l.getD j zR).a ∧ s.b = (l.getD j zR).b
theorem Cov.more {l rs : List Rt} {k : Nat} (h : Cov l rs k) (hf : rs.length < 256) : Cov l (if addE rs (l.getD k zR) = 0 then rs ++ [l.getD k zR] else rs) (k + 1) := by
  intro j hj hr
  by_cases e : j = k
  · subst e
    by_cases h0 : addE rs (l.getD j zR) = 0
    · rw [if_pos h0]
      exact ⟨l.getD j zR, by simp, rfl, rfl⟩
    · rw [if_neg h0]
      unfold addE at h0
      rw [if_neg (by rw [hr]; simp)] at h0
      by_cases h7 : R.has rs (l.getD j zR).a (l.getD j zR).b = true
      · exact has_iff.1 h7
      · rw [if_neg h7, if_neg (by omega)] at h0
        exact absurd rfl h0
  · obtain ⟨s, h1, h2⟩ := h j (by omega) hr
    refine ⟨s, ?_, h2⟩
    split
    · exact List.mem_append_left _ h1
    · exact h1
theorem add_len (rs : List Rt) (r : Rt) : (if addE rs r = 0 then rs ++ [r] else rs).length ≤ rs.length + 1 := by split <;> simp
theorem holds_right {p : Nat} {b : Int} {a : Nat} (h : A.holds p b a = true) : A.right p b = true := by
  unfold A.holds at h
  simp only [Bool.and_eq_true] at h
  exact h.1
theorem prefer {l rs : List Rt} {a : Nat} {r : Rt} {ok : Bool} (hc : Cov l rs l.length) (hf : IsFind rs a r ok) (k : Nat) (hk : k < l.length) (hh : A.holds (l.getD k zR).a (l.getD k zR).b a = true) : ok = true ∧ (l.getD k zR).b ≤ r.b := by
  obtain ⟨s, h1, h2, h3⟩ := hc k hk (holds_right hh)
  rw [← h2, ← h3] at hh
  cases ok
  · have := (hf.no rfl).2 s h1
    rw [hh] at this
    cases this
  · obtain ⟨_, _, h4⟩ := hf.yes rfl
    have := h4 s h1 hh
    exact ⟨rfl, by omega⟩
end R

theorem vs_23 (vs : List Value) (h : vs.length = 23) : ∃ v0 v1 v2 v3 v4 v5 v6 v7 v8 v9 v10 v11 v12 v13 v14 v15 v16 v17 v18 v19 v20 v21 v22, vs = [v0, v1, v2, v3, v4, v5, v6, v7, v8, v9, v10, v11, v12, v13, v14, v15, v16, v17, v18, v19, v20, v21, v22] := by
  obtain ⟨v0, r0, rfl, h0⟩ := vs_cons vs h
  obtain ⟨v1, r1, rfl, h1⟩ := vs_cons r0 h0
  obtain ⟨v2, r2, rfl, h2⟩ := vs_cons r1 h1
  obtain ⟨v3, r3, rfl, h3⟩ := vs_cons r2 h2
  obtain ⟨v4, r4, rfl, h4⟩ := vs_cons r3 h3
  obtain ⟨v5, r5, rfl, h5⟩ := vs_cons r4 h4
  obtain ⟨v6, r6, rfl, h6⟩ := vs_cons r5 h5
  obtain ⟨v7, r7, rfl, h7⟩ := vs_cons r6 h6
  obtain ⟨v8, r8, rfl, h8⟩ := vs_cons r7 h7
  obtain ⟨v9, r9, rfl, h9⟩ := vs_cons r8 h8
  obtain ⟨v10, r10, rfl, h10⟩ := vs_cons r9 h9
  obtain ⟨v11, r11, rfl, h11⟩ := vs_cons r10 h10
  obtain ⟨v12, r12, rfl, h12⟩ := vs_cons r11 h11
  obtain ⟨v13, r13, rfl, h13⟩ := vs_cons r12 h12
  obtain ⟨v14, r14, rfl, h14⟩ := vs_cons r13 h13
  obtain ⟨v15, r15, rfl, h15⟩ := vs_cons r14 h14
  obtain ⟨v16, r16, rfl, h16⟩ := vs_cons r15 h15
  obtain ⟨v17, r17, rfl, h17⟩ := vs_cons r16 h16
  obtain ⟨v18, r18, rfl, h18⟩ := vs_cons r17 h17
  obtain ⟨v19, r19, rfl, h19⟩ := vs_cons r18 h18
  obtain ⟨v20, r20, rfl, h20⟩ := vs_cons r19 h19
  obtain ⟨v21, r21, rfl, h21⟩ := vs_cons r20 h20
  obtain ⟨v22, r22, rfl, h22⟩ := vs_cons r21 h21
  obtain rfl := List.eq_nil_of_length_eq_zero h22
  exact ⟨v0, v1, v2, v3, v4, v5, v6, v7, v8, v9, v10, v11, v12, v13, v14, v15, v16, v17, v18, v19, v20, v21, v22, rfl⟩
end Go.Proofs.Ytpepjmcglglepaa
