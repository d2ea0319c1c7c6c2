/- What a trie yields, from a node on: the routes below it, in their order. -/
import Derived.Test.YtpepjmcglglepaaTrAny
namespace Go.Proofs.Ytpepjmcglglepaa
open Go.RowKit
set_option maxRecDepth 100000
set_option linter.unusedVariables false
open R

namespace R
/-- The routes that are yielded from a node on. -/
def walk (l : List Nd) : Nat → Nat → List Rt
  | 0, _ => []
  | f + 1, i => (if (nd l i).has = true then [(nd l i).r] else []) ++ (if (nd l i).c0 = 0 then [] else walk l f (nd l i).c0) ++ (if (nd l i).c1 = 0 then [] else walk l f (nd l i).c1)
/-- The order of what All answers. -/
def Lt (r s : Rt) : Prop := r.a < s.a ∨ (r.a = s.a ∧ r.b < s.b)
theorem Rep.kid {st : St} {R : List Rt} {pl : Nat → Nat → Option Nat} (h : Rep st R pl) {j v i b : Nat} (hb : b ≤ 1) (hp : pl j v = some i) : ((nd st.nodes i).ch b = 0 ∧ pl (j + 1) (2 * v + b) = none) ∨ ((nd st.nodes i).ch b ≠ 0 ∧ pl (j + 1) (2 * v + b) = some ((nd st.nodes i).ch b)) := by
  have hc := h.ch j v i b hb hp
  cases hq : pl (j + 1) (2 * v + b) with
  | none => rw [hq] at hc; exact .inl ⟨hc, rfl⟩
  | some k =>
    rw [hq] at hc
    have hc' : (nd st.nodes i).ch b = k := hc
    refine .inr ⟨fun e => ?_, by rw [hc']⟩
    rw [hc'] at e
    subst e
    have := (h.inj _ _ _ _ _ hq h.root).1
    omega
theorem deep {R : List Rt} {pl : Nat → Nat → Option Nat} {st : St} (h : Rep st R pl) (hf : Full pl R 0 0) {j v i : Nat} (hp : pl j v = some i) : j ≤ 32 := by
  rcases (hf j v).1 ⟨i, hp⟩ with ⟨r, hr, h1, _⟩ | ⟨h1, _⟩
  · have := right_bits (h.right r hr).1
    omega
  · omega
theorem hi_le {a j : Nat} : hi a j * 2 ^ (32 - j) ≤ a := Nat.div_mul_le_self _ _
theorem right_low {a : Nat} {b : Int} (h : A.right a b = true) : a = hi a b.toNat * 2 ^ (32 - b.toNat) := by
  have h1 := (right_bits h).2.2
  have := Nat.div_add_mod a (2 ^ (32 - b.toNat))
  unfold hi
  rw [Nat.mul_comm]
  omega
theorem hi_lt {a c j : Nat} (h : hi a j < hi c j) : a < c := by
  rcases Nat.lt_or_ge a c with h1 | h1
  · exact h1
  · have : hi c j ≤ hi a j := Nat.div_le_div_right h1
    omega
theorem walk_mem {st : St} {R : List Rt} {pl : Nat → Nat → Option Nat} (h : Rep st R pl) (hf : Full pl R 0 0) : ∀ f j v i, j + f = 33 → pl j v = some i → ∀ r, r ∈ walk st.nodes f i ↔ r ∈ R ∧ j ≤ r.b.toNat ∧ hi r.a j = v := by
  intro f
  induction f with
  | zero =>
    intro j v i hj hp r
    have := deep h hf hp
    omega
  | succ f ih =>
    intro j v i hj hp r
    have k0 : ((nd st.nodes i).c0 = 0 ∧ pl (j + 1) (2 * v) = none) ∨ ((nd st.nodes i).c0 ≠ 0 ∧ pl (j + 1) (2 * v) = some (nd st.nodes i).c0) := h.kid (b := 0) (by omega) hp
    have k1 : ((nd st.nodes i).c1 = 0 ∧ pl (j + 1) (2 * v + 1) = none) ∨ ((nd st.nodes i).c1 ≠ 0 ∧ pl (j + 1) (2 * v + 1) = some (nd st.nodes i).c1) := h.kid (b := 1) (by omega) hp
    have m0 : (r ∈ if (nd st.nodes i).c0 = 0 then [] else walk st.nodes f (nd st.nodes i).c0) ↔ r ∈ R ∧ j + 1 ≤ r.b.toNat ∧ hi r.a (j + 1) = 2 * v := by
      rcases k0 with ⟨k, kn⟩ | ⟨k, kn⟩
      · rw [if_pos k]
        constructor
        · intro h; cases h
        · rintro ⟨hr, h1, h2⟩
          obtain ⟨i', hi'⟩ := (hf (j + 1) (2 * v)).2 (.inl ⟨r, hr, h1, h2⟩)
          rw [kn] at hi'; cases hi'
      · rw [if_neg k]
        exact ih (j + 1) (2 * v) _ (by omega) kn r
    have m1 : (r ∈ if (nd st.nodes i).c1 = 0 then [] else walk st.nodes f (nd st.nodes i).c1) ↔ r ∈ R ∧ j + 1 ≤ r.b.toNat ∧ hi r.a (j + 1) = 2 * v + 1 := by
      rcases k1 with ⟨k, kn⟩ | ⟨k, kn⟩
      · rw [if_pos k]
        constructor
        · intro h; cases h
        · rintro ⟨hr, h1, h2⟩
          obtain ⟨i', hi'⟩ := (hf (j + 1) (2 * v + 1)).2 (.inl ⟨r, hr, h1, h2⟩)
          rw [kn] at hi'; cases hi'
      · rw [if_neg k]
        exact ih (j + 1) (2 * v + 1) _ (by omega) kn r
    have m2 : (r ∈ if (nd st.nodes i).has = true then [(nd st.nodes i).r] else []) ↔ r ∈ R ∧ j = r.b.toNat ∧ hi r.a j = v := by
      cases hh : (nd st.nodes i).has
      · rw [if_neg (by simp)]
        constructor
        · intro h; cases h
        · rintro ⟨hr, h1, h2⟩
          obtain ⟨i', q1, q2, _⟩ := h.keys r hr
          rw [← h1, h2, hp] at q1
          cases q1
          rw [hh] at q2; cases q2
      · rw [if_pos rfl, List.mem_singleton]
        have q := h.has j v i hp hh
        constructor
        · rintro rfl
          exact ⟨q.1, by omega, q.2.2⟩
        · rintro ⟨hr, h1, h2⟩
          obtain ⟨i', q1, q2, q3⟩ := h.keys r hr
          rw [← h1, h2, hp] at q1
          cases q1
          exact q3.symm
    show r ∈ _ ++ _ ++ _ ↔ _
    rw [List.mem_append, List.mem_append, m0, m1, m2]
    constructor
    · rintro ((⟨hr, h1, h2⟩ | ⟨hr, h1, h2⟩) | ⟨hr, h1, h2⟩)
      · exact ⟨hr, by omega, h2⟩
      · have hb := right_bits (h.right r hr).1
        have hu := hi_up r.a j (by omega)
        exact ⟨hr, by omega, by omega⟩
      · have hb := right_bits (h.right r hr).1
        have hu := hi_up r.a j (by omega)
        exact ⟨hr, by omega, by omega⟩
    · rintro ⟨hr, h1, h2⟩
      by_cases e : j = r.b.toNat
      · exact .inl (.inl ⟨hr, e, h2⟩)
      · have hb := right_bits (h.right r hr).1
        have hu := hi_up r.a j (by omega)
        rcases Nat.mod_two_eq_zero_or_one (hi r.a (j + 1)) with hm | hm
        · exact .inl (.inr ⟨hr, by omega, by omega⟩)
        · exact .inr ⟨hr, by omega, by omega⟩
theorem walk_sorted {st : St} {R : List Rt} {pl : Nat → Nat → Option Nat} (h : Rep st R pl) (hf : Full pl R 0 0) : ∀ f j v i, j + f = 33 → pl j v = some i → (walk st.nodes f i).Pairwise Lt := by
  intro f
  induction f with
  | zero =>
    intro j v i hj hp
    exact List.Pairwise.nil
  | succ f ih =>
    intro j v i hj hp
    have k0 : ((nd st.nodes i).c0 = 0 ∧ pl (j + 1) (2 * v) = none) ∨ ((nd st.nodes i).c0 ≠ 0 ∧ pl (j + 1) (2 * v) = some (nd st.nodes i).c0) := h.kid (b := 0) (by omega) hp
    have k1 : ((nd st.nodes i).c1 = 0 ∧ pl (j + 1) (2 * v + 1) = none) ∨ ((nd st.nodes i).c1 ≠ 0 ∧ pl (j + 1) (2 * v + 1) = some (nd st.nodes i).c1) := h.kid (b := 1) (by omega) hp
    have s0 : (if (nd st.nodes i).c0 = 0 then [] else walk st.nodes f (nd st.nodes i).c0).Pairwise Lt ∧ ∀ r ∈ (if (nd st.nodes i).c0 = 0 then [] else walk st.nodes f (nd st.nodes i).c0), r ∈ R ∧ j + 1 ≤ r.b.toNat ∧ hi r.a (j + 1) = 2 * v := by
      rcases k0 with ⟨k, kn⟩ | ⟨k, kn⟩
      · rw [if_pos k]; exact ⟨List.Pairwise.nil, fun r hr => by cases hr⟩
      · rw [if_neg k]; exact ⟨ih _ _ _ (by omega) kn, fun r hr => (walk_mem h hf f (j + 1) (2 * v) _ (by omega) kn r).1 hr⟩
    have s1 : (if (nd st.nodes i).c1 = 0 then [] else walk st.nodes f (nd st.nodes i).c1).Pairwise Lt ∧ ∀ r ∈ (if (nd st.nodes i).c1 = 0 then [] else walk st.nodes f (nd st.nodes i).c1), r ∈ R ∧ j + 1 ≤ r.b.toNat ∧ hi r.a (j + 1) = 2 * v + 1 := by
      rcases k1 with ⟨k, kn⟩ | ⟨k, kn⟩
      · rw [if_pos k]; exact ⟨List.Pairwise.nil, fun r hr => by cases hr⟩
      · rw [if_neg k]; exact ⟨ih _ _ _ (by omega) kn, fun r hr => (walk_mem h hf f (j + 1) (2 * v + 1) _ (by omega) kn r).1 hr⟩
    have up : ∀ r, r ∈ R → j + 1 ≤ r.b.toNat → (hi r.a (j + 1) = 2 * v ∨ hi r.a (j + 1) = 2 * v + 1) → hi r.a j = v := fun r hr h1 h2 => by
      have hb := right_bits (h.right r hr).1
      have hu := hi_up r.a j (by omega)
      omega
    have own : ∀ r ∈ (if (nd st.nodes i).has = true then [(nd st.nodes i).r] else []), ∀ s, s ∈ R → j + 1 ≤ s.b.toNat → hi s.a j = v → Lt r s := fun r hr s hs h1 h2 => by
      cases hh : (nd st.nodes i).has
      · rw [hh, if_neg (by simp)] at hr; cases hr
      · rw [hh, if_pos rfl, List.mem_singleton] at hr
        subst hr
        obtain ⟨q1, q2, q3⟩ := h.has j v i hp hh
        have hlow := right_low (h.right _ q1).1
        have hj' : (nd st.nodes i).r.b.toNat = j := by omega
        rw [hj', q3] at hlow
        have hle := hi_le (a := s.a) (j := j)
        rw [h2, ← hlow] at hle
        rcases Nat.lt_or_eq_of_le hle with h3 | h3
        · exact .inl h3
        · exact .inr ⟨h3, by omega⟩
    show (_ ++ _ ++ _ : List Rt).Pairwise Lt
    rw [List.pairwise_append, List.pairwise_append]
    refine ⟨⟨?_, s0.1, fun r hr s hs => ?_⟩, s1.1, fun r hr s hs => ?_⟩
    · split
      · exact List.pairwise_singleton _ _
      · exact List.Pairwise.nil
    · have := s0.2 s hs
      exact own r hr s this.1 this.2.1 (up s this.1 this.2.1 (.inl this.2.2))
    · have h1 := s1.2 s hs
      rcases List.mem_append.1 hr with hr | hr
      · exact own r hr s h1.1 h1.2.1 (up s h1.1 h1.2.1 (.inr h1.2.2))
      · have h0 := s0.2 r hr
        exact .inl (hi_lt (j := j + 1) (by omega))
theorem Lt.ne {r s : Rt} (h : Lt r s) : r ≠ s := fun e => by
  subst e
  rcases h with h | ⟨_, h⟩ <;> omega
/-- What is yielded from the root on: all routes, each once, in their order. -/
structure IsAll (R l : List Rt) : Prop where
  mem : ∀ r, r ∈ l ↔ r ∈ R
  ord : l.Pairwise Lt
  len : l.length = R.length
theorem walk_all {st : St} {R : List Rt} {pl : Nat → Nat → Option Nat} (h : Rep st R pl) (hf : Full pl R 0 0) : IsAll R (walk st.nodes 33 0) := by
  have hm := walk_mem h hf 33 0 0 0 (by omega) h.root
  have hs := walk_sorted h hf 33 0 0 0 (by omega) h.root
  have hmem : ∀ r, r ∈ walk st.nodes 33 0 ↔ r ∈ R := fun r => by
    rw [hm r]
    exact ⟨fun h => h.1, fun hr => ⟨hr, Nat.zero_le _, hi_zero _ (h.right r hr).2⟩⟩
  exact ⟨hmem, hs, len_eq (hs.imp fun h => h.ne) h.rnd hmem⟩
end R
end Go.Proofs.Ytpepjmcglglepaa
