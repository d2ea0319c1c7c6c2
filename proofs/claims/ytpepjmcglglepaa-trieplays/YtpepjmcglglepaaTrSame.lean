/- Routes in another order: the same is found. No program is named here. -/
import Derived.Test.YtpepjmcglglepaaTrAdd2
namespace Go.Proofs.Ytpepjmcglglepaa
namespace R
theorem some_doms (L : List (Nat × Nat)) : ∃ D : List (Nat × Nat), D.Nodup ∧ ∀ x, x ∈ D ↔ x ∈ L := by
  induction L with
  | nil => exact ⟨[], List.nodup_nil, fun x => Iff.rfl⟩
  | cons a t ih =>
    obtain ⟨D, h1, h2⟩ := ih
    by_cases ha : a ∈ D
    · refine ⟨D, h1, fun x => ?_⟩
      rw [h2 x, List.mem_cons]
      refine ⟨.inr, fun h => ?_⟩
      rcases h with rfl | h
      · exact (h2 _).1 ha
      · exact h
    · exact ⟨a :: D, List.nodup_cons.2 ⟨ha, h1⟩, fun x => by rw [List.mem_cons, List.mem_cons, h2 x]⟩
theorem doms_of (rs : List Rt) : ∃ D, Doms rs D := by
  obtain ⟨D, h1, h2⟩ := some_doms ((0, 0) :: rs.flatMap fun r => (List.range (r.b.toNat + 1)).map fun j => (j, hi r.a j))
  refine ⟨D, h1, fun p => ?_⟩
  rw [h2 p, List.mem_cons, List.mem_flatMap]
  constructor
  · rintro (rfl | ⟨r, hr, hp⟩)
    · exact .inr ⟨Nat.le_refl _, hi_zero _ (by decide)⟩
    · obtain ⟨j, hj, rfl⟩ := List.mem_map.1 hp
      have := List.mem_range.1 hj
      exact .inl ⟨r, hr, by show j ≤ _; omega, rfl⟩
  · rintro (⟨r, hr, h3, h4⟩ | ⟨h3, h4⟩)
    · exact .inr ⟨r, hr, List.mem_map.2 ⟨p.1, List.mem_range.2 (by omega), Prod.ext rfl h4⟩⟩
    · have e1 : p.1 = 0 := by omega
      rw [e1, hi_zero _ (by decide)] at h4
      exact .inl (Prod.ext e1 h4.symm)
theorem Doms.same {R R' : List Rt} {D : List (Nat × Nat)} (h : Doms R D) (hm : ∀ r, r ∈ R ↔ r ∈ R') : Doms R' D := by
  refine ⟨h.nodup, fun p => ?_⟩
  rw [h.mem p]
  unfold dom
  constructor
  · rintro (⟨r, hr, h3⟩ | h3)
    · exact .inl ⟨r, (hm r).1 hr, h3⟩
    · exact .inr h3
  · rintro (⟨r, hr, h3⟩ | h3)
    · exact .inl ⟨r, (hm r).2 hr, h3⟩
    · exact .inr h3
theorem find_same {st : St} {R R' : List Rt} (hI : Inv st R) (hm : ∀ r, r ∈ R ↔ r ∈ R') {a : Nat} {x y : Rt} {p q : Bool} (h : IsFind R a x p) (k : IsFind R' a y q) : x = y ∧ p = q := by
  obtain ⟨pl, hR, _⟩ := hI
  cases p <;> cases q
  · exact ⟨(h.no rfl).1.trans (k.no rfl).1.symm, rfl⟩
  · obtain ⟨k1, k2, _⟩ := k.yes rfl
    have := (h.no rfl).2 y ((hm y).2 k1)
    rw [k2] at this
    cases this
  · obtain ⟨k1, k2, _⟩ := h.yes rfl
    have := (k.no rfl).2 x ((hm x).1 k1)
    rw [k2] at this
    cases this
  · obtain ⟨h1, h2, h3⟩ := h.yes rfl
    obtain ⟨k1, k2, k3⟩ := k.yes rfl
    have k1' := (hm y).2 k1
    have e1 := k3 x ((hm x).1 h1) h2
    have e2 := h3 y k1' k2
    have eb : x.b = y.b := by omega
    have hx := (hR.right x h1).1
    have hy := (hR.right y k1').1
    have i1 := (holds_iff hx).1 h2
    have i2 := (holds_iff hy).1 k2
    rw [← eb] at i2 hy
    exact ⟨hR.one h1 k1' (right_same hx hy (i1.trans i2.symm)) eb, rfl⟩
/-- Of a trie's routes one that isn't among some of them can be added to these. -/
theorem add_some {st : St} {R L : List Rt} (hI : Inv st R) {x : Rt} (hx : x ∈ R) (hL : ∀ r ∈ L, r ∈ R) (hn : x ∉ L) (hl : L.length < 256) : addE L x = 0 := by
  obtain ⟨pl, hR, _⟩ := hI
  unfold addE
  rw [if_neg (by rw [(hR.right x hx).1]; simp), if_neg ?_, if_neg (by omega)]
  intro h
  obtain ⟨s, hs, h1, h2⟩ := has_iff.1 h
  obtain rfl := hR.one (hL s hs) hx h1 h2
  exact hn hs
theorem add_inv_len {st : St} {R : List Rt} (hI : Inv st R) : st.count = R.length := by
  obtain ⟨pl, hR, _⟩ := hI
  exact hR.count
theorem inv_zero {st : St} {R : List Rt} (hI : Inv st R) : 0 < st.nodes.length := by
  obtain ⟨pl, hR, _⟩ := hI
  exact hR.zero
theorem inv_nodup {st : St} {R : List Rt} (hI : Inv st R) : R.Nodup := by
  obtain ⟨pl, hR, _⟩ := hI
  exact hR.rnd
theorem inv_right {st : St} {R : List Rt} (hI : Inv st R) : ∀ r ∈ R, A.right r.a r.b = true ∧ r.a < 4294967296 := by
  obtain ⟨pl, hR, _⟩ := hI
  exact hR.right
/-- The last m, the last one first. -/
def rev (l : List Rt) (m : Nat) : List Rt := l.reverse.take m
theorem rev_succ (l : List Rt) (m : Nat) (h : m < l.length) : rev l (m + 1) = rev l m ++ [l.getD (l.length - 1 - m) zR] := by
  unfold rev
  rw [List.take_add_one, List.getElem?_reverse h, List.getElem?_eq_getElem (by omega), List.getD_eq_getElem?_getD, List.getElem?_eq_getElem (by omega)]
  rfl
theorem rev_not (l : List Rt) (hn : l.Nodup) (m : Nat) (h : m < l.length) : l.getD (l.length - 1 - m) zR ∉ rev l m := by
  have h2 : (rev l (m + 1)).Nodup := (show l.reverse.Nodup from List.pairwise_reverse.2 (hn.imp fun h e => h e.symm)).sublist (List.take_sublist _ _)
  rw [rev_succ l m h, List.nodup_append] at h2
  intro hc
  exact h2.2.2 _ hc _ (by simp) rfl
theorem rev_mem (l : List Rt) (m : Nat) : ∀ r ∈ rev l m, r ∈ l := fun _ hr => List.mem_reverse.1 (List.mem_of_mem_take hr)
theorem rev_len (l : List Rt) (m : Nat) (h : m ≤ l.length) : (rev l m).length = m := by unfold rev; rw [List.length_take, List.length_reverse]; omega
theorem rev_all (l : List Rt) : ∀ r, r ∈ rev l l.length ↔ r ∈ l := fun _ => by unfold rev; rw [List.take_of_length_le (by rw [List.length_reverse]; exact Nat.le_refl _), List.mem_reverse]
end R
end Go.Proofs.Ytpepjmcglglepaa
