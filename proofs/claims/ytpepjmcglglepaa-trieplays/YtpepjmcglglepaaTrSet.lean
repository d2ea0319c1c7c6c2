/- Stores into a trie's nodes. -/
import Derived.Test.YtpepjmcglglepaaTrTake
namespace Go.Proofs.Ytpepjmcglglepaa
open Go.RowKit
set_option maxRecDepth 100000
set_option linter.unusedVariables false
open R

theorem nodesX_set1 (l : List Nd) (i j : Nat) (v : Value) (m : Nd) (hi : i < l.length) (hj : j < 6) (hv : m.v = (R.nd l i).v.set j v) : nodesX (l.set i m) = (nodesX l).set (i * 6 + j) v := by
  refine List.ext_getElem? fun p => ?_
  by_cases hp : p < l.length * 6
  · have e : p = p / 6 * 6 + p % 6 := by omega
    have h1 : p / 6 < l.length := by omega
    have h2 : p % 6 < 6 := by omega
    rw [e, nodesX_at _ _ _ (by rw [List.length_set]; exact h1) h2, nd_set _ _ _ _ hi]
    by_cases hij : p / 6 = i
    · rw [if_pos hij, hv, ← hij]
      by_cases hjj : p % 6 = j
      · rw [← hjj, List.getElem?_set_self (by exact h2), List.getElem?_set_self (by rw [nodesX_len]; omega)]
      · rw [List.getElem?_set_ne (by omega), List.getElem?_set_ne (by omega), nodesX_at _ _ _ h1 h2]
    · rw [if_neg hij, List.getElem?_set_ne (by omega), nodesX_at _ _ _ h1 h2]
  · rw [List.getElem?_eq_none (by rw [nodesX_len, List.length_set]; omega), List.getElem?_eq_none (by rw [List.length_set, nodesX_len]; omega)]
theorem Own.set1 {base : Nat} {e : TypeId} {size : Nat} {g cap n : Nat} {xs : List Value} {w : World} (h : Own base e size (some ⟨g, 0, none⟩) cap n xs w) (j : Nat) (v : Value) : Own base e size (some ⟨g, 0, none⟩) cap n (xs.set j v) (w.setCell ⟨g, j, none⟩ v) := by
  rcases h with ⟨h1, ⟨hv, hn⟩ | ⟨g', cap', cur, hv, hb, hg, hnc, hcm, hcs, htk⟩⟩
  · cases hv
  · have hc : cap = cap' := by simpa using congrArg (fun v => match v with | .slice _ _ c => c | _ => 0) hv
    have ha : g = g' := by simpa using congrArg (fun v => match v with | .slice (some a) _ _ => a.block | _ => 0) hv
    subst hc ha
    refine ⟨by rw [List.length_set]; exact h1, .inr ⟨g, cap, _, rfl, hb, set_row hg v, hnc, hcm, by simpa using hcs, ?_⟩⟩
    rw [Array.toList_setIfInBounds, List.take_set, htk]
theorem TreeAt.at0 {X : Nat → Prop} {w : World} {t bn cn n : Nat} {st : St} (h : TreeAt X w t st) (hk : w.cell? ⟨t, 0, none⟩ = some (.slice (some ⟨bn, 0, none⟩) n cn)) : ∃ af cf,
    w.heap[t]? = some (.cells #[.slice (some ⟨bn, 0, none⟩) st.nodes.length cn, .slice af st.free.length cf, .int .i64 st.count] 53 (0, 0)) ∧
    Own 0 59 6 (some ⟨bn, 0, none⟩) cn st.nodes.length (nodesX st.nodes) w ∧ Own 0 3 1 af cf st.free.length (natsX st.free) w ∧
    X t ∧ X bn ∧ (∀ k, Value.ownBlock (.slice af st.free.length cf) = some k → X k) := by
  obtain ⟨an, cn', af, cf, h1, h2, h3, h4, h5, h6⟩ := h
  have e := (tree_cells h1).1
  rw [hk] at e
  obtain ⟨rfl, rfl, rfl⟩ : some (⟨bn, 0, none⟩ : Addr) = an ∧ n = st.nodes.length ∧ cn = cn' := by simpa using e
  exact ⟨af, cf, h1, h2, h3, h4, h5 bn rfl, h6⟩
/-- One cell of a node. -/
theorem TreeAt.set1 {X : Nat → Prop} {w : World} {t bn cn n : Nat} {st : St} (h : TreeAt X w t st) (hk : w.cell? ⟨t, 0, none⟩ = some (.slice (some ⟨bn, 0, none⟩) n cn)) {i j : Nat} {v : Value} {m : Nd} (hi : i < st.nodes.length) (hj : j < 6) (hv : m.v = (R.nd st.nodes i).v.set j v) :
    TreeAt X (w.setCell ⟨bn, i * 6 + j, none⟩ v) t { st with nodes := st.nodes.set i m } ∧ Ch X w (w.setCell ⟨bn, i * 6 + j, none⟩ v) ∧ (w.setCell ⟨bn, i * 6 + j, none⟩ v).cell? ⟨t, 0, none⟩ = some (.slice (some ⟨bn, 0, none⟩) n cn) := by
  obtain ⟨af, cf, h1, h2, h3, h4, h5, h6⟩ := h.at0 hk
  obtain ⟨g, cur, e, _, hbn, _⟩ := h2.at (by omega)
  obtain rfl : bn = g := by simpa using e
  have hcs := Ch.set (X := fun k => k = bn) w bn (i * 6 + j) v rfl
  have htb : t ≠ bn := fun e => by subst e; rw [h1] at hbn; cases hbn
  have hl : (st.nodes.set i m).length = st.nodes.length := List.length_set
  refine ⟨⟨some ⟨bn, 0, none⟩, cn, af, cf, ?_, ?_, ?_, h4, fun k hk => ?_, h6⟩, Ch.set (X := X) w bn _ v h5, hcs.cell hk htb⟩
  · rw [hcs.block t (heap_lt h1) htb, h1]
    simp
  · show Own 0 59 6 (some ⟨bn, 0, none⟩) cn (st.nodes.set i m).length (nodesX (st.nodes.set i m)) _
    rw [hl, nodesX_set1 _ _ _ _ _ hi hj hv]
    exact h2.set1 _ _
  · exact hcs.own h3 fun g hg e => by
      subst e
      exact h3.away hbn (by intro c h; cases h) hg
  · have : bn = k := by simpa [Value.ownBlock] using hk
    subst this; exact h5
/-- The number of routes. -/
theorem TreeAt.setCount {X : Nat → Prop} {w : World} {t : Nat} {st : St} (h : TreeAt X w t st) (c : Nat) :
    TreeAt X (w.setCell ⟨t, 2, none⟩ (.int .i64 c)) t { st with count := c } ∧ Ch X w (w.setCell ⟨t, 2, none⟩ (.int .i64 c)) := by
  obtain ⟨an, cn, af, cf, h1, h2, h3, h4, h5, h6⟩ := h
  have hcs := Ch.set (X := fun k => k = t) w t 2 (.int .i64 c) rfl
  refine ⟨⟨an, cn, af, cf, set_row h1 _, hcs.own h2 fun g hg e => ?_, hcs.own h3 fun g hg e => ?_, h4, h5, h6⟩, Ch.set (X := X) w t 2 _ h4⟩
  · subst e; exact h2.away h1 (by intro c h; cases h) hg
  · subst e; exact h3.away h1 (by intro c h; cases h) hg
theorem TreeAt.setLink {X : Nat → Prop} {w : World} {t bn cn n : Nat} {st : St} (h : TreeAt X w t st) (hk : w.cell? ⟨t, 0, none⟩ = some (.slice (some ⟨bn, 0, none⟩) n cn)) {i b : Nat} (k : Nat) (hi : i < st.nodes.length) (hb : b ≤ 1) :
    TreeAt X (w.setCell ⟨bn, i * 6 + b, none⟩ (.int .i64 k)) t (link st i b k) ∧ Ch X w (w.setCell ⟨bn, i * 6 + b, none⟩ (.int .i64 k)) ∧ (w.setCell ⟨bn, i * 6 + b, none⟩ (.int .i64 k)).cell? ⟨t, 0, none⟩ = some (.slice (some ⟨bn, 0, none⟩) n cn) := by
  have := h.set1 hk (j := b) (v := .int .i64 k) (m := (R.nd st.nodes i).setCh b k) hi (by omega) (by
    match b, hb with
    | 0, _ => rfl
    | 1, _ => rfl)
  exact this
/-- Has and route of a node. -/
theorem TreeAt.setR {X : Nat → Prop} {w : World} {t bn cn n : Nat} {st : St} (h : TreeAt X w t st) (hk : w.cell? ⟨t, 0, none⟩ = some (.slice (some ⟨bn, 0, none⟩) n cn)) {i : Nat} (q : Bool) (x : Rt) (hi : i < st.nodes.length) :
    TreeAt X ((((w.setCell ⟨bn, i * 6 + 2, none⟩ (.bool q)).setCell ⟨bn, i * 6 + 3, none⟩ (.int .u32 x.a)).setCell ⟨bn, i * 6 + 4, none⟩ (.int .i64 x.b)).setCell ⟨bn, i * 6 + 5, none⟩ (.int .i64 x.o)) t { st with nodes := st.nodes.set i { R.nd st.nodes i with has := q, r := x } } ∧
      Ch X w ((((w.setCell ⟨bn, i * 6 + 2, none⟩ (.bool q)).setCell ⟨bn, i * 6 + 3, none⟩ (.int .u32 x.a)).setCell ⟨bn, i * 6 + 4, none⟩ (.int .i64 x.b)).setCell ⟨bn, i * 6 + 5, none⟩ (.int .i64 x.o)) := by
  obtain ⟨a1, b1, c1⟩ := h.set1 hk (i := i) (j := 2) (v := .bool q) (m := { R.nd st.nodes i with has := q }) hi (by omega) rfl
  have l1 : i < (st.nodes.set i { R.nd st.nodes i with has := q }).length := by rw [List.length_set]; exact hi
  have n1 : R.nd (st.nodes.set i { R.nd st.nodes i with has := q }) i = { R.nd st.nodes i with has := q } := by rw [nd_set _ _ _ _ hi, if_pos rfl]
  obtain ⟨a2, b2, c2⟩ := a1.set1 c1 (i := i) (j := 3) (v := .int .u32 x.a) (m := { R.nd st.nodes i with has := q, r := { (R.nd st.nodes i).r with a := x.a } }) l1 (by omega) (by rw [n1]; rfl)
  simp only [List.set_set] at a2
  have l2 : i < (st.nodes.set i { R.nd st.nodes i with has := q, r := { (R.nd st.nodes i).r with a := x.a } }).length := by rw [List.length_set]; exact hi
  have n2 : R.nd (st.nodes.set i { R.nd st.nodes i with has := q, r := { (R.nd st.nodes i).r with a := x.a } }) i = { R.nd st.nodes i with has := q, r := { (R.nd st.nodes i).r with a := x.a } } := by rw [nd_set _ _ _ _ hi, if_pos rfl]
  obtain ⟨a3, b3, c3⟩ := a2.set1 c2 (i := i) (j := 4) (v := .int .i64 x.b) (m := { R.nd st.nodes i with has := q, r := { (R.nd st.nodes i).r with a := x.a, b := x.b } }) l2 (by omega) (by rw [n2]; rfl)
  simp only [List.set_set] at a3
  have l3 : i < (st.nodes.set i { R.nd st.nodes i with has := q, r := { (R.nd st.nodes i).r with a := x.a, b := x.b } }).length := by rw [List.length_set]; exact hi
  have n3 : R.nd (st.nodes.set i { R.nd st.nodes i with has := q, r := { (R.nd st.nodes i).r with a := x.a, b := x.b } }) i = { R.nd st.nodes i with has := q, r := { (R.nd st.nodes i).r with a := x.a, b := x.b } } := by rw [nd_set _ _ _ _ hi, if_pos rfl]
  obtain ⟨a4, b4, c4⟩ := a3.set1 c3 (i := i) (j := 5) (v := .int .i64 x.o) (m := { R.nd st.nodes i with has := q, r := x }) l3 (by omega) (by rw [n3]; rfl)
  simp only [List.set_set] at a4
  exact ⟨a4, ((b1.trans b2 fun _ h _ => h).trans b3 fun _ h _ => h).trans b4 fun _ h _ => h⟩
#print axioms TreeAt.setR
end Go.Proofs.Ytpepjmcglglepaa
