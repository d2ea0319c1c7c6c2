/- TableBelow, walked whole. -/
import Derived.Test.YtdipoaekdafbeaaTbAwake
import Derived.Deep.OwnRows
namespace Go.Proofs.Ytdipoaekdafbeaa
open Go.RowKit Go.Maps Go.ChangeMaps
set_option maxRecDepth 100000
set_option linter.unusedVariables false
open T

theorem vs20 (vs : List Value) (h : vs.length = 20) : ∃ v0 v1 v2 v3 v4 v5 v6 v7 v8 v9 v10 v11 v12 v13 v14 v15 v16 v17 v18 v19, vs = [v0, v1, v2, v3, v4, v5, v6, v7, v8, v9, v10, v11, v12, v13, v14, v15, v16, v17, v18, v19] := by
  obtain ⟨v0, r0, rfl, h0⟩ := LbLow.vs_cons vs h
  obtain ⟨v1, r1, rfl, h1⟩ := LbLow.vs_cons r0 h0
  obtain ⟨v2, r2, rfl, h2⟩ := LbLow.vs_cons r1 h1
  obtain ⟨v3, r3, rfl, h3⟩ := LbLow.vs_cons r2 h2
  obtain ⟨v4, r4, rfl, h4⟩ := LbLow.vs_cons r3 h3
  obtain ⟨v5, r5, rfl, h5⟩ := LbLow.vs_cons r4 h4
  obtain ⟨v6, r6, rfl, h6⟩ := LbLow.vs_cons r5 h5
  obtain ⟨v7, r7, rfl, h7⟩ := LbLow.vs_cons r6 h6
  obtain ⟨v8, r8, rfl, h8⟩ := LbLow.vs_cons r7 h7
  obtain ⟨v9, r9, rfl, h9⟩ := LbLow.vs_cons r8 h8
  obtain ⟨v10, r10, rfl, h10⟩ := LbLow.vs_cons r9 h9
  obtain ⟨v11, r11, rfl, h11⟩ := LbLow.vs_cons r10 h10
  obtain ⟨v12, r12, rfl, h12⟩ := LbLow.vs_cons r11 h11
  obtain ⟨v13, r13, rfl, h13⟩ := LbLow.vs_cons r12 h12
  obtain ⟨v14, r14, rfl, h14⟩ := LbLow.vs_cons r13 h13
  obtain ⟨v15, r15, rfl, h15⟩ := LbLow.vs_cons r14 h14
  obtain ⟨v16, r16, rfl, h16⟩ := LbLow.vs_cons r15 h15
  obtain ⟨v17, r17, rfl, h17⟩ := LbLow.vs_cons r16 h16
  obtain ⟨v18, r18, rfl, h18⟩ := LbLow.vs_cons r17 h17
  obtain ⟨v19, r19, rfl, h19⟩ := LbLow.vs_cons r18 h18
  obtain rfl := List.eq_nil_of_length_eq_zero h19
  exact ⟨v0, v1, v2, v3, v4, v5, v6, v7, v8, v9, v10, v11, v12, v13, v14, v15, v16, v17, v18, v19, rfl⟩
namespace T
theorem mem_which (p : Int × Nat → Bool) (l : Labs) (z : Int) : z ∈ which p l ↔ ∃ j : Nat, j < l.length ∧ z = j ∧ p (lab l j) = true := by
  unfold which whichTo
  simp only [List.mem_map, List.mem_filter, List.mem_range]
  constructor
  · rintro ⟨j, ⟨h1, h2⟩, rfl⟩; exact ⟨j, h1, rfl, h2⟩
  · rintro ⟨j, h1, rfl, h2⟩; exact ⟨j, ⟨h1, h2⟩, rfl⟩
theorem dom_trans {a b c : Int × Nat} (h1 : belowP a b = true) (h2 : belowP b c = true) : belowP a c = true := by
  unfold belowP L.dom at *
  simp only [Bool.and_eq_true, decide_eq_true_eq] at *
  refine ⟨by omega, ?_⟩
  rw [← h2.2, Nat.and_assoc, h1.2]
theorem dom_refl (a : Int × Nat) : belowP a a = true := by
  unfold belowP L.dom
  simp
theorem dom_anti {a b : Int × Nat} (h : inP a a b = true) : b = a := by
  unfold inP L.dom at h
  simp only [Bool.and_eq_true, decide_eq_true_eq] at h
  obtain ⟨⟨h1, h2⟩, h3, h4⟩ := h
  refine Prod.ext (by omega) ?_
  rw [← h4, Nat.and_comm, h2]
theorem which_self (l : Labs) (hn : l.Nodup) (m : Nat) (hm : m < l.length) : which (inP (lab l m) (lab l m)) l = [(m : Int)] := by
  have key : ∀ k, k ≤ l.length → whichTo (inP (lab l m) (lab l m)) l k = if m < k then [(m : Int)] else [] := by
    intro k
    induction k with
    | zero => intro _; rfl
    | succ k ih =>
      intro hk
      rw [whichTo_succ, ih (by omega)]
      by_cases e : k = m
      · subst e
        have : inP (lab l k) (lab l k) (lab l k) = true := by unfold inP L.dom; simp
        rw [this, if_neg (by omega), if_pos rfl, if_pos (by omega)]
        rfl
      · have : inP (lab l m) (lab l m) (lab l k) = false := by
          cases h : inP (lab l m) (lab l m) (lab l k)
          · rfl
          · have := dom_anti h
            rw [lab_get l k (by omega), lab_get l m hm] at this
            exact absurd ((List.getElem_inj hn).1 this) e
        rw [this, if_neg (show ¬ (false = true) by simp), List.append_nil]
        by_cases h2 : m < k
        · rw [if_pos h2, if_pos (by omega)]
        · rw [if_neg h2, if_neg (by omega)]
  unfold which
  rw [key l.length (Nat.le_refl _), if_pos hm]
theorem which_at_lt (p : Int × Nat → Bool) (l : Labs) (i : Nat) (h : i < (which p l).length) : ∃ j : Nat, j < l.length ∧ (which p l).getD i 0 = j ∧ p (lab l j) = true := by
  refine (mem_which p l _).1 ?_
  rw [List.getD_eq_getElem?_getD, List.getElem?_eq_getElem h]
  exact List.getElem_mem h
end T
/-- A row of bools. -/
def bools (f : Nat → Bool) (n : Nat) : Array Value := (Array.range n).map fun j => .bool (f j)
theorem bools_get (f : Nat → Bool) (n j : Nat) (h : j < n) : (bools f n)[j]? = some (.bool (f j)) := by simp [bools, h]
theorem bools_set (f : Nat → Bool) (n j : Nat) : (bools f n).setIfInBounds j (.bool true) = bools (fun i => decide (i = j) || f i) n := by
  apply Array.ext_getElem?
  intro i
  rw [Array.getElem?_setIfInBounds]
  by_cases h : j = i
  · subst h
    by_cases hn : j < n
    · rw [if_pos rfl, if_pos (by simpa [bools] using hn), bools_get _ n j hn]; simp
    · rw [if_pos rfl, if_neg (by simpa [bools] using hn), Array.getElem?_eq_none (by simp [bools]; omega)]
  · rw [if_neg h]
    by_cases hn : i < n
    · rw [bools_get f n i hn, bools_get _ n i hn, decide_eq_false (fun e => h e.symm)]; rfl
    · rw [Array.getElem?_eq_none (by simp [bools]; omega), Array.getElem?_eq_none (by simp [bools]; omega)]
theorem bools_made (n : Nat) : madeCells #[.bool false] n = bools (fun _ => false) n := by
  apply Array.ext_getElem?
  intro i
  unfold madeCells bools
  by_cases hn : i < n
  · simp [hn, Nat.mod_one]
  · rw [Array.getElem?_eq_none (by simp; omega), Array.getElem?_eq_none (by simp; omega)]
theorem irow_one (w : World) (z : Int) : IRow (w.alloc (.cells #[.int .i64 z] 3)) (some ⟨w.heap.size, 0, none⟩) [z] := fun _ => ⟨w.heap.size, 0, rfl, by simp, fun j hj => by
  obtain rfl : j = 0 := by simp at hj; omega
  simp⟩
theorem Try.info_bool : (Try.prog.info? 4).map (fun i => (i.zero, i.size, i.bytes)) = some (some (.bool false), 1, 1) := by kernel_rfl
end Go.Proofs.Ytdipoaekdafbeaa
