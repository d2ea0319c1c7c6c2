/- A set's text: as the document makes it, and as runs make it. No program is named here. -/
import Derived.Test.YtmaddfjgiflkbaaDoorCtMath
import Derived.Lib.Join
import Derived.Lib.ItoaNum
import Derived.KernelRfl
namespace Go.Proofs.YtmaddfjgiflkbaaDoor
set_option maxRecDepth 100000
open Go.RowKit

namespace C
/-- A category's digits. -/
def dig (k : Nat) : List UInt8 := Lib.itoa (k : Int)
/-- Is the one ahead of k in it? The one ahead of that? -/
def pr (n : Nat) : Nat → Bool
  | 0 => false
  | k + 1 => hasN n k
def pr2 (n : Nat) : Nat → Bool
  | 0 => false
  | k + 1 => pr n k
/-- The document's text, category by category. -/
def refStep (n : Nat) (s : List UInt8) (k : Nat) : List UInt8 :=
  if hasN n k = false ∨ (pr n k = true ∧ hasN n (k + 1) = true) then s
  else if s = [] then dig k
  else if pr n k = true ∧ pr2 n k = true then s ++ 45 :: dig k
  else s ++ 44 :: dig k
def refTo (n : Nat) : Nat → List UInt8
  | 0 => []
  | k + 1 => refStep n (refTo n k) k
def text (n : Nat) : List UInt8 := if refTo n 240 = [] then [45] else refTo n 240

theorem hasN_lt {n k : Nat} (h : hasN n k = true) : k < 240 := by
  unfold hasN at h
  simp at h
  exact h.1
/-- The last one of those that follow k without a gap. -/
def run (n k : Nat) : Nat := if h : hasN n (k + 1) = true then run n (k + 1) else k
termination_by 240 - k
decreasing_by have := hasN_lt h; omega

theorem run_yes {n k : Nat} (h : hasN n (k + 1) = true) : run n k = run n (k + 1) := by rw [run, dif_pos h]
theorem run_no {n k : Nat} (h : ¬ hasN n (k + 1) = true) : run n k = k := by rw [run, dif_neg h]
theorem run_spec (n : Nat) : ∀ d k, 240 - k = d → k ≤ run n k ∧ (∀ j, k < j → j ≤ run n k → hasN n j = true) ∧ hasN n (run n k + 1) = false := by
  intro d
  induction d using Nat.strongRecOn with
  | _ d ih =>
    intro k hd
    by_cases h : hasN n (k + 1) = true
    · have hlt := hasN_lt h
      obtain ⟨h1, h2, h3⟩ := ih (240 - (k + 1)) (by omega) (k + 1) rfl
      rw [run_yes h]
      refine ⟨by omega, fun j hj hjr => ?_, h3⟩
      by_cases e : j = k + 1
      · subst e; exact h
      · exact h2 j (by omega) hjr
    · rw [run_no h]
      exact ⟨Nat.le_refl _, fun j hj hjr => by omega, by simpa using h⟩
theorem run_ge (n k : Nat) : k ≤ run n k := (run_spec n _ k rfl).1
theorem run_lt (n k : Nat) (h : k < 240) : run n k < 240 := by
  obtain ⟨h1, h2, _⟩ := run_spec n _ k rfl
  by_cases e : run n k = k
  · omega
  · exact hasN_lt (h2 (run n k) (by omega) (Nat.le_refl _))

/-- One category of the list: what is told, and below what all is told. -/
def step (n : Nat) (s : List (List UInt8) × Nat) (k : Nat) : List (List UInt8) × Nat :=
  if k < s.2 then s
  else if 3 ≤ run n k - k + 1 then (s.1 ++ [dig k ++ 45 :: dig (run n k)], run n k + 1)
  else (s.1 ++ [dig k], k + 1)
def stTo (n : Nat) : Nat → List (List UInt8) × Nat
  | 0 => ([], 0)
  | k + 1 => if hasN n k then step n (stTo n k) k else stTo n k

theorem dig_ne (k : Nat) (h : k < 256) : dig k ≠ [] := by
  have : (List.range 256).all (fun k => !(dig k).isEmpty) = true := by kernel_rfl
  have := List.all_eq_true.1 this k (List.mem_range.2 h)
  intro e
  rw [e] at this
  simp at this
theorem join_snoc (l : List (List UInt8)) (x : List UInt8) : Lib.join (l ++ [x]) [44] = if l = [] then x else Lib.join l [44] ++ 44 :: x := by
  cases l with
  | nil => simp [Lib.join_one]
  | cons y r =>
    rw [if_neg (by simp), List.cons_append, Lib.join_cons, Lib.join_cons]
    simp [Lib.joinTail]

theorem refTo_gap (n a : Nat) : ∀ b, a ≤ b → (∀ j, a ≤ j → j < b → hasN n j = false) → refTo n b = refTo n a
  | 0, hab, _ => by rw [show a = 0 by omega]
  | b + 1, hab, h => by
    by_cases e : a = b + 1
    · rw [e]
    · show refStep n (refTo n b) b = _
      unfold refStep
      rw [if_pos (.inl (h b (by omega) (by omega)))]
      exact refTo_gap n a b (by omega) (fun j h1 h2 => h j h1 (by omega))
/-- Inside some that follow one another nothing is told. -/
theorem refTo_in (n k : Nat) (s : List UInt8) (hs : refTo n (k + 1) = s) : ∀ r, k ≤ r → (∀ j, k ≤ j → j ≤ r + 1 → hasN n j = true) → refTo n (r + 1) = s
  | r, hr, h => by
    by_cases e : r = k
    · rw [e]; exact hs
    · match r, hr, h, e with
      | 0, hr, _, e => omega
      | r + 1, hr, h, e =>
        show refStep n (refTo n (r + 1)) (r + 1) = s
        unfold refStep
        rw [if_pos (.inr ⟨h r (by omega) (by omega), h (r + 1 + 1) (by omega) (by omega)⟩)]
        exact refTo_in n k s hs r (by omega) (fun j h1 h2 => h j h1 (by omega))

structure J (n m : Nat) (s : List (List UInt8) × Nat) : Prop where
  join : Lib.join s.1 [44] = refTo n s.2
  none : s.1 = [] ↔ refTo n s.2 = []
  le : s.2 ≤ 240
  gap : ∀ j, s.2 ≤ j → j < m → hasN n j = false
  two : pr n s.2 = true → hasN n s.2 = true → hasN n (s.2 + 1) = false ∧ pr2 n s.2 = false
  some : pr n s.2 = true → s.1 ≠ []

theorem J.next {n m : Nat} {s : List (List UInt8) × Nat} (hj : J n m s) (hm : hasN n m = true) : J n (m + 1) (step n s m) := by
  have hlt := hasN_lt hm
  obtain ⟨r1, r2, r3⟩ := run_spec n _ m rfl
  have r4 := run_lt n m hlt
  unfold step
  by_cases hk : m < s.2
  · rw [if_pos hk]
    exact ⟨hj.join, hj.none, hj.le, fun j h1 h2 => by omega, hj.two, hj.some⟩
  · rw [if_neg hk]
    have hgap : refTo n m = refTo n s.2 := refTo_gap n s.2 m (by omega) hj.gap
    have dk := dig_ne m (by omega)
    -- what the document tells at m
    have key : pr n m = true → m = s.2 := fun hp => by
      by_cases e : m = s.2
      · exact e
      · exfalso
        cases m with
        | zero => simp [pr] at hp
        | succ j => have := hj.gap j (by omega) (by omega); simp [pr, this] at hp
    have hkeep : ¬ (hasN n m = false ∨ (pr n m = true ∧ hasN n (m + 1) = true)) := by
      rintro (h | ⟨h1, h2⟩)
      · rw [hm] at h; cases h
      · have e := key h1
        rw [e] at h1 h2 hm
        have := (hj.two h1 hm).1
        rw [h2] at this; cases this
    have hno : ¬ (pr n m = true ∧ pr2 n m = true) := fun ⟨h1, h2⟩ => by
      have e := key h1
      rw [e] at h1 h2 hm
      have := (hj.two h1 hm).2
      rw [h2] at this; cases this
    have hone : refTo n (m + 1) = if s.1 = [] then dig m else Lib.join s.1 [44] ++ 44 :: dig m := by
      show refStep n (refTo n m) m = _
      unfold refStep
      rw [if_neg hkeep, hgap, if_neg hno, hj.join]
      by_cases h : s.1 = []
      · rw [if_pos h, if_pos (hj.none.1 h)]
      · rw [if_neg h, if_neg (fun h' => h (hj.none.2 h'))]
    have hne1 : refTo n (m + 1) ≠ [] := by
      rw [hone]; split
      · exact dk
      · simp
    by_cases h3 : 3 ≤ run n m - m + 1
    · rw [if_pos h3]
      have hp : pr n m = false := by
        by_cases h1 : pr n m = true
        · have e := key h1
          rw [e] at h1 hm
          have h4 := (hj.two h1 hm).1
          rw [← e] at h4
          have := r2 (m + 1) (by omega) (by omega)
          rw [h4] at this; cases this
        · simpa using h1
      have hin := refTo_in n m _ rfl (run n m - 1) (by omega) (fun j h1 h2 => by
        by_cases e : j = m
        · rw [e]; exact hm
        · exact r2 j (by omega) (by omega))
      have hlast : refTo n (run n m + 1) = refTo n (m + 1) ++ 45 :: dig (run n m) := by
        show refStep n (refTo n (run n m)) (run n m) = _
        obtain ⟨q, hq⟩ : ∃ q, run n m = q + 1 := ⟨run n m - 1, by omega⟩
        have hin' : refTo n (run n m) = refTo n (m + 1) := by rw [← hin, show run n m - 1 + 1 = run n m by omega]
        rw [hin']
        unfold refStep
        have p1 : pr n (run n m) = true := by rw [hq]; exact (by
          by_cases e : q = m
          · rw [e]; exact hm
          · exact r2 q (by omega) (by omega))
        have p2 : pr2 n (run n m) = true := by
          rw [hq]
          obtain ⟨q', hq'⟩ : ∃ q', q = q' + 1 := ⟨q - 1, by omega⟩
          rw [hq']
          show hasN n q' = true
          by_cases e : q' = m
          · rw [e]; exact hm
          · exact r2 q' (by omega) (by omega)
        have hl : hasN n (run n m) = true := r2 _ (by omega) (Nat.le_refl _)
        have hstay : ¬ (hasN n (run n m) = false ∨ (pr n (run n m) = true ∧ hasN n (run n m + 1) = true)) := by
          rintro (h | ⟨_, h⟩)
          · rw [hl] at h; cases h
          · rw [r3] at h; cases h
        rw [if_neg hstay, if_neg hne1, if_pos ⟨p1, p2⟩]
      refine ⟨?_, ?_, by show run n m + 1 ≤ 240; omega, fun j h1 h2 => ?_, fun h1 h2 => ?_, fun _ => by simp⟩
      · show Lib.join (s.1 ++ [dig m ++ 45 :: dig (run n m)]) [44] = refTo n (run n m + 1)
        rw [join_snoc, hlast, hone]
        split <;> simp
      · show s.1 ++ [dig m ++ 45 :: dig (run n m)] = [] ↔ refTo n (run n m + 1) = []
        rw [hlast]; simp
      · have : run n m + 1 ≤ j := h1
        omega
      · have h4 : hasN n (run n m + 1) = true := h2
        rw [r3] at h4; cases h4
    · rw [if_neg h3]
      refine ⟨?_, ?_, by show m + 1 ≤ 240; omega, fun j h1 h2 => ?_, fun h1 h2 => ?_, fun _ => by simp⟩
      · show Lib.join (s.1 ++ [dig m]) [44] = refTo n (m + 1)
        rw [join_snoc, hone]
      · show s.1 ++ [dig m] = [] ↔ refTo n (m + 1) = []
        simp [hne1]
      · have : m + 1 ≤ j := h1
        omega
      · have h4 : hasN n (m + 1) = true := h2
        have e1 : run n m = m + 1 := by
          have := run_ge n (m + 1)
          rw [run_yes h4] at h3 ⊢
          omega
        refine ⟨by show hasN n (m + 1 + 1) = false; rw [← e1]; exact r3, ?_⟩
        show pr n m = false
        by_cases h5 : pr n m = true
        · have e := key h5
          rw [e] at h5 hm h4
          have := (hj.two h5 hm).1
          rw [h4] at this; cases this
        · simpa using h5

theorem J_to (n : Nat) : ∀ m, m ≤ 240 → J n m (stTo n m)
  | 0, _ => ⟨rfl, by simp [stTo, refTo], by simp [stTo], fun j h1 h2 => by omega, fun h => by simp [stTo, pr] at h, fun h => by simp [stTo, pr] at h⟩
  | m + 1, h => by
    have ih := J_to n m (by omega)
    show J n (m + 1) (if hasN n m then step n (stTo n m) m else stTo n m)
    by_cases hm : hasN n m = true
    · rw [if_pos hm]; exact ih.next hm
    · rw [if_neg hm]
      exact ⟨ih.join, ih.none, ih.le, fun j h1 h2 => by
        by_cases e : j = m
        · rw [e]; simpa using hm
        · exact ih.gap j h1 (by omega), ih.two, ih.some⟩
/-- The text, by runs. -/
theorem text_runs (n : Nat) : text n = if (stTo n 240).1 = [] then [45] else Lib.join (stTo n 240).1 [44] := by
  have h := J_to n 240 (Nat.le_refl _)
  have hg := refTo_gap n (stTo n 240).2 240 h.le h.gap
  unfold text
  rw [hg]
  by_cases e : (stTo n 240).1 = []
  · rw [if_pos e, if_pos (h.none.1 e)]
  · rw [if_neg e, if_neg (fun h' => e (h.none.2 h')), h.join]
#print axioms text_runs
end C
end Go.Proofs.YtmaddfjgiflkbaaDoor
