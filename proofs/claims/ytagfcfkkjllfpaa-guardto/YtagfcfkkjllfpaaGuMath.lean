/- Relabelling rules, as plain records. No program is named here. -/
import Derived.Test.YtagfcfkkjllfpaaRuMath
import Derived.WalkKit
namespace Go.Proofs.Ytagfcfkkjllfpaa.Gd
open U
/-- A relabelling rule. -/
structure Gu where
  i : Int
  l : Int
  sa : Nat
  sb : Int
  da : Nat
  db : Int
  p : Int
  to : Int
/-- What came in. -/
structure Q where
  i : Int
  l : Int
  p : Int
  s : Nat
  d : Nat
def Gu.v (r : Gu) : List Value := [.int .i64 r.i, .int .i64 r.l, .int .u32 r.sa, .int .i64 r.sb, .int .u32 r.da, .int .i64 r.db, .int .i64 r.p, .int .i64 r.to]
def Q.v (q : Q) : List Value := [.int .i64 q.i, .int .i64 q.l, .int .i64 q.p, .int .u32 q.s, .int .u32 q.d]
def Gu.fine (r : Gu) : Prop := r.sa < 4294967296 ∧ r.da < 4294967296
def Q.fine (q : Q) : Prop := q.s < 4294967296 ∧ q.d < 4294967296
def num (n many : Int) : Bool := n == -1 || (decide (0 ≤ n) && decide (n < many))
def Gu.ok (m : Int) (r : Gu) : Bool := num r.i 8 && num r.l m && num r.p 256 && A.right r.sa r.sb && A.right r.da r.db && decide (0 ≤ r.to) && decide (r.to < m)
def conds (r : Gu) (q : Q) : List Bool := [fits r.i q.i, fits r.l q.l, fits r.p q.p, A.holds r.sa r.sb q.s, A.holds r.da r.db q.d]
def Gu.m (r : Gu) (q : Q) : Bool := (conds r q).all id
theorem num_iff {n m : Int} : num n m = true ↔ n = -1 ∨ (0 ≤ n ∧ n < m) := by simp [num]
theorem num_eq (n m : Int) (hm : 0 ≤ m) : num n m = (decide (-1 ≤ n) && decide (n < m)) := by
  rw [Bool.eq_iff_iff, num_iff]
  simp only [Bool.and_eq_true, decide_eq_true_eq]
  omega
/-- Whether it is right, as the document works it out. -/
theorem ok_steps (m : Int) (r : Gu) : r.ok m = (decide (-1 ≤ r.i) && decide (r.i ≤ 7) && decide (-1 ≤ r.l) && decide (r.l < m) && decide (-1 ≤ r.p) && decide (r.p ≤ 255) && decide (0 ≤ r.to) && decide (r.to < m) && A.right r.sa r.sb && A.right r.da r.db) := by
  unfold Gu.ok
  rw [num_eq r.i 8 (by omega), num_eq r.p 256 (by omega)]
  by_cases hm : 0 ≤ m
  · rw [num_eq r.l m hm]
    rw [Bool.eq_iff_iff]
    simp only [Bool.and_eq_true, decide_eq_true_eq]
    constructor
    · rintro ⟨⟨⟨⟨⟨⟨⟨a, b⟩, c, d⟩, e, f⟩, g⟩, h⟩, i⟩, j⟩
      exact ⟨⟨⟨⟨⟨⟨⟨⟨⟨a, by omega⟩, c⟩, d⟩, e⟩, by omega⟩, i⟩, j⟩, g⟩, h⟩
    · rintro ⟨⟨⟨⟨⟨⟨⟨⟨⟨a, b⟩, c⟩, d⟩, e⟩, f⟩, i⟩, j⟩, g⟩, h⟩
      exact ⟨⟨⟨⟨⟨⟨⟨a, by omega⟩, c, d⟩, e, by omega⟩, g⟩, h⟩, i⟩, j⟩
  · have e : (decide (0 ≤ r.to) && decide (r.to < m)) = false := by
      rw [Bool.eq_false_iff]
      intro h
      simp only [Bool.and_eq_true, decide_eq_true_eq] at h
      omega
    rw [Bool.and_assoc _ (decide (0 ≤ r.to)) (decide (r.to < m)), e]
    have e2 : ∀ x : Bool, (x && decide (0 ≤ r.to) && decide (r.to < m)) = false := fun x => by rw [Bool.and_assoc, e]; simp
    rw [e2]
    simp
theorem fits_not (a n : Int) : (!(a == -1) && !(a == n)) = !fits a n := by unfold fits; simp
/-- Whether it matches, as the document works it out. -/
theorem m_steps (r : Gu) (q : Q) : r.m q = (!((!(r.i == -1) && !(r.i == q.i)) || (!(r.l == -1) && !(r.l == q.l)) || (!(r.p == -1) && !(r.p == q.p))) && (A.holds r.sa r.sb q.s && A.holds r.da r.db q.d)) := by
  rw [fits_not, fits_not, fits_not]
  unfold Gu.m conds
  simp [Bool.and_assoc]
def zG : Gu := ⟨0, 0, 0, 0, 0, 0, 0, 0⟩
def gu (l : List Gu) (k : Nat) : Gu := l.getD k zG
theorem gu_get (l : List Gu) (k : Nat) (h : k < l.length) : l[k]? = some (gu l k) := by unfold gu; rw [List.getD_eq_getElem?_getD, List.getElem?_eq_getElem h]; rfl
theorem gu_mem (l : List Gu) (k : Nat) (h : k < l.length) : gu l k ∈ l := List.mem_of_getElem? (gu_get l k h)
/-- The place of the first one that matches. -/
def Gfirst (l : List Gu) (q : Q) : Int := first (fun k => (gu l k).m q) l.length
/-- What label it gets. -/
def Gto (l : List Gu) (q : Q) : Int := if Gfirst l q < 0 then q.l else (gu l (Gfirst l q).toNat).to
theorem Gto_none {l : List Gu} {q : Q} (h : Gfirst l q = -1) : Gto l q = q.l := by unfold Gto; rw [h]; rfl
theorem Gto_some {l : List Gu} {q : Q} {k : Nat} (h : Gfirst l q = k) : Gto l q = (gu l k).to := by unfold Gto; rw [h, if_neg (by omega)]; simp
theorem allOk_no {m : Int} {l : List Gu} {k : Nat} (hk : k < l.length) (h : (gu l k).ok m = false) : l.all (Gu.ok m) = false := by
  rw [List.all_eq_false]
  exact ⟨_, gu_mem l k hk, by simp [h]⟩
theorem allOk_yes {m : Int} {l : List Gu} (h : ∀ k, k < l.length → (gu l k).ok m = true) : l.all (Gu.ok m) = true := by
  rw [List.all_eq_true]
  intro x hx
  obtain ⟨k, hk, rfl⟩ := List.getElem_of_mem hx
  have := h k hk
  unfold gu at this
  rwa [List.getD_eq_getElem?_getD, List.getElem?_eq_getElem hk] at this
theorem m_no {r : Gu} {q : Q} {k : Nat} (hk : k < 5) (h : (conds r q).getD k false = false) : r.m q = false := by
  unfold Gu.m
  rw [List.all_eq_false]
  have hl : (conds r q).length = 5 := rfl
  rw [List.getD_eq_getElem?_getD, List.getElem?_eq_getElem (by omega)] at h
  exact ⟨(conds r q)[k]'(by omega), List.getElem_mem _, by simpa using h⟩
theorem m_yes {r : Gu} {q : Q} (h : ∀ k, k < 5 → (conds r q).getD k false = true) : r.m q = true := by
  unfold Gu.m
  rw [List.all_eq_true]
  intro x hx
  obtain ⟨k, hk, rfl⟩ := List.getElem_of_mem hx
  have := h k hk
  rwa [List.getD_eq_getElem?_getD, List.getElem?_eq_getElem hk] at this
theorem Gfirst_one (r : Gu) (q : Q) : (Gfirst [r] q == 0) = r.m q := by
  rcases first_cases (fun k => (gu [r] k).m q) 1 with ⟨h1, h2⟩ | ⟨k, h1, h2, _, h4⟩
  · have h3 := h2 0 (by omega)
    unfold Gfirst
    show (first (fun k => (gu [r] k).m q) 1 == 0) = _
    rw [h1]
    exact h3.symm
  · obtain rfl : k = 0 := by omega
    unfold Gfirst
    show (first (fun k => (gu [r] k).m q) 1 == 0) = _
    rw [h1]
    exact h4.symm
end Go.Proofs.Ytagfcfkkjllfpaa.Gd
