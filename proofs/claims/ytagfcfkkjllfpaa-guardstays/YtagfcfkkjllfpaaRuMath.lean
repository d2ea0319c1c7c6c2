/- Rules, as plain records: which are right, which match, which cover others. No program is named here. -/
import Derived.WalkKit
import Derived.Test.YtagfcfkkjllfpaaAddrMath
namespace Go.Proofs.Ytagfcfkkjllfpaa.U

/-- A rule. -/
structure Ru where
  i : Int
  o : Int
  sa : Nat
  sb : Int
  da : Nat
  db : Int
  p : Int
  slo : Int
  shi : Int
  dlo : Int
  dhi : Int
  al : Bool
def Ru.v (r : Ru) : List Value := [.int .i64 r.i, .int .i64 r.o, .int .u32 r.sa, .int .i64 r.sb, .int .u32 r.da, .int .i64 r.db, .int .i64 r.p, .int .i64 r.slo, .int .i64 r.shi, .int .i64 r.dlo, .int .i64 r.dhi, .bool r.al]
/-- A question. -/
structure Ask where
  i : Int
  o : Int
  s : Nat
  d : Nat
  p : Int
  sp : Int
  dp : Int

def Ask.v (a : Ask) : List Value := [.int .i64 a.i, .int .i64 a.o, .int .u32 a.s, .int .u32 a.d, .int .i64 a.p, .int .i64 a.sp, .int .i64 a.dp]
def Ask.k (a : Ask) : List Value := [.int .u32 a.s, .int .u32 a.d, .int .i64 a.p, .int .i64 a.sp, .int .i64 a.dp]
def inR (lo hi n : Int) : Bool := decide (lo ≤ n) && decide (n ≤ hi)
def wid (l h a b : Int) : Bool := decide (l ≤ h) && inR a b l && inR a b h
def fits (a n : Int) : Bool := a == -1 || a == n
def hp (p : Int) : Bool := p == 6 || p == 17 || p == 1
def Ru.ok (r : Ru) : Bool := inR (-1) 7 r.i && inR (-1) 7 r.o && inR (-1) 255 r.p && A.right r.sa r.sb && A.right r.da r.db && wid r.slo r.shi 0 65535 && wid r.dlo r.dhi 0 65535
/-- What must hold for a rule to match. -/
def conds (r : Ru) (a : Ask) : List Bool :=
  [r.ok, fits r.i a.i, fits r.o a.o, fits r.p a.p, A.holds r.sa r.sb a.s, A.holds r.da r.db a.d, !hp a.p || inR r.slo r.shi a.sp, !hp a.p || inR r.dlo r.dhi a.dp]
def Ru.m (r : Ru) (a : Ask) : Bool := (conds r a).all id
def cov (r s : Ru) : Bool :=
  r.ok && s.ok && fits r.i s.i && fits r.o s.o && fits r.p s.p && A.within s.sa s.sb r.sa r.sb && A.within s.da s.db r.da r.db && wid s.slo s.shi r.slo r.shi && wid s.dlo s.dhi r.dlo r.dhi

/-- Its addresses are addresses. -/
def Ru.fine (r : Ru) : Prop := r.sa < 4294967296 ∧ r.da < 4294967296
theorem inR_iff {lo hi n : Int} : inR lo hi n = true ↔ lo ≤ n ∧ n ≤ hi := by simp [inR]
theorem wid_iff {l h a b : Int} : wid l h a b = true ↔ l ≤ h ∧ a ≤ l ∧ h ≤ b := by
  simp only [wid, Bool.and_eq_true, decide_eq_true_eq, inR_iff]
  constructor
  · rintro ⟨⟨h1, h2, h3⟩, h4, h5⟩; exact ⟨h1, h2, h5⟩
  · rintro ⟨h1, h2, h3⟩; exact ⟨⟨h1, h2, by omega⟩, by omega, h3⟩
theorem ok_out (r : Ru) (h : (decide (r.i < -1) || decide (7 < r.i) || decide (r.o < -1) || decide (7 < r.o) || decide (r.p < -1) || decide (255 < r.p)) = true) : r.ok = false := by
  simp only [Bool.or_eq_true, decide_eq_true_eq] at h
  rw [Bool.eq_false_iff]
  intro hk
  unfold Ru.ok at hk
  simp only [Bool.and_eq_true, inR_iff] at hk
  omega
theorem ok_in (r : Ru) (h : (decide (r.i < -1) || decide (7 < r.i) || decide (r.o < -1) || decide (7 < r.o) || decide (r.p < -1) || decide (255 < r.p)) = false) : r.ok = (A.right r.sa r.sb && A.right r.da r.db && wid r.slo r.shi 0 65535 && wid r.dlo r.dhi 0 65535) := by
  simp only [Bool.or_eq_false_iff, decide_eq_false_iff_not] at h
  have h1 : inR (-1) 7 r.i = true := inR_iff.2 (by omega)
  have h2 : inR (-1) 7 r.o = true := inR_iff.2 (by omega)
  have h3 : inR (-1) 255 r.p = true := inR_iff.2 (by omega)
  unfold Ru.ok
  rw [h1, h2, h3]
  rfl
theorem fits_iff {a n : Int} : fits a n = true ↔ a = -1 ∨ a = n := by simp [fits]
theorem fits_trans {a b n : Int} (h : fits a b = true) (h2 : fits b n = true) : fits a n = true := by
  rw [fits_iff] at *
  rcases h with h | h
  · exact .inl h
  · subst h; exact h2

theorem ok_ge {r : Ru} (h : r.ok = true) : -1 ≤ r.i ∧ -1 ≤ r.o ∧ -1 ≤ r.p := by
  unfold Ru.ok at h
  simp only [Bool.and_eq_true, inR_iff] at h
  omega
theorem fits_ge (a n : Int) (h : -1 ≤ a) : fits a n = !(decide (0 ≤ a) && !(a == n)) := by
  rw [Bool.eq_iff_iff, fits_iff]
  simp only [Bool.not_eq_true', Bool.and_eq_false_iff, decide_eq_false_iff_not, Bool.not_eq_false', beq_iff_eq]
  omega
/-- Whether a rule matches, as the document works it out. -/
theorem m_steps (r : Ru) (a : Ask) : r.m a = (!(!r.ok || (decide (0 ≤ r.i) && !(r.i == a.i)) || (decide (0 ≤ r.o) && !(r.o == a.o)) || (decide (0 ≤ r.p) && !(r.p == a.p))) && (!(!A.holds r.sa r.sb a.s || !A.holds r.da r.db a.d) &&
    ((!(a.p == 6) && !(a.p == 17) && !(a.p == 1)) || (decide (r.slo ≤ a.sp) && decide (a.sp ≤ r.shi) && decide (r.dlo ≤ a.dp) && decide (a.dp ≤ r.dhi))))) := by
  cases hk : r.ok
  · simp [Ru.m, conds, hk]
  · obtain ⟨h1, h2, h3⟩ := ok_ge hk
    simp only [Ru.m, conds, List.all_cons, List.all_nil, id, hk, fits_ge _ _ h1, fits_ge _ _ h2, fits_ge _ _ h3]
    unfold hp inR
    generalize (decide (0 ≤ r.i) && !(r.i == a.i)) = x1
    generalize (decide (0 ≤ r.o) && !(r.o == a.o)) = x2
    generalize (decide (0 ≤ r.p) && !(r.p == a.p)) = x3
    generalize A.holds r.sa r.sb a.s = x4
    generalize A.holds r.da r.db a.d = x5
    generalize decide (r.slo ≤ a.sp) = x6
    generalize decide (a.sp ≤ r.shi) = x7
    generalize decide (r.dlo ≤ a.dp) = x8
    generalize decide (a.dp ≤ r.dhi) = x9
    generalize (a.p == 6) = y1
    generalize (a.p == 17) = y2
    generalize (a.p == 1) = y3
    cases x1 <;> cases x2 <;> cases x3 <;> cases x4 <;> cases x5 <;> simp
    cases y1 <;> cases y2 <;> cases y3 <;> simp [Bool.and_assoc]
/-- What a prefix that lies within another one holds, that one holds. -/
theorem holds_within {sa : Nat} {sb : Int} {ra : Nat} {rb : Int} {x : Nat} (h : A.within sa sb ra rb = true) (hx : A.holds sa sb x = true) : A.holds ra rb x = true := by
  unfold A.within A.holds at *
  simp only [Bool.and_eq_true, decide_eq_true_eq] at *
  obtain ⟨⟨⟨h1, h2⟩, h3⟩, h6, h4⟩ := h
  refine ⟨h2, ?_⟩
  obtain ⟨_, h5⟩ := hx
  have hr : 0 ≤ rb ∧ rb ≤ 32 := by unfold A.right at h2; simp at h2; omega
  have hs : 0 ≤ sb ∧ sb ≤ 32 := by unfold A.right at h1; simp at h1; omega
  obtain ⟨m, rfl⟩ := Int.eq_ofNat_of_zero_le hr.1
  obtain ⟨n, rfl⟩ := Int.eq_ofNat_of_zero_le hs.1
  have hmn : m ≤ n := by omega
  have e1 : 2 ^ (32 - m) = 2 ^ (32 - n) * 2 ^ (n - m) := by rw [← Nat.pow_add]; congr 1; omega
  simp only [Int.toNat_natCast] at *
  rw [h4, e1, ← Nat.div_div_eq_div_mul, ← Nat.div_div_eq_div_mul, h5]
theorem ports_trans {p l h a b n : Int} (hw : wid l h a b = true) (hx : (!hp p || inR l h n) = true) : (!hp p || inR a b n) = true := by
  rw [Bool.or_eq_true] at *
  rcases hx with hx | hx
  · exact .inl hx
  · rw [wid_iff] at hw
    rw [inR_iff] at hx
    exact .inr (inR_iff.2 ⟨by omega, by omega⟩)
theorem ok_ports {r : Ru} (h : r.ok = true) : r.slo ≤ r.shi ∧ r.dlo ≤ r.dhi := by
  unfold Ru.ok at h
  simp only [Bool.and_eq_true, wid_iff] at h
  omega
theorem wid_of {l h : Int} (a b : Int) (hl : l ≤ h) : wid l h a b = (decide (a ≤ l) && decide (h ≤ b)) := by
  rw [Bool.eq_iff_iff, wid_iff]
  simp only [Bool.and_eq_true, decide_eq_true_eq]
  omega
/-- Whether one rule covers another one, as the document works it out. -/
theorem cov_steps (r s : Ru) : cov r s = (!(!r.ok || !s.ok || !fits r.i s.i || !fits r.o s.o || !fits r.p s.p) && (!(!A.within s.sa s.sb r.sa r.sb || !A.within s.da s.db r.da r.db) &&
    (decide (r.slo ≤ s.slo) && decide (s.shi ≤ r.shi) && decide (r.dlo ≤ s.dlo) && decide (s.dhi ≤ r.dhi)))) := by
  unfold cov
  cases hs : s.ok
  · simp
  · obtain ⟨h1, h2⟩ := ok_ports hs
    rw [wid_of _ _ h1, wid_of _ _ h2]
    simp [Bool.and_assoc]
/-- What a rule matches each one that covers it matches. -/
theorem cov_m {r s : Ru} {a : Ask} (h : cov r s = true) (hm : s.m a = true) : r.m a = true := by
  unfold cov at h
  simp only [Bool.and_eq_true] at h
  obtain ⟨⟨⟨⟨⟨⟨⟨⟨h0, h1⟩, h2⟩, h3⟩, h4⟩, h5⟩, h6⟩, h7⟩, h8⟩ := h
  simp only [Ru.m, conds, List.all_cons, List.all_nil, Bool.and_true, id, Bool.and_eq_true] at hm ⊢
  obtain ⟨g0, g1, g2, g3, g4, g5, g6, g7⟩ := hm
  exact ⟨h0, fits_trans h2 g1, fits_trans h3 g2, fits_trans h4 g3, holds_within h5 g4, holds_within h6 g5, ports_trans h7 g6, ports_trans h8 g7⟩

/-- The first place below n where something holds; -1 without one. -/
def first (p : Nat → Bool) : Nat → Int
  | 0 => -1
  | n + 1 => if 0 ≤ first p n then first p n else if p n then (n : Int) else -1
theorem first_none {p : Nat → Bool} : ∀ {n : Nat}, (∀ k, k < n → p k = false) → first p n = -1
  | 0, _ => rfl
  | n + 1, h => by
    have h1 := first_none (p := p) (n := n) fun k hk => h k (by omega)
    simp [first, h1, h n (by omega)]
theorem first_some {p : Nat → Bool} : ∀ {n k : Nat}, k < n → (∀ j, j < k → p j = false) → p k = true → first p n = k
  | n + 1, k, hk, hn, hy => by
    by_cases e : k = n
    · subst e
      have h1 := first_none (p := p) (n := k) hn
      simp only [first, h1, hy]
      simp
    · have h1 := first_some (p := p) (n := n) (k := k) (by omega) hn hy
      simp only [first, h1]
      rw [if_pos (by omega)]
theorem first_cases (p : Nat → Bool) (n : Nat) : (first p n = -1 ∧ ∀ k, k < n → p k = false) ∨ ∃ k : Nat, first p n = k ∧ k < n ∧ (∀ j, j < k → p j = false) ∧ p k = true := by
  by_cases h : ∃ k, k < n ∧ p k = true
  · have hw : ∃ k, k < n ∧ p k = true ∧ ∀ j, j < k → p j = false := by
      obtain ⟨k, hk, hp⟩ := h
      induction k using Nat.strongRecOn with
      | ind k ih =>
        by_cases h2 : ∃ j, j < k ∧ p j = true
        · obtain ⟨j, hj, hpj⟩ := h2
          exact ih j hj (by omega) hpj
        · exact ⟨k, hk, hp, fun j hj => by
            cases hpj : p j
            · rfl
            · exact absurd ⟨j, hj, hpj⟩ h2⟩
    obtain ⟨k, hk, hp, hn⟩ := hw
    exact .inr ⟨k, first_some hk hn hp, hk, hn, hp⟩
  · have hn : ∀ k, k < n → p k = false := fun k hk => by
      cases hp : p k
      · rfl
      · exact absurd ⟨k, hk, hp⟩ h
    exact .inl ⟨first_none hn, hn⟩
end Go.Proofs.Ytagfcfkkjllfpaa.U
