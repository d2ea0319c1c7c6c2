/- The bytes of authorities, as numbers. -/
import Derived.Test.YtmaddfjgiflkbaaLbMem
import Derived.Test.YtmaddfjgiflkbaaCtSMath
namespace Go.Proofs.Ytmaddfjgiflkbaa
open Go.RowKit
set_option maxRecDepth 100000
set_option linter.unusedVariables false

namespace B
open C
/-- A level's byte. -/
def lb (z : Int) : Nat := if z = 0 then 171 else if z = 1 then 150 else if z = 2 then 90 else if z = 3 then 61 else 0
/-- The seven categories that byte i of authorities tells. -/
def v (n i : Nat) : Nat := n / 2 ^ (233 - 7 * i) % 2 ^ 7
theorem v_lt (n i : Nat) : v n i < 128 := Nat.mod_lt _ (by decide)
theorem v_bit (n i r : Nat) (hi : i ≤ 3) (hr : r < 7) : (v n i).testBit (6 - r) = hasN n (7 * i + r) := by
  unfold v hasN
  rw [Nat.testBit_mod_two_pow, Nat.testBit_div_two_pow, decide_eq_true (by omega), decide_eq_true (by omega), Bool.true_and, Bool.true_and]
  congr 1
  omega
theorem v_ext (i x : Nat) (n : Nat) (hi : i ≤ 3) (hx : x < 128) (h : ∀ r, r < 7 → hasN n (7 * i + r) = x.testBit (6 - r)) : v n i = x := by
  apply Nat.eq_of_testBit_eq
  intro j
  by_cases hj : j < 7
  · have := v_bit n i (6 - j) hi (by omega)
    rw [show 6 - (6 - j) = j by omega] at this
    rw [this, h (6 - j) (by omega), show 6 - (6 - j) = j by omega]
  · rw [Nat.testBit_lt_two_pow (Nat.lt_of_lt_of_le (v_lt n i) (show 128 ≤ 2 ^ j from Nat.pow_le_pow_right (n := 2) (by decide) (show 7 ≤ j by omega))), Nat.testBit_lt_two_pow (Nat.lt_of_lt_of_le hx (show 128 ≤ 2 ^ j from Nat.pow_le_pow_right (n := 2) (by decide) (show 7 ≤ j by omega)))]
theorem v_zero (n i : Nat) (hi : i ≤ 3) (h : ∀ r, r < 7 → hasN n (7 * i + r) = false) : v n i = 0 :=
  v_ext i 0 n hi (by decide) fun r hr => by rw [h r hr, Nat.zero_testBit]
theorem has_or (a b k : Nat) : hasN (a ||| b) k = (hasN a k || hasN b k) := by
  unfold hasN; rw [Nat.testBit_or]; cases decide (k < 240) <;> simp
theorem has_one (k j : Nat) (hk : k < 240) : hasN (one k) j = decide (j = k) := by
  have := has_oneI (k : Int) j
  by_cases hj : j < 240
  · have h2 := this hj
    unfold oneI at h2
    rw [if_pos (by omega)] at h2
    simp only [Int.toNat_natCast] at h2
    rw [h2]
    by_cases e : j = k
    · rw [decide_eq_true (by omega), decide_eq_true e]
    · rw [decide_eq_false (by omega), decide_eq_false e]
  · unfold hasN; rw [decide_eq_false hj, decide_eq_false (by omega)]; rfl
theorem has_plus1 (n k j : Nat) (hk : k < 240) : hasN (n ||| one k) j = (hasN n j || decide (j = k)) := by rw [has_or, has_one k j hk]
theorem two_bit (r s : Nat) : (2 ^ r).testBit s = decide (r = s) := by rw [Nat.testBit_two_pow]
theorem v_plus (n k i : Nat) (hi : i ≤ 3) (hk : k < 240) : v (n ||| one k) i = if k / 7 = i then v n i ||| 2 ^ (6 - k % 7) else v n i := by
  by_cases h : k / 7 = i
  · rw [if_pos h]
    refine v_ext i _ _ hi (Nat.or_lt_two_pow (n := 7) (v_lt n i) (Nat.pow_lt_pow_right (by decide) (by omega))) fun r hr => ?_
    rw [has_plus1 n k _ hk, Nat.testBit_or, v_bit n i r hi hr, two_bit]
    congr 1
    by_cases e : 7 * i + r = k
    · rw [decide_eq_true e, decide_eq_true (by omega)]
    · rw [decide_eq_false e, decide_eq_false (by omega)]
  · rw [if_neg h]
    refine v_ext i _ _ hi (v_lt n i) fun r hr => ?_
    rw [has_plus1 n k _ hk, v_bit n i r hi hr, decide_eq_false (by omega), Bool.or_false]
/-- A byte that tells another one, with a bit more. -/
theorem or_odd (x r : Nat) (hr : r < 7) : (2 * x + 1) ||| 2 ^ (7 - r) = 2 * (x ||| 2 ^ (6 - r)) + 1 := by
  apply Nat.eq_of_testBit_eq
  intro j
  rw [Nat.testBit_or, two_bit]
  cases j with
  | zero =>
    rw [decide_eq_false (by omega), Bool.or_false, Nat.testBit_zero, Nat.testBit_zero]
    congr 1
    rw [Nat.mul_add_mod, Nat.mul_add_mod]
  | succ j =>
    rw [Nat.testBit_succ, Nat.testBit_succ, show (2 * x + 1) / 2 = x by omega, show (2 * (x ||| 2 ^ (6 - r)) + 1) / 2 = (x ||| 2 ^ (6 - r)) by omega, Nat.testBit_or, two_bit]
    congr 1
    by_cases e : 7 - r = j + 1
    · rw [decide_eq_true e, decide_eq_true (by omega)]
    · rw [decide_eq_false e, decide_eq_false (by omega)]

/-- How many bytes of authorities a set has. -/
def len (n : Nat) : Nat := ((mostTo n 240 + 7) / 7).toNat
/-- Byte i of them. -/
def ab (n i : Nat) : Nat := 2 * v n i + if i + 1 < len n then 1 else 0
def au (n : Nat) : List Nat := (List.range (len n)).map (ab n)
theorem ab_lt (n i : Nat) : ab n i < 256 := by
  have := v_lt n i
  unfold ab; split <;> omega
theorem len_le (n : Nat) (h : mostTo n 240 ≤ 27) : len n ≤ 4 := by unfold len; omega
theorem most_has (n : Nat) : ∀ (q k : Nat), k < q → hasN n k = true → (k : Int) ≤ mostTo n q
  | 0, k, h, _ => by omega
  | q + 1, k, h, hh => by
    simp only [mostTo]
    by_cases e : k = q
    · subst e; rw [if_pos hh]; omega
    · have := most_has n q k (by omega) hh
      split <;> omega
theorem has_most (n : Nat) : ∀ q, 0 ≤ mostTo n q → hasN n (mostTo n q).toNat = true
  | 0, h => by simp [mostTo] at h
  | q + 1, h => by
    simp only [mostTo] at *
    by_cases e : hasN n q = true
    · rw [if_pos e]; simpa using e
    · rw [if_neg e] at h ⊢; exact has_most n q h
theorem v_over (n i : Nat) (hi : i ≤ 3) (h : len n ≤ i) : v n i = 0 := v_zero n i hi fun r hr => by
  cases hh : hasN n (7 * i + r) with
  | false => rfl
  | true =>
    have h1 := most_has n 240 (7 * i + r) (by omega) hh
    unfold len at h
    omega

/-- The buffer: c bytes, each telling another one. -/
def bf (m c : Nat) : List Value := (List.range c).map fun i => .int .u8 ((2 * v m i + 1 : Nat) : Int)
theorem bf_len (m c : Nat) : (bf m c).length = c := by simp [bf]
theorem bf_get (m c i : Nat) (h : i < c) : (bf m c)[i]? = some (.int .u8 ((2 * v m i + 1 : Nat) : Int)) := by simp [bf, h]
theorem bf_more (m c : Nat) (h : v m c = 0) : bf m c ++ [.int .u8 1] = bf m (c + 1) := by
  unfold bf
  rw [List.range_succ, List.map_append, List.map_cons, List.map_nil, h]
  rfl
theorem bf_set (m c k : Nat) (hk : k < 28) (hc : c ≤ 4) (ha : k / 7 < c) : (bf m c).set (k / 7) (.int .u8 (((2 * v m (k / 7) + 1) ||| 2 ^ (7 - k % 7) : Nat) : Int)) = bf (m ||| one k) c := by
  apply List.ext_getElem?
  intro i
  by_cases hi : i < c
  · by_cases e : k / 7 = i
    · subst e
      rw [List.getElem?_set_self (by rw [bf_len]; exact ha), bf_get _ _ _ hi, or_odd _ _ (by omega), v_plus m k _ (by omega) (by omega), if_pos rfl]
    · rw [List.getElem?_set_ne e, bf_get _ _ _ hi, bf_get _ _ _ hi, v_plus m k i (by omega) (by omega), if_neg e]
  · rw [List.getElem?_eq_none (by rw [List.length_set, bf_len]; omega), List.getElem?_eq_none (by rw [bf_len]; omega)]
/-- The buffer with its end told. -/
def ends (n : Nat) : List Value := (au n).map fun (x : Nat) => Value.int .u8 (x : Int)
theorem ends_none (n : Nat) (h : len n = 0) : bf n 0 = ends n := by unfold ends au bf; rw [h]; rfl
theorem even_of (x : Nat) (h : x < 128) : (2 * x + 1) &&& 254 = 2 * x := by
  have : (List.range 128).all (fun x => (2 * x + 1) &&& 254 == 2 * x) = true := by decide
  exact eq_of_beq (List.all_eq_true.1 this x (List.mem_range.2 h))
theorem ends_set (n c : Nat) (h : len n = c + 1) : (bf n (c + 1)).set c (.int .u8 ((2 * v n c : Nat) : Int)) = ends n := by
  apply List.ext_getElem?
  intro i
  by_cases hi : i < c + 1
  · have hr : (ends n)[i]? = some (.int .u8 ((ab n i : Nat) : Int)) := by simp [ends, au, h, hi]
    rw [hr]
    unfold ab
    by_cases e : c = i
    · subst e
      rw [List.getElem?_set_self (by rw [bf_len]; exact hi), h, if_neg (by omega)]
      rfl
    · rw [List.getElem?_set_ne e, bf_get _ _ _ hi, h, if_pos (by omega)]
  · rw [List.getElem?_eq_none (by rw [List.length_set, bf_len]; omega), List.getElem?_eq_none (by simp [ends, au, h]; omega)]
/-- How many bytes there are ahead of category j of the list. -/
def cOf (l : List Int) (j : Nat) : Nat := if j = 0 then 0 else (l.getD (j - 1) 0 / 7 + 1).toNat
theorem list_pair (n : Nat) : (list n).Pairwise (· < ·) := by
  unfold list listTo
  rw [List.pairwise_map]
  refine List.Pairwise.imp ?_ (List.Pairwise.filter _ List.pairwise_lt_range)
  intro a b h; omega
theorem list_lt (n i j : Nat) (h : i < j) (hj : j < (list n).length) : (list n).getD i 0 < (list n).getD j 0 := by
  rw [List.getD_eq_getElem?_getD, List.getD_eq_getElem?_getD, List.getElem?_eq_getElem hj, List.getElem?_eq_getElem (by omega)]
  exact List.pairwise_iff_getElem.1 (list_pair n) i j (by omega) hj h
theorem list_at (n j : Nat) (hj : j < (list n).length) : ∃ k : Nat, (list n).getD j 0 = k ∧ hasN n k = true ∧ k < 240 := by
  have hm : (list n).getD j 0 ∈ list n := by rw [List.getD_eq_getElem?_getD, List.getElem?_eq_getElem hj]; exact List.getElem_mem hj
  generalize (list n).getD j 0 = x at *
  unfold list listTo at hm
  obtain ⟨k, hk, rfl⟩ := List.mem_map.1 hm
  rw [List.mem_filter, List.mem_range] at hk
  exact ⟨k, rfl, hk.2, hk.1⟩
theorem list_last (n : Nat) (h : 0 < (list n).length) : (list n).getD ((list n).length - 1) 0 = mostTo n 240 := by
  rw [mostTo_list]
  show (listTo n 240).getD ((listTo n 240).length - 1) 0 = _
  have h' : 0 < (listTo n 240).length := h
  generalize listTo n 240 = L at *
  rw [List.getLastD_eq_getLast?, List.getLast?_eq_getElem?, List.getD_eq_getElem?_getD, List.getElem?_eq_getElem (show L.length - 1 < L.length by omega)]
  rfl
theorem list_none (n : Nat) (h : (list n).length = 0) : mostTo n 240 = -1 := by
  rw [mostTo_list]
  have : listTo n 240 = [] := List.eq_nil_of_length_eq_zero h
  rw [this]; rfl
theorem c_end (n : Nat) : cOf (list n) (list n).length = len n := by
  unfold cOf len
  by_cases h : (list n).length = 0
  · rw [if_pos h, list_none n h]; rfl
  · rw [if_neg h, list_last n (by omega)]
    have := (mostTo_ge n 240).1
    have h2 : 0 ≤ mostTo n 240 := by
      obtain ⟨k, hk, _⟩ := list_at n ((list n).length - 1) (by omega)
      rw [list_last n (by omega)] at hk
      omega
    omega
theorem c_le (n j : Nat) (hj : j < (list n).length) : cOf (list n) j ≤ ((list n).getD j 0 / 7).toNat + 1 := by
  unfold cOf
  split
  · omega
  · have := list_lt n (j - 1) j (by omega) hj
    omega
theorem c_next (l : List Int) (j : Nat) : cOf l (j + 1) = (l.getD j 0 / 7 + 1).toNat := by
  unfold cOf; rw [if_neg (by omega), Nat.add_sub_cancel]
theorem has_nothing (k : Nat) : hasN 0 k = false := by unfold hasN; rw [Nat.zero_testBit, Bool.and_false]
theorem mem_take (l : List Int) (j : Nat) (x : Int) (h : x ∈ l.take j) : ∃ i, i < j ∧ i < l.length ∧ l.getD i 0 = x := by
  obtain ⟨i, hi, e⟩ := List.mem_iff_getElem.1 h
  rw [List.length_take] at hi
  refine ⟨i, by omega, by omega, ?_⟩
  rw [List.getElem_take] at e
  rw [List.getD_eq_getElem?_getD, List.getElem?_eq_getElem (by omega)]
  exact e
theorem v_ahead (n j i : Nat) (hi : i ≤ 3) (hj : j ≤ (list n).length) (h : cOf (list n) j ≤ i) : v (plus 0 ((list n).take j)) i = 0 := v_zero _ i hi fun r hr => by
  rw [has_plus _ (by omega), has_nothing, Bool.false_or, decide_eq_false]
  intro hm
  obtain ⟨q, hq, hl, e⟩ := mem_take _ _ _ hm
  unfold cOf at h
  rw [if_neg (by omega)] at h
  have : (list n).getD q 0 ≤ (list n).getD (j - 1) 0 := by
    by_cases e2 : q = j - 1
    · rw [e2]; exact Int.le_refl _
    · exact Int.le_of_lt (list_lt n q (j - 1) (by omega) (by omega))
  omega
theorem plus_list (n : Nat) (h : n < 2 ^ 240) : plus 0 (list n) = n := by
  rw [with_all 0 n (Nat.pow_pos (by decide)) h, union_two, Nat.zero_or]
theorem most_bound (n j : Nat) (hm : mostTo n 240 ≤ 27) (hj : j < (list n).length) : ∃ k : Nat, (list n).getD j 0 = k ∧ k < 28 := by
  obtain ⟨k, e, hh, hk⟩ := list_at n j hj
  have := most_has n 240 k hk hh
  exact ⟨k, e, by omega⟩
end B
#print axioms B.ends_set
#print axioms B.v_ahead
end Go.Proofs.Ytmaddfjgiflkbaa
