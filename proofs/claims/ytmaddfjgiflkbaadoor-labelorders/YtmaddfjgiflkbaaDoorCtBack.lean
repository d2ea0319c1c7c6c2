/- A set's text is read as the set. -/
import Derived.Test.YtmaddfjgiflkbaaDoorCtParse
import Derived.Test.YtmaddfjgiflkbaaDoorCtWithin
import Derived.Test.YtmaddfjgiflkbaaDoorCtSMath
namespace Go.Proofs.YtmaddfjgiflkbaaDoor
set_option maxRecDepth 100000
open Go.RowKit
set_option maxRecDepth 100000
set_option linter.unusedVariables false

namespace C
theorem indexByte_hit (c : UInt8) : ∀ (x r : List UInt8), c ∉ x → Lib.indexByte (x ++ c :: r) c = x.length
  | [], r, _ => by simp [Lib.indexByte]
  | y :: x, r, h => by
    have hy : ¬ y = c := fun e => h (by rw [e]; exact List.mem_cons_self)
    have ih := indexByte_hit c x r (fun hm => h (List.mem_cons_of_mem _ hm))
    rw [List.cons_append, Lib.indexByte]
    simp [hy, ih]
theorem indexByte_miss (c : UInt8) : ∀ (x : List UInt8), c ∉ x → Lib.indexByte x c = -1
  | [], _ => by simp [Lib.indexByte]
  | y :: x, h => by
    have hy : ¬ y = c := fun e => h (by rw [e]; exact List.mem_cons_self)
    have ih := indexByte_miss c x (fun hm => h (List.mem_cons_of_mem _ hm))
    rw [Lib.indexByte]
    simp [hy, ih]
theorem splitK_hit (c : UInt8) (k : Nat) (x r : List UInt8) (h : c ∉ x) : Lib.splitK [c] 0 (k + 1) (x ++ c :: r) = x :: Lib.splitK [c] 0 k r := by
  have e : Lib.index (x ++ c :: r) [c] = x.length := by rw [Lib.index_one]; exact indexByte_hit c x r h
  rw [Lib.splitK, e]
  rw [if_neg (by simp)]
  simp
theorem splitK_miss (c : UInt8) (k : Nat) (x : List UInt8) (h : c ∉ x) : Lib.splitK [c] 0 k x = [x] := by
  cases k with
  | zero => rfl
  | succ k =>
    have e : Lib.index x [c] = -1 := by rw [Lib.index_one]; exact indexByte_miss c x h
    rw [Lib.splitK, e]
    simp
theorem join_more (x : List UInt8) (r : List (List UInt8)) (sep : List UInt8) (h : r ≠ []) : Lib.join (x :: r) sep = x ++ sep ++ Lib.join r sep := by
  cases r with
  | nil => exact absurd rfl h
  | cons y r => rw [Lib.join_cons, Lib.join_cons]; simp [Lib.joinTail]
theorem splitK_join (c : UInt8) : ∀ (ps : List (List UInt8)) (k : Nat), ps ≠ [] → (∀ p ∈ ps, c ∉ p) → ps.length ≤ k + 1 → Lib.splitK [c] 0 k (Lib.join ps [c]) = ps
  | [], _, h, _, _ => absurd rfl h
  | [p], k, _, h, _ => by rw [Lib.join_one]; exact splitK_miss c k p (h p (by simp))
  | p :: q :: r, k, _, h, hk => by
    obtain ⟨k, rfl⟩ : ∃ j, k = j + 1 := ⟨k - 1, by simp only [List.length_cons] at hk; omega⟩
    rw [join_more p (q :: r) [c] (by simp), List.append_assoc]
    show Lib.splitK [c] 0 (k + 1) (p ++ c :: Lib.join (q :: r) [c]) = _
    rw [splitK_hit c k p _ (h p (by simp)), splitK_join c (q :: r) k (by simp) (fun x hx => h x (List.mem_cons_of_mem _ hx)) (by simp only [List.length_cons] at hk ⊢; omega)]

theorem dig_facts (k : Nat) (h : k < 240) : (44 : UInt8) ∉ dig k ∧ (45 : UInt8) ∉ dig k ∧ Lib.atoiAll (dig k) = .ok (k : Int) := by
  have : (List.range 240).all (fun k => !(dig k).contains 44 && !(dig k).contains 45 && (match Lib.atoiAll (dig k) with | .ok v => v == (k : Int) | _ => false)) = true := by kernel_rfl
  have h1 := List.all_eq_true.1 this k (List.mem_range.2 h)
  simp only [Bool.and_eq_true, Bool.not_eq_true', List.contains_eq_mem, decide_eq_false_iff_not] at h1
  refine ⟨h1.1.1, h1.1.2, ?_⟩
  have h2 := h1.2
  cases ha : Lib.atoiAll (dig k) with
  | ok v => rw [ha] at h2; simp at h2; rw [h2]
  | «syntax» => rw [ha] at h2; cases h2
  | range => rw [ha] at h2; cases h2
theorem bs_list (l : List UInt8) : (bs l).data.toList = l := rfl
theorem bs_inj {a b : List UInt8} (h : bs a = bs b) : a = b := by
  have := congrArg (fun s : ByteArray => s.data.toList) h
  simpa [bs] using this
theorem head_one (k : Nat) (h : k < 240) : headOf (bs (dig k)) = bs (dig k) ∧ tailOf (bs (dig k)) = bs (dig k) := by
  have e : Lib.cut (dig k) [45] = (dig k, [], false) := by
    have hi : Lib.index (dig k) [45] = -1 := by rw [Lib.index_one]; exact indexByte_miss 45 _ (dig_facts k h).2.1
    unfold Lib.cut; rw [hi]; rfl
  unfold tailOf headOf
  rw [bs_list, e]
  exact ⟨rfl, rfl⟩
theorem head_two (k l : Nat) (h : k < 240) : headOf (bs (dig k ++ 45 :: dig l)) = bs (dig k) ∧ tailOf (bs (dig k ++ 45 :: dig l)) = bs (dig l) := by
  have e : Lib.cut (dig k ++ 45 :: dig l) [45] = (dig k, dig l, true) := by
    have hi : Lib.index (dig k ++ 45 :: dig l) [45] = (dig k).length := by rw [Lib.index_one]; exact indexByte_hit 45 _ _ (dig_facts k h).2.1
    unfold Lib.cut; rw [hi, if_pos (by omega)]; simp
  unfold tailOf headOf
  rw [bs_list, e]
  exact ⟨rfl, rfl⟩
theorem ok_dig (k : Nat) (h : k < 240) : catOk (bs (dig k)) = true ∧ numOf (bs (dig k)) = k := by
  have e := (dig_facts k h).2.2
  unfold catOk numOf
  rw [bs_list, e]
  exact ⟨decide_eq_true (by omega), Int.toNat_natCast k⟩
theorem has_one' (k j : Nat) (hk : k < 240) : hasN (one k) j = decide (j = k) := by
  by_cases hj : j < 240
  · have h2 := has_oneI (k : Int) j hj
    unfold oneI at h2
    rw [if_pos (by omega), Int.toNat_natCast] at h2
    rw [h2]
    by_cases e : j = k
    · rw [decide_eq_true (by omega), decide_eq_true e]
    · rw [decide_eq_false (by omega), decide_eq_false e]
  · unfold hasN; rw [decide_eq_false hj, decide_eq_false (by omega)]; rfl
theorem has_or' (a b k : Nat) : hasN (a ||| b) k = (hasN a k || hasN b k) := by
  unfold hasN; rw [Nat.testBit_or]; cases decide (k < 240) <;> simp
theorem has_addR (c a j : Nat) : ∀ d, a + d ≤ 240 → hasN (addR c a d) j = (hasN c j || decide (a ≤ j ∧ j < a + d))
  | 0, _ => by rw [decide_eq_false (by omega)]; simp [addR]
  | d + 1, h => by
    show hasN (addR c a d ||| one (a + d)) j = _
    rw [has_or', has_addR c a j d (by omega), has_one' _ _ (by omega), Bool.or_assoc]
    congr 1
    by_cases e : j = a + d
    · rw [decide_eq_true e, decide_eq_true (show a ≤ j ∧ j < a + (d + 1) by omega), Bool.or_true]
    · rw [decide_eq_false e, Bool.or_false, decide_eq_decide]; omega
theorem foldS_snoc (p : ByteArray) : ∀ (ps : List ByteArray) (c : Nat), foldS (ps ++ [p]) c = (foldS ps c).bind fun x => foldS [p] x
  | [], c => rfl
  | q :: ps, c => by
    show (if spanOk q then foldS (ps ++ [p]) _ else none) = (if spanOk q then foldS ps _ else none).bind _
    split
    · exact foldS_snoc p ps _
    · rfl
theorem fold_one (p : ByteArray) (c : Nat) (h : spanOk p = true) : foldS [p] c = some (addR c (numOf (headOf p)) (cntR p)) := by
  show (if spanOk p then _ else _) = _
  rw [if_pos h]; rfl

/-- What is told below k is read. -/
structure F (n : Nat) (s : List (List UInt8) × Nat) (m : Nat) : Prop where
  read : ∃ c, foldS (s.1.map bs) 0 = some c ∧ c < 2 ^ 240 ∧ ∀ j, hasN c j = (hasN n j && decide (j < s.2))
  gap : ∀ j, s.2 ≤ j → j < m → hasN n j = false
  part : ∀ p ∈ s.1, (44 : UInt8) ∉ p ∧ p ≠ [45]
  le : s.2 ≤ 240
theorem F_to (n : Nat) : ∀ m, m ≤ 240 → F n (stTo n m) m
  | 0, _ => ⟨⟨0, rfl, Nat.pow_pos (by decide), fun j => by simp [stTo, hasN]⟩, fun j _ h => by omega, fun p hp => by simp [stTo] at hp, by simp [stTo]⟩
  | m + 1, hm => by
    obtain ⟨⟨c, hc, hcl, hcb⟩, hgap, hpart, hle⟩ := F_to n m (by omega)
    show F n (if hasN n m then step n (stTo n m) m else stTo n m) (m + 1)
    generalize stTo n m = s at *
    by_cases hin : hasN n m = true
    · rw [if_pos hin]
      obtain ⟨r1, r2, r3⟩ := run_spec n _ m rfl
      have r4 := run_lt n m (by omega)
      have dm := dig_facts m (by omega)
      have om := ok_dig m (by omega)
      unfold step
      by_cases hk : m < s.2
      · rw [if_pos hk]
        exact ⟨⟨c, hc, hcl, hcb⟩, fun j h1 h2 => by omega, hpart, hle⟩
      · rw [if_neg hk]
        by_cases h3 : 3 ≤ run n m - m + 1
        · rw [if_pos h3]
          have hd := head_two m (run n m) (by omega)
          have dr := dig_facts (run n m) r4
          have orr := ok_dig (run n m) r4
          have hsp : spanOk (bs (dig m ++ 45 :: dig (run n m))) = true := by unfold spanOk; rw [hd.1, hd.2, om.1, orr.1]; rfl
          refine ⟨⟨addR c m (run n m + 1 - m), ?_, addR_lt _ _ hcl _, fun j => ?_⟩, fun j h1 h2 => ?_, fun p hp => ?_, ?_⟩
          · rw [List.map_append, List.map_cons, List.map_nil, foldS_snoc, hc]
            show foldS [_] c = _
            rw [fold_one _ _ hsp]
            unfold cntR
            rw [hd.1, hd.2, om.2, orr.2]
          · rw [has_addR c m j _ (by omega), hcb j]
            show _ = (hasN n j && decide (j < run n m + 1))
            by_cases hj : m ≤ j ∧ j < run n m + 1
            · have : hasN n j = true := by
                by_cases e : j = m
                · rw [e]; exact hin
                · exact r2 j (by omega) (by omega)
              rw [this, decide_eq_true (show m ≤ j ∧ j < m + (run n m + 1 - m) by omega), decide_eq_true hj.2]; simp
            · rw [decide_eq_false (show ¬ (m ≤ j ∧ j < m + (run n m + 1 - m)) by omega), Bool.or_false]
              by_cases h1 : j < s.2
              · rw [decide_eq_true h1, decide_eq_true (show j < run n m + 1 by omega)]
              · rw [decide_eq_false h1, Bool.and_false]
                by_cases h2 : j < run n m + 1
                · rw [hgap j (by omega) (by omega), Bool.false_and]
                · rw [decide_eq_false h2, Bool.and_false]
          · have : run n m + 1 ≤ j := h1
            omega
          · rcases List.mem_append.1 hp with h | h
            · exact hpart p h
            · rw [List.mem_singleton] at h
              subst h
              refine ⟨?_, fun e => ?_⟩
              · rw [List.mem_append, List.mem_cons]
                rintro (h | h | h)
                · exact dm.1 h
                · cases h
                · exact dr.1 h
              · have h1 := dig_ne m (by omega)
                cases hdm : dig m with
                | nil => exact h1 hdm
                | cons y r => rw [hdm] at e; simp at e
          · show run n m + 1 ≤ 240; omega
        · rw [if_neg h3]
          have hd := head_one m (by omega)
          have hsp : spanOk (bs (dig m)) = true := by unfold spanOk; rw [hd.1, hd.2, om.1]; rfl
          refine ⟨⟨addR c m 1, ?_, addR_lt _ _ hcl _, fun j => ?_⟩, fun j h1 h2 => ?_, fun p hp => ?_, ?_⟩
          · rw [List.map_append, List.map_cons, List.map_nil, foldS_snoc, hc]
            show foldS [_] c = _
            rw [fold_one _ _ hsp]
            unfold cntR
            rw [hd.1, hd.2, om.2, show m + 1 - m = 1 by omega]
          · rw [has_addR c m j _ (by omega), hcb j]
            show _ = (hasN n j && decide (j < m + 1))
            by_cases e : j = m
            · rw [e, hin, decide_eq_true (show m ≤ m ∧ m < m + 1 by omega), decide_eq_true (show m < m + 1 by omega)]; simp
            · rw [decide_eq_false (show ¬ (m ≤ j ∧ j < m + 1) by omega), Bool.or_false]
              by_cases h1 : j < s.2
              · rw [decide_eq_true h1, decide_eq_true (show j < m + 1 by omega)]
              · rw [decide_eq_false h1, Bool.and_false]
                by_cases h2 : j < m + 1
                · rw [hgap j (by omega) (by omega), Bool.false_and]
                · rw [decide_eq_false h2, Bool.and_false]
          · have : m + 1 ≤ j := h1
            omega
          · rcases List.mem_append.1 hp with h | h
            · exact hpart p h
            · rw [List.mem_singleton] at h
              subst h
              exact ⟨dm.1, fun e => dm.2.1 (by rw [e]; simp)⟩
          · show m + 1 ≤ 240; omega
    · rw [if_neg hin]
      exact ⟨⟨c, hc, hcl, hcb⟩, fun j h1 h2 => by
        by_cases e : j = m
        · rw [e]; simpa using hin
        · exact hgap j h1 (by omega), hpart, hle⟩

theorem parts_join (ps : List (List UInt8)) (h0 : ps ≠ []) (h : ∀ p ∈ ps, (44 : UInt8) ∉ p) (hl : ps.length ≤ 240) : parts (bs (Lib.join ps [44])) = ps.map bs := by
  have hsz : ps.length ≤ (bs (Lib.join ps [44])).size + 1 := by
    have e : (bs (Lib.join ps [44])).size = (Lib.join ps [44]).length := by show (bs _).data.size = _; simp [bs]
    rw [e]
    cases ps with
    | nil => exact absurd rfl h0
    | cons p r => rw [Lib.join_cons, List.length_append, Lib.joinTail_length]; simp; omega
  have h1 := Lib.splitB_data ⟨#[44]⟩ 0 (min 241 ((bs (Lib.join ps [44])).size + 1) - 1) (bs (Lib.join ps [44]))
  have h2 := splitK_join 44 ps (min 241 ((bs (Lib.join ps [44])).size + 1) - 1) h0 h (by omega)
  rw [bs_list] at h1
  have h3 : (parts (bs (Lib.join ps [44]))).map (·.data.toList) = ps := h1.trans h2
  apply List.ext_getElem?
  intro i
  have h4 := congrArg (fun l => l[i]?) h3
  simp only [List.getElem?_map] at h4
  rw [List.getElem?_map, ← h4]
  cases (parts (bs (Lib.join ps [44])))[i]? with
  | none => rfl
  | some x => rfl
theorem stTo_len (n : Nat) : (stTo n 240).1.length ≤ 240 := by
  have := (stL_le n (list n).length (Nat.le_refl _)).2
  rw [List.take_length] at this
  have h2 := list_len n
  rw [show stTo n 240 = stL n (list n) from (stL_to n 240).symm]
  omega
/-- A set's text is read as the set. -/
theorem parse_text (n : Nat) (hn : n < 2 ^ 240) : parse (bs (text n)) = some n := by
  obtain ⟨⟨c, hc, hcl, hcb⟩, hgap, hpart, hle⟩ := F_to n 240 (Nat.le_refl _)
  have hcn : c = n := by
    refine ext hcl hn fun k hk => ?_
    rw [hcb k]
    by_cases h : k < (stTo n 240).2
    · rw [decide_eq_true h, Bool.and_true]
    · rw [hgap k (by omega) hk, Bool.false_and]
  subst hcn
  have ht := text_runs c
  have hlen := stTo_len c
  by_cases h0 : (stTo c 240).1 = []
  · rw [if_pos h0] at ht
    rw [h0] at hc
    have hc0 : c = 0 := by simp [foldS] at hc; omega
    rw [ht]
    unfold parse
    rw [if_pos (show bs [45] = ⟨#[45]⟩ from rfl), hc0]
  · rw [if_neg h0] at ht
    have hne : ¬ bs (text c) = ⟨#[45]⟩ := fun e => by
      have e2 : Lib.join (stTo c 240).1 [44] = [45] := by rw [← ht]; exact bs_inj e
      have h1 := splitK_join 44 (stTo c 240).1 240 h0 (fun p hp => (hpart p hp).1) (by omega)
      rw [e2, splitK_miss 44 240 [45] (by simp)] at h1
      exact (hpart [45] (by rw [← h1]; simp)).2 rfl
    have hp : parts (bs (text c)) = (stTo c 240).1.map bs := by rw [ht]; exact parts_join _ h0 (fun p hp => (hpart p hp).1) hlen
    unfold parse
    rw [if_neg hne, hp, hc]
    simp
/-- What is read is told so. -/
theorem text_parse (s : ByteArray) (n : Nat) (h : parse s = some n) : bs (text n) = s := by
  unfold parse at h
  split at h
  · simp at h; subst h; rename_i e; rw [e]
    have : text 0 = [45] := by kernel_rfl
    rw [this]; rfl
  · split at h
    · split at h
      · simp at h; subst h; assumption
      · cases h
    · cases h
#print axioms parse_text
end C
end Go.Proofs.YtmaddfjgiflkbaaDoor
