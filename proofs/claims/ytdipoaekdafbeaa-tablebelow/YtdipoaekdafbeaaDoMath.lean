/- The mathematics of domains of interpretation: pairs, what a map of them holds, when they are right, what a number is told as, what a set of categories is told as. -/
import Derived.Test.YtdipoaekdafbeaaCtPut
import Derived.Maps.OwnSet
namespace Go.Proofs.Ytdipoaekdafbeaa
open Go.RowKit Go.Maps
set_option linter.unusedVariables false
namespace D
abbrev Pairs := List (Int × Int)
def pt (l : Pairs) (i : Nat) : Int × Int := l.getD i (0, 0)
theorem pt_get (l : Pairs) (i : Nat) (h : i < l.length) : pt l i = l[i] := by unfold pt; rw [List.getD_eq_getElem?_getD, List.getElem?_eq_getElem h]; rfl
theorem pt_mem (l : Pairs) (i : Nat) (h : i < l.length) : pt l i ∈ l := by rw [pt_get l i h]; exact List.getElem_mem h
theorem mem_pt {l : Pairs} {p : Int × Int} (h : p ∈ l) : ∃ i, i < l.length ∧ pt l i = p := by
  obtain ⟨i, hi, e⟩ := List.getElem_of_mem h
  exact ⟨i, hi, by rw [pt_get l i hi]; exact e⟩
theorem take_pt (l : Pairs) (k : Nat) (h : k < l.length) : l.take (k + 1) = l.take k ++ [pt l k] := by
  rw [List.take_succ_eq_append_getElem h, pt_get l k h]
/-- Turned: there first. -/
def sw (b : Bool) (p : Int × Int) : Int × Int := if b then (p.2, p.1) else p
theorem sw_not (b : Bool) (p : Int × Int) : sw (!b) p = ((sw b p).2, (sw b p).1) := by cases b <;> rfl
def putM (b : Bool) (m : DataW Unit) (p : Int × Int) : DataW Unit := m.put (.int .i64 (sw b p).1) (.lit (.int .i64 (sw b p).2))
/-- What the map of pairs reads as. -/
def metD (b : Bool) (l : Pairs) : DataW Unit := l.foldl (putM b) (.map [])
theorem metD_snoc (b : Bool) (l : Pairs) (p : Int × Int) : metD b (l ++ [p]) = putM b (metD b l) p := by simp [metD, List.foldl_append]
theorem metD_take (b : Bool) (l : Pairs) (k : Nat) (h : k < l.length) : metD b (l.take (k + 1)) = putM b (metD b (l.take k)) (pt l k) := by
  rw [take_pt l k h, metD_snoc]
theorem met_ind {M : Pairs → Prop} (h0 : M []) (hs : ∀ l p, M l → M (l ++ [p])) (l : Pairs) : M l := by
  rw [← List.reverse_reverse l]
  induction l.reverse with
  | nil => exact h0
  | cons a t ih => rw [List.reverse_cons]; exact hs _ _ ih
theorem metD_tidy (b : Bool) (l : Pairs) : Tidy (metD b l) := by
  refine met_ind (M := fun l => Tidy (metD b l)) tidy_empty (fun l p h => ?_) l
  rw [metD_snoc]
  exact h.put (k := .int .i64 (sw b p).1) trivial _
theorem metD_has (b : Bool) (n : Int) (l : Pairs) : Maps.has (metD b l) (.int .i64 n) = l.any (fun p => decide ((sw b p).1 = n)) := by
  refine met_ind (M := fun l => Maps.has (metD b l) (.int .i64 n) = l.any (fun p => decide ((sw b p).1 = n))) rfl (fun l p h => ?_) l
  rw [metD_snoc, List.any_append]
  unfold putM
  by_cases e : (sw b p).1 = n
  · rw [e, has_put_same (k := .int .i64 n) (metD_tidy b l).isMap trivial]
    simp [e]
  · rw [has_put_other (fun h => e (by injection h with _ h2; exact h2.symm)), h]
    simp [e]
theorem metD_size (b : Bool) (l : Pairs) : Maps.size (metD b l) ≤ l.length ∧ (Maps.size (metD b l) = l.length ↔ (l.map fun p => (sw b p).1).Nodup) := by
  refine met_ind (M := fun l => Maps.size (metD b l) ≤ l.length ∧ (Maps.size (metD b l) = l.length ↔ (l.map fun p => (sw b p).1).Nodup)) ⟨Nat.le_refl _, by simp [metD, Maps.size]⟩ (fun l p h => ?_) l
  have hs : Maps.size (metD b (l ++ [p])) = if Maps.has (metD b l) (.int .i64 (sw b p).1) then Maps.size (metD b l) else Maps.size (metD b l) + 1 := by
    rw [metD_snoc]; exact size_put (metD_tidy b l) _
  rw [hs, metD_has, List.length_append, List.map_append, List.nodup_append]
  cases hc : l.any (fun q => decide ((sw b q).1 = (sw b p).1))
  · have hn : ∀ a ∈ l.map (fun p => (sw b p).1), a ≠ (sw b p).1 := by
      intro a ha e
      obtain ⟨q, hq, rfl⟩ := List.mem_map.1 ha
      have := List.any_eq_false.1 hc q hq
      simp [e] at this
    refine ⟨by simpa using h.1, ?_⟩
    rw [if_neg (by simp)]
    constructor
    · intro e
      refine ⟨h.2.1 (by simpa using e), by simp, fun a ha y hy => ?_⟩
      simp at hy
      rw [hy]
      exact hn a ha
    · intro e
      rw [h.2.2 e.1]
      rfl
  · refine ⟨by have := h.1; simp; omega, ?_⟩
    rw [if_pos rfl]
    constructor
    · intro e
      have := h.1
      simp at e
      omega
    · rintro ⟨_, _, e⟩
      obtain ⟨q, hq, hqe⟩ := List.any_eq_true.1 hc
      exact absurd (of_decide_eq_true hqe) (e _ (List.mem_map.2 ⟨q, hq, rfl⟩) _ (by simp))
theorem metD_at (b : Bool) (l : Pairs) (z : DataW Unit) : (l.map fun p => (sw b p).1).Nodup → ∀ p ∈ l, (metD b l).atKey (.int .i64 (sw b p).1) z = .lit (.int .i64 (sw b p).2) := by
  refine met_ind (M := fun l => (l.map fun p => (sw b p).1).Nodup → ∀ p ∈ l, (metD b l).atKey (.int .i64 (sw b p).1) z = .lit (.int .i64 (sw b p).2)) (by simp) (fun l q h hn p hp => ?_) l
  rw [metD_snoc]
  unfold putM
  rw [List.map_append, List.nodup_append] at hn
  rcases List.mem_append.1 hp with hp | hp
  · have hne : (sw b p).1 ≠ (sw b q).1 := hn.2.2 _ (List.mem_map.2 ⟨p, hp, rfl⟩) _ (by simp)
    rw [atKey_put_other (fun h => hne (by injection h))]
    exact h hn.1 p hp
  · simp at hp
    subst hp
    exact atKey_put_same (k := .int .i64 (sw b p).1) (metD_tidy b l).isMap trivial _ _

/-! ### right -/
def rng (most : Int) (p : Int × Int) : Prop := 0 ≤ p.1 ∧ p.1 ≤ most ∧ 0 ≤ p.2 ∧ p.2 ≤ most
def apart (p q : Int × Int) : Prop := p.1 ≠ q.1 ∧ p.2 ≠ q.2
def POk (most : Int) (l : Pairs) : Prop := l.length ≤ 256 ∧ (∀ i, i < l.length → rng most (pt l i)) ∧ ∀ i, i < l.length → ∀ k, k < i → apart (pt l k) (pt l i)
instance (most : Int) (p : Int × Int) : Decidable (rng most p) := by unfold rng; infer_instance
instance (p q : Int × Int) : Decidable (apart p q) := by unfold apart; infer_instance
instance (most : Int) (l : Pairs) : Decidable (POk most l) := by unfold POk; infer_instance
theorem nodup_pt (f : Int × Int → Int) (l : Pairs) : (l.map f).Nodup ↔ ∀ i, i < l.length → ∀ k, k < i → f (pt l k) ≠ f (pt l i) := by
  unfold List.Nodup
  rw [List.pairwise_iff_getElem]
  constructor
  · intro h i hi k hk
    have := h k i (by simpa using by omega) (by simpa using hi) hk
    rw [pt_get l i hi, pt_get l k (by omega)]
    simpa using this
  · intro h i j hi hj hij
    have hi' : i < l.length := by simpa using hi
    have hj' : j < l.length := by simpa using hj
    have := h j hj' i hij
    rw [pt_get l i hi', pt_get l j hj'] at this
    simpa using this
theorem POk.nodup {most : Int} {l : Pairs} (h : POk most l) (b : Bool) : (l.map fun p => (sw b p).1).Nodup := by
  rw [nodup_pt]
  intro i hi k hk
  have := h.2.2 i hi k hk
  cases b
  · exact this.1
  · exact this.2
theorem POk_code (most : Int) (l : Pairs) (hl : l.length ≤ 256) (hr : ∀ i, i < l.length → rng most (pt l i)) : decide (POk most l) = (decide ((Maps.size (metD false l) : Int) = l.length) && decide ((Maps.size (metD true l) : Int) = l.length)) := by
  have h0 := (metD_size false l).2
  have h1 := (metD_size true l).2
  rw [nodup_pt] at h0 h1
  rw [← Bool.decide_and, decide_eq_decide]
  constructor
  · intro h
    exact ⟨by rw [h0.2 fun i hi k hk => (h.2.2 i hi k hk).1], by rw [h1.2 fun i hi k hk => (h.2.2 i hi k hk).2]⟩
  · rintro ⟨e0, e1⟩
    have e0' := h0.1 (by omega)
    have e1' := h1.1 (by omega)
    exact ⟨hl, hr, fun i hi k hk => ⟨e0' i hi k hk, e1' i hi k hk⟩⟩

/-! ### a number, told -/
def num1 (b : Bool) (l : Pairs) (n : Int) : Int := if l.length = 0 then n else match l.find? (fun p => decide ((sw b p).1 = n)) with | some p => (sw b p).2 | none => -1
theorem num1_nil (b : Bool) (l : Pairs) (n : Int) (h : l.length = 0) : num1 b l n = n := by unfold num1; rw [if_pos h]
theorem num1_hit (b : Bool) (l : Pairs) (n : Int) (i : Nat) (hi : i < l.length) (hk : ∀ k, k < i → (sw b (pt l k)).1 ≠ n) (he : (sw b (pt l i)).1 = n) : num1 b l n = (sw b (pt l i)).2 := by
  unfold num1
  rw [if_neg (by omega)]
  have : l.find? (fun p => decide ((sw b p).1 = n)) = some (pt l i) := by
    rw [List.find?_eq_some_iff_getElem]
    refine ⟨by simpa using he, i, hi, (pt_get l i hi).symm, fun j hj => ?_⟩
    have := hk j hj
    rw [pt_get l j (by omega)] at this
    simpa using this
  rw [this]
theorem num1_miss (b : Bool) (l : Pairs) (n : Int) (h0 : l.length ≠ 0) (hk : ∀ k, k < l.length → (sw b (pt l k)).1 ≠ n) : num1 b l n = -1 := by
  unfold num1
  rw [if_neg h0]
  have : l.find? (fun p => decide ((sw b p).1 = n)) = none := by
    rw [List.find?_eq_none]
    intro p hp
    obtain ⟨i, hi, rfl⟩ := mem_pt hp
    simpa using hk i hi
  rw [this]
/-- What the teller tells. -/
def tok (b : Bool) (l : Pairs) (n : Int) : Bool := decide (0 ≤ num1 b l n)
theorem tell_map {most : Int} {l : Pairs} (h : POk most l) (b : Bool) (n c : Int) (h0 : l.length ≠ 0) (hc : (metD b l).atKey (.int .i64 n) (.lit (.int .i64 0)) = .lit (.int .i64 c)) :
    Maps.has (metD b l) (.int .i64 n) = tok b l n ∧ (tok b l n = true → c = num1 b l n) := by
  rw [metD_has]
  unfold tok num1
  rw [if_neg h0]
  cases hf : l.find? (fun p => decide ((sw b p).1 = n)) with
  | none =>
    rw [List.find?_eq_none] at hf
    refine ⟨?_, fun e => by simp at e⟩
    rw [List.any_eq_false.2 hf]
    rfl
  | some p =>
    have hm := List.mem_of_find?_eq_some hf
    have he : (sw b p).1 = n := by simpa using List.find?_some hf
    have ha := metD_at b l (.lit (.int .i64 0)) (h.nodup b) p hm
    rw [he, hc] at ha
    have hcv : c = (sw b p).2 := by injection ha with ha; injection ha with _ ha
    obtain ⟨i, hi, rfl⟩ := mem_pt hm
    have hr := h.2.1 i hi
    have h2 : 0 ≤ (sw b (pt l i)).2 := by
      cases b
      · exact hr.2.2.1
      · exact hr.1
    refine ⟨?_, fun _ => hcv⟩
    rw [List.any_eq_true.2 ⟨_, hm, by simpa using he⟩]
    simp [h2]
/-- Right pairs: what is told is told back. -/
theorem num1_back {most : Int} {l : Pairs} (h : POk most l) (b : Bool) (n : Int) (hn : 0 ≤ n ∧ n ≤ most) (hok : tok b l n = true) : num1 (!b) l (num1 b l n) = n ∧ 0 ≤ num1 b l n ∧ num1 b l n ≤ most := by
  by_cases h0 : l.length = 0
  · rw [num1_nil b l n h0, num1_nil _ l n h0]
    exact ⟨rfl, hn⟩
  · have hok' : 0 ≤ num1 b l n := of_decide_eq_true hok
    by_cases hex : ∃ i, i < l.length ∧ (sw b (pt l i)).1 = n
    · obtain ⟨i, hi, he⟩ := hex
      have hne : ∀ k, k < i → (sw b (pt l k)).1 ≠ n := fun k hk e => by
        have := h.2.2 i hi k hk
        cases b
        · exact this.1 (e.trans he.symm)
        · exact this.2 (e.trans he.symm)
      have h1 := num1_hit b l n i hi hne he
      have hr := h.2.1 i hi
      rw [h1]
      have hb : num1 (!b) l (sw b (pt l i)).2 = (sw (!b) (pt l i)).2 := num1_hit (!b) l _ i hi (fun k hk e => by
        have := h.2.2 i hi k hk
        rw [sw_not] at e
        cases b
        · exact this.2 e
        · exact this.1 e) (by rw [sw_not])
      rw [hb, sw_not]
      refine ⟨he, ?_⟩
      cases b
      · exact ⟨hr.2.2.1, hr.2.2.2⟩
      · exact ⟨hr.1, hr.2.1⟩
    · rw [num1_miss b l n h0 (fun k hk e => hex ⟨k, hk, e⟩)] at hok'
      omega

/-! ### a set of categories, told -/
def setL (b : Bool) (ct : Pairs) (ks : List Int) : Nat := ks.foldl (fun m k => C.put m (num1 b ct k) true) 0
def okL (b : Bool) (ct : Pairs) (ks : List Int) : Bool := ks.all fun k => tok b ct k
theorem setL_snoc (b : Bool) (ct : Pairs) (ks : List Int) (k : Int) : setL b ct (ks ++ [k]) = C.put (setL b ct ks) (num1 b ct k) true := by simp [setL, List.foldl_append]
theorem okL_snoc (b : Bool) (ct : Pairs) (ks : List Int) (k : Int) : okL b ct (ks ++ [k]) = (okL b ct ks && tok b ct k) := by simp [okL]
theorem put_lt (n : Nat) (k : Int) (h : n < 2 ^ 240) : C.put n k true < 2 ^ 240 := by
  unfold C.put
  rw [if_pos rfl]
  refine C.or_lt h ?_
  unfold C.oneI
  split
  · exact C.one_lt _
  · decide
theorem setL_lt (b : Bool) (ct : Pairs) (ks : List Int) : setL b ct ks < 2 ^ 240 := by
  rw [← List.reverse_reverse ks]
  induction ks.reverse with
  | nil => exact Nat.two_pow_pos _
  | cons a t ih => rw [List.reverse_cons, setL_snoc]; exact put_lt _ _ ih
theorem hasN_or (n m j : Nat) : C.hasN (n ||| m) j = (C.hasN n j || C.hasN m j) := by
  unfold C.hasN
  rw [Nat.testBit_or]
  cases decide (j < 240) <;> simp
theorem hasN_one (k j : Nat) (hk : k < 240) (hj : j < 240) : C.hasN (C.one k) j = decide (j = k) := by
  unfold C.hasN
  rw [C.one_bit k (239 - j) hk, decide_eq_true hj, Bool.true_and, decide_eq_decide]
  omega
theorem has_put (n : Nat) (z : Int) (j : Nat) (hj : j < 240) : C.hasN (C.put n z true) j = (C.hasN n j || decide (z = (j : Int))) := by
  unfold C.put
  rw [if_pos rfl, hasN_or]
  congr 1
  by_cases h0 : 0 ≤ z
  · obtain ⟨k, rfl⟩ : ∃ k : Nat, z = k := ⟨z.toNat, by omega⟩
    rw [C.oneI_in]
    by_cases hk : k < 240
    · rw [hasN_one k j hk hj, decide_eq_decide]; omega
    · have : C.one k = 0 := by unfold C.one; rw [if_neg hk]
      rw [this, decide_eq_false (by omega)]
      unfold C.hasN
      simp
  · have : C.oneI z = 0 := by unfold C.oneI; rw [if_neg h0]
    rw [this, decide_eq_false (by omega)]
    unfold C.hasN
    simp
theorem has_setL (b : Bool) (ct : Pairs) (ks : List Int) (j : Nat) (hj : j < 240) : C.hasN (setL b ct ks) j = ks.any fun k => decide (num1 b ct k = (j : Int)) := by
  rw [← List.reverse_reverse ks]
  induction ks.reverse with
  | nil => simp [setL, C.hasN]
  | cons a t ih => rw [List.reverse_cons, setL_snoc, has_put _ _ _ hj, ih, List.any_append]; simp
theorem hasN_ext {n m : Nat} (hn : n < 2 ^ 240) (hm : m < 2 ^ 240) (h : ∀ j, j < 240 → C.hasN n j = C.hasN m j) : n = m := by
  apply Nat.eq_of_testBit_eq
  intro i
  rcases Nat.lt_or_ge i 240 with hi | hi
  · have := h (239 - i) (by omega)
    unfold C.hasN at this
    rw [decide_eq_true (show 239 - i < 240 by omega), Bool.true_and, Bool.true_and, show 239 - (239 - i) = i by omega] at this
    exact this
  · rw [Nat.testBit_lt_two_pow (Nat.lt_of_lt_of_le hn (Nat.pow_le_pow_right (by decide) hi)), Nat.testBit_lt_two_pow (Nat.lt_of_lt_of_le hm (Nat.pow_le_pow_right (by decide) hi))]
theorem mem_list (n : Nat) (z : Int) : z ∈ C.list n ↔ ∃ j : Nat, j < 240 ∧ z = j ∧ C.hasN n j = true := by
  unfold C.list C.listTo
  simp only [List.mem_map, List.mem_filter, List.mem_range]
  constructor
  · rintro ⟨j, ⟨h1, h2⟩, rfl⟩; exact ⟨j, h1, rfl, h2⟩
  · rintro ⟨j, h1, rfl, h2⟩; exact ⟨j, ⟨h1, h2⟩, rfl⟩
theorem set_back {ct : Pairs} (h : POk 239 ct) (b : Bool) (n : Nat) (hn : n < 2 ^ 240) (hok : okL b ct (C.list n) = true) :
    okL (!b) ct (C.list (setL b ct (C.list n))) = true ∧ setL (!b) ct (C.list (setL b ct (C.list n))) = n := by
  have hall : ∀ z ∈ C.list n, num1 (!b) ct (num1 b ct z) = z ∧ 0 ≤ num1 b ct z ∧ num1 b ct z ≤ 239 := fun z hz => by
    obtain ⟨j, hj, rfl, _⟩ := (mem_list n z).1 hz
    exact num1_back h b j ⟨by omega, by omega⟩ (List.all_eq_true.1 hok _ hz)
  have hmem : ∀ y, y ∈ C.list (setL b ct (C.list n)) ↔ ∃ z ∈ C.list n, num1 b ct z = y := fun y => by
    rw [mem_list]
    constructor
    · rintro ⟨j, hj, rfl, hh⟩
      rw [has_setL b ct _ j hj] at hh
      obtain ⟨z, hz, e⟩ := List.any_eq_true.1 hh
      exact ⟨z, hz, of_decide_eq_true e⟩
    · rintro ⟨z, hz, rfl⟩
      have := hall z hz
      refine ⟨(num1 b ct z).toNat, by omega, by omega, ?_⟩
      rw [has_setL b ct _ _ (by omega)]
      exact List.any_eq_true.2 ⟨z, hz, by rw [decide_eq_true]; omega⟩
  refine ⟨List.all_eq_true.2 fun y hy => ?_, hasN_ext (setL_lt _ _ _) hn fun j hj => ?_⟩
  · obtain ⟨z, hz, rfl⟩ := (hmem y).1 hy
    have := (hall z hz).1
    unfold tok
    rw [this]
    obtain ⟨j, _, rfl, _⟩ := (mem_list n z).1 hz
    exact decide_eq_true (by omega)
  · rw [has_setL _ _ _ j hj]
    cases hh : C.hasN n j
    · rw [List.any_eq_false]
      intro y hy
      obtain ⟨z, hz, rfl⟩ := (hmem y).1 hy
      rw [(hall z hz).1]
      obtain ⟨i, hi, rfl, h1⟩ := (mem_list n z).1 hz
      intro e
      have : i = j := by have := of_decide_eq_true e; omega
      subst this
      rw [hh] at h1
      cases h1
    · refine List.any_eq_true.2 ⟨num1 b ct j, (hmem _).2 ⟨j, (mem_list n _).2 ⟨j, hj, rfl, hh⟩, rfl⟩, ?_⟩
      rw [(hall j ((mem_list n _).2 ⟨j, hj, rfl, hh⟩)).1]
      exact decide_eq_true rfl

/-! ### a domain, a label told -/
structure Dm where
  num : Int
  la : Option Addr
  lc : Nat
  lv : Pairs
  ca : Option Addr
  cc : Nat
  ct : Pairs
def Dm.v (d : Dm) : Array Value := #[.int .u32 d.num, .slice d.la d.lv.length d.lc, .slice d.ca d.ct.length d.cc]
def Dm.right (d : Dm) : Bool := decide (POk 255 d.lv) && decide (POk 239 d.ct)
def lr (z : Int) : Bool := decide (0 ≤ z) && decide (z ≤ 255)
def Dm.fit (d : Dm) (z : Int) (n : Nat) (b : Bool) : Bool := tok b d.lv z && okL b d.ct (C.list n)
def Dm.tellE (d : Dm) (z : Int) (n : Nat) (b : Bool) : Int := if d.right && lr z then (if d.fit z n b then 0 else 6) else 1
def Dm.tellZ (d : Dm) (z : Int) (n : Nat) (b : Bool) : Int := if d.right && lr z then (if d.fit z n b then num1 b d.lv z else 0) else 0
def Dm.tellN (d : Dm) (z : Int) (n : Nat) (b : Bool) : Nat := if d.right && lr z then (if d.fit z n b then setL b d.ct (C.list n) else 0) else 0
theorem Dm.tellN_lt (d : Dm) (z : Int) (n : Nat) (b : Bool) : d.tellN z n b < 2 ^ 240 := by
  unfold Dm.tellN
  split
  · split
    · exact setL_lt _ _ _
    · decide
  · decide
/-- What is told there, and back, is what it was. -/
theorem Dm.back (d : Dm) (z : Int) (n : Nat) (b : Bool) (hn : n < 2 ^ 240) (he : d.tellE z n b = 0) :
    d.tellE (d.tellZ z n b) (d.tellN z n b) (!b) = 0 ∧ d.tellZ (d.tellZ z n b) (d.tellN z n b) (!b) = z ∧ d.tellN (d.tellZ z n b) (d.tellN z n b) (!b) = n := by
  unfold Dm.tellE at he
  cases hr : (d.right && lr z)
  · rw [hr] at he; simp at he
  rw [hr, if_pos rfl] at he
  cases hf : d.fit z n b
  · rw [hf] at he; simp at he
  have e1 : d.tellZ z n b = num1 b d.lv z := by unfold Dm.tellZ; rw [hr, hf]; rfl
  have e2 : d.tellN z n b = setL b d.ct (C.list n) := by unfold Dm.tellN; rw [hr, hf]; rfl
  rw [Bool.and_eq_true] at hr
  unfold Dm.fit at hf
  rw [Bool.and_eq_true] at hf
  have hR := hr.1
  unfold Dm.right at hR
  rw [Bool.and_eq_true] at hR
  have hz := hr.2
  unfold lr at hz
  rw [Bool.and_eq_true, decide_eq_true_eq, decide_eq_true_eq] at hz
  obtain ⟨k1, k2, k3⟩ := num1_back (of_decide_eq_true hR.1) b z hz hf.1
  obtain ⟨s1, s2⟩ := set_back (of_decide_eq_true hR.2) b n hn hf.2
  have hlr : lr (num1 b d.lv z) = true := by unfold lr; rw [decide_eq_true k2, decide_eq_true k3]; rfl
  have hfit : d.fit (num1 b d.lv z) (setL b d.ct (C.list n)) (!b) = true := by
    unfold Dm.fit tok
    rw [k1, s1, decide_eq_true hz.1]
    rfl
  rw [e1, e2]
  unfold Dm.tellE Dm.tellZ Dm.tellN
  rw [hr.1, hlr, hfit, k1, s2]
  exact ⟨rfl, rfl, rfl⟩
end D
#print axioms D.Dm.back
end Go.Proofs.Ytdipoaekdafbeaa
