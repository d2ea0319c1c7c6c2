/- The labels of a table: as keys of a map; which can be there; a number's label, a label's number; ranges. -/
import Derived.Test.YtdipoaekdafbeaaDoMath
import Derived.Test.YtdipoaekdafbeaaDoLow
import Derived.Test.YtdipoaekdafbeaaLbRight
import Derived.DeepKeys4
import Derived.DataBytes
namespace Go.Proofs.Ytdipoaekdafbeaa
open Go.RowKit Go.Maps Go.ChangeMaps
set_option maxRecDepth 100000
set_option linter.unusedVariables false

theorem Try.laidT : laidOutB Try.prog = true := by kernel_rfl
theorem Try.rowT : (29 : TypeId) < Try.prog.types.size := of_decide_eq_true (by kernel_rfl)
theorem Try.wideT : (match Try.prog.underlying 29 with | some (.array _ _) | some (.struct _) => true | _ => false) = true := by rw [Try.underlying29]
theorem keyLab : Keyed Try.prog 29 := Keyed.of_law (deep_law_laid Try.laidT (m := 5) (by omega) Try.rowT (by kernel_rfl) Try.wideT)
theorem Try.deepT : Try.prog.keyType 29 = true := by kernel_rfl
theorem Try.cL : Try.prog.cellsOf 29 = 31 := by kernel_rfl
theorem Try.cC : Try.prog.cellsOf 27 = 30 := by kernel_rfl
theorem Try.cI : Try.prog.cellsOf 3 = 1 := by kernel_rfl
theorem Try.cB : Try.prog.cellsOf 5 = 1 := by kernel_rfl
theorem u8_wf (x : Nat) (h : x < 256) : (Lit.int .u8 (x : Int)).wf = true := by
  have : (List.range 256).all (fun x => (Lit.int .u8 ((x : Nat) : Int)).wf) = true := by kernel_rfl
  exact List.all_eq_true.1 this x (List.mem_range.2 h)
theorem lits_byte (d x : Nat) (h : x < 256) : Try.prog.keyLits (d + 1) 5 [.int .u8 x] = some [.int .u8 x] := by
  unfold Program.keyLits
  rw [Try.underlying5]
  simp only [u8_wf x h, and_self, if_true]
theorem lits_cats (d n : Nat) : ∃ ls, Try.prog.keyLits (d + 2) 27 (C.cv n).toList = some ls := by
  have hm : (List.range 30).mapM (fun i => Try.prog.keyLits (d + 1) 5 (((C.cv n).toList.drop (i * 1)).take 1)) = some ((List.range 30).map fun i => [Lit.int .u8 (C.byte n i : Nat)]) :=
    mapM_some_of_forall _ fun i hi => by
      have hi' := List.mem_range.1 hi
      have : ((C.cv n).toList.drop (i * 1)).take 1 = [.int .u8 (C.byte n i : Nat)] := by
        apply List.ext_getElem?
        intro j
        rw [List.getElem?_take, List.getElem?_drop]
        cases j with
        | zero =>
          rw [if_pos (by omega), Nat.mul_one, Nat.add_zero, Array.getElem?_toList]
          exact C.bv_get _ i hi'
        | succ j => rw [if_neg (by omega)]; rfl
      rw [this]
      exact lits_byte d _ (C.byte_lt n i)
  apply Exists.intro
  unfold Program.keyLits
  rw [Try.underlying27]
  simp only [Try.cC, Try.cB]
  rw [if_pos (by rw [Array.length_toList, cv_size]), hm]
  rfl
theorem lits_lab (d : Nat) (z : Int) (n : Nat) (hz : I64 z) : ∃ ls, Try.prog.keyLits (d + 3) 29 (L.lv z n).toList = some ls := by
  obtain ⟨lc, hc⟩ := lits_cats d n
  have h0 : (L.lv z n).toList.take 1 = [.int .i64 z] := by simp [L.lv]
  have h1 : ((L.lv z n).toList.drop 1).take 30 = (C.cv n).toList := by
    have : (L.lv z n).toList.drop 1 = (C.cv n).toList := by simp [L.lv]
    rw [this, List.take_of_length_le]
    rw [Array.length_toList, cv_size]
    omega
  have hi : Try.prog.keyLits (d + 2) 3 [.int .i64 z] = some [.int .i64 z] := by
    unfold Program.keyLits
    rw [Try.underlying3]
    simp only [hz.wf, and_self, if_true]
  apply Exists.intro
  unfold Program.keyLits
  rw [Try.underlying29]
  simp only
  rw [if_pos ⟨by rw [Try.cL, Array.length_toList, L.lv_size], by kernel_rfl⟩]
  simp only [List.mapM_cons, List.mapM_nil, Try.cI, Try.cC, List.drop_zero, h0, h1, hi, hc]
  rfl

namespace T
abbrev Labs := List (Int × Nat)
def ok (p : Int × Nat) : Prop := I64 p.1 ∧ p.2 < 2 ^ 240
noncomputable def kl (p : Int × Nat) : Lit := (keyOf Try.prog 29 (.agg (L.lv p.1 p.2))).getD (.int .i64 0)
theorem key_of (p : Int × Nat) (h : ok p) : keyOf Try.prog 29 (.agg (L.lv p.1 p.2)) = some (kl p) := by
  have : ∃ k, keyOf Try.prog 29 (.agg (L.lv p.1 p.2)) = some k := by
    unfold keyOf
    rw [Try.underlying29]
    have hf : (Value.agg (L.lv p.1 p.2)).formed Try.prog 29 = true := by simp [Value.formed, Try.underlying29, Try.cL, L.lv_size]
    simp only [Try.deepT, hf, Bool.and_self, if_true]
    obtain ⟨ls, h1⟩ := lits_lab (Try.prog.types.size - 2) p.1 p.2 h.1
    have hs : Try.prog.types.size - 2 + 3 = Try.prog.types.size + 1 := by
      have : 2 ≤ Try.prog.types.size := of_decide_eq_true (by kernel_rfl)
      omega
    rw [hs] at h1
    apply Exists.intro
    show Option.map _ (Try.prog.keyLits (Try.prog.types.size + 1) 29 (L.lv p.1 p.2).toList) = _
    rw [h1]
    rfl
  obtain ⟨k, hk⟩ := this
  unfold kl
  rw [hk]
  rfl
theorem kl_lit (p : Int × Nat) (h : ok p) : WideAt.IsKeyLit (kl p) := keyLab.key (key_of p h)
theorem kl_inj {p q : Int × Nat} (hp : ok p) (hq : ok q) (h : kl p = kl q) : p = q := by
  have h1 := key_of p hp
  rw [h] at h1
  have := keyLab.inj h1 (key_of q hq)
  injection this with this
  obtain ⟨e1, e2⟩ := L.lv_inj hp.2 hq.2 this
  exact Prod.ext e1 e2

/-! ### the map of labels' numbers -/
noncomputable def tabF (m : DataW Unit) (q : (Int × Nat) × Nat) : DataW Unit := m.put (kl q.1) (.lit (.int .i64 q.2))
noncomputable def tabD (l : Labs) : DataW Unit := l.zipIdx.foldl tabF (.map [])
theorem tabD_snoc (l : Labs) (p : Int × Nat) : tabD (l ++ [p]) = (tabD l).put (kl p) (.lit (.int .i64 l.length)) := by
  unfold tabD
  rw [List.zipIdx_append, List.foldl_append]
  simp [tabF]
theorem labs_ind {M : Labs → Prop} (h0 : M []) (hs : ∀ l p, M l → M (l ++ [p])) (l : Labs) : M l := by
  rw [← List.reverse_reverse l]
  induction l.reverse with
  | nil => exact h0
  | cons a t ih => rw [List.reverse_cons]; exact hs _ _ ih
theorem tabD_map (l : Labs) : IsMap (tabD l) := by
  refine labs_ind (M := fun l => IsMap (tabD l)) isMap_empty (fun l p h => ?_) l
  rw [tabD_snoc]
  exact h.put _ _
theorem tabD_has (x : Int × Nat) (hx : ok x) (l : Labs) : (∀ p ∈ l, ok p) → Maps.has (tabD l) (kl x) = decide (x ∈ l) := by
  refine labs_ind (M := fun l => (∀ p ∈ l, ok p) → Maps.has (tabD l) (kl x) = decide (x ∈ l)) (fun _ => by simp [tabD, Maps.has]) (fun l p h hl => ?_) l
  have hp := hl p (by simp)
  rw [tabD_snoc]
  by_cases e : x = p
  · subst e
    rw [has_put_same (tabD_map l) (kl_lit x hx)]
    simp
  · rw [has_put_other (fun h => e (kl_inj hx hp h)), h (fun q hq => hl q (by simp [hq]))]
    simp [e]
theorem tabD_at (l : Labs) (z : DataW Unit) : (∀ p ∈ l, ok p) → l.Nodup → ∀ i (h : i < l.length), (tabD l).atKey (kl l[i]) z = .lit (.int .i64 i) := by
  refine labs_ind (M := fun l => (∀ p ∈ l, ok p) → l.Nodup → ∀ i (h : i < l.length), (tabD l).atKey (kl l[i]) z = .lit (.int .i64 i)) (fun _ _ i h => by simp at h) (fun l p h hl hn i hi => ?_) l
  have hp := hl p (by simp)
  rw [List.nodup_append] at hn
  rw [tabD_snoc]
  by_cases e : i = l.length
  · subst e
    have : (l ++ [p])[l.length] = p := by simp
    rw [this]
    exact atKey_put_same (tabD_map l) (kl_lit p hp) _ _
  · have hi' : i < l.length := by simp at hi; omega
    have : (l ++ [p])[i] = l[i] := List.getElem_append_left hi'
    rw [this, atKey_put_other (fun h2 => hn.2.2 _ (List.getElem_mem hi') p (by simp) (kl_inj (hl _ (by simp [List.getElem_mem])) hp h2))]
    exact h (fun q hq => hl q (by simp [hq])) hn.1 i hi'

/-! ### which can be there -/
def lab (l : Labs) (i : Nat) : Int × Nat := l.getD i (0, 0)
theorem lab_get (l : Labs) (i : Nat) (h : i < l.length) : lab l i = l[i] := by unfold lab; rw [List.getD_eq_getElem?_getD, List.getElem?_eq_getElem h]; rfl
theorem lab_mem (l : Labs) (i : Nat) (h : i < l.length) : lab l i ∈ l := by rw [lab_get l i h]; exact List.getElem_mem h
theorem take_lab (l : Labs) (k : Nat) (h : k < l.length) : l.take (k + 1) = l.take k ++ [lab l k] := by
  rw [List.take_succ_eq_append_getElem h, lab_get l k h]
def addE (l : Labs) (p : Int × Nat) : Int := if D.lr p.1 = false then 1 else if l.length = 16 then 5 else if p ∈ l then 7 else 0
/-- All before number k can be there. -/
def upTo (l : Labs) (k : Nat) : Prop := ∀ j, j < k → addE (l.take j) (lab l j) = 0
theorem upTo_succ {l : Labs} {k : Nat} (h : upTo l k) (hk : addE (l.take k) (lab l k) = 0) : upTo l (k + 1) := fun j hj => by
  rcases Nat.lt_or_ge j k with h1 | h1
  · exact h j h1
  · obtain rfl : j = k := by omega
    exact hk
theorem addE_zero {l : Labs} {p : Int × Nat} (h : addE l p = 0) : D.lr p.1 = true ∧ l.length ≠ 16 ∧ p ∉ l := by
  unfold addE at h
  split at h
  · omega
  · split at h
    · omega
    · split at h
      · omega
      · rename_i h1 h2 h3
        exact ⟨by simpa using h1, h2, h3⟩
theorem upTo_le {l : Labs} {k : Nat} (h : upTo l k) (hk : k ≤ l.length) : k ≤ 16 := by
  rcases Nat.lt_or_ge 16 k with h1 | h1
  · have := (addE_zero (h 16 h1)).2.1
    rw [List.length_take] at this
    omega
  · exact h1
theorem upTo_nodup {l : Labs} : ∀ k, upTo l k → k ≤ l.length → (l.take k).Nodup
  | 0, _, _ => by simp
  | k + 1, h, hk => by
    rw [take_lab l k (by omega), List.nodup_append]
    refine ⟨upTo_nodup k (fun j hj => h j (by omega)) (by omega), by simp, fun a ha b hb => ?_⟩
    simp at hb
    rw [hb]
    exact fun e => (addE_zero (h k (by omega))).2.2 (e ▸ ha)
/-- How many can be there, and the error of the next one. -/
def chk (l : Labs) : Nat × Int := match (List.range l.length).find? (fun k => addE (l.take k) (lab l k) != 0) with | some k => (k, addE (l.take k) (lab l k)) | none => (l.length, 0)
theorem chk_bad {l : Labs} {k : Nat} (hk : k < l.length) (h : upTo l k) (he : addE (l.take k) (lab l k) ≠ 0) : chk l = (k, addE (l.take k) (lab l k)) := by
  unfold chk
  have : (List.range l.length).find? (fun k => addE (l.take k) (lab l k) != 0) = some k := by
    rw [List.find?_eq_some_iff_getElem]
    refine ⟨by simpa using he, k, by simpa using hk, by simp, fun j hj => ?_⟩
    simpa using h j hj
  rw [this]
theorem chk_good {l : Labs} (h : upTo l l.length) : chk l = (l.length, 0) := by
  unfold chk
  have : (List.range l.length).find? (fun k => addE (l.take k) (lab l k) != 0) = none := by
    rw [List.find?_eq_none]
    intro k hk
    simpa using h k (List.mem_range.1 hk)
  rw [this]
theorem chk_cases (l : Labs) : (upTo l l.length ∧ chk l = (l.length, 0)) ∨ ∃ k, k < l.length ∧ upTo l k ∧ addE (l.take k) (lab l k) ≠ 0 ∧ chk l = (k, addE (l.take k) (lab l k)) := by
  by_cases h : upTo l l.length
  · exact .inl ⟨h, chk_good h⟩
  · right
    have key : ∀ k, k ≤ l.length → upTo l k ∨ ∃ j, j < k ∧ upTo l j ∧ addE (l.take j) (lab l j) ≠ 0 := by
      intro k
      induction k with
      | zero => intro _; exact .inl fun j hj => by omega
      | succ k ih =>
        intro hk
        rcases ih (by omega) with h1 | ⟨j, h1, h2⟩
        · by_cases he : addE (l.take k) (lab l k) = 0
          · exact .inl (upTo_succ h1 he)
          · exact .inr ⟨k, by omega, h1, he⟩
        · exact .inr ⟨j, by omega, h2⟩
    rcases key l.length (Nat.le_refl _) with h1 | ⟨j, h1, h2, h3⟩
    · exact absurd h1 h
    · exact ⟨j, h1, h2, h3, chk_bad h1 h2 h3⟩

/-! ### a label's number; ranges -/
def findI (l : Labs) (x : Int × Nat) : Int := match l.findIdx? (fun p => decide (p = x)) with | some i => (i : Int) | none => -1
theorem findI_hit (l : Labs) (x : Int × Nat) (k : Nat) (h : k < l.length) (hn : ∀ j, j < k → lab l j ≠ x) (hy : lab l k = x) : findI l x = k := by
  unfold findI
  rw [show l.findIdx? (fun p => decide (p = x)) = some k from List.findIdx?_eq_some_iff_getElem.2 ⟨h, by rw [← lab_get l k h]; simpa using hy, fun j hj => by rw [← lab_get l j (by omega)]; simpa using hn j hj⟩]
theorem findI_miss (l : Labs) (x : Int × Nat) (hn : ∀ j, j < l.length → lab l j ≠ x) : findI l x = -1 := by
  unfold findI
  rw [show l.findIdx? (fun p => decide (p = x)) = none from List.findIdx?_eq_none_iff.2 fun p hp => by
    obtain ⟨i, hi, rfl⟩ := List.getElem_of_mem hp
    rw [← lab_get l i hi]
    simpa using hn i hi]
theorem findI_tab {l : Labs} (hl : ∀ p ∈ l, ok p) (hn : l.Nodup) (x : Int × Nat) (hx : ok x) (c : Int) (hc : (tabD l).atKey (kl x) (.lit (.int .i64 0)) = .lit (.int .i64 c)) :
    Maps.has (tabD l) (kl x) = decide (0 ≤ findI l x) ∧ c = max (findI l x) 0 := by
  rw [tabD_has x hx l hl]
  by_cases h : x ∈ l
  · obtain ⟨k, hk, rfl⟩ := List.getElem_of_mem h
    rw [tabD_at l _ hl hn k hk] at hc
    have hf : findI l l[k] = k := findI_hit l _ k hk (fun j hj e => by
      rw [lab_get l j (by omega)] at e
      exact (List.pairwise_iff_getElem.1 hn) j k (by omega) hk hj e) (lab_get l k hk)
    rw [hf, decide_eq_true h, decide_eq_true (by omega)]
    injection hc with hc
    injection hc with _ hc
    exact ⟨rfl, by omega⟩
  · have hh := tabD_has x hx l hl
    rw [decide_eq_false h] at hh
    rw [atKey_of_not_has hh] at hc
    have hf : findI l x = -1 := findI_miss l x fun j hj e => h (e ▸ lab_mem l j hj)
    rw [hf, decide_eq_false h]
    injection hc with hc
    injection hc with _ hc
    exact ⟨rfl, by omega⟩
def whichTo (p : Int × Nat → Bool) (l : Labs) (k : Nat) : List Int := ((List.range k).filter fun i => p (lab l i)).map fun (j : Nat) => (j : Int)
def which (p : Int × Nat → Bool) (l : Labs) : List Int := whichTo p l l.length
theorem whichTo_succ (p : Int × Nat → Bool) (l : Labs) (k : Nat) : whichTo p l (k + 1) = whichTo p l k ++ (if p (lab l k) then [(k : Int)] else []) := by
  unfold whichTo
  rw [List.range_succ, List.filter_append, List.map_append]
  cases h : p (lab l k) <;> simp [h]
theorem whichTo_len (p : Int × Nat → Bool) (l : Labs) (k : Nat) : (whichTo p l k).length ≤ k := by
  unfold whichTo
  rw [List.length_map]
  have := List.length_filter_le (fun i => p (lab l i)) (List.range k)
  rw [List.length_range] at this
  exact this
def inP (lo hi x : Int × Nat) : Bool := L.dom x.1 x.2 lo.1 lo.2 && L.dom hi.1 hi.2 x.1 x.2
def belowP (t x : Int × Nat) : Bool := L.dom t.1 t.2 x.1 x.2
def belowL (l : Labs) (n : Int) : List Int := if 0 ≤ n ∧ n < l.length then which (belowP (lab l n.toNat)) l else []
end T
#print axioms T.findI_tab
end Go.Proofs.Ytdipoaekdafbeaa
