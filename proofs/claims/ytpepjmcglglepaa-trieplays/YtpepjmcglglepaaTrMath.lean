/- Routes, and the nodes of a trie: what each operation makes of them. No program is named here. -/
import Derived.Test.YtpepjmcglglepaaAddrMath
namespace Go.Proofs.Ytpepjmcglglepaa
namespace R

/-- A route: its prefix's address and bits, and where to. -/
structure Rt where
  a : Nat
  b : Int
  o : Int
deriving DecidableEq
def zR : Rt := ⟨0, 0, 0⟩
/-- A node: its children's places, whether it has a route, and that. -/
structure Nd where
  c0 : Nat
  c1 : Nat
  has : Bool
  r : Rt
deriving DecidableEq
def zN : Nd := ⟨0, 0, false, zR⟩
def Nd.ch (n : Nd) (b : Nat) : Nat := if b = 0 then n.c0 else n.c1
def Nd.setCh (n : Nd) (b k : Nat) : Nd := if b = 0 then { n with c0 := k } else { n with c1 := k }
theorem Nd.ch_set (n : Nd) (b k b' : Nat) (h : b ≤ 1) (h' : b' ≤ 1) : (n.setCh b k).ch b' = if b' = b then k else n.ch b' := by
  unfold Nd.setCh Nd.ch
  match b, b', h, h' with
  | 0, 0, _, _ => simp
  | 0, 1, _, _ => simp
  | 1, 0, _, _ => simp
  | 1, 1, _, _ => simp
theorem Nd.set_has (n : Nd) (b k : Nat) : (n.setCh b k).has = n.has := by unfold Nd.setCh; split <;> rfl
theorem Nd.set_r (n : Nd) (b k : Nat) : (n.setCh b k).r = n.r := by unfold Nd.setCh; split <;> rfl
structure St where
  nodes : List Nd
  free : List Nat
  count : Nat
def nd (l : List Nd) (i : Nat) : Nd := l.getD i zN
theorem nd_app (l : List Nd) (i : Nat) : nd (l ++ [zN]) i = nd l i := by
  unfold nd
  rw [List.getD_eq_getElem?_getD, List.getD_eq_getElem?_getD]
  by_cases h : i < l.length
  · rw [List.getElem?_append_left h]
  · rw [List.getElem?_append_right (by omega), List.getElem?_eq_none (l := l) (by omega)]
    by_cases h2 : i - l.length = 0
    · rw [h2]; rfl
    · rw [List.getElem?_eq_none (by simp; omega)]
theorem nd_set (l : List Nd) (i k : Nat) (x : Nd) (h : i < l.length) : nd (l.set i x) k = if k = i then x else nd l k := by
  unfold nd
  rw [List.getD_eq_getElem?_getD, List.getD_eq_getElem?_getD]
  by_cases hk : k = i
  · subst hk; rw [if_pos rfl, List.getElem?_set_self h]; rfl
  · rw [if_neg hk, List.getElem?_set_ne (by omega)]

/-- An address's first bits, as a number. -/
def hi (a j : Nat) : Nat := a / 2 ^ (32 - j)
theorem hi_zero (a : Nat) (h : a < 4294967296) : hi a 0 = 0 := Nat.div_eq_of_lt (by simpa using h)
theorem hi_step (a j : Nat) (h : j < 32) : hi a (j + 1) = 2 * hi a j + A.bit a j := by
  have := A.high_step a j h
  unfold hi
  rw [show 32 - (j + 1) = 31 - j by omega, this]
  omega
theorem hi_up (a j : Nat) (h : j < 32) : hi a (j + 1) / 2 = hi a j := by
  have := hi_step a j h
  have := A.bit_le a j
  omega
theorem hi_mod (a j : Nat) (h : j < 32) : hi a (j + 1) % 2 = A.bit a j := by
  have := hi_step a j h
  have := A.bit_le a j
  omega
theorem hi_down {a c : Nat} (m : Nat) (hm : m ≤ 32) (h : hi a m = hi c m) : ∀ j, j ≤ m → hi a j = hi c j := by
  intro j hj
  have e : m = j + (m - j) := by omega
  generalize m - j = d at e
  induction d generalizing m with
  | zero => rw [show m = j by omega] at h; exact h
  | succ d ih =>
    refine ih (m - 1) (by omega) ?_ (by omega) (by omega)
    have h1 := hi_up a (m - 1) (by omega)
    have h2 := hi_up c (m - 1) (by omega)
    rw [show m - 1 + 1 = m by omega] at h1 h2
    rw [← h1, ← h2, h]

/-- The nodes of a trie stand for the beginnings of its routes' prefixes: 'pl' is where each lies. -/
structure Rep (st : St) (R : List Rt) (pl : Nat → Nat → Option Nat) : Prop where
  root : pl 0 0 = some 0
  lt : ∀ j v i, pl j v = some i → i < st.nodes.length
  inj : ∀ j v j' v' i, pl j v = some i → pl j' v' = some i → j = j' ∧ v = v'
  ch : ∀ j v i b, b ≤ 1 → pl j v = some i → (nd st.nodes i).ch b = (pl (j + 1) (2 * v + b)).getD 0
  up : ∀ j v i, pl (j + 1) v = some i → ∃ i', pl j (v / 2) = some i'
  has : ∀ j v i, pl j v = some i → (nd st.nodes i).has = true → (nd st.nodes i).r ∈ R ∧ (nd st.nodes i).r.b = j ∧ hi (nd st.nodes i).r.a j = v
  hasnt : ∀ j v i, pl j v = some i → (nd st.nodes i).has = false → (nd st.nodes i).r = zR
  keys : ∀ r ∈ R, ∃ i, pl r.b.toNat (hi r.a r.b.toNat) = some i ∧ (nd st.nodes i).has = true ∧ (nd st.nodes i).r = r
  nodup : st.free.Nodup
  fr : ∀ i ∈ st.free, i < st.nodes.length ∧ nd st.nodes i = zN ∧ ∀ j v, pl j v ≠ some i
  cover : ∀ i, i < st.nodes.length → i ∈ st.free ∨ ∃ j v, pl j v = some i
  rnd : R.Nodup
  right : ∀ r ∈ R, A.right r.a r.b = true ∧ r.a < 4294967296
  count : st.count = R.length

/-- Which beginnings there are: those of routes, and those of an address up to m bits. -/
def dom (R : List Rt) (a m j v : Nat) : Prop := (∃ r ∈ R, j ≤ r.b.toNat ∧ hi r.a j = v) ∨ (j ≤ m ∧ hi a j = v)
def Full (pl : Nat → Nat → Option Nat) (R : List Rt) (a m : Nat) : Prop := ∀ j v, (∃ i, pl j v = some i) ↔ dom R a m j v
def Inv (st : St) (R : List Rt) : Prop := ∃ pl, Rep st R pl ∧ Full pl R 0 0

theorem right_bits {a : Nat} {b : Int} (h : A.right a b = true) : 0 ≤ b ∧ b ≤ 32 ∧ a % 2 ^ (32 - b.toNat) = 0 := by
  unfold A.right at h
  exact of_decide_eq_true h
/-- Of right prefixes with as many bits those with the same first bits are the same. -/
theorem right_same {a c : Nat} {b : Int} (h : A.right a b = true) (h' : A.right c b = true) (e : hi a b.toNat = hi c b.toNat) : a = c := by
  have h1 := (right_bits h).2.2
  have h2 := (right_bits h').2.2
  have d1 := Nat.div_add_mod a (2 ^ (32 - b.toNat))
  have d2 := Nat.div_add_mod c (2 ^ (32 - b.toNat))
  unfold hi at e
  rw [h1, e] at d1
  rw [h2] at d2
  omega
theorem holds_iff {p : Nat} {b : Int} {a : Nat} (h : A.right p b = true) : A.holds p b a = true ↔ hi p b.toNat = hi a b.toNat := by
  unfold A.holds hi
  rw [h]
  simp
theorem dom_down {R : List Rt} (hR : ∀ r ∈ R, A.right r.a r.b = true ∧ r.a < 4294967296) {a m : Nat} (hm : m ≤ 32) {j v : Nat} (h : dom R a m (j + 1) v) : dom R a m j (v / 2) := by
  rcases h with ⟨r, hr, h1, h2⟩ | ⟨h1, h2⟩
  · have := right_bits (hR r hr).1
    exact .inl ⟨r, hr, by omega, by rw [← h2, hi_up _ _ (by omega)]⟩
  · exact .inr ⟨by omega, by rw [← h2, hi_up _ _ (by omega)]⟩
theorem dom_low {R : List Rt} {a m c k : Nat} (hk : k ≤ 32) (h : dom R a m k (hi c k)) : ∀ j, j ≤ k → dom R a m j (hi c j) := by
  intro j hj
  rcases h with ⟨r, hr, h1, h2⟩ | ⟨h1, h2⟩
  · exact .inl ⟨r, hr, by omega, hi_down k hk h2 j hj⟩
  · exact .inr ⟨by omega, hi_down k hk h2 j hj⟩

theorem Rep.notroot {st : St} {R : List Rt} {pl : Nat → Nat → Option Nat} (h : Rep st R pl) (j v i : Nat) (hp : pl (j + 1) v = some i) : i ≠ 0 := fun e => by
  subst e
  have := (h.inj _ _ _ _ _ hp h.root).1
  omega
theorem Rep.zero {st : St} {R : List Rt} {pl : Nat → Nat → Option Nat} (h : Rep st R pl) : 0 < st.nodes.length := h.lt 0 0 0 h.root
/-- A child's place: 0, if there is none. -/
theorem Rep.child {st : St} {R : List Rt} {pl : Nat → Nat → Option Nat} (h : Rep st R pl) {a j i : Nat} (hj : j < 32) (hp : pl j (hi a j) = some i) : (nd st.nodes i).ch (A.bit a j) = (pl (j + 1) (hi a (j + 1))).getD 0 := by
  rw [hi_step a j hj]
  exact h.ch j _ i _ (A.bit_le a j) hp
theorem Rep.child_some {st : St} {R : List Rt} {pl : Nat → Nat → Option Nat} (h : Rep st R pl) {a j i : Nat} (hj : j < 32) (hp : pl j (hi a j) = some i) : (nd st.nodes i).ch (A.bit a j) = 0 ∧ pl (j + 1) (hi a (j + 1)) = none ∨ (nd st.nodes i).ch (A.bit a j) ≠ 0 ∧ pl (j + 1) (hi a (j + 1)) = some ((nd st.nodes i).ch (A.bit a j)) := by
  have := h.child hj hp
  cases hq : pl (j + 1) (hi a (j + 1)) with
  | none => rw [hq] at this; exact .inl ⟨this, rfl⟩
  | some k =>
    rw [hq] at this
    have hk := h.notroot _ _ _ hq
    refine .inr ⟨?_, ?_⟩ <;> rw [this]
    · exact hk
    · rfl

/-- The places along an address. -/
structure Path (pl : Nat → Nat → Option Nat) (a n : Nat) (ps : List Nat) : Prop where
  pos : 0 < ps.length
  le : ps.length ≤ n + 1
  at' : ∀ j, j < ps.length → pl j (hi a j) = some (ps.getD j 0)
  stop : ps.length ≤ n → pl ps.length (hi a ps.length) = none
theorem Path.none_from {st : St} {R : List Rt} {pl : Nat → Nat → Option Nat} (h : Rep st R pl) {a n : Nat} {ps : List Nat} (hp : Path pl a n ps) (hn : n ≤ 32) : ∀ j, ps.length ≤ j → j ≤ n → pl j (hi a j) = none := by
  intro j h1 h2
  have e : j = ps.length + (j - ps.length) := by omega
  generalize j - ps.length = d at e
  induction d generalizing j with
  | zero => rw [show j = ps.length by omega]; exact hp.stop (by omega)
  | succ d ih =>
    have := ih (j - 1) (by omega) (by omega) (by omega)
    cases hq : pl j (hi a j) with
    | none => rfl
    | some i =>
      obtain ⟨i', hi'⟩ := h.up (j - 1) (hi a j) i (by rw [show j - 1 + 1 = j by omega]; exact hq)
      have e2 := hi_up a (j - 1) (by omega)
      rw [show j - 1 + 1 = j by omega] at e2
      rw [e2, this] at hi'
      cases hi'

/-- Taking a place. -/
def takeIx (st : St) : Nat := if st.free = [] then st.nodes.length else st.free.getD (st.free.length - 1) 0
def takeSt (st : St) : St := if st.free = [] then { st with nodes := st.nodes ++ [zN] } else { st with free := st.free.take (st.free.length - 1) }
theorem last_split (l : List Nat) (h : l ≠ []) : ∃ l' x, l = l' ++ [x] := ⟨_, _, (List.dropLast_concat_getLast h).symm⟩
theorem take_nd (st : St) (i : Nat) : nd (takeSt st).nodes i = nd st.nodes i := by
  unfold takeSt
  split
  · exact nd_app _ _
  · rfl
theorem take_count (st : St) : (takeSt st).count = st.count := by unfold takeSt; split <;> rfl
theorem take_len (st : St) : st.nodes.length ≤ (takeSt st).nodes.length ∧ (takeSt st).nodes.length ≤ st.nodes.length + 1 := by
  unfold takeSt
  split
  · simp
  · simp
theorem take_all {st : St} {R : List Rt} {pl : Nat → Nat → Option Nat} (h : Rep st R pl) :
    takeIx st < (takeSt st).nodes.length ∧ nd st.nodes (takeIx st) = zN ∧ (∀ j v, pl j v ≠ some (takeIx st)) ∧ (takeSt st).free.Nodup ∧ (∀ k, k ∈ (takeSt st).free ↔ k ∈ st.free ∧ k ≠ takeIx st) ∧ (∀ k, k < (takeSt st).nodes.length → k < st.nodes.length ∨ k = takeIx st) := by
  unfold takeIx takeSt
  by_cases hf : st.free = []
  · simp only [if_pos hf]
    refine ⟨by simp, ?_, fun j v e => ?_, by rw [hf]; exact List.nodup_nil, fun k => by rw [hf]; simp, fun k hk => by simp at hk; omega⟩
    · unfold nd; rw [List.getD_eq_getElem?_getD, List.getElem?_eq_none (by omega)]; rfl
    · exact Nat.lt_irrefl _ (h.lt _ _ _ e)
  · simp only [if_neg hf]
    obtain ⟨l, x, e⟩ := last_split _ hf
    have hx : st.free.getD (st.free.length - 1) 0 = x := by rw [e]; simp
    have ht : st.free.take (st.free.length - 1) = l := by rw [e]; simp
    rw [hx, ht]
    have hm : x ∈ st.free := by rw [e]; simp
    have hn := h.nodup
    rw [e, List.nodup_append] at hn
    refine ⟨(h.fr x hm).1, (h.fr x hm).2.1, (h.fr x hm).2.2, hn.1, fun k => ?_, fun k hk => .inl hk⟩
    rw [e]
    constructor
    · intro hk
      exact ⟨by simp [hk], fun e => hn.2.2 k hk x (by simp) e⟩
    · rintro ⟨h1, h2⟩
      rcases List.mem_append.1 h1 with h1 | h1
      · exact h1
      · exact absurd (by simpa using h1) h2

/-- A child more: a node of nothing below the one at place i. -/
def link (st : St) (i b k : Nat) : St := { st with nodes := st.nodes.set i ((nd st.nodes i).setCh b k) }
def plus (pl : Nat → Nat → Option Nat) (j v i : Nat) : Nat → Nat → Option Nat := fun j' v' => if j' = j ∧ v' = v then some i else pl j' v'
def minus (pl : Nat → Nat → Option Nat) (j v : Nat) : Nat → Nat → Option Nat := fun j' v' => if j' = j ∧ v' = v then none else pl j' v'
theorem link_nd (st : St) (i b k m : Nat) (h : i < st.nodes.length) : nd (link st i b k).nodes m = if m = i then (nd st.nodes i).setCh b k else nd st.nodes m := nd_set _ _ _ _ h

theorem Rep.grow {st : St} {R : List Rt} {pl : Nat → Nat → Option Nat} (h : Rep st R pl) {j v i b : Nat} (hb : b ≤ 1) (hp : pl j v = some i) (hn : pl (j + 1) (2 * v + b) = none) :
    Rep (link (takeSt st) i b (takeIx st)) R (plus pl (j + 1) (2 * v + b) (takeIx st)) := by
  obtain ⟨t1, t2, t3, t4, t5, t6⟩ := take_all h
  have hlen := take_len st
  have hil : i < (takeSt st).nodes.length := Nat.lt_of_lt_of_le (h.lt _ _ _ hp) hlen.1
  have hnd := take_nd st
  have hcount := take_count st
  generalize hx : takeIx st = x at *
  generalize hs : takeSt st = s at *
  have hxi : x ≠ i := fun e => t3 j v (by rw [e]; exact hp)
  have hx0 : x ≠ 0 := fun e => t3 0 0 (by rw [e]; exact h.root)
  have hlk : ∀ m, nd (link s i b x).nodes m = if m = i then (nd st.nodes i).setCh b x else nd st.nodes m := fun m => by rw [link_nd s i b x m hil, hnd, hnd]
  have hxz : nd (link s i b x).nodes x = zN := by rw [hlk, if_neg hxi, t2]
  have hold : ∀ k, (nd (link s i b x).nodes k).has = (nd st.nodes k).has ∧ (nd (link s i b x).nodes k).r = (nd st.nodes k).r := fun k => by
    rw [hlk]
    split
    · rename_i e; subst e; exact ⟨Nd.set_has _ _ _, Nd.set_r _ _ _⟩
    · exact ⟨rfl, rfl⟩
  have hpn : ∀ j' v' k, pl j' v' = some k → plus pl (j + 1) (2 * v + b) x j' v' = some k := fun j' v' k hk => by
    unfold plus
    rw [if_neg (fun e => by rw [e.1, e.2, hn] at hk; cases hk)]
    exact hk
  have hpp : ∀ j' v' k, plus pl (j + 1) (2 * v + b) x j' v' = some k → (j' = j + 1 ∧ v' = 2 * v + b ∧ k = x) ∨ pl j' v' = some k := fun j' v' k hk => by
    unfold plus at hk
    split at hk
    · rename_i e; exact .inl ⟨e.1, e.2, (Option.some.inj hk).symm⟩
    · exact .inr hk
  have hdeep : ∀ b', pl (j + 1 + 1) (2 * (2 * v + b) + b') = none ∨ 1 < b' := fun b' => by
    by_cases hb' : 1 < b'
    · exact .inr hb'
    · refine .inl ?_
      cases hq : pl (j + 1 + 1) (2 * (2 * v + b) + b') with
      | none => rfl
      | some k =>
        obtain ⟨i', hi'⟩ := h.up _ _ _ hq
        rw [show (2 * (2 * v + b) + b') / 2 = 2 * v + b by omega, hn] at hi'
        cases hi'
  refine ⟨hpn _ _ _ h.root, fun j' v' k hk => ?_, fun j1 v1 j2 v2 k h1 h2 => ?_, fun j' v' k b' hb' hk => ?_, fun j' v' k hk => ?_, fun j' v' k hk hh => ?_, fun j' v' k hk hh => ?_, fun r hr => ?_, t4, fun k hk => ?_, fun k hk => ?_, h.rnd, h.right, ?_⟩
  · show k < (s.nodes.set i _).length
    rw [List.length_set]
    rcases hpp _ _ _ hk with ⟨_, _, rfl⟩ | hk
    · exact t1
    · exact Nat.lt_of_lt_of_le (h.lt _ _ _ hk) hlen.1
  · rcases hpp _ _ _ h1 with ⟨a1, a2, a3⟩ | h1' <;> rcases hpp _ _ _ h2 with ⟨b1, b2, b3⟩ | h2'
    · exact ⟨by omega, by omega⟩
    · subst a3; exact absurd h2' (t3 _ _)
    · subst b3; exact absurd h1' (t3 _ _)
    · exact h.inj _ _ _ _ _ h1' h2'
  · rcases hpp _ _ _ hk with ⟨rfl, rfl, rfl⟩ | hk1
    · rw [hxz]
      unfold plus
      rw [if_neg (by omega)]
      rcases hdeep b' with e | e
      · rw [e]; unfold Nd.ch zN; simp
      · omega
    · clear hk
      rw [hlk]
      by_cases hki : k = i
      · subst hki
        obtain ⟨rfl, rfl⟩ := h.inj _ _ _ _ _ hk1 hp
        rw [if_pos rfl, Nd.ch_set _ _ _ _ hb hb']
        unfold plus
        by_cases hbb : b' = b
        · subst hbb; simp
        · rw [if_neg hbb, if_neg (by omega)]
          exact h.ch _ _ _ _ hb' hk1
      · rw [if_neg hki]
        unfold plus
        rw [if_neg (fun e => hki ?_)]
        · exact h.ch _ _ _ _ hb' hk1
        · have e1 : j' = j := by omega
          have e2 : v' = v := by omega
          subst e1 e2
          rw [hp] at hk1
          exact (Option.some.inj hk1).symm
  · rcases hpp _ _ _ hk with ⟨a1, a2, a3⟩ | hk
    · have e1 : j' = j := by omega
      subst e1
      exact ⟨i, hpn _ _ _ (by rw [a2, show (2 * v + b) / 2 = v by omega]; exact hp)⟩
    · obtain ⟨i', hi'⟩ := h.up _ _ _ hk
      exact ⟨i', hpn _ _ _ hi'⟩
  · rcases hpp _ _ _ hk with ⟨a1, a2, a3⟩ | hk
    · subst a3
      rw [hxz] at hh
      cases hh
    · rw [(hold k).1] at hh
      rw [(hold k).2]
      exact h.has _ _ _ hk hh
  · rcases hpp _ _ _ hk with ⟨a1, a2, a3⟩ | hk
    · subst a3
      rw [hxz]; rfl
    · rw [(hold k).1] at hh
      rw [(hold k).2]
      exact h.hasnt _ _ _ hk hh
  · obtain ⟨k, h1, h2, h3⟩ := h.keys r hr
    exact ⟨k, hpn _ _ _ h1, by rw [(hold k).1]; exact h2, by rw [(hold k).2]; exact h3⟩
  · obtain ⟨hk1, hk2⟩ := (t5 k).1 hk
    obtain ⟨f1, f2, f3⟩ := h.fr k hk1
    have hki : k ≠ i := fun e => f3 j v (by rw [e]; exact hp)
    refine ⟨?_, by rw [hlk, if_neg hki]; exact f2, fun j' v' e => ?_⟩
    · show k < (s.nodes.set i _).length
      rw [List.length_set]
      exact Nat.lt_of_lt_of_le f1 hlen.1
    · rcases hpp _ _ _ e with ⟨_, _, e⟩ | e
      · exact hk2 e
      · exact f3 _ _ e
  · have hk' : k < s.nodes.length := by
      have : k < (s.nodes.set i _).length := hk
      rwa [List.length_set] at this
    by_cases hkx : k = x
    · subst hkx
      exact .inr ⟨j + 1, 2 * v + b, by unfold plus; simp⟩
    · rcases t6 k hk' with hk2 | hk2
      · rcases h.cover k hk2 with hc | ⟨j', v', hc⟩
        · exact .inl ((t5 k).2 ⟨hc, hkx⟩)
        · exact .inr ⟨j', v', hpn _ _ _ hc⟩
      · exact absurd hk2 hkx
  · show s.count = _
    rw [hcount]; exact h.count

/-- A route put in. -/
def putR (st : St) (i : Nat) (x : Rt) : St := { st with nodes := st.nodes.set i { nd st.nodes i with has := true, r := x }, count := st.count + 1 }
theorem Rep.put {st : St} {R : List Rt} {pl : Nat → Nat → Option Nat} (h : Rep st R pl) {x : Rt} {i : Nat} (hx : A.right x.a x.b = true) (ha : x.a < 4294967296) (hp : pl x.b.toNat (hi x.a x.b.toNat) = some i) (hn : ∀ r ∈ R, r.b = x.b → r.a ≠ x.a) :
    Rep (putR st i x) (R ++ [x]) pl := by
  have hil := h.lt _ _ _ hp
  have hnd : ∀ m, nd (putR st i x).nodes m = if m = i then { nd st.nodes i with has := true, r := x } else nd st.nodes m := fun m => nd_set _ _ _ _ hil
  have hxb := right_bits hx
  have hnot : ∀ j v k, pl j v = some k → (nd st.nodes k).has = true → k ≠ i := fun j v k hk hh e => by
    subst e
    obtain ⟨e1, e2⟩ := h.inj _ _ _ _ _ hk hp
    obtain ⟨f1, f2, f3⟩ := h.has _ _ _ hk hh
    refine hn _ f1 (by omega) ?_
    have hrr := (h.right _ f1).1
    have hb : (nd st.nodes k).r.b = x.b := by omega
    rw [hb] at hrr
    refine right_same hrr hx ?_
    rw [← e1, f3, e1, e2]
  have hxm : x ∉ R := fun e => hn x e rfl rfl
  refine ⟨h.root, fun j v k hk => ?_, h.inj, fun j v k b hb hk => ?_, h.up, fun j v k hk hh => ?_, fun j v k hk hh => ?_, fun r hr => ?_, h.nodup, fun k hk => ?_, fun k hk => ?_, ?_, fun r hr => ?_, ?_⟩
  · show k < (st.nodes.set i _).length
    rw [List.length_set]; exact h.lt _ _ _ hk
  · rw [hnd]
    split
    · rename_i e; subst e; exact h.ch _ _ _ _ hb hk
    · exact h.ch _ _ _ _ hb hk
  · rw [hnd] at hh ⊢
    by_cases e : k = i
    · subst e
      rw [if_pos rfl]
      obtain ⟨e1, e2⟩ := h.inj _ _ _ _ _ hk hp
      exact ⟨by simp, by show x.b = j; omega, by show hi x.a j = v; rw [e1, e2]⟩
    · rw [if_neg e] at hh ⊢
      obtain ⟨f1, f2⟩ := h.has _ _ _ hk hh
      exact ⟨List.mem_append_left _ f1, f2⟩
  · rw [hnd] at hh ⊢
    by_cases e : k = i
    · subst e; rw [if_pos rfl] at hh; cases hh
    · rw [if_neg e] at hh ⊢; exact h.hasnt _ _ _ hk hh
  · rcases List.mem_append.1 hr with hr | hr
    · obtain ⟨k, h1, h2, h3⟩ := h.keys r hr
      have := hnot _ _ _ h1 h2
      exact ⟨k, h1, by rw [hnd, if_neg this]; exact h2, by rw [hnd, if_neg this]; exact h3⟩
    · obtain rfl : r = x := by simpa using hr
      exact ⟨i, hp, by rw [hnd, if_pos rfl], by rw [hnd, if_pos rfl]⟩
  · obtain ⟨f1, f2, f3⟩ := h.fr k hk
    have hki : k ≠ i := fun e => f3 _ _ (by rw [e]; exact hp)
    refine ⟨?_, by rw [hnd, if_neg hki]; exact f2, f3⟩
    show k < (st.nodes.set i _).length
    rw [List.length_set]; exact f1
  · have hk' : k < (st.nodes.set i _).length := hk
    rw [List.length_set] at hk'
    exact h.cover k hk'
  · rw [List.nodup_append]
    exact ⟨h.rnd, by simp, fun a1 ha1 b1 hb1 e => by
      obtain rfl : b1 = x := by simpa using hb1
      subst e; exact hxm ha1⟩
  · rcases List.mem_append.1 hr with hr | hr
    · exact h.right r hr
    · obtain rfl : r = x := by simpa using hr
      exact ⟨hx, ha⟩
  · show st.count + 1 = (R ++ [x]).length
    rw [h.count]; simp

/-- A route let go. -/
def clearR (st : St) (i : Nat) : St := { st with nodes := st.nodes.set i { nd st.nodes i with has := false, r := zR } }
def less (st : St) : St := { st with count := st.count - 1 }
theorem Rep.clear {st : St} {R R' : List Rt} {pl : Nat → Nat → Option Nat} (h : Rep st R pl) {x : Rt} {i : Nat} (hp : pl x.b.toNat (hi x.a x.b.toNat) = some i) (hx : x ∈ R) (hm : ∀ r, r ∈ R' ↔ r ∈ R ∧ r ≠ x) (hnd' : R'.Nodup) (hl : R'.length + 1 = R.length) :
    Rep (less (clearR st i)) R' pl := by
  have hil := h.lt _ _ _ hp
  have hnd : ∀ m, nd (less (clearR st i)).nodes m = if m = i then { nd st.nodes i with has := false, r := zR } else nd st.nodes m := fun m => nd_set _ _ _ _ hil
  obtain ⟨i', k1, k2, k3⟩ := h.keys x hx
  have hii : i' = i := by rw [hp] at k1; exact (Option.some.inj k1).symm
  subst hii
  refine ⟨h.root, fun j v k hk => ?_, h.inj, fun j v k b hb hk => ?_, h.up, fun j v k hk hh => ?_, fun j v k hk hh => ?_, fun r hr => ?_, h.nodup, fun k hk => ?_, fun k hk => ?_, hnd', fun r hr => h.right r ((hm r).1 hr).1, ?_⟩
  · show k < (st.nodes.set i' _).length
    rw [List.length_set]; exact h.lt _ _ _ hk
  · rw [hnd]
    split
    · rename_i e; subst e; exact h.ch _ _ _ _ hb hk
    · exact h.ch _ _ _ _ hb hk
  · rw [hnd] at hh ⊢
    by_cases e : k = i'
    · rw [if_pos e] at hh; cases hh
    · rw [if_neg e] at hh ⊢
      obtain ⟨f1, f2, f3⟩ := h.has _ _ _ hk hh
      refine ⟨(hm _).2 ⟨f1, fun ex => e ?_⟩, f2, f3⟩
      have : pl x.b.toNat (hi x.a x.b.toNat) = some k := by
        rw [← ex, show (nd st.nodes k).r.b.toNat = j by omega, f3]; exact hk
      rw [hp] at this
      exact (Option.some.inj this).symm
  · rw [hnd] at hh ⊢
    by_cases e : k = i'
    · rw [if_pos e]
    · rw [if_neg e] at hh ⊢; exact h.hasnt _ _ _ hk hh
  · obtain ⟨hr1, hr2⟩ := (hm r).1 hr
    obtain ⟨k, h1, h2, h3⟩ := h.keys r hr1
    have hk : k ≠ i' := fun e => by subst e; rw [k3] at h3; exact hr2 h3.symm
    exact ⟨k, h1, by rw [hnd, if_neg hk]; exact h2, by rw [hnd, if_neg hk]; exact h3⟩
  · obtain ⟨f1, f2, f3⟩ := h.fr k hk
    have hki : k ≠ i' := fun e => f3 _ _ (by rw [e]; exact hp)
    refine ⟨?_, by rw [hnd, if_neg hki]; exact f2, f3⟩
    show k < (st.nodes.set i' _).length
    rw [List.length_set]; exact f1
  · have hk' : k < (st.nodes.set i' _).length := hk
    rw [List.length_set] at hk'
    exact h.cover k hk'
  · show st.count - 1 = R'.length
    rw [h.count]; omega

/-- A node of nothing let go. -/
def cutN (st : St) (ip b i : Nat) : St := { link st ip b 0 with free := st.free ++ [i] }
theorem Rep.prune {st : St} {R : List Rt} {pl : Nat → Nat → Option Nat} (h : Rep st R pl) {j u i ip : Nat} (hp : pl (j + 1) u = some i) (hpp : pl j (u / 2) = some ip) (hz : nd st.nodes i = zN) :
    Rep (cutN st ip (u % 2) i) R (minus pl (j + 1) u) := by
  have hipl := h.lt _ _ _ hpp
  have hne : i ≠ ip := fun e => by subst e; have := (h.inj _ _ _ _ _ hp hpp).1; omega
  have hi0 := h.notroot _ _ _ hp
  have hlk : ∀ m, nd (cutN st ip (u % 2) i).nodes m = if m = ip then (nd st.nodes ip).setCh (u % 2) 0 else nd st.nodes m := fun m => link_nd st ip _ 0 m hipl
  have hold : ∀ k, (nd (cutN st ip (u % 2) i).nodes k).has = (nd st.nodes k).has ∧ (nd (cutN st ip (u % 2) i).nodes k).r = (nd st.nodes k).r := fun k => by
    rw [hlk]
    split
    · rename_i e; subst e; exact ⟨Nd.set_has _ _ _, Nd.set_r _ _ _⟩
    · exact ⟨rfl, rfl⟩
  have hm : ∀ j' v' k, minus pl (j + 1) u j' v' = some k → pl j' v' = some k ∧ ¬ (j' = j + 1 ∧ v' = u) := fun j' v' k hk => by
    unfold minus at hk
    split at hk
    · cases hk
    · rename_i e; exact ⟨hk, e⟩
  have hm' : ∀ j' v' k, pl j' v' = some k → ¬ (j' = j + 1 ∧ v' = u) → minus pl (j + 1) u j' v' = some k := fun j' v' k hk e => by
    unfold minus; rw [if_neg e]; exact hk
  have hkid : ∀ w k, pl (j + 1 + 1) w = some k → w / 2 ≠ u := fun w k hk e => by
    have := h.ch (j + 1) u i (w % 2) (by omega) hp
    rw [hz, ← e, show 2 * (w / 2) + w % 2 = w by omega, hk] at this
    have hk0 := h.notroot _ _ _ hk
    unfold Nd.ch zN at this
    simp at this
    exact hk0 this.symm
  refine ⟨hm' _ _ _ h.root (by omega), fun j' v' k hk => ?_, fun j1 v1 j2 v2 k h1 h2 => h.inj _ _ _ _ _ (hm _ _ _ h1).1 (hm _ _ _ h2).1, fun j' v' k b' hb' hk => ?_, fun j' v' k hk => ?_, fun j' v' k hk hh => ?_, fun j' v' k hk hh => ?_, fun r hr => ?_, ?_, fun k hk => ?_, fun k hk => ?_, h.rnd, h.right, h.count⟩
  · show k < (st.nodes.set ip _).length
    rw [List.length_set]; exact h.lt _ _ _ (hm _ _ _ hk).1
  · obtain ⟨hk1, hke⟩ := hm _ _ _ hk
    clear hk
    have hc := h.ch _ _ _ _ hb' hk1
    rw [hlk]
    by_cases hki : k = ip
    · subst hki
      obtain ⟨rfl, rfl⟩ := h.inj _ _ _ _ _ hk1 hpp
      rw [if_pos rfl, Nd.ch_set _ _ _ _ (by omega) hb']
      unfold minus
      by_cases hbb : b' = u % 2
      · rw [if_pos hbb, if_pos ⟨rfl, by omega⟩]; rfl
      · rw [if_neg hbb, if_neg (by omega)]; exact hc
    · rw [if_neg hki]
      unfold minus
      rw [if_neg (fun e => hki ?_)]
      · exact hc
      · have e1 : j' = j := by omega
        have e2 : v' = u / 2 := by omega
        subst e1 e2
        rw [hpp] at hk1
        exact (Option.some.inj hk1).symm
  · obtain ⟨hk, hke⟩ := hm _ _ _ hk
    obtain ⟨i', hi'⟩ := h.up _ _ _ hk
    refine ⟨i', hm' _ _ _ hi' (fun e => ?_)⟩
    rw [e.1] at hk
    exact hkid _ _ hk e.2
  · rw [(hold k).1] at hh
    rw [(hold k).2]
    exact h.has _ _ _ (hm _ _ _ hk).1 hh
  · rw [(hold k).1] at hh
    rw [(hold k).2]
    exact h.hasnt _ _ _ (hm _ _ _ hk).1 hh
  · obtain ⟨k, h1, h2, h3⟩ := h.keys r hr
    refine ⟨k, hm' _ _ _ h1 (fun e => ?_), by rw [(hold k).1]; exact h2, by rw [(hold k).2]; exact h3⟩
    rw [e.2, e.1, hp] at h1
    have : i = k := Option.some.inj h1
    subst this
    rw [hz] at h2
    cases h2
  · show (st.free ++ [i]).Nodup
    rw [List.nodup_append]
    exact ⟨h.nodup, by simp, fun a1 ha1 b1 hb1 e => by
      obtain rfl : b1 = i := by simpa using hb1
      subst e; exact (h.fr _ ha1).2.2 _ _ hp⟩
  · have hk' : k ∈ st.free ++ [i] := hk
    rcases List.mem_append.1 hk' with hk2 | hk2
    · obtain ⟨f1, f2, f3⟩ := h.fr k hk2
      have hki : k ≠ ip := fun e => f3 _ _ (by rw [e]; exact hpp)
      refine ⟨?_, by rw [hlk, if_neg hki]; exact f2, fun j' v' e => f3 _ _ (hm _ _ _ e).1⟩
      show k < (st.nodes.set ip _).length
      rw [List.length_set]; exact f1
    · obtain rfl : k = i := by simpa using hk2
      refine ⟨?_, by rw [hlk, if_neg hne]; exact hz, fun j' v' e => ?_⟩
      · show k < (st.nodes.set ip _).length
        rw [List.length_set]; exact h.lt _ _ _ hp
      · obtain ⟨e1, e2⟩ := hm _ _ _ e
        exact e2 (h.inj _ _ _ _ _ e1 hp)
  · have hk' : k < (st.nodes.set ip _).length := hk
    rw [List.length_set] at hk'
    by_cases hki : k = i
    · exact .inl (show k ∈ st.free ++ [i] by simp [hki])
    · rcases h.cover k hk' with hc | ⟨j', v', hc⟩
      · exact .inl (show k ∈ st.free ++ [i] by simp [hc])
      · exact .inr ⟨j', v', hm' _ _ _ hc (fun e => hki (by rw [e.1, e.2, hp] at hc; exact (Option.some.inj hc).symm))⟩
end R
end Go.Proofs.Ytpepjmcglglepaa
