/- Which nodes there are, step by step; how many; what is found. No program is named here. -/
import Derived.Test.YtpepjmcglglepaaTrMath
namespace Go.Proofs.Ytpepjmcglglepaa
namespace R

theorem Full.grow {R : List Rt} {pl : Nat → Nat → Option Nat} {a m x : Nat} (hf : Full pl R a m) (hm : m < 32) :
    Full (plus pl (m + 1) (2 * hi a m + A.bit a m) x) R a (m + 1) := by
  have hs := hi_step a m hm
  intro j v
  unfold plus
  by_cases e : j = m + 1 ∧ v = 2 * hi a m + A.bit a m
  · rw [if_pos e]
    refine ⟨fun _ => .inr ⟨by omega, by rw [e.1, hs, e.2]⟩, fun _ => ⟨x, rfl⟩⟩
  · rw [if_neg e, hf j v]
    constructor
    · rintro (h | ⟨h1, h2⟩)
      · exact .inl h
      · exact .inr ⟨by omega, h2⟩
    · rintro (h | ⟨h1, h2⟩)
      · exact .inl h
      · refine .inr ⟨?_, h2⟩
        by_cases hj : j = m + 1
        · exact absurd ⟨hj, by rw [← h2, hj, hs]⟩ e
        · omega
theorem Full.put {R : List Rt} {pl : Nat → Nat → Option Nat} {x : Rt} (hf : Full pl R x.a x.b.toNat) (ha : x.a < 4294967296) : Full pl (R ++ [x]) 0 0 := by
  intro j v
  rw [hf j v]
  constructor
  · rintro (⟨r, hr, h⟩ | ⟨h1, h2⟩)
    · exact .inl ⟨r, List.mem_append_left _ hr, h⟩
    · exact .inl ⟨x, by simp, h1, h2⟩
  · rintro (⟨r, hr, h⟩ | ⟨h1, h2⟩)
    · rcases List.mem_append.1 hr with hr | hr
      · exact .inl ⟨r, hr, h⟩
      · obtain rfl : r = x := by simpa using hr
        exact .inr h
    · obtain rfl : j = 0 := by omega
      refine .inr ⟨by omega, ?_⟩
      rw [hi_zero _ ha, ← h2, hi_zero _ (by decide)]
theorem Full.start {R : List Rt} {pl : Nat → Nat → Option Nat} (hf : Full pl R 0 0) {a n : Nat} (ha : a < 4294967296) (hn : n ≤ 32) {ps : List Nat} (hp : Path pl a n ps) : Full pl R a (ps.length - 1) := by
  have h0 := hp.pos
  have hl := hp.le
  have hd : dom R 0 0 (ps.length - 1) (hi a (ps.length - 1)) := (hf _ _).1 ⟨_, hp.at' (ps.length - 1) (by omega)⟩
  intro j v
  rw [hf j v]
  constructor
  · rintro (h | ⟨h1, h2⟩)
    · exact .inl h
    · obtain rfl : j = 0 := by omega
      refine .inr ⟨by omega, ?_⟩
      rw [hi_zero _ ha, ← h2, hi_zero _ (by decide)]
  · rintro (h | ⟨h1, h2⟩)
    · exact .inl h
    · have := dom_low (by omega) hd j h1
      rwa [h2] at this
theorem Full.clear {R R' : List Rt} {pl : Nat → Nat → Option Nat} (hf : Full pl R 0 0) {x : Rt} (hx : x ∈ R) (hm : ∀ r, r ∈ R' ↔ r ∈ R ∧ r ≠ x) (ha : x.a < 4294967296) : Full pl R' x.a x.b.toNat := by
  intro j v
  rw [hf j v]
  constructor
  · rintro (⟨r, hr, h⟩ | ⟨h1, h2⟩)
    · by_cases e : r = x
      · subst e; exact .inr h
      · exact .inl ⟨r, (hm r).2 ⟨hr, e⟩, h⟩
    · obtain rfl : j = 0 := by omega
      refine .inr ⟨by omega, ?_⟩
      rw [hi_zero _ ha, ← h2, hi_zero _ (by decide)]
  · rintro (⟨r, hr, h⟩ | ⟨h1, h2⟩)
    · exact .inl ⟨r, ((hm r).1 hr).1, h⟩
    · exact .inl ⟨x, hx, h1, h2⟩
/-- A node of nothing is no beginning of a route's prefix. -/
theorem Rep.nothing {st : St} {R : List Rt} {pl : Nat → Nat → Option Nat} (h : Rep st R pl) {a m : Nat} (hf : Full pl R a m) {j v i : Nat} (hp : pl j v = some i) (hz : nd st.nodes i = zN) (r : Rt) (hr : r ∈ R) (hj : j ≤ r.b.toNat) : hi r.a j ≠ v := fun e => by
  subst e
  obtain ⟨k, h1, h2, h3⟩ := h.keys r hr
  by_cases hjj : j = r.b.toNat
  · subst hjj
    rw [hp] at h1
    have : i = k := Option.some.inj h1
    subst this
    rw [hz] at h2
    cases h2
  · have hb := right_bits (h.right r hr).1
    rcases h.child_some (by omega) hp with ⟨_, hn⟩ | ⟨hn, _⟩
    · obtain ⟨i', hi'⟩ := (hf (j + 1) (hi r.a (j + 1))).2 (.inl ⟨r, hr, by omega, rfl⟩)
      rw [hn] at hi'
      cases hi'
    · rw [hz] at hn
      apply hn
      unfold Nd.ch zN
      simp
theorem Full.cut {st : St} {R : List Rt} {pl : Nat → Nat → Option Nat} (h : Rep st R pl) {a j i : Nat} (hf : Full pl R a (j + 1)) (hp : pl (j + 1) (hi a (j + 1)) = some i) (hz : nd st.nodes i = zN) :
    Full (minus pl (j + 1) (hi a (j + 1))) R a j := by
  intro j' v'
  unfold minus
  by_cases e : j' = j + 1 ∧ v' = hi a (j + 1)
  · rw [if_pos e]
    constructor
    · rintro ⟨i, hi⟩; cases hi
    · rintro (⟨r, hr, h1, h2⟩ | ⟨h1, h2⟩)
      · exact absurd (by rw [← e.1, ← e.2] at *; exact h2) (h.nothing hf hp hz r hr (by omega))
      · omega
  · rw [if_neg e, hf j' v']
    constructor
    · rintro (h | ⟨h1, h2⟩)
      · exact .inl h
      · by_cases hj : j' = j + 1
        · subst hj; exact absurd ⟨rfl, h2.symm⟩ e
        · exact .inr ⟨by omega, h2⟩
    · rintro (h | ⟨h1, h2⟩)
      · exact .inl h
      · exact .inr ⟨by omega, h2⟩
theorem Full.stop {st : St} {R : List Rt} {pl : Nat → Nat → Option Nat} (h : Rep st R pl) {a j i : Nat} (ha : a < 4294967296) (hj : j ≤ 32) (hf : Full pl R a j) (hp : pl j (hi a j) = some i) (hz : j = 0 ∨ nd st.nodes i ≠ zN) :
    Full pl R 0 0 := by
  have h0 : dom R 0 0 0 (hi a 0) := .inr ⟨Nat.le_refl _, by rw [hi_zero _ ha, hi_zero _ (by decide)]⟩
  have key : dom R 0 0 j (hi a j) := by
    rcases hz with rfl | hz
    · exact h0
    · by_cases hh : (nd st.nodes i).has = true
      · obtain ⟨f1, f2, f3⟩ := h.has _ _ _ hp hh
        exact .inl ⟨_, f1, by omega, f3⟩
      · have hf0 : (nd st.nodes i).has = false := by simpa using hh
        have hr := h.hasnt _ _ _ hp hf0
        have kid : ∀ b, b ≤ 1 → (nd st.nodes i).ch b ≠ 0 → dom R 0 0 j (hi a j) := fun b hb hc => by
          have := h.ch _ _ _ _ hb hp
          cases hq : pl (j + 1) (2 * hi a j + b) with
          | none => rw [hq] at this; exact absurd this hc
          | some k =>
            rcases (hf _ _).1 ⟨k, hq⟩ with ⟨r, hr, h1, h2⟩ | ⟨h1, _⟩
            · have hb := right_bits (h.right r hr).1
              refine .inl ⟨r, hr, by omega, ?_⟩
              have := hi_up r.a j (by omega)
              rw [h2] at this
              omega
            · omega
        by_cases c0 : (nd st.nodes i).c0 = 0
        · by_cases c1 : (nd st.nodes i).c1 = 0
          · exfalso; apply hz
            generalize nd st.nodes i = n at *
            cases n
            simp_all [zN]
          · exact kid 1 (by omega) (by unfold Nd.ch; simpa using c1)
        · exact kid 0 (by omega) (by unfold Nd.ch; simpa using c0)
  intro j' v'
  rw [hf j' v']
  constructor
  · rintro (h | ⟨h1, h2⟩)
    · exact .inl h
    · have := dom_low hj key j' h1
      rwa [h2] at this
  · rintro (h | ⟨h1, h2⟩)
    · exact .inl h
    · obtain rfl : j' = 0 := by omega
      refine .inr ⟨by omega, ?_⟩
      rw [hi_zero _ ha, ← h2, hi_zero _ (by decide)]

/-- What is in one list without repeats is in another one: then that is no shorter. -/
theorem len_le {α : Type} [DecidableEq α] : ∀ {l m : List α}, l.Nodup → (∀ x ∈ l, x ∈ m) → l.length ≤ m.length := by
  intro l
  induction l with
  | nil => intro m _ _; exact Nat.zero_le _
  | cons a t ih =>
    intro m hn hm
    rw [List.nodup_cons] at hn
    have ha : a ∈ m := hm a (by simp)
    have := ih (m := m.erase a) hn.2 (fun x hx => by
      have hxa : x ≠ a := fun e => hn.1 (by rw [← e]; exact hx)
      exact (List.mem_erase_of_ne hxa).2 (hm x (by simp [hx])))
    rw [List.length_erase_of_mem ha] at this
    have h0 : 0 < m.length := List.length_pos_of_mem ha
    simp only [List.length_cons]
    omega
theorem len_eq {α : Type} [DecidableEq α] {l m : List α} (hl : l.Nodup) (hm : m.Nodup) (h : ∀ x, x ∈ l ↔ x ∈ m) : l.length = m.length :=
  Nat.le_antisymm (len_le hl fun x hx => (h x).1 hx) (len_le hm fun x hx => (h x).2 hx)
/-- A list without repeats of just the beginnings that there are. -/
structure Doms (R : List Rt) (D : List (Nat × Nat)) : Prop where
  nodup : D.Nodup
  mem : ∀ p, p ∈ D ↔ dom R 0 0 p.1 p.2
theorem nodup_map {α β : Type} {f : α → β} : ∀ {l : List α}, l.Nodup → (∀ x ∈ l, ∀ y ∈ l, f x = f y → x = y) → (l.map f).Nodup := by
  intro l
  induction l with
  | nil => intro _ _; exact List.nodup_nil
  | cons a t ih =>
    intro hn hf
    rw [List.nodup_cons] at hn
    rw [List.map_cons, List.nodup_cons]
    refine ⟨fun hm => ?_, ih hn.2 fun x hx y hy e => hf x (by simp [hx]) y (by simp [hy]) e⟩
    obtain ⟨x, hx, e⟩ := List.mem_map.1 hm
    have := hf x (by simp [hx]) a (by simp) e
    subst this
    exact hn.1 hx
theorem Inv.len {st : St} {R : List Rt} (h : Inv st R) {D : List (Nat × Nat)} (hD : Doms R D) : st.nodes.length = D.length + st.free.length := by
  obtain ⟨pl, hr, hf⟩ := h
  have hsome : ∀ p ∈ D, ∃ i, pl p.1 p.2 = some i := fun p hp => (hf _ _).2 ((hD.mem p).1 hp)
  have h1 : (D.map fun p => (pl p.1 p.2).getD 0).Nodup := by
    refine nodup_map hD.nodup fun x hx y hy e => ?_
    obtain ⟨i, hi⟩ := hsome x hx
    obtain ⟨k, hk⟩ := hsome y hy
    rw [hi, hk] at e
    have : i = k := e
    subst this
    have := hr.inj _ _ _ _ _ hi hk
    exact Prod.ext this.1 this.2
  have h2 : ((D.map fun p => (pl p.1 p.2).getD 0) ++ st.free).Nodup := by
    rw [List.nodup_append]
    refine ⟨h1, hr.nodup, fun a ha b hb e => ?_⟩
    subst e
    obtain ⟨p, hp, rfl⟩ := List.mem_map.1 ha
    obtain ⟨i, hi⟩ := hsome p hp
    exact (hr.fr _ hb).2.2 p.1 p.2 (by rw [hi]; rfl)
  have := len_eq h2 List.nodup_range (m := List.range st.nodes.length) (fun i => by
    rw [List.mem_range, List.mem_append]
    constructor
    · rintro (hi | hi)
      · obtain ⟨p, hp, rfl⟩ := List.mem_map.1 hi
        obtain ⟨i, hi⟩ := hsome p hp
        rw [hi]
        exact hr.lt _ _ _ hi
      · exact (hr.fr _ hi).1
    · intro hi
      rcases hr.cover i hi with hc | ⟨j, v, hc⟩
      · exact .inr hc
      · exact .inl (List.mem_map.2 ⟨(j, v), (hD.mem _).2 ((hf _ _).1 ⟨i, hc⟩), by rw [hc]; rfl⟩))
  rw [List.length_append, List.length_map, List.length_range] at this
  exact this.symm
theorem Rep.free_le {st : St} {R : List Rt} {pl : Nat → Nat → Option Nat} (h : Rep st R pl) : st.free.length ≤ st.nodes.length := by
  have := len_le h.nodup (m := List.range st.nodes.length) fun i hi => List.mem_range.2 (h.fr i hi).1
  rwa [List.length_range] at this

/-- What is found of an address: a route that holds it, of the most bits; or none holds it. -/
structure IsFind (R : List Rt) (a : Nat) (r : Rt) (ok : Bool) : Prop where
  yes : ok = true → r ∈ R ∧ A.holds r.a r.b a = true ∧ ∀ s ∈ R, A.holds s.a s.b a = true → s.b ≤ r.b
  no : ok = false → r = zR ∧ ∀ s ∈ R, A.holds s.a s.b a = false
/-- What is got of a prefix. -/
structure IsGet (R : List Rt) (a : Nat) (b : Int) (r : Rt) (ok : Bool) : Prop where
  yes : ok = true → r ∈ R ∧ r.a = a ∧ r.b = b
  no : ok = false → r = zR ∧ ∀ s ∈ R, ¬ (s.a = a ∧ s.b = b)
theorem Rep.one {st : St} {R : List Rt} {pl : Nat → Nat → Option Nat} (h : Rep st R pl) {r s : Rt} (hr : r ∈ R) (hs : s ∈ R) (e1 : r.a = s.a) (e2 : r.b = s.b) : r = s := by
  obtain ⟨i, h1, h2, h3⟩ := h.keys r hr
  obtain ⟨k, k1, k2, k3⟩ := h.keys s hs
  rw [e1, e2, k1] at h1
  have : k = i := Option.some.inj h1
  subst this
  exact h3.symm.trans k3
/-- The longest of the first k nodes along an address that has a route. -/
def best (nodes : List Nd) (ps : List Nat) : Nat → Rt × Bool
  | 0 => (zR, false)
  | k + 1 => if (nd nodes (ps.getD k 0)).has = true then ((nd nodes (ps.getD k 0)).r, true) else best nodes ps k
theorem best_is {st : St} {R : List Rt} {pl : Nat → Nat → Option Nat} (h : Rep st R pl) {a : Nat} {ps : List Nat} (hp : Path pl a 32 ps) :
    ∀ k, k ≤ ps.length → ((best st.nodes ps k).2 = true → (best st.nodes ps k).1 ∈ R ∧ A.holds (best st.nodes ps k).1.a (best st.nodes ps k).1.b a = true ∧ ∀ s ∈ R, s.b < k → A.holds s.a s.b a = true → s.b ≤ (best st.nodes ps k).1.b) ∧
      ((best st.nodes ps k).2 = false → (best st.nodes ps k).1 = zR ∧ ∀ s ∈ R, s.b < k → A.holds s.a s.b a = false) := by
  intro k hk
  induction k with
  | zero =>
    refine ⟨fun e => (by cases e), fun _ => ⟨rfl, fun s hs h0 => ?_⟩⟩
    have := right_bits (h.right s hs).1
    omega
  | succ k ih =>
    have ih := ih (by omega)
    have hat := hp.at' k (by omega)
    have hle := hp.le
    unfold best
    -- a route of just k bits that holds the address is the node's
    have hkey : ∀ s ∈ R, s.b = k → A.holds s.a s.b a = true → (nd st.nodes (ps.getD k 0)).has = true := fun s hs hb hh => by
      obtain ⟨i, h1, h2, h3⟩ := h.keys s hs
      have e := (holds_iff (h.right s hs).1).1 hh
      rw [show s.b.toNat = k by omega] at e
      rw [show s.b.toNat = k by omega, e, hat] at h1
      rw [Option.some.inj h1]
      exact h2
    cases hh : (nd st.nodes (ps.getD k 0)).has with
    | true =>
      rw [if_pos rfl]
      obtain ⟨f1, f2, f3⟩ := h.has _ _ _ hat hh
      have hb := right_bits (h.right _ f1).1
      refine ⟨fun _ => ⟨f1, ?_, fun s hs hb' _ => by show s.b ≤ _; rw [f2]; omega⟩, fun e => by cases e⟩
      refine (holds_iff (h.right _ f1).1).2 ?_
      show hi _ _ = hi _ _
      rw [show (nd st.nodes (ps.getD k 0)).r.b.toNat = k by omega, f3]
    | false =>
      rw [if_neg (by simp)]
      refine ⟨fun e => ?_, fun e => ?_⟩
      · obtain ⟨g1, g2, g3⟩ := ih.1 e
        refine ⟨g1, g2, fun s hs hb hh' => ?_⟩
        by_cases hsk : s.b = k
        · have := hkey s hs hsk hh'
          rw [hh] at this
          cases this
        · exact g3 s hs (by omega) hh'
      · obtain ⟨g1, g2⟩ := ih.2 e
        refine ⟨g1, fun s hs hb => ?_⟩
        by_cases hsk : s.b = k
        · cases hc : A.holds s.a s.b a with
          | false => rfl
          | true =>
            have := hkey s hs hsk hc
            rw [hh] at this
            cases this
        · exact g2 s hs (by omega)
theorem best_find {st : St} {R : List Rt} {pl : Nat → Nat → Option Nat} (h : Rep st R pl) {a : Nat} {ps : List Nat} (hp : Path pl a 32 ps) : IsFind R a (best st.nodes ps ps.length).1 (best st.nodes ps ps.length).2 := by
  obtain ⟨h1, h2⟩ := best_is h hp ps.length (Nat.le_refl _)
  have hlong : ∀ s ∈ R, A.holds s.a s.b a = true → s.b < ps.length := fun s hs hh => by
    obtain ⟨i, k1, k2, k3⟩ := h.keys s hs
    have hb := right_bits (h.right s hs).1
    have e := (holds_iff (h.right s hs).1).1 hh
    rw [e] at k1
    by_cases hl : ps.length ≤ s.b.toNat
    · have := hp.none_from h (by omega) s.b.toNat hl (by omega)
      rw [this] at k1
      cases k1
    · omega
  refine ⟨fun e => ?_, fun e => ?_⟩
  · obtain ⟨g1, g2, g3⟩ := h1 e
    exact ⟨g1, g2, fun s hs hh => g3 s hs (hlong s hs hh) hh⟩
  · obtain ⟨g1, g2⟩ := h2 e
    refine ⟨g1, fun s hs => ?_⟩
    cases hc : A.holds s.a s.b a with
    | false => rfl
    | true => have := g2 s hs (hlong s hs hc); rw [hc] at this; cases this
theorem get_short {st : St} {R : List Rt} {pl : Nat → Nat → Option Nat} (h : Rep st R pl) {a : Nat} {b : Int} (hr : A.right a b = true) {ps : List Nat} (hp : Path pl a b.toNat ps) (hl : ps.length ≤ b.toNat) : IsGet R a b zR false := by
  refine ⟨fun e => (by cases e), fun _ => ⟨rfl, fun s hs hh => ?_⟩⟩
  obtain ⟨i, k1, k2, k3⟩ := h.keys s hs
  have hb := right_bits hr
  have := hp.none_from h (by omega) b.toNat hl (Nat.le_refl _)
  rw [hh.1, hh.2, this] at k1
  cases k1
theorem get_full {st : St} {R : List Rt} {pl : Nat → Nat → Option Nat} (h : Rep st R pl) {a : Nat} {b : Int} (hr : A.right a b = true) {ps : List Nat} (hp : Path pl a b.toNat ps) (hl : b.toNat < ps.length) : IsGet R a b (nd st.nodes (ps.getD b.toNat 0)).r (nd st.nodes (ps.getD b.toNat 0)).has := by
  have hat := hp.at' _ hl
  have hb := right_bits hr
  refine ⟨fun e => ?_, fun e => ⟨h.hasnt _ _ _ hat e, fun s hs hh => ?_⟩⟩
  · obtain ⟨f1, f2, f3⟩ := h.has _ _ _ hat e
    have hbb : (nd st.nodes (ps.getD b.toNat 0)).r.b = b := by omega
    refine ⟨f1, ?_, hbb⟩
    have h2 := (h.right _ f1).1
    rw [hbb] at h2
    exact right_same h2 hr f3
  · obtain ⟨i, k1, k2, k3⟩ := h.keys s hs
    rw [hh.1, hh.2, hat] at k1
    rw [Option.some.inj k1, k2] at e
    cases e
/-- A trie of nothing. -/
def st0 : St := ⟨[zN], [], 0⟩
theorem Inv.new : Inv st0 [] := by
  refine ⟨fun j v => if j = 0 ∧ v = 0 then some 0 else none, ⟨rfl, fun j v i h => ?_, fun j v j' v' i h h' => ?_, fun j v i b hb h => ?_, fun j v i h => ?_, fun j v i h hh => ?_, fun j v i h hh => ?_, fun r hr => by simp at hr, List.nodup_nil, fun i hi => by simp [st0] at hi, fun i hi => ?_, List.nodup_nil, fun r hr => by simp at hr, rfl⟩, fun j v => ?_⟩
  · split at h
    · obtain rfl : 0 = i := Option.some.inj h
      decide
    · cases h
  · split at h
    · split at h'
      · rename_i e1 e2; exact ⟨by omega, by omega⟩
      · cases h'
    · cases h
  · split at h
    · obtain rfl : 0 = i := Option.some.inj h
      rw [if_neg (by omega)]
      show (nd [zN] 0).ch b = _
      unfold nd Nd.ch
      simp [zN]
    · cases h
  · simp at h
  · split at h
    · obtain rfl : 0 = i := Option.some.inj h
      cases hh
    · cases h
  · split at h
    · obtain rfl : 0 = i := Option.some.inj h
      rfl
    · cases h
  · have : i < 1 := hi
    exact .inr ⟨0, 0, by rw [if_pos ⟨rfl, rfl⟩]; congr 1; omega⟩
  · constructor
    · rintro ⟨i, h⟩
      simp only at h
      split at h
      · rename_i e
        exact .inr ⟨by omega, by rw [e.1, e.2, hi_zero _ (by decide)]⟩
      · cases h
    · rintro (⟨r, hr, _⟩ | ⟨h1, h2⟩)
      · simp at hr
      · obtain rfl : j = 0 := by omega
        rw [hi_zero _ (by decide)] at h2
        exact ⟨0, by simp [h2.symm]⟩
end R
end Go.Proofs.Ytpepjmcglglepaa
