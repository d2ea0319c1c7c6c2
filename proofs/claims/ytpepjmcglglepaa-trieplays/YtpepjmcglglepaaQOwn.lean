/- Rows that a call owns: one element more; rows of numbers. -/
import Derived.Test.YtpepjmcglglepaaQVal
import Derived.Test.YtpepjmcglglepaaBuf
import Derived.Test.YtpepjmcglglepaaAppRun
namespace Go.Proofs.Ytpepjmcglglepaa
open Go.RowKit
set_option maxRecDepth 100000
set_option linter.unusedVariables false

theorem parts_of {t : TypeId} {z : Option Value} {n b : Nat} (h : (Try.prog.info? t).map (fun i => (i.zero, i.size, i.bytes)) = Option.some (z, n, b)) : ∃ i, Try.prog.info? t = Option.some i ∧ i.zero = z ∧ i.size = n ∧ i.bytes = b := by
  cases hq : Try.prog.info? t with
  | none => simp [hq] at h
  | some i =>
    simp [hq] at h
    exact ⟨i, rfl, h.1, h.2.1, h.2.2⟩

theorem flat_len {α : Type} (f : α → List Value) (s : Nat) (hf : ∀ x, (f x).length = s) (l : List α) : (l.flatMap f).length = l.length * s := by
  induction l with
  | nil => simp
  | cons a t ih => rw [List.flatMap_cons, List.length_append, hf, ih, List.length_cons, Nat.add_mul]; omega
theorem flat_at {α : Type} (f : α → List Value) (s : Nat) (hf : ∀ x, (f x).length = s) : ∀ (l : List α) (k j : Nat), k < l.length → j < s → (l.flatMap f)[k * s + j]? = (l[k]?).bind fun x => (f x)[j]? := by
  intro l
  induction l with
  | nil => intro k j hk; exact absurd hk (Nat.not_lt_zero _)
  | cons a t ih =>
    intro k j hk hj
    rw [List.flatMap_cons]
    cases k with
    | zero =>
      rw [Nat.zero_mul, Nat.zero_add, List.getElem?_append_left (by rw [hf]; exact hj)]
      rfl
    | succ k =>
      rw [List.getElem?_append_right (by rw [hf, Nat.add_mul]; omega), hf, show (k + 1) * s + j - s = k * s + j by rw [Nat.add_mul]; omega, ih k j (by simp at hk; omega) hj]
      rfl
def natsX (l : List Nat) : List Value := l.map fun n : Nat => Value.int .i64 (n : Int)
theorem natsX_len (l : List Nat) : (natsX l).length = l.length := List.length_map _
theorem natsX_app (l : List Nat) (n : Nat) : natsX (l ++ [n]) = natsX l ++ [.int .i64 n] := by simp [natsX]
theorem natsX_get (ps : List Nat) (k : Nat) (hk : k < ps.length) : (natsX ps)[k]? = some (.int .i64 (ps.getD k 0 : Nat)) := by
  unfold natsX
  rw [List.getElem?_map, List.getElem?_eq_getElem hk, List.getD_eq_getElem?_getD, List.getElem?_eq_getElem hk]
  rfl
section
variable {P : Program} (w : World)
/-- An append to a row that the call owns, of whatever source: the new value owns all of it. -/
theorem append_own_src2 (base : Nat) (t tx ty e : TypeId) (i : TypeInfo) (z : Value) (ht : P.underlying t = some (.slice e)) (hi : P.info? e = some i) (hz : i.zero = some z)
    (hzs : z.cells.size = i.size) (v : Value) (n : Nat) (xs : List Value) (hown : w.ownsRow base e i.size v n xs)
    (x : Value) (m : Nat) (news : List Value) (hs : Src P i.size tx x m news w)
    (hmax : n + m ≤ maxLen) (hbytes : (n + m) * i.bytes ≤ 140737488355328) (hbase : base ≤ w.heap.size) :
    ∃ v' w', (Builtin.append_ #[t, tx] ty #[v, x]).run P w = .ok v' w' ∧ w'.ownsRow base e i.size v' (n + m) (xs ++ news) ∧ w.grownBy w' v.ownBlock ∧ ∀ g, v'.ownBlock = some g → v.ownBlock = some g ∨ w.heap.size ≤ g := by
  have hk : (xs ++ news).length = (n + m) * i.size := by rw [List.length_append, hown.1, hs.newsLen, Nat.add_mul]
  have hint : ((n + m : Nat) : Int) ≤ 9223372036854775807 := by simp only [maxLen] at hmax; omega
  -- the ways that lay a new row
  have grow : ∀ (ao : Option Addr) (cap : Nat), cap < n + m → v = .slice ao n cap → (Builtin.firstCells i.size n (.slice ao n cap)).run P w.drew = .ok xs.toArray w.drew →
      ∃ v' w', (Builtin.append_ #[t, tx] ty #[v, x]).run P w = .ok v' w' ∧ w'.ownsRow base e i.size v' (n + m) (xs ++ news) ∧ w.grownBy w' v.ownBlock ∧ ∀ g, v'.ownBlock = some g → v.ownBlock = some g ∨ w.heap.size ≤ g := by
    rintro ao cap hlt rfl hold
    obtain ⟨h1, h2⟩ := own_new w base e z i.size n m (grownCap w (n + m) cap e) (xs ++ news) hk hzs (grownCap_ge w (n + m) cap e) (grownCap_le_maxLen w (n + m) cap e hmax) hbase (Value.ownBlock (.slice ao n cap))
    exact ⟨_, _, run_append_grow_src (P := P) w t tx ty e i z ht hi hz ao n cap xs hold x m news hs hlt hint (growslice_fits hlt hbytes), h1, h2, fun g hg => .inr (Nat.le_of_eq (by simpa [Value.ownBlock] using hg))⟩
  rcases hown.2 with ⟨hv, h0⟩ | ⟨g, cap, cur, hv, hbg, hg, hnc, hcm, hcs, htake⟩
  · have hx : xs = [] := List.eq_nil_of_length_eq_zero (by rw [hown.1, h0, Nat.zero_mul])
    subst hx h0
    rcases Nat.eq_zero_or_pos m with hm | hm
    · subst hm hv
      have hn : news = [] := List.eq_nil_of_length_eq_zero (by rw [hs.newsLen, Nat.zero_mul])
      subst hn
      refine ⟨.slice none 0 0, w, ?_, World.ownsRow_nil w base e i.size, ⟨rfl, rfl, rfl, Nat.le_refl _, fun _ _ _ => rfl⟩, fun g hg => .inl hg⟩
      have hc := hs.cells
      have hn := hs.len
      rcases hs.kind with ⟨e', hk⟩ | hk <;> simp [Builtin.append_, run_underlying ht, run_underlying hk, sizeOf, typeInfo, hi, hn, hc]
    · exact grow none 0 (by omega) hv (run_firstCells_none (P := P) w.drew i.size 0 0 0)
  · by_cases hroom : n + m ≤ cap
    · subst hv
      have hnl := hs.newsLen
      have hfit : n * i.size + news.length ≤ cur.size := by rw [hnl, hcs, ← Nat.add_mul]; exact Nat.mul_le_mul_right _ hroom
      refine ⟨_, _, append_room_row (P := P) w t tx ty e i ht hi g n cap cur hg x m news hs hroom hfit, ⟨hk, .inr ⟨g, cap, _, rfl, hbg, setRow_heap w g cur _ e _ hg, hroom, hcm, ?_, ?_⟩⟩, ⟨rfl, rfl, rfl, by simp, fun k _ hne => setRow_other w g k _ (fun h => hne (by simp [Value.ownBlock, h]))⟩, fun g hg => .inl hg⟩
      · simp only [List.size_toArray, List.length_append, List.length_take, List.length_drop, Array.length_toList]
        omega
      · rw [htake, ← hk]
        exact List.take_left
    · exact grow (some ⟨g, 0, none⟩) cap (by omega) hv (run_firstCells_some (P := P) w.drew i.size n ⟨g, 0, none⟩ n cap xs hown.1 (hown.cells (g := g) (by rw [hv]; rfl)))
end
theorem cells_new (W : World) (vs : List Value) (e : TypeId) : ∀ j u, vs[j]? = some u → (W.alloc (.cells vs.toArray e)).cell? ⟨W.heap.size, j, none⟩ = some u := fun j u h => by
  rw [cell_of_row _ _ _ _ _ (0, 0) (heap_alloc_new W (.cells vs.toArray e))]
  simpa using h
/-- A row that the call owns: of elements of so many cells. -/
abbrev Own (base : Nat) (e : TypeId) (size : Nat) (ao : Option Addr) (cap n : Nat) (xs : List Value) (w : World) : Prop := w.ownsRow base e size (.slice ao n cap) n xs
section
variable {base : Nat} {e : TypeId} {size : Nat} {ao : Option Addr} {cap n : Nat} {xs : List Value} {w w' : World}
theorem Own.carry (h : Own base e size ao cap n xs w) (hb : Below w.heap.size w w') : Own base e size ao cap n xs w' := by
  have hg : w.grownBy w' none := ⟨hb.os, hb.tape, hb.output, hb.size, fun k hk _ => hb.block k hk⟩
  exact World.ownsRow.kept h hg (by cases Value.ownBlock (.slice ao n cap) <;> simp)
theorem Own.at (h : Own base e size ao cap n xs w) (h0 : 0 < n) : ∃ g cur, ao = some ⟨g, 0, none⟩ ∧ base ≤ g ∧ w.heap[g]? = some (.cells cur e (0, 0)) ∧ (∀ k v, xs[k]? = some v → w.cell? ⟨g, k, none⟩ = some v) := by
  rcases h.2 with ⟨hv, hn⟩ | ⟨g, cap', cur, hv, hbg, hg, _⟩
  · omega
  · have hao : ao = some ⟨g, 0, none⟩ := by simpa using congrArg (fun v => match v with | .slice a _ _ => a | _ => none) hv
    subst hao
    refine ⟨g, cur, rfl, hbg, hg, fun k v hk => ?_⟩
    have c1 := World.ownsRow.cells h (g := g) rfl k _ hk
    rw [Addr.add_lit, Nat.zero_add] at c1
    exact c1
theorem Own.low (h : Own base e size ao cap n xs w) : ∀ g, Value.ownBlock (.slice ao n cap) = some g → base ≤ g := fun g hg => (World.ownsRow.lt h g hg).1
/-- A block of another type lies elsewhere. -/
theorem Own.away {g : Nat} (h : Own base e size ao cap n xs w) {O : Obj} (hg : w.heap[g]? = some O) (hO : ∀ cur, O ≠ .cells cur e (0, 0)) : Value.ownBlock (.slice ao n cap) ≠ some g := fun e' => by
  rcases h.2 with ⟨hv, _⟩ | ⟨g', cap', cur, hv, _, hg', _⟩
  · rw [hv] at e'; cases e'
  · rw [hv] at e'
    have : g' = g := by simpa [Value.ownBlock] using e'
    subst this
    rw [hg] at hg'
    exact hO cur (Option.some.inj hg')
theorem Own.isE (h : Own base e size ao cap n xs w) : ∀ g, Value.ownBlock (.slice ao n cap) = some g → ∃ cur, w.heap[g]? = some (.cells cur e (0, 0)) := fun g e' => by
  rcases h.2 with ⟨hv, _⟩ | ⟨g', cap', cur, hv, _, hg', _⟩
  · rw [hv] at e'; cases e'
  · rw [hv] at e'
    have : g' = g := by simpa [Value.ownBlock] using e'
    subst this
    exact ⟨cur, hg'⟩
/-- One element more. -/
theorem Own.app1 (e t : TypeId) (z : Value) (size bytes : Nat) (hu : Try.prog.underlying t = Option.some (.slice e)) (hinfo : (Try.prog.info? e).map (fun i => (i.zero, i.size, i.bytes)) = Option.some (Option.some z, size, bytes)) (hzc : z.cells.size = size) (hby : bytes ≤ 64)
    (base : Nat) (ao : Option Addr) (cap n : Nat) (xs : List Value) (w : World) (h : Own base e size ao cap n xs w) (news : List Value) (hnl : news.length = size) (h1 : ∀ u ∈ news, u.oneCell' = true) (r : Nat) (hc : ∀ j u, news[j]? = Option.some u → w.cell? ⟨r, j, none⟩ = Option.some u) (ty : TypeId) (hl : n ≤ 1000000) (hbase : base ≤ w.heap.size) :
    ∃ ao' cap' w', (Builtin.append_ #[t, t] ty #[.slice ao n cap, .slice (Option.some ⟨r, 0, none⟩) 1 1]).run Try.prog w = .ok (.slice ao' (n + 1) cap') w' ∧ Own base e size ao' cap' (n + 1) (xs ++ news) w' ∧ w.grownBy w' (Value.ownBlock (.slice ao n cap)) ∧ ∀ g, Value.ownBlock (.slice ao' (n + 1) cap') = Option.some g → Value.ownBlock (.slice ao n cap) = Option.some g ∨ w.heap.size ≤ g := by
  obtain ⟨i, hi, hz0, hz1, hz2⟩ := parts_of hinfo
  have hown : w.ownsRow base e i.size (.slice ao n cap) n xs := by rw [hz1]; exact h
  have hsrc : Src Try.prog i.size t (.slice (Option.some ⟨r, 0, none⟩) 1 1) 1 news w := by
    rw [hz1]
    refine Src.ofSlice w hu ⟨r, 0, none⟩ 1 1 _ (by rw [hnl, Nat.one_mul]) (fun j u hj => ?_) h1
    rw [Addr.add_lit, Nat.zero_add]
    exact hc j u hj
  obtain ⟨v', w', hr, ho, hg, hown'⟩ := append_own_src2 (P := Try.prog) w base t t ty e i z hu hi hz0 (by rw [hz1]; exact hzc) _ _ _ hown _ 1 _ hsrc (by unfold maxLen; omega) (by rw [hz2]; have : (n + 1) * bytes ≤ 1000001 * 64 := Nat.mul_le_mul (by omega) hby; omega) hbase
  rw [hz1] at ho
  rcases ho.2 with ⟨hv, h0⟩ | ⟨g, cap', cur, hv, rest⟩
  · omega
  · subst hv
    exact ⟨_, cap', w', hr, ho, hg, hown'⟩
end
end Go.Proofs.Ytpepjmcglglepaa
