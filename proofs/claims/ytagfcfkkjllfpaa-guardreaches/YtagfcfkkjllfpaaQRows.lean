/- Rows of records, to be read; loads of a whole record; an array of bools. -/
import Derived.Test.YtagfcfkkjllfpaaQOwn
import Derived.ProofKit
import Derived.OpenShut
import Derived.Deep.Slices
namespace Go.Proofs.Ytagfcfkkjllfpaa
open Go.RowKit
set_option maxRecDepth 100000
set_option linter.unusedVariables false

/-- Records of n cells in a row, to be read. -/
def RowsOf {α : Type} (n : Nat) (f : α → List Value) (w : World) (ao : Option Addr) (l : List α) : Prop :=
  0 < l.length → ∃ b off, ao = some ⟨b, off, none⟩ ∧ b < w.heap.size ∧ ∀ (k : Nat) x, l[k]? = some x → Lies w b (off + k * n) (f x)
section
variable {α : Type} {n : Nat} {f : α → List Value} {w w' : World} {ao : Option Addr} {l : List α}
theorem RowsOf.below (h : RowsOf n f w ao l) (hb : Below w.heap.size w w') : RowsOf n f w' ao l := fun h0 => by
  obtain ⟨b, off, h1, h2, h3⟩ := h h0
  exact ⟨b, off, h1, Nat.lt_of_lt_of_le h2 hb.size, fun k x hx => (h3 k x hx).below hb⟩
theorem RowsOf.at (h : RowsOf n f w ao l) (k : Nat) (x : α) (hx : l[k]? = some x) : ∃ b off, ao = some ⟨b, off, none⟩ ∧ b < w.heap.size ∧ Lies w b (off + k * n) (f x) := by
  have hk := (List.getElem?_eq_some_iff.1 hx).1
  obtain ⟨b, off, h1, h2, h3⟩ := h (by omega)
  exact ⟨b, off, h1, h2, h3 k x hx⟩
theorem RowsOf.nil (n : Nat) (f : α → List Value) (w : World) (ao : Option Addr) : RowsOf n f w ao [] := fun h => absurd h (by simp)
theorem RowsOf.of_block {r : Nat} {T : TypeId} {cs : Array Value} (hf : ∀ x, (f x).length = n) (hc : cs = (l.flatMap f).toArray) (h : w.heap[r]? = some (.cells cs T (0, 0))) : RowsOf n f w (some ⟨r, 0, none⟩) l := fun _ => by
  subst hc
  refine ⟨r, 0, rfl, heap_lt h, fun k x hx => ⟨heap_lt h, fun j v hv => ?_⟩⟩
  have hj : j < n := by
    have := (List.getElem?_eq_some_iff.1 hv).1
    rwa [hf] at this
  have hk := (List.getElem?_eq_some_iff.1 hx).1
  rw [cell_of_row w r _ _ _ (0, 0) h, Nat.zero_add, List.getElem?_toArray, flat_at f n hf l k j hk hj, hx]
  exact hv
/-- The first ones of a row. -/
theorem RowsOf.take (h : RowsOf n f w ao l) (m : Nat) : RowsOf n f w ao (l.take m) := fun h0 => by
  rw [List.length_take] at h0
  obtain ⟨b, off, h1, h2, h3⟩ := h (by omega)
  refine ⟨b, off, h1, h2, fun k x hx => h3 k x ?_⟩
  rw [List.getElem?_take] at hx
  split at hx
  · exact hx
  · cases hx
theorem RowsOf.of_own {base : Nat} {T : TypeId} {cap m : Nat} {xs : List Value} (h : Own base T n ao cap m xs w) (hf : ∀ x, (f x).length = n) (hx : xs = l.flatMap f) (hn : 0 < n) : RowsOf n f w ao l := fun h0 => by
  subst hx
  have hl := h.1
  rw [flat_len f n hf] at hl
  have hm : l.length = m := Nat.eq_of_mul_eq_mul_right hn hl
  obtain ⟨g, cur, h1, _, h3, h4⟩ := Own.at h (by omega)
  refine ⟨g, 0, h1, heap_lt h3, fun k x hx => ⟨heap_lt h3, fun j v hv => ?_⟩⟩
  have hj : j < n := by
    have := (List.getElem?_eq_some_iff.1 hv).1
    rwa [hf] at this
  have hk := (List.getElem?_eq_some_iff.1 hx).1
  rw [Nat.zero_add]
  exact h4 _ _ (by rw [flat_at f n hf l k j hk hj, hx]; exact hv)
end

section
open Go.ChangeShapes Go.WideShapes Go.ChangeAt Go.Deep
/-- Records in a row, that came in. -/
theorem rows_open {α : Type} [Inhabited α] (f : α → List Value) (ok : α → Prop) {H : Type} {enc : TypeId × Value → H} {P : Program} {W : World} {base b0 : Nat} {spare : Nat → Bool} {held : Bool} {r : Reach} {v : Value} {d : DataW H} {p : List MemPlace} (t e : TypeId) (n : Nat)
    (hu : P.underlying t = some (.slice e)) (hn : P.cellsOf e = n) (hf : ∀ x, (f x).length = n) (h0 : 0 < n)
    (hone : ∀ (fuel : Nat) (cs : List Value) (x : DataW H × List MemPlace), cs.length = n → DataW.trod enc P W base spare held fuel e cs = some x → ∃ y, cs = f y ∧ ok y)
    (hv : Value.okWide P W r b0 t v) (h : DataW.Trod enc P W base spare held t v d p) : ∃ (a : Option Addr) (cap : Nat) (l : List α), v = .slice a l.length cap ∧ RowsOf n f W a l ∧ (∀ x ∈ l, ok x) ∧ l.length ≤ cap ∧ cap ≤ maxLen := by
  obtain ⟨fuel, hfu⟩ := h
  obtain ⟨a, len, cap, rfl⟩ := okWide_slice hu hv
  rcases open_slice hu hfu with ⟨hcs, _⟩ | ⟨ad, len', cap', m, n1, D, Pl, hcs, _, hl, hm, hmm, _, hi⟩
  · simp [Value.cells] at hcs
    obtain ⟨rfl, rfl, rfl⟩ := hcs
    exact ⟨none, 0, [], rfl, RowsOf.nil _ _ _ _, fun p hp => by simp at hp, Nat.le_refl _, Nat.zero_le _⟩
  · simp [Value.cells] at hcs
    obtain ⟨rfl, rfl, rfl⟩ := hcs
    rw [hn] at hi
    have hlm : len ≤ m := by rw [hmm]; split <;> omega
    obtain ⟨g, hg⟩ := choose_lt (α := α) (n := len) (p := fun i y => (∀ j, j < n → W.cell? ((ad.add (i * n)).add j) = (f y)[j]?) ∧ ok y) (fun i h => by
      obtain ⟨cs, hc, ht⟩ := hi i (by omega)
      obtain ⟨_, hlen, hat⟩ := World.cells?_some hc
      obtain ⟨y, e, h1⟩ := hone _ cs _ hlen ht
      refine ⟨y, fun j hj => ?_, h1⟩
      rw [hat j hj, e])
    refine ⟨some ad, cap, (List.range len).map g, by simp, fun h0' => ?_, fun p hp => ?_, by simpa using hl, ‹cap ≤ maxLen›⟩
    · have hlp : 0 < len := by simpa using h0'
      obtain ⟨b, off, spot⟩ := ad
      have hc := (hg 0 hlp).1 0 h0
      have hc' : (f (g 0))[0]? = some ((f (g 0))[0]'(by rw [hf]; exact h0)) := List.getElem?_eq_getElem _
      rw [hc'] at hc
      have hspot : spot = none := by simpa [Addr.add] using World.cell?_spot hc
      subst hspot
      have hval : ∀ (i q : Nat), ((⟨b, off, none⟩ : Addr).add (i * n)).add q = ⟨b, off + i * n + q, none⟩ := fun i q => by rw [Addr.add_lit, Addr.add_lit]
      rw [hval] at hc
      refine ⟨b, off, rfl, World.block_lt_of_cell? _ _ hc, fun k x hx => ⟨World.block_lt_of_cell? _ _ hc, fun j u hu => ?_⟩⟩
      have hk : k < len := by simpa using (List.getElem?_eq_some_iff.1 hx).1
      have hxg : x = g k := by
        rw [List.getElem?_map, List.getElem?_range hk] at hx
        simpa using hx.symm
      subst hxg
      have hj : j < n := by
        have := (List.getElem?_eq_some_iff.1 hu).1
        rwa [hf] at this
      have := (hg k hk).1 j hj
      rw [hval] at this
      rw [this, hu]
    · obtain ⟨i, hi, rfl⟩ := List.mem_map.1 hp
      exact (hg i (List.mem_range.1 hi)).2
theorem one_cell {l : List Value} {k : Nat} {v : Value} (h : (l.drop k).take 1 = [v]) : l[k]? = some v := by
  have := congrArg (fun l => l[0]?) h
  simpa [List.getElem?_take, List.getElem?_drop] using this
def I64 (b : Int) : Prop := -9223372036854775808 ≤ b ∧ b ≤ 9223372036854775807
end

section
variable {P : Program} {ops : Array Oper} {rest : List Oper} {o : Oper} {a : Act} {w : World} {Q : Exit → Act → World → Prop} {x y : Operand}
/-- A load of a whole record, in one step. -/
theorem ld_arm {T : TypeId} {d : TypeDesc} {b off q : Nat} {vs : List Value} (cs : List Value) (hgd : Region.wanted o (yielded ops a.tmps) = true) (ho : o.op = .load T x) (hx : a.eval x = .pointer (some ⟨b, q, none⟩)) (h : Lies w b off vs) (j : Nat) (hq : off + j = q) (hv : (vs.drop j).take cs.length = cs) (hu : P.underlying T = some d) (hd : aggB d = true) (hi : (P.info? T).map (·.size) = some cs.length)
    (hK : wpList P ops Q rest (a.put o.dst (.agg cs.toArray)) w) : wpList P ops Q (o :: rest) a w := by
  unfold wpList
  rw [if_pos hgd]
  refine .inl ?_
  unfold Oper.wp
  rw [op_ld cs ho hx h j hq hv hu hd hi]
  exact hK
theorem index_bools (T e : TypeId) (n : Nat) (de : TypeDesc) (i : TypeInfo) (hu : P.underlying T = some (.array n e)) (hue : P.underlying e = some de) (hd : aggB de = false) (hs : P.info? e = some i) (h1 : i.size = 1) (bs : List Bool) (k : Nat) (hk : k < n) (hl : bs.length = n) (w : World) :
    (Instr.index T (.agg (bs.map Value.bool).toArray) (.int .i64 k)).run P w = .ok (.bool (bs.getD k false)) w := by
  have hk' : (0 : Int) ≤ (k : Int) ∧ (k : Int) < (n : Int) := by omega
  have hg : (bs.map Value.bool)[k]? = some (.bool (bs.getD k false)) := by
    rw [List.getElem?_map, List.getElem?_eq_getElem (by omega), List.getD_eq_getElem?_getD, List.getElem?_eq_getElem (by omega)]
    rfl
  unfold Instr.index
  simp only [asIntOf, Sem.run_bind, Sem.run_pure, Result.andThen_ok, run_underlying hu]
  rw [if_pos hk']
  have hsz : (sizeOf e).run P w = .ok 1 w := by simp [sizeOf, typeInfo, hs, h1]
  simp only [Sem.run_bind, hsz, Result.andThen_ok]
  unfold part
  simp only [Sem.run_bind, run_isAgg hue, hd, Result.andThen_ok, if_neg Bool.false_ne_true]
  have e1 : ((bs.map Value.bool).toArray)[(k : Int).toNat * 1]? = some (.bool (bs.getD k false)) := by
    rw [Nat.mul_one, Int.toNat_natCast, List.getElem?_toArray, hg]
  rw [e1]
  rfl
end
theorem src_rows {P : Program} {α : Type} {n : Nat} {f : α → List Value} {w : World} {ao : Option Addr} {l : List α} {tx e' : TypeId} (hk : P.underlying tx = some (.slice e')) (h : RowsOf n f w ao l) (hf : ∀ x, (f x).length = n) (h1 : ∀ x, ∀ u ∈ f x, u.oneCell' = true) (cap : Nat) (hn : 0 < n) : Src P n tx (.slice ao l.length cap) l.length (l.flatMap f) w := by
  have hone : ∀ u ∈ l.flatMap f, u.oneCell' = true := fun u hu => by
    obtain ⟨x, _, hx⟩ := List.mem_flatMap.1 hu
    exact h1 x u hx
  rcases Nat.eq_zero_or_pos l.length with h0 | h0
  · obtain rfl : l = [] := List.eq_nil_of_length_eq_zero h0
    cases ao with
    | none => exact Src.ofNil w hk cap
    | some a => exact Src.ofSlice w hk a 0 cap [] (by simp) (fun j u hj => by simp at hj) (fun u hu => by simp at hu)
  · obtain ⟨b, off, rfl, _, h3⟩ := h h0
    refine Src.ofSlice w hk _ l.length cap _ (flat_len f n hf l) (fun j u hj => ?_) hone
    have hjl : j < l.length * n := by
      have := (List.getElem?_eq_some_iff.1 hj).1
      rwa [flat_len f n hf] at this
    have hq : j / n < l.length := Nat.div_lt_of_lt_mul (by rwa [Nat.mul_comm] at hjl)
    have hr : j % n < n := Nat.mod_lt _ hn
    have e : j = j / n * n + j % n := by rw [Nat.mul_comm]; exact (Nat.div_add_mod j n).symm
    rw [e, flat_at f n hf l _ _ hq hr, List.getElem?_eq_getElem hq] at hj
    have := (h3 (j / n) _ (List.getElem?_eq_getElem hq)).at_ (j % n) u hj
    rw [Addr.add_lit]
    rw [Nat.add_assoc, ← e] at this
    exact this
/-- Records, appended to a row that the call owns. -/
theorem Own.appRows {P : Program} {α : Type} {f : α → List Value} (e t : TypeId) (z : Value) (size bytes : Nat) (hu : P.underlying t = Option.some (.slice e)) (hinfo : (P.info? e).map (fun i => (i.zero, i.size, i.bytes)) = Option.some (Option.some z, size, bytes)) (hzc : z.cells.size = size) (hby : bytes ≤ 128) (hs0 : 0 < size)
    (base : Nat) (ao : Option Addr) (cap n : Nat) (xs : List Value) (w : World) (h : Own base e size ao cap n xs w) (a1 : Option Addr) (c1 : Nat) (l : List α) (hR : RowsOf size f w a1 l) (hf : ∀ x, (f x).length = size) (h1 : ∀ x, ∀ u ∈ f x, u.oneCell' = true) (ty : TypeId) (hl : n + l.length ≤ 1000000) (hbase : base ≤ w.heap.size) :
    ∃ ao' cap' w', (Builtin.append_ #[t, t] ty #[.slice ao n cap, .slice a1 l.length c1]).run P w = .ok (.slice ao' (n + l.length) cap') w' ∧ Own base e size ao' cap' (n + l.length) (xs ++ l.flatMap f) w' ∧ w.grownBy w' (Value.ownBlock (.slice ao n cap)) ∧ ∀ g, Value.ownBlock (.slice ao' (n + l.length) cap') = Option.some g → Value.ownBlock (.slice ao n cap) = Option.some g ∨ w.heap.size ≤ g := by
  cases hq : P.info? e with
  | none => simp [hq] at hinfo
  | some i =>
    simp [hq] at hinfo
    obtain ⟨hz0, hz1, hz2⟩ := hinfo
    have hown : w.ownsRow base e i.size (.slice ao n cap) n xs := by rw [hz1]; exact h
    have hsrc : Src P i.size t (.slice a1 l.length c1) l.length (l.flatMap f) w := by
      rw [hz1]
      exact src_rows hu hR hf h1 c1 hs0
    obtain ⟨v', w', hr, ho, hg, hown'⟩ := append_own_src2 (P := P) w base t t ty e i z hu hq hz0 (by rw [hz1]; exact hzc) _ _ _ hown _ l.length _ hsrc (by unfold maxLen; omega) (by rw [hz2]; have : (n + l.length) * bytes ≤ 1000000 * 128 := Nat.mul_le_mul hl hby; omega) hbase
    rw [hz1] at ho
    rcases ho.2 with ⟨hv, h0⟩ | ⟨g, cap', cur, hv, rest⟩
    · subst hv
      have h0' : n + l.length = 0 := h0
      rw [h0'] at ho ⊢
      exact ⟨none, 0, w', hr, ho, hg, hown'⟩
    · subst hv
      exact ⟨_, cap', w', hr, ho, hg, hown'⟩
theorem op_app {P : Program} {o : Oper} {ev : Operand → Value} {w w' : World} {s x : Operand} {t tx : TypeId} {sv xv v : Value} (ho : o.op = Op.call { callee := Callee.builtin Builtin.append, args := #[s, x], argTypes := #[t, tx] }) (hs : ev s = sv) (hx : ev x = xv)
    (hr : (Builtin.append_ #[t, tx] o.type #[sv, xv]).run P w = .ok v w') : (execOp ev o).run P w = .ok (.value v) w' := by
  simp [execOp, ho, resolve, invoke, builtin, hs, hx, hr, Result.andThen]
/-- A contract that changes nothing. -/
theorem same_below {P : Program} {f : FuncId} {args : Array Value} {w : World} {v : Ending} (h : Calls P f args w fun e w' => e = v ∧ w = w') : Calls P f args w fun e w' => e = v ∧ Below w.heap.size w w' :=
  h.mono fun e w' ⟨h1, h2⟩ => ⟨h1, by subst h2; exact Below.refl _ _⟩
#print axioms index_bools
#print axioms rows_open
end Go.Proofs.Ytagfcfkkjllfpaa
