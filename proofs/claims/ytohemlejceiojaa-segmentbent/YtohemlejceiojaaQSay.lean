/- Chains of a writer's calls in a region that draws its order: what holds of each operation's value, and of the world. -/
import Derived.Test.YtohemlejceiojaaQPlan
import Derived.Test.YtohemlejceiojaaText
namespace Go.Proofs.Ytohemlejceiojaa
open Go.RowKit

/-- What an operation's value is: one value, or a new row. -/
inductive Spec where
  | val (x : Value)
  | row (X : Array Value) (T : TypeId)

def Spec.ok (b : Nat) : Spec → Value → World → Prop
  | .val x, v, _ => v = x
  | .row X T, v, w => ∃ r, r ≠ b ∧ v = .slice (some ⟨r, 0, none⟩) X.size X.size ∧ w.heap[r]? = some (.cells X T (0, 0))

def VS (b : Nat) (sp : List Spec) (i : Nat) (v : Value) (w : World) : Prop :=
  match sp[i]? with
  | some s => s.ok b v w
  | none => True

/-- What is no row of bytes and not b stays. -/
def Spare (b : Nat) (w w' : World) : Prop := ∀ k cs ty, w.heap[k]? = some (.cells cs ty (0, 0)) → k ≠ b → ty ≠ 5 → w'.heap[k]? = some (.cells cs ty (0, 0))
theorem Spare.refl (b : Nat) (w : World) : Spare b w w := fun _ _ _ h _ _ => h
theorem Spare.of_below {b : Nat} {w w' : World} (h : Below w.heap.size w w') : Spare b w w' := fun k _ _ hk _ _ => (h.block k (lt_of_block hk)).trans hk
theorem Spare.alloc (b : Nat) (w : World) (o : Obj) : Spare b w (w.alloc o) := fun k _ _ hk _ _ => (Below.heap_alloc w o k (lt_of_block hk)).trans hk

def rowsB (sp : List Spec) : Bool := sp.all fun
  | .val _ => true
  | .row _ T => T != 5

theorem VS.keep {b : Nat} {sp : List Spec} {w w' : World} (hB : rowsB sp = true) (h : Spare b w w') : ∀ j u, VS b sp j u w → VS b sp j u w' := by
  intro j u hu
  unfold VS at *
  cases hs : sp[j]? with
  | none => trivial
  | some s =>
    rw [hs] at hu
    cases s with
    | val x => exact hu
    | row X T =>
      obtain ⟨r, h1, h2, h3⟩ := hu
      have := List.all_eq_true.1 hB _ (List.mem_of_getElem? hs)
      exact ⟨r, h1, h2, h r X T h3 h1 (by simpa using this)⟩

/-- What has been written, by which calls have come up. -/
def said (m : List UInt8) (calls : List (Nat × List UInt8)) (listed : Array Bool) : List UInt8 := m ++ (calls.map fun c => if listed.getD c.1 false then c.2 else []).flatten

theorem said_other (m : List UInt8) (calls : List (Nat × List UInt8)) (listed : Array Bool) (i : Nat) (h : (calls.all fun c => c.1 != i) = true) : said m calls (listed.setIfInBounds i true) = said m calls listed := by
  unfold said
  congr 2
  refine List.map_congr_left fun c hc => ?_
  have := List.all_eq_true.1 h c hc
  rw [getD_set_ne false (fun e => by simp [e] at this)]

theorem said_none (post : List (Nat × List UInt8)) (listed : Array Bool) (h : ∀ c ∈ post, listed.getD c.1 false = false) : (post.map fun c => if listed.getD c.1 false then c.2 else []).flatten = [] := by
  induction post with
  | nil => rfl
  | cons c r ih =>
    rw [List.map_cons, List.flatten_cons, ih (fun c' hc' => h c' (List.mem_cons_of_mem _ hc')), h c List.mem_cons_self]
    rfl

theorem said_call (m : List UInt8) (pre post : List (Nat × List UInt8)) (i : Nat) (B : List UInt8) (listed : Array Bool) (hi : i < listed.size) (hun : listed.getD i true = false) (hpre : (pre.all fun c => c.1 != i) = true) (hpost : (post.all fun c => c.1 != i) = true) (hno : ∀ c ∈ post, listed.getD c.1 false = false) :
    said m (pre ++ (i, B) :: post) (listed.setIfInBounds i true) = said m (pre ++ (i, B) :: post) listed ++ B := by
  have h1 : listed.getD i false = false := getD_both hun
  have h2 : (listed.setIfInBounds i true).getD i false = true := by simp [hi]
  unfold said
  have e1 : (pre.map fun c => if (listed.setIfInBounds i true).getD c.1 false then c.2 else []) = (pre.map fun c => if listed.getD c.1 false then c.2 else []) := List.map_congr_left fun c hc => by
    have := List.all_eq_true.1 hpre c hc
    rw [getD_set_ne false (fun e => by simp [e] at this)]
  have hno' : ∀ c ∈ post, (listed.setIfInBounds i true).getD c.1 false = false := fun c hc => by
    have := List.all_eq_true.1 hpost c hc
    rw [getD_set_ne false (fun e => by simp [e] at this)]
    exact hno c hc
  rw [List.map_append, List.map_append, List.map_cons, List.map_cons, List.flatten_append, List.flatten_append, List.flatten_cons, List.flatten_cons, said_none post _ hno', said_none post _ hno, e1, h2, h1]
  simp

theorem said_zero (m : List UInt8) (calls : List (Nat × List UInt8)) (n : Nat) : said m calls (Array.replicate n false) = m := by
  unfold said
  rw [said_none calls _ (fun c _ => getD_replicate_false _ _)]
  simp

theorem said_all (m : List UInt8) (calls : List (Nat × List UInt8)) (listed : Array Bool) (h : ∀ c ∈ calls, listed.getD c.1 false = true) : said m calls listed = m ++ (calls.map (·.2)).flatten := by
  unfold said
  congr 2
  exact List.map_congr_left fun c hc => by rw [h c hc]; rfl

theorem Wr.carryB {base b : Nat} {l : List UInt8} {w w' : World} (h : Wr base b l w) (hb : Below w.heap.size w w') : Wr base b l w' := by
  obtain ⟨hlow, ao, cap, hcell, hbuf⟩ := h
  have hg : w.grownBy w' none := ⟨hb.os, hb.tape, hb.output, hb.size, fun k hk _ => hb.block k hk⟩
  exact ⟨hlow, ao, cap, (hb.block b (lt_of_block hcell)).trans hcell, World.ownsRow.kept hbuf hg (by cases Value.ownBlock (.slice ao l.length cap) <;> simp)⟩

/-- The world: what lies below, the packet's block, the writer. -/
structure ChS (base : Nat) (wE : World) (N : Nat) (X : Array Value) (T : TypeId) (b : Nat) (m : List UInt8) (calls : List (Nat × List UInt8)) (listed : Array Bool) (w : World) : Prop where
  bel : Below base wE w
  pk : w.heap[N]? = some (.cells X T (0, 0))
  wr : Wr base b (said m calls listed) w

section
variable {base : Nat} {wE : World} {N : Nat} {X : Array Value} {T : TypeId} {b : Nat} {m : List UInt8} {calls : List (Nat × List UInt8)} {listed : Array Bool} {w w' : World}
theorem ChS.calm (h : ChS base wE N X T b m calls listed w) (i : Nat) (hi : (calls.all fun c => c.1 != i) = true) : ChS base wE N X T b m calls (listed.setIfInBounds i true) w :=
  ⟨h.bel, h.pk, by rw [said_other _ _ _ _ hi]; exact h.wr⟩
theorem ChS.below (h : ChS base wE N X T b m calls listed w) (hbase : base ≤ wE.heap.size) (hb : Below w.heap.size w w') (i : Nat) (hi : (calls.all fun c => c.1 != i) = true) : ChS base wE N X T b m calls (listed.setIfInBounds i true) w' :=
  ⟨h.bel.trans (hb.mono (Nat.le_trans hbase h.bel.size)), (hb.block N (lt_of_block h.pk)).trans h.pk, by rw [said_other _ _ _ _ hi]; exact h.wr.carryB hb⟩
theorem ChS.call (h : ChS base wE N X T b m calls listed w) (hNb : N ≠ b) (hT : T ≠ 5) (hk : Kp base b w w') (i : Nat) (hw : Wr base b (said m calls (listed.setIfInBounds i true)) w') : ChS base wE N X T b m calls (listed.setIfInBounds i true) w' :=
  ⟨h.bel.trans hk.below, hk.spare N X T h.pk hNb hT, hw⟩
theorem ChS.lt (h : ChS base wE N X T b m calls listed w) : b < w.heap.size := h.wr.lt
end

/-- One step after the other. -/
def AllSteps (K : Nat → Oper → Prop) : Nat → List Oper → Prop
  | _, [] => True
  | k, o :: l => K k o ∧ AllSteps K (k + 1) l
theorem AllSteps.get {K : Nat → Oper → Prop} : ∀ {k : Nat} {l : List Oper}, AllSteps K k l → ∀ (i : Nat) o, l[i]? = some o → K (k + i) o
  | _, [], _, i, o, ho => by simp at ho
  | k, o' :: l, h, 0, o, ho => by
    simp only [List.getElem?_cons_zero, Option.some.injEq] at ho
    subst ho
    exact h.1
  | k, o' :: l, h, i + 1, o, ho => by
    have := AllSteps.get h.2 i o (by simpa using ho)
    rwa [show k + 1 + i = k + (i + 1) by omega] at this

theorem plan_val {P : Program} {K : Value → World → Prop} {r : Result Next} (v : Value) (w' : World) (h : r = .ok (.value v) w') (hK : K v w') : planUpon P K r := by rw [h]; exact hK
theorem plan_call {P : Program} {K : Value → World → Prop} {r : Result Next} (f : FuncId) (args : Array Value) (w' : World) (h : r = .ok (.enter f args) w') (hK : Calls P f args w' (fun e w'' => ∃ v, e = .returned v ∧ K v w'')) : planUpon P K r := by rw [h]; exact hK

theorem Seen.was' {md : Region.Mode} {ops : Array Oper} {V : Nat → Value → World → Prop} {a0 a : Act} {listed : Array Bool} {w : World} (h : Seen md ops V a0 listed a w) (t : Nat) (ht : (ops.toList.all fun o => o.dst != some t) = true) : a.eval (.tmp t) = a0.eval (.tmp t) :=
  h.was t fun i o ho => by simpa using List.all_eq_true.1 ht o (by simpa using Array.mem_of_getElem? ho)

theorem Seen.later {ops : Array Oper} {V : Nat → Value → World → Prop} {a0 a : Act} {listed : Array Bool} {w : World} (h : Seen .any ops V a0 listed a w) (i k : Nat) (hun : listed.getD i true = false) (ok : Oper) (hk : ops[k]? = some ok) (g : Ground) (hg : ⟨i, g⟩ ∈ ok.after) (hb : Region.binds .any ⟨i, g⟩ = true) : listed.getD k true = false := by
  cases hl : listed.getD k true with
  | false => rfl
  | true =>
    have hks : k < listed.size := by rw [h.size]; exact (Array.getElem?_eq_some_iff.1 hk).1
    have h1 : listed.getD k false = true := by simpa [hks] using hl
    have h2 := h.closed k ok hk h1 _ hg hb
    rw [getD_both hun] at h2
    cases h2

/-- A writer's calls, of rows that hold. -/
theorem byte_row (base b : Nat) (l : List UInt8) (zs : List Int) (B : List UInt8) (v : Value) (X : Array Value) (w : World) (h : Wr base b l w) (hl : l.length ≤ 65536) (hz : zs.length ≤ 1000) (hX : X = (zs.map (.int .i64 ·)).toArray) (hv : (Spec.row X 3).ok b v w)
    (hp : puts be1 255 l zs = some (l ++ B)) :
    Calls Try.prog 28 #[.pointer (some ⟨b, 0, none⟩), v] w fun e w' => e = .returned (.pointer (some ⟨b, 0, none⟩)) ∧ Wr base b (l ++ B) w' ∧ Kp base b w w' := by
  obtain ⟨r, hr, rfl, hrow⟩ := hv
  have hs : X.size = zs.length := by rw [hX]; simp
  rw [hs]
  refine (Byte_any base b r zs.length l zs w h (by omega) ⟨X, hrow, fun i hi => by rw [hX]; simp [hi]⟩ hr hz).mono ?_
  rintro e w' ⟨he, ha, hk⟩
  rw [hp] at ha
  exact ⟨he, ha.1, hk⟩
theorem short_row (base b : Nat) (l : List UInt8) (zs : List Int) (B : List UInt8) (v : Value) (X : Array Value) (w : World) (h : Wr base b l w) (hl : l.length ≤ 65536) (hz : zs.length ≤ 1000) (hX : X = (zs.map (.int .i64 ·)).toArray) (hv : (Spec.row X 3).ok b v w)
    (hp : puts be2 65535 l zs = some (l ++ B)) :
    Calls Try.prog 13 #[.pointer (some ⟨b, 0, none⟩), v] w fun e w' => e = .returned (.pointer (some ⟨b, 0, none⟩)) ∧ Wr base b (l ++ B) w' ∧ Kp base b w w' := by
  obtain ⟨r, hr, rfl, hrow⟩ := hv
  have hs : X.size = zs.length := by rw [hX]; simp
  rw [hs]
  refine (Short_any base b r zs.length l zs w h (by omega) ⟨X, hrow, fun i hi => by rw [hX]; simp [hi]⟩ hr hz).mono ?_
  rintro e w' ⟨he, ha, hk⟩
  rw [hp] at ha
  exact ⟨he, ha.1, hk⟩
theorem word_row (base b : Nat) (l : List UInt8) (ns : List Nat) (B : List UInt8) (v : Value) (X : Array Value) (w : World) (h : Wr base b l w) (hl : l.length ≤ 65536) (hz : ns.length ≤ 1000) (hn : ∀ n ∈ ns, n < 4294967296) (hX : X = (ns.map fun (n : Nat) => Value.int .u32 (n : Int)).toArray) (hv : (Spec.row X 22).ok b v w)
    (hp : putsW l ns = l ++ B) :
    Calls Try.prog 24 #[.pointer (some ⟨b, 0, none⟩), v] w fun e w' => e = .returned (.pointer (some ⟨b, 0, none⟩)) ∧ Wr base b (l ++ B) w' ∧ Kp base b w w' := by
  obtain ⟨r, hr, rfl, hrow⟩ := hv
  have hs : X.size = ns.length := by rw [hX]; simp
  rw [hs]
  refine (Word_any base b r ns.length l ns w h (by omega) ⟨X, hrow, fun i hi => ⟨by rw [hX]; simp [hi], ?_⟩⟩ hr hz).mono ?_
  · rw [List.getD_eq_getElem?_getD, List.getElem?_eq_getElem hi]
    exact hn _ (List.getElem_mem hi)
  · rintro e w' ⟨he, ha, hk⟩
    rw [hp] at ha
    exact ⟨he, ha, hk⟩
/-- Texts as one. -/
def txts (ss : List ByteArray) : List UInt8 := ss.flatMap (·.data.toList)
theorem txts_one (s : ByteArray) : (txts [s]).length = s.size := by unfold txts; rw [List.flatMap_cons, List.flatMap_nil, List.append_nil]; exact Array.length_toList
theorem txts_two (s t : ByteArray) : (txts [s, t]).length = s.size + t.size := by
  unfold txts; rw [List.flatMap_cons, List.flatMap_cons, List.flatMap_nil, List.append_nil, List.length_append]
  have e1 : s.data.toList.length = s.size := Array.length_toList
  have e2 : t.data.toList.length = t.size := Array.length_toList
  omega
/-- Texts to a writer that has room for them. -/
theorem putsT_all : ∀ (ss : List ByteArray) (l : List UInt8), l.length + (ss.map (·.size)).sum ≤ 65536 → putsT l ss = l ++ txts ss
  | [], l, _ => by simp [putsT, txts]
  | s :: r, l, hl => by
    simp only [List.map_cons, List.sum_cons] at hl
    have hw : s.data.toList.length = s.size := Array.length_toList
    simp only [putsT]
    rw [addTo_small _ _ (by omega), putsT_all r _ (by rw [List.length_append]; omega)]
    simp [txts]
theorem texts_row (base b : Nat) (l : List UInt8) (ss : List ByteArray) (B : List UInt8) (v : Value) (X : Array Value) (w : World) (h : Wr base b l w) (hl : l.length ≤ 65536) (hz : ss.length ≤ 1000) (hn : ∀ s ∈ ss, s.size ≤ 100000) (hX : X = (ss.map fun (s : ByteArray) => Value.string s).toArray) (hv : (Spec.row X 9).ok b v w)
    (hp : putsT l ss = l ++ B) :
    Calls Try.prog 12 #[.pointer (some ⟨b, 0, none⟩), v] w fun e w' => e = .returned (.pointer (some ⟨b, 0, none⟩)) ∧ Wr base b (l ++ B) w' ∧ Kp base b w w' := by
  obtain ⟨r, hr, rfl, hrow⟩ := hv
  have hs : X.size = ss.length := by rw [hX]; simp
  rw [hs]
  refine (Text_any base b r ss.length l ss w h (by omega) ⟨X, hrow, fun i hi => ⟨by rw [hX]; simp [hi], ?_⟩⟩ hr hz).mono ?_
  · rw [List.getD_eq_getElem?_getD, List.getElem?_eq_getElem hi]
    exact hn _ (List.getElem_mem hi)
  · rintro e w' ⟨he, ha, hk⟩
    rw [hp] at ha
    exact ⟨he, ha, hk⟩
theorem text_row (base b : Nat) (l : List UInt8) (s : ByteArray) (v : Value) (X : Array Value) (w : World) (h : Wr base b l w) (hl : l.length ≤ 10000) (hs50 : s.size ≤ 50000) (hX : X = #[.string s]) (hv : (Spec.row X 9).ok b v w) :
    Calls Try.prog 12 #[.pointer (some ⟨b, 0, none⟩), v] w fun e w' => e = .returned (.pointer (some ⟨b, 0, none⟩)) ∧ Wr base b (l ++ s.data.toList) w' ∧ Kp base b w w' :=
  texts_row base b l [s] s.data.toList v X w h (by omega) (by simp) (fun t ht => by rw [List.mem_singleton.1 ht]; omega) (by rw [hX]; rfl) hv (by rw [putsT_all _ _ (by show l.length + (s.size + 0) ≤ 65536; omega)]; simp [txts])

theorem said_le (m : List UInt8) (calls : List (Nat × List UInt8)) (listed : Array Bool) : (said m calls listed).length ≤ m.length + (calls.map fun c => c.2.length).sum := by
  unfold said
  rw [List.length_append]
  refine Nat.add_le_add_left ?_ _
  induction calls with
  | nil => exact Nat.le_refl _
  | cons c r ih =>
    simp only [List.map_cons, List.flatten_cons, List.length_append, List.sum_cons]
    refine Nat.add_le_add ?_ ih
    split <;> simp

theorem puts_all (be : Nat → List UInt8) (most c : Nat) (hc : ∀ n, (be n).length = c) : ∀ (ns : List Nat) (l : List UInt8), (∀ n ∈ ns, n ≤ most) → l.length + c * ns.length ≤ 65536 → puts be most l (ns.map fun (n : Nat) => (n : Int)) = some (l ++ ns.flatMap be)
  | [], l, _, _ => by simp [puts]
  | n :: r, l, h, hl => by
    have hn := h n List.mem_cons_self
    simp only [List.length_cons, Nat.mul_add] at hl
    simp only [List.map_cons, puts]
    rw [if_pos (by omega), addTo_small _ _ (by simp [hc]; omega), puts_all be most c hc r _ (fun n' h' => h n' (List.mem_cons_of_mem _ h')) (by simp [hc]; omega)]
    simp
theorem putsW_all : ∀ (ns : List Nat) (l : List UInt8), l.length + 4 * ns.length ≤ 65536 → putsW l ns = l ++ ns.flatMap word
  | [], l, _ => by simp [putsW]
  | n :: r, l, hl => by
    simp only [List.length_cons, Nat.mul_add] at hl
    have hw : (word n).length = 4 := rfl
    simp only [putsW]
    rw [addTo_small _ _ (by omega), putsW_all r _ (by rw [List.length_append]; omega)]
    simp

/-- The region by a plan, its steps one by one. -/
theorem region_plan' {P : Program} {id : Nat} {Q : Exit → Act → World → Prop} {a : Act} {w : World} {l : List Oper} (V : Nat → Value → World → Prop) (S : Array Bool → World → Prop) (hm : P.follows .mixedOrders = true) (hB : planB .any l.toArray a.tmps.size = true)
    (h0 : S (Array.replicate l.length false) w.drew)
    (hstep : AllSteps (fun i o => ∀ listed a' w', Seen .any l.toArray V a listed a' w' → S listed w' → listed.getD i true = false → (∀ e ∈ o.after, Region.binds .any e = true → listed.getD e.on false = true) →
      planUpon P (fun v w'' => V i v w'' ∧ S (listed.setIfInBounds i true) w'' ∧ ∀ j u, V j u w' → V j u w'') ((execOp a'.eval o).run P w')) 0 l)
    (hfin : ∀ (vs : List Value) listed w', vs.length = l.length → (∀ (i : Nat) v, vs[i]? = some v → V i v w') → (∀ i, i < l.length → listed.getD i false = true) → S listed w' → Q .normal (lays a l vs) w') :
    (Code.region id l.toArray true).wp P Q a w :=
  region_plan V S hm hB h0 (fun i o ho => by
    have := AllSteps.get hstep i o (by simpa using ho)
    simpa using this) hfin
#print axioms text_row
#print axioms region_plan'
end Go.Proofs.Ytohemlejceiojaa
