/- A label in a block of its own: read, and written, whole and in parts. -/
import Derived.Test.YtdipoaekdafbeaaCtUnion
namespace Go.Proofs.Ytdipoaekdafbeaa
open Go.RowKit
set_option maxRecDepth 100000
set_option linter.unusedVariables false

namespace L
/-- A label's cells: its level, then its set. -/
def lv (z : Int) (n : Nat) : Array Value := #[.int .i64 z] ++ C.cv n
theorem lv_size (z : Int) (n : Nat) : (lv z n).size = 31 := by simp [lv, cv_size]
theorem lv_zero (z : Int) (n : Nat) : (lv z n)[0]? = some (.int .i64 z) := by unfold lv; rw [Array.getElem?_append_left (by simp)]; rfl
theorem lv_succ (z : Int) (n i : Nat) : (lv z n)[1 + i]? = (C.cv n)[i]? := by
  unfold lv
  rw [Array.getElem?_append_right (by simp)]
  congr 1
  simp
theorem lv_one (z : Int) (n : Nat) : (lv z n).all (·.oneCell') = true := by
  unfold lv
  rw [Array.all_append, show C.cv n = C.bv (C.byte n) from rfl, C.bv_one]
  simp [Value.oneCell']
theorem lv_inj {z y : Int} {n m : Nat} (hn : n < 2 ^ 240) (hm : m < 2 ^ 240) (h : lv z n = lv y m) : z = y ∧ n = m := by
  have h0 : (lv z n)[0]? = (lv y m)[0]? := by rw [h]
  rw [lv_zero, lv_zero] at h0
  refine ⟨by injection h0 with h0; injection h0, C.cv_inj hn hm (Array.ext_getElem? fun i => ?_)⟩
  rw [← lv_succ z n i, ← lv_succ y m i, h]
theorem zero31 : (#[.int .i64 0, .int .u8 0, .int .u8 0, .int .u8 0, .int .u8 0, .int .u8 0, .int .u8 0, .int .u8 0, .int .u8 0, .int .u8 0, .int .u8 0, .int .u8 0, .int .u8 0, .int .u8 0, .int .u8 0, .int .u8 0, .int .u8 0, .int .u8 0, .int .u8 0, .int .u8 0, .int .u8 0, .int .u8 0, .int .u8 0, .int .u8 0, .int .u8 0, .int .u8 0, .int .u8 0, .int .u8 0, .int .u8 0, .int .u8 0, .int .u8 0] : Array Value) = lv 0 0 := by kernel_rfl
end L

/-- The label (z, n) lies in block g. -/
def LabAt (w : World) (g : Nat) (z : Int) (n : Nat) : Prop := w.heap[g]? = some (.cells (L.lv z n) 29 (0, 0))
theorem LabAt.lt {w : World} {g n : Nat} {z : Int} (h : LabAt w g z n) : g < w.heap.size := by
  rcases Nat.lt_or_ge g w.heap.size with hlt | hge
  · exact hlt
  · unfold LabAt at h; rw [Array.getElem?_eq_none hge] at h; cases h
theorem LabAt.below {w w' : World} {g n B : Nat} {z : Int} (h : LabAt w g z n) (hb : Below B w w') (hg : g < B) : LabAt w' g z n := (hb.block g hg).trans h
theorem LabAt.only {w w' : World} {g g' n : Nat} {z : Int} (h : LabAt w g z n) (ho : Only g' w w') (hg : g ≠ g') : LabAt w' g z n := (ho.block g hg).trans h
theorem LabAt.drewN {w : World} {g n : Nat} {z : Int} (h : LabAt w g z n) (k : Nat) : LabAt (w.drewN k) g z n := h
theorem LabAt.alloc {w : World} {g n : Nat} {z : Int} (h : LabAt w g z n) (o : Obj) : LabAt (w.alloc o) g z n := (Below.heap_alloc w o g h.lt).trans h
theorem LabAt.new (w : World) (z : Int) (n : Nat) : LabAt (w.alloc (.cells (L.lv z n) 29)) w.heap.size z n := heap_alloc_new w _
theorem LabAt.level {w : World} {g n : Nat} {z : Int} (h : LabAt w g z n) : w.cell? ⟨g, 0, none⟩ = some (.int .i64 z) :=
  (cell_of_row w g 0 _ _ (0, 0) h).trans (L.lv_zero z n)
theorem LabAt.byte {w : World} {g n : Nat} {z : Int} (h : LabAt w g z n) (i : Nat) (hi : i < 30) : w.cell? ⟨g, 1 + i, none⟩ = some (.int .u8 (C.byte n i)) :=
  ((cell_of_row w g (1 + i) _ _ (0, 0) h).trans (L.lv_succ z n i)).trans (C.bv_get _ i hi)
theorem LabAt.frozen {w : World} {g n : Nat} {z : Int} (h : LabAt w g z n) (i : Nat) : w.frozen? ⟨g, i, none⟩ = false := frozen_of_row w g i _ _ h
theorem LabAt.range {w : World} {g n : Nat} {z : Int} (h : LabAt w g z n) : w.rangeAt g 1 (C.cv n).toList := fun j v hv => by
  rw [cell_of_row w g (1 + j) _ _ (0, 0) h, L.lv_succ]
  simpa using hv

theorem Try.info_lab : (Try.prog.info? 29).map (·.size) = some 31 := by kernel_rfl

/-- A row with some of its cells turned. -/
def putAt (cs : Array Value) : Nat → List Value → Array Value
  | _, [] => cs
  | o, v :: r => putAt (cs.setIfInBounds o v) (o + 1) r
theorem putAt_get : ∀ (vs : List Value) (o : Nat) (cs : Array Value) (i : Nat), o + vs.length ≤ cs.size → (putAt cs o vs)[i]? = if o ≤ i ∧ i < o + vs.length then vs[i - o]? else cs[i]?
  | [], o, cs, i, _ => by simp [putAt]; intro h1 h2; omega
  | v :: r, o, cs, i, h => by
    simp only [List.length_cons] at h
    rw [putAt, putAt_get r (o + 1) _ i (by simp; omega)]
    by_cases e : i = o
    · subst e
      rw [if_neg (by omega), if_pos (by simp)]
      simp only [Nat.sub_self, List.getElem?_cons_zero]
      rw [Array.getElem?_setIfInBounds_self_of_lt (by omega)]
    · by_cases h1 : o + 1 ≤ i ∧ i < o + 1 + r.length
      · rw [if_pos h1, if_pos (by simp; omega), show i - o = (i - (o + 1)) + 1 by omega, List.getElem?_cons_succ]
      · rw [if_neg h1, if_neg (by simp; omega), Array.getElem?_setIfInBounds_ne (by omega)]
theorem heap_setCells_same (g : Nat) (t : TypeId) : ∀ (vs : List Value) (o : Nat) (w : World) (cs : Array Value), w.heap[g]? = some (.cells cs t (0, 0)) → (w.setCells g o vs).heap[g]? = some (.cells (putAt cs o vs) t (0, 0))
  | [], _, _, _, h => h
  | v :: r, o, w, cs, h => heap_setCells_same g t r (o + 1) _ _ (heap_setCell_same w g o cs t v h)
theorem only_setCells (g : Nat) : ∀ (vs : List Value) (o : Nat) (w : World), Only g w (w.setCells g o vs)
  | [], _, w => ⟨rfl, rfl, rfl, rfl, fun _ _ => rfl⟩
  | v :: r, o, w => by
    have h1 := only_cell w g o v
    have h2 := only_setCells g r (o + 1) (w.setCell ⟨g, o, none⟩ v)
    exact ⟨h2.os.trans h1.os, h2.tape.trans h1.tape, h2.output.trans h1.output, h2.size.trans h1.size, fun k hk => (h2.block k hk).trans (h1.block k hk)⟩
theorem putAt_lab (z : Int) (n m : Nat) : putAt (L.lv z n) 1 (C.cv m).toList = L.lv z m := by
  apply Array.ext_getElem?
  intro i
  rw [putAt_get _ _ _ _ (by rw [Array.length_toList, cv_size, L.lv_size]; decide)]
  rw [Array.length_toList, cv_size]
  by_cases h : 1 ≤ i ∧ i < 1 + 30
  · rw [if_pos h]
    obtain ⟨j, rfl⟩ : ∃ j, i = 1 + j := ⟨i - 1, by omega⟩
    rw [L.lv_succ, show 1 + j - 1 = j by omega]
    simp
  · rw [if_neg h]
    by_cases h0 : i = 0
    · subst h0; rw [L.lv_zero, L.lv_zero]
    · rw [Array.getElem?_eq_none (by rw [L.lv_size]; omega), Array.getElem?_eq_none (by rw [L.lv_size]; omega)]

section
variable {ops : Array Oper} {rest : List Oper} {o : Oper} {a : Act} {w : World} {Q : Exit → Act → World → Prop} {x y : Operand} {g n m : Nat} {z z' : Int}
theorem run_load_lab (h : LabAt w g z n) : (loadVar 29 ⟨g, 0, none⟩).run Try.prog w = .ok (.agg (L.lv z n)) w :=
  run_loadVar_row w g _ _ _ (0, 0) _ h Try.underlying29 rfl (by rw [L.lv_size]; exact Try.info_lab)
theorem load_lab (hgd : Region.wanted o (yielded ops a.tmps) = true) (ho : o.op = .load 29 x) (hx : a.eval x = .pointer (some ⟨g, 0, none⟩)) (hg : LabAt w g z n) (h : wpList Try.prog ops Q rest (a.put o.dst (.agg (L.lv z n))) w) : wpList Try.prog ops Q (o :: rest) a w := by
  unfold wpList
  rw [if_pos hgd]
  exact .inl (wp_load_row _ x ho g hx _ _ (0, 0) _ hg Try.underlying29 rfl (by rw [L.lv_size]; exact Try.info_lab) h)
theorem load_labcats (hgd : Region.wanted o (yielded ops a.tmps) = true) (ho : o.op = .load 27 x) (hx : a.eval x = .pointer (some ⟨g, 1, none⟩)) (hg : LabAt w g z n) (h : wpList Try.prog ops Q rest (a.put o.dst (.agg (C.cv n))) w) : wpList Try.prog ops Q (o :: rest) a w := by
  unfold wpList
  rw [if_pos hgd]
  exact .inl (wp_load_mid _ x ho g 1 hx _ _ hg.range Try.underlying27 rfl (by rw [Array.length_toList, cv_size]; exact Try.info_cats) (by rw [Array.toArray_toList]; exact h))
theorem load_mid_lab {off : Nat} (hgd : o.guard = .none) (ho : o.op = .load 29 x) (hx : a.eval x = .pointer (some ⟨g, off, .none⟩)) (hg : w.rangeAt g off (L.lv z n).toList)
    (h : wpList Try.prog ops Q rest (a.put o.dst (.agg (L.lv z n))) w) : wpList Try.prog ops Q (o :: rest) a w :=
  wpList_load_mid hgd _ x ho g off hx _ _ hg Try.underlying29 rfl (by rw [Array.length_toList, L.lv_size]; exact Try.info_lab) (by rw [Array.toArray_toList]; exact h)
theorem store_lab (hgd : o.guard = none) (ho : o.op = .store 29 x y) (hx : a.eval x = .pointer (some ⟨g, 0, none⟩)) (hy : a.eval y = .agg (L.lv z' m)) (hg : LabAt w g z n)
    (h : ∀ w', LabAt w' g z' m → Only g w w' → wpList Try.prog ops Q rest (a.put o.dst undef) w') : wpList Try.prog ops Q (o :: rest) a w :=
  wpList_store_row hgd _ x y ho g _ hx hy _ _ hg (by rw [L.lv_size]; exact Try.info_lab) (by rw [L.lv_size, L.lv_size]) (L.lv_one _ _)
    (h _ (setRow_heap w g _ _ _ _ hg) ⟨rfl, rfl, rfl, by simp, fun k hk => setRow_other w g k _ hk⟩)
theorem store_labcats (hgd : o.guard = none) (ho : o.op = .store 27 x y) (hx : a.eval x = .pointer (some ⟨g, 1, none⟩)) (hy : a.eval y = .agg (C.cv m)) (hg : LabAt w g z n)
    (h : ∀ w', LabAt w' g z m → Only g w w' → wpList Try.prog ops Q rest (a.put o.dst undef) w') : wpList Try.prog ops Q (o :: rest) a w :=
  wpList_store_mid hgd _ x y ho g 1 _ hx hy (fun j hj => ⟨by rw [hg.byte j (by rw [cv_size] at hj; omega)]; rfl, hg.frozen _⟩) (by rw [cv_size]; exact Try.info_cats) (C.bv_one _)
    (h _ (by have := heap_setCells_same g _ (C.cv m).toList 1 w _ hg; rw [putAt_lab] at this; exact this) (only_setCells g _ _ w))
theorem ret_lab {fn : Func} {R : Ending → World → Prop} {p : Tmp} (h : fn.results = #[.cell p 29]) (hp : a.tmps.getD p undef = .pointer (some ⟨g, 0, none⟩)) (hd : a.defers = []) (hg : LabAt w g z n) (hR : R (.returned (.agg (L.lv z n))) w) : bodyPost Try.prog fn R .ret a w :=
  bodyPost_ret (results_cell_row h _ _ g _ _ (0, 0) _ hp hg Try.underlying29 rfl (by rw [L.lv_size]; exact Try.info_lab)) hd hR
theorem ret_lab_tmp {fn : Func} {R : Ending → World → Prop} {p u : Tmp} {v : Value} (h : fn.results = #[.cell p 29, .tmp u]) (hp : a.tmps.getD p undef = .pointer (some ⟨g, 0, none⟩)) (hu : a.tmps.getD u undef = v) (hd : a.defers = []) (hg : LabAt w g z n) (hR : R (.returned (.tuple #[.agg (L.lv z n), v])) w) : bodyPost Try.prog fn R .ret a w :=
  bodyPost_ret (by rw [results_cell_tmp h, hp, hu]; simp [asAddr, Result.andThen, run_load_lab hg]) hd hR
end

theorem LabAt.setLevel {w : World} {g n : Nat} {z : Int} (h : LabAt w g z n) (y : Int) : LabAt (w.setCell ⟨g, 0, none⟩ (.int .i64 y)) g y n := by
  have := heap_setCell_same w g 0 _ _ (.int .i64 y) h
  rw [show (L.lv z n).setIfInBounds 0 (.int .i64 y) = L.lv y n from ?_] at this
  · exact this
  · unfold L.lv
    apply Array.ext_getElem?
    intro i
    by_cases e : i = 0
    · subst e; simp
    · rw [Array.getElem?_setIfInBounds_ne (by omega), Array.getElem?_append_right (by simp; omega), Array.getElem?_append_right (by simp; omega)]
      simp

/-- A row of labels that a slice leads to. -/
def LRow (w : World) (a : Option Addr) (l : List (Int × Nat)) : Prop := 0 < l.length → ∃ b off, a = some ⟨b, off, none⟩ ∧ b < w.heap.size ∧ ∀ k, k < l.length → w.rangeAt b (off + k * 31) (L.lv (l.getD k (0, 0)).1 (l.getD k (0, 0)).2).toList
theorem LRow.then {W wr : World} {a : Option Addr} {l : List (Int × Nat)} (h : LRow W a l) (hb : Below W.heap.size W wr) (k : Nat) (hk : k < l.length) : ∃ b off, a = some ⟨b, off, none⟩ ∧ b < W.heap.size ∧ wr.rangeAt b (off + k * 31) (L.lv (l.getD k (0, 0)).1 (l.getD k (0, 0)).2).toList := by
  obtain ⟨b, off, ha, hlt, hc⟩ := h (by omega)
  exact ⟨b, off, ha, hlt, fun j v hv => (hb.cell (p := ⟨b, off + k * 31 + j, none⟩) hlt).trans (hc k hk j v hv)⟩
theorem LRow.none (w : World) (a : Option Addr) : LRow w a [] := fun h => by simp at h
theorem LRow.below {w w' : World} {a : Option Addr} {l : List (Int × Nat)} (h : LRow w a l) (hb : Below w.heap.size w w') : LRow w' a l := fun h0 => by
  obtain ⟨b, off, ha, hlt, hc⟩ := h h0
  exact ⟨b, off, ha, Nat.lt_of_lt_of_le hlt hb.size, fun k hk j v hv => (hb.cell (p := ⟨b, off + k * 31 + j, Option.none⟩) hlt).trans (hc k hk j v hv)⟩
theorem LRow.one {w : World} {g n : Nat} {z : Int} {T : TypeId} (h : w.heap[g]? = some (.cells (L.lv z n) T (0, 0))) : LRow w (some ⟨g, 0, Option.none⟩) [(z, n)] := fun _ => by
  refine ⟨g, 0, rfl, heap_lt h, fun k hk j v hv => ?_⟩
  obtain rfl : k = 0 := by simp at hk; omega
  rw [cell_of_row w g _ _ _ (0, 0) h, show 0 + 0 * 31 + j = j by omega]
  simpa using hv
#print axioms store_labcats
end Go.Proofs.Ytdipoaekdafbeaa
