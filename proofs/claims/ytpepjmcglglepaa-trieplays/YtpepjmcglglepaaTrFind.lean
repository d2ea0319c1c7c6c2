/- The walks of what is found of an address; a trie of nothing. -/
import Derived.Test.YtpepjmcglglepaaTrGen
namespace Go.Proofs.Ytpepjmcglglepaa
open Go.RowKit
set_option maxRecDepth 100000
set_option linter.unusedVariables false
open R

theorem R.Path.one {pl : Nat → Nat → Option Nat} {a n : Nat} {ps qs : List Nat} (h : Path pl a n ps) (k : Path pl a n qs) : ps = qs := by
  have hl : ps.length = qs.length := by
    rcases Nat.lt_trichotomy ps.length qs.length with e | e | e
    · have h1 := h.stop (by have := k.le; omega)
      rw [k.at' _ e] at h1
      cases h1
    · exact e
    · have h1 := k.stop (by have := h.le; omega)
      rw [h.at' _ e] at h1
      cases h1
  refine List.ext_getElem? fun i => ?_
  by_cases hi : i < ps.length
  · have e1 := h.at' i hi
    have e2 := k.at' i (by omega)
    rw [e1] at e2
    have e3 := Option.some.inj e2
    rw [List.getElem?_eq_getElem hi, List.getElem?_eq_getElem (by omega)]
    rw [List.getD_eq_getElem?_getD, List.getD_eq_getElem?_getD, List.getElem?_eq_getElem hi, List.getElem?_eq_getElem (by omega)] at e3
    exact congrArg some e3
  · rw [List.getElem?_eq_none (by omega), List.getElem?_eq_none (by omega)]

theorem New_any (w : World) : Calls Try.prog 5 #[] w fun e w' => ∃ g, e = .returned (.pointer (some ⟨g, 0, none⟩)) ∧ TrieAt (fun k => w.heap.size ≤ k ∧ k < w'.heap.size) w' g st0 ∧ Below w.heap.size w w' := by
  have hmk : ∀ w, (Instr.makeSlice 50 (.int .i64 1) (.int .i64 1)).run Try.prog w = .ok (.slice (some ⟨w.heap.size, 0, none⟩) 1 1) (w.alloc (.cells #[.int .i64 0, .int .i64 0, .bool false, .int .u32 0, .int .i64 0, .int .i64 0] 59)) := fun _ => by kernel_rfl
  have H : Hid (TrieAt (fun k => w.heap.size ≤ k ∧ k < w.heap.size + 3) (((w.alloc (.cells #[.int .i64 0, .int .i64 0, .bool false, .int .u32 0, .int .i64 0, .int .i64 0] 59)).alloc (.cells #[.slice (some ⟨w.heap.size, 0, none⟩) 1 1, .slice none 0 0, .int .i64 0] 53)).alloc (.cells #[.pointer (some ⟨w.heap.size + 1, 0, none⟩)] 55)) (w.heap.size + 1 + 1) st0) := Lib.hid (by
    have e1 := heap_alloc_new w (.cells #[.int .i64 0, .int .i64 0, .bool false, .int .u32 0, .int .i64 0, .int .i64 0] 59)
    generalize hw1 : w.alloc (.cells #[.int .i64 0, .int .i64 0, .bool false, .int .u32 0, .int .i64 0, .int .i64 0] 59) = w1 at *
    have z1 : w1.heap.size = w.heap.size + 1 := by rw [← hw1]; simp
    have e2 := heap_alloc_new w1 (.cells #[.slice (some ⟨w.heap.size, 0, none⟩) 1 1, .slice none 0 0, .int .i64 0] 53)
    have k1 := (Below.heap_alloc w1 (.cells #[.slice (some ⟨w.heap.size, 0, none⟩) 1 1, .slice none 0 0, .int .i64 0] 53) w.heap.size (by omega)).trans e1
    generalize hw2 : w1.alloc (.cells #[.slice (some ⟨w.heap.size, 0, none⟩) 1 1, .slice none 0 0, .int .i64 0] 53) = w2 at *
    have z2 : w2.heap.size = w.heap.size + 1 + 1 := by rw [← hw2]; simp [z1]
    have e3 := heap_alloc_new w2 (.cells #[.pointer (some ⟨w.heap.size + 1, 0, none⟩)] 55)
    have k2 := (Below.heap_alloc w2 (.cells #[.pointer (some ⟨w.heap.size + 1, 0, none⟩)] 55) w.heap.size (by omega)).trans k1
    have k3 := (Below.heap_alloc w2 (.cells #[.pointer (some ⟨w.heap.size + 1, 0, none⟩)] 55) w1.heap.size (by omega)).trans e2
    rw [z1] at k3
    rw [z2] at e3
    refine ⟨w.heap.size + 1, e3, ⟨by omega, by omega⟩, some ⟨w.heap.size, 0, none⟩, 1, none, 0, k3, ⟨rfl, .inr ⟨w.heap.size, 1, _, rfl, Nat.zero_le _, k2, Nat.le_refl _, by decide, rfl, rfl⟩⟩, World.ownsRow_nil _ _ _ _, ⟨⟨by omega, by omega⟩, by omega⟩, fun k hk => ?_, fun k hk => by cases hk⟩
    have : w.heap.size = k := by simpa [Value.ownBlock] using hk
    omega)
  go_enter Try.func5, Try.ntmps5
  go_wp2
  go_ret
  refine ⟨w.heap.size + 1 + 1, rfl, ?_, (((Below.refl _ w).alloc (Nat.le_refl _) _).alloc (by simp) _).alloc (by simp; omega) _⟩
  have h := H.out
  obtain ⟨t, h1, h2, h3⟩ := h
  have hm : ∀ k, (w.heap.size ≤ k ∧ k < w.heap.size + 3) → (w.heap.size ≤ k ∧ k < (((w.alloc (.cells #[.int .i64 0, .int .i64 0, .bool false, .int .u32 0, .int .i64 0, .int .i64 0] 59)).alloc (.cells #[.slice (some ⟨w.heap.size, 0, none⟩) 1 1, .slice none 0 0, .int .i64 0] 53)).alloc (.cells #[.pointer (some ⟨w.heap.size + 1, 0, none⟩)] 55)).heap.size) := fun k hk => ⟨hk.1, by simp; omega⟩
  exact ⟨t, h1, hm _ h2, h3.mono fun k hk => ⟨hm k hk.1, hk.2⟩⟩

/-- A node in a block of the call's own. -/
def NBlk (w : World) (b : Nat) (n : Nd) : Prop := w.heap[b]? = some (.cells #[.int .i64 n.c0, .int .i64 n.c1, .bool n.has, .int .u32 n.r.a, .int .i64 n.r.b, .int .i64 n.r.o] 59 (0, 0))
theorem NBlk.below {w w' : World} {b : Nat} {n : Nd} (h : NBlk w b n) (hb : Below w.heap.size w w') : NBlk w' b n := (hb.block b (heap_lt h)).trans h
theorem NBlk.cells {w : World} {b : Nat} {n : Nd} (h : NBlk w b n) : w.cell? ⟨b, 0, none⟩ = some (.int .i64 n.c0) ∧ w.cell? ⟨b, 1, none⟩ = some (.int .i64 n.c1) ∧ w.cell? ⟨b, 2, none⟩ = some (.bool n.has) ∧ w.cell? ⟨b, 3, none⟩ = some (.int .u32 n.r.a) ∧ w.cell? ⟨b, 4, none⟩ = some (.int .i64 n.r.b) ∧ w.cell? ⟨b, 5, none⟩ = some (.int .i64 n.r.o) :=
  ⟨(cell_of_row w b 0 _ _ (0, 0) h).trans rfl, (cell_of_row w b 1 _ _ (0, 0) h).trans rfl, (cell_of_row w b 2 _ _ (0, 0) h).trans rfl, (cell_of_row w b 3 _ _ (0, 0) h).trans rfl, (cell_of_row w b 4 _ _ (0, 0) h).trans rfl, (cell_of_row w b 5 _ _ (0, 0) h).trans rfl⟩
theorem NBlk.free {w : World} {b : Nat} {n : Nd} (h : NBlk w b n) (o : Nat) : w.frozen? ⟨b, o, none⟩ = false := by
  have h' : w.heap[b]? = some (.cells #[.int .i64 n.c0, .int .i64 n.c1, .bool n.has, .int .u32 n.r.a, .int .i64 n.r.b, .int .i64 n.r.o] 59 (0, 0)) := h
  simp [World.frozen?, h']
theorem NBlk.new (w : World) (n : Nd) : NBlk (w.alloc (.cells #[.int .i64 n.c0, .int .i64 n.c1, .bool n.has, .int .u32 n.r.a, .int .i64 n.r.b, .int .i64 n.r.o] 59)) w.heap.size n := heap_alloc_new w _
theorem set_row {w : World} {b i : Nat} {cur : Array Value} {e : TypeId} (h : w.heap[b]? = some (.cells cur e (0, 0))) (v : Value) : (w.setCell ⟨b, i, none⟩ v).heap[b]? = some (.cells (cur.setIfInBounds i v) e (0, 0)) := by
  have hlt := heap_lt h
  have h' : w.heap[b] = .cells cur e (0, 0) := by simpa [Array.getElem?_eq_getElem hlt] using h
  show (w.heap.modify b _)[b]? = _
  rw [Array.getElem?_eq_getElem (by simpa using hlt), Array.getElem_modify_self, h']
  rfl
theorem NBlk.set {w : World} {b : Nat} {n : Nd} (h : NBlk w b n) (m : Nd) : NBlk ((((((w.setCell ⟨b, 0, none⟩ (.int .i64 m.c0)).setCell ⟨b, 1, none⟩ (.int .i64 m.c1)).setCell ⟨b, 2, none⟩ (.bool m.has)).setCell ⟨b, 3, none⟩ (.int .u32 m.r.a)).setCell ⟨b, 4, none⟩ (.int .i64 m.r.b)).setCell ⟨b, 5, none⟩ (.int .i64 m.r.o)) b m :=
  set_row (set_row (set_row (set_row (set_row (set_row h _) _) _) _) _) _
theorem RBlk.set {w : World} {b : Nat} {n : Rt} (h : RBlk w b n) (m : Rt) : RBlk (((w.setCell ⟨b, 0, none⟩ (.int .u32 m.a)).setCell ⟨b, 1, none⟩ (.int .i64 m.b)).setCell ⟨b, 2, none⟩ (.int .i64 m.o)) b m :=
  set_row (set_row (set_row h _) _) _
/-- A node stored into a block. -/
def sets6 (w : World) (b : Nat) (m : Nd) : World := (((((w.setCell ⟨b, 0, none⟩ (.int .i64 m.c0)).setCell ⟨b, 1, none⟩ (.int .i64 m.c1)).setCell ⟨b, 2, none⟩ (.bool m.has)).setCell ⟨b, 3, none⟩ (.int .u32 m.r.a)).setCell ⟨b, 4, none⟩ (.int .i64 m.r.b)).setCell ⟨b, 5, none⟩ (.int .i64 m.r.o)
theorem sets6_heap (w : World) (b : Nat) (m : Nd) (k : Nat) (h : k ≠ b) : (sets6 w b m).heap[k]? = w.heap[k]? := by
  unfold sets6
  rw [Below.heap_setCell _ _ _ _ h, Below.heap_setCell _ _ _ _ h, Below.heap_setCell _ _ _ _ h, Below.heap_setCell _ _ _ _ h, Below.heap_setCell _ _ _ _ h, Below.heap_setCell _ _ _ _ h]
theorem sets6_below {B : Nat} {w0 w : World} (h : Below B w0 w) (b : Nat) (m : Nd) (hb : B ≤ b) : Below B w0 (sets6 w b m) := (((((h.setCell hb _).setCell hb _).setCell hb _).setCell hb _).setCell hb _).setCell hb _
theorem sets6_size (w : World) (b : Nat) (m : Nd) : (sets6 w b m).heap.size = w.heap.size := by simp [sets6, World.setCell]
#print axioms New_any
end Go.Proofs.Ytpepjmcglglepaa
