/- Rows of one-cell elements that a call puts together, one by one. -/
import Derived.Test.YtdipoaekdafbeaaCtSet
import Derived.Test.YtdipoaekdafbeaaBuf
import Derived.Test.YtdipoaekdafbeaaAppRun
namespace Go.Proofs.Ytdipoaekdafbeaa
open Go.RowKit
set_option maxRecDepth 100000

/-- A row of one-cell elements that the call owns, from block 'base' on. -/
def VBuf (e : TypeId) (base : Nat) (ao : Option Addr) (cap : Nat) (vs : List Value) (w : World) : Prop := w.ownsRow base e 1 (.slice ao vs.length cap) vs.length vs

section
variable {e : TypeId} {base : Nat} {ao : Option Addr} {cap : Nat} {vs : List Value} {w w' : World}
theorem heap_lt {w : World} {g : Nat} {o : Obj} (h : w.heap[g]? = some o) : g < w.heap.size := (Array.getElem?_eq_some_iff.1 h).1
theorem VBuf.nil (e : TypeId) (base : Nat) (w : World) : VBuf e base none 0 [] w := World.ownsRow_nil _ _ _ _
theorem VBuf.alloc (h : VBuf e base ao cap vs w) (o : Obj) : VBuf e base ao cap vs (w.alloc o) := World.ownsRow.alloc h o
theorem VBuf.carry (h : VBuf e base ao cap vs w) (hb : Below w.heap.size w w') : VBuf e base ao cap vs w' := by
  have hg : w.grownBy w' none := ⟨hb.os, hb.tape, hb.output, hb.size, fun k hk _ => hb.block k hk⟩
  exact World.ownsRow.kept h hg (by cases Value.ownBlock (.slice ao vs.length cap) <;> simp)
theorem VBuf.at (h : VBuf e base ao cap vs w) (h0 : 0 < vs.length) : ∃ g, ao = some ⟨g, 0, none⟩ ∧ base ≤ g ∧ g < w.heap.size ∧ ∀ k v, vs[k]? = some v → w.cell? ⟨g, k, none⟩ = some v := by
  rcases h.2 with ⟨hv, hn⟩ | ⟨g, cap', cur, hv, hbg, hg, _⟩
  · omega
  · have hao : ao = some ⟨g, 0, none⟩ := by simpa using congrArg (fun v => match v with | .slice a _ _ => a | _ => none) hv
    subst hao
    refine ⟨g, rfl, hbg, heap_lt hg, fun k v hk => ?_⟩
    have c1 := World.ownsRow.cells h (g := g) rfl k _ hk
    rw [Addr.add_lit, Nat.zero_add] at c1
    exact c1
theorem VBuf.own (h : VBuf e base ao cap vs w) : ∀ g, Value.ownBlock (.slice ao vs.length cap) = some g → base ≤ g := fun g hg => by
  rcases h.2 with ⟨hv, hn⟩ | ⟨g', cap', cur, hv, hbg, _⟩
  · have hao : ao = none := by simpa using congrArg (fun v => match v with | .slice a _ _ => a | _ => none) hv
    subst hao
    simp [Value.ownBlock] at hg
  · have hao : ao = some ⟨g', 0, none⟩ := by simpa using congrArg (fun v => match v with | .slice a _ _ => a | _ => none) hv
    subst hao
    have : g' = g := by simpa [Value.ownBlock] using hg
    omega
theorem VBuf.isSome (h : VBuf e base ao cap vs w) (h0 : 0 < vs.length) : ∃ p, ao = Option.some p := by
  obtain ⟨g, hg, _⟩ := h.at h0
  exact ⟨_, hg⟩

theorem parts_of {t : TypeId} {z : Option Value} {n b : Nat} (h : (Try.prog.info? t).map (fun i => (i.zero, i.size, i.bytes)) = Option.some (z, n, b)) : ∃ i, Try.prog.info? t = Option.some i ∧ i.zero = z ∧ i.size = n ∧ i.bytes = b := by
  cases hq : Try.prog.info? t with
  | none => simp [hq] at h
  | some i =>
    simp [hq] at h
    exact ⟨i, rfl, h.1, h.2.1, h.2.2⟩

/-- One element more: behind it the row is the call's own still. -/
theorem append_one (e t : TypeId) (z : Value) (bytes : Nat) (hu : Try.prog.underlying t = Option.some (.slice e)) (hinfo : (Try.prog.info? e).map (fun i => (i.zero, i.size, i.bytes)) = Option.some (Option.some z, 1, bytes)) (hzc : z.cells.size = 1) (hby : bytes ≤ 16)
    (base : Nat) (ao : Option Addr) (cap : Nat) (vs : List Value) (w : World) (h : VBuf e base ao cap vs w) (v : Value) (hv1 : v.oneCell' = true) (r : Nat) (hc : w.cell? ⟨r, 0, none⟩ = Option.some v) (ty : TypeId) (hl : vs.length ≤ 100000) (hbase : base ≤ w.heap.size) :
    ∃ ao' cap' w', (Builtin.append_ #[t, t] ty #[.slice ao vs.length cap, .slice (Option.some ⟨r, 0, none⟩) 1 1]).run Try.prog w = .ok (.slice ao' (vs ++ [v]).length cap') w' ∧ VBuf e base ao' cap' (vs ++ [v]) w' ∧ w.grownBy w' (Value.ownBlock (.slice ao vs.length cap)) := by
  obtain ⟨i, hi, hz0, hz1, hz2⟩ := parts_of hinfo
  have hown : w.ownsRow base e i.size (.slice ao vs.length cap) vs.length vs := by rw [hz1]; exact h
  have hsrc : Src Try.prog i.size t (.slice (Option.some ⟨r, 0, none⟩) 1 1) 1 [v] w := by
    rw [hz1]
    refine Src.ofSlice w hu ⟨r, 0, none⟩ 1 1 _ rfl (fun j u hj => ?_) (fun u hu => ?_)
    · rw [Addr.add_lit]
      match j, hj with
      | 0, hj => simp at hj; subst hj; exact hc
      | j + 1, hj => simp at hj
    · simp at hu
      subst hu
      exact hv1
  obtain ⟨v', w', hr, ho, hg⟩ := append_own_src (P := Try.prog) w base t t ty e i z hu hi hz0 (by rw [hz1]; exact hzc) _ _ _ hown _ 1 _ hsrc (by unfold maxLen; omega) (by rw [hz2]; have : (vs.length + 1) * bytes ≤ 100001 * 16 := Nat.mul_le_mul (by omega) hby; omega) hbase
  have hlen : (vs ++ [v]).length = vs.length + 1 := by simp
  rw [hz1] at ho
  rcases ho.2 with ⟨hv, h0⟩ | ⟨g, cap', cur, hv, rest⟩
  · omega
  · subst hv
    exact ⟨_, cap', w', by rw [hlen]; exact hr, by unfold VBuf; rw [hlen]; exact ho, hg⟩
end
theorem Try.info_int : (Try.prog.info? 3).map (fun i => (i.zero, i.size, i.bytes)) = some (some (.int .i64 0), 1, 8) := by kernel_rfl
theorem Try.info_str : (Try.prog.info? 9).map (fun i => (i.zero, i.size, i.bytes)) = some (some (.string ⟨#[]⟩), 1, 16) := by kernel_rfl

/-- Integers as a row's cells. -/
def intsV (l : List Int) : List Value := l.map (Value.int .i64 ·)
theorem IRow.of_buf {base : Nat} {ao : Option Addr} {cap : Nat} {l : List Int} {w : World} (h : VBuf 3 base ao cap (intsV l) w) : IRow w ao l := fun h0 => by
  obtain ⟨g, ha, _, hlt, hc⟩ := h.at (by unfold intsV; rw [List.length_map]; exact h0)
  refine ⟨g, 0, ha, hlt, fun k hk => ?_⟩
  rw [Nat.zero_add]
  refine hc k _ ?_
  unfold intsV
  rw [List.getElem?_map, List.getElem?_eq_getElem hk, List.getD_eq_getElem?_getD, List.getElem?_eq_getElem hk]
  rfl
#print axioms append_one
end Go.Proofs.Ytdipoaekdafbeaa
