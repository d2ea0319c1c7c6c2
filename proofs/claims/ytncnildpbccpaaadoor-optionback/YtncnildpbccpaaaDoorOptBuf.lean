/- Options that a call has put together, one by one, in a row of its own. -/
import Derived.Test.YtncnildpbccpaaaDoorBuf
import Derived.Test.YtncnildpbccpaaaDoorOptList
namespace Go.Proofs.YtncnildpbccpaaaDoor
set_option maxRecDepth 100000
open Go.RowKit

/-- Options, as a row's cells. -/
def optsV : List Opt → List Value
  | [] => []
  | o :: r => .int .i64 o.kind :: .string o.data :: optsV r

theorem optsV_append (l m : List Opt) : optsV (l ++ m) = optsV l ++ optsV m := by
  induction l with
  | nil => rfl
  | cons o r ih => simp [optsV, ih]

theorem optsV_get (l : List Opt) (i : Nat) (h : i < l.length) : (optsV l)[i * 2]? = some (.int .i64 (l.getD i noOpt).kind) ∧ (optsV l)[i * 2 + 1]? = some (.string (l.getD i noOpt).data) := by
  induction l generalizing i with
  | nil => simp at h
  | cons o r ih =>
    cases i with
    | zero => simp [optsV]
    | succ j =>
      have := ih j (by simpa using h)
      rw [show (j + 1) * 2 = j * 2 + 1 + 1 by omega]
      simpa [optsV] using this

/-- A row of options that the call owns, from block 'base' on. -/
def OptBuf (base : Nat) (ao : Option Addr) (cap : Nat) (l : List Opt) (w : World) : Prop := w.ownsRow base 48 2 (.slice ao l.length cap) l.length (optsV l)

theorem OptBuf.row {base : Nat} {ao : Option Addr} {cap : Nat} {l : List Opt} {w : World} (h : OptBuf base ao cap l w) : OptRow w ao l := by
  rcases h.2 with ⟨hv, h0⟩ | ⟨g, cap', cur, hv, hbg, hg, _⟩
  · exact .inl (List.length_eq_zero_iff.1 h0)
  · have hao : ao = some ⟨g, 0, none⟩ := by simpa using congrArg (fun v => match v with | .slice a _ _ => a | _ => none) hv
    subst hao
    refine .inr ⟨g, 0, rfl, lt_of_block hg, fun i hi => ?_⟩
    obtain ⟨h1, h2⟩ := optsV_get l i hi
    have c1 := World.ownsRow.cells h (g := g) rfl (i * 2) _ h1
    have c2 := World.ownsRow.cells h (g := g) rfl (i * 2 + 1) _ h2
    rw [Addr.add_lit] at c1 c2
    exact ⟨c1, c2⟩

theorem OptBuf.nil (base : Nat) (w : World) : OptBuf base none 0 [] w := World.ownsRow_nil _ _ _ _

theorem OptBuf.alloc {base : Nat} {ao : Option Addr} {cap : Nat} {l : List Opt} {w : World} (h : OptBuf base ao cap l w) (o : Obj) : OptBuf base ao cap l (w.alloc o) := World.ownsRow.alloc h o

theorem OptBuf.carry {base : Nat} {ao : Option Addr} {cap : Nat} {l : List Opt} {w w' : World} (h : OptBuf base ao cap l w) (hb : Below w.heap.size w w') : OptBuf base ao cap l w' := by
  have hg : w.grownBy w' none := ⟨hb.os, hb.tape, hb.output, hb.size, fun k hk _ => hb.block k hk⟩
  exact World.ownsRow.kept h hg (by cases Value.ownBlock (.slice ao l.length cap) <;> simp)

theorem Tryd.infoOpt : (Tryd.prog.info? 48).map (fun i => (i.zero, i.size, i.bytes)) = some (some (.agg #[.int .i64 0, .string ⟨#[]⟩]), 2, 24) := by kernel_rfl

/-- One option more: behind it the row is the call's own still. -/
theorem append_opt (base : Nat) (ao : Option Addr) (cap : Nat) (l : List Opt) (w : World) (h : OptBuf base ao cap l w) (k : Int) (d : ByteArray) (r : Nat) (hc0 : w.cell? ⟨r, 0, none⟩ = some (.int .i64 k)) (hc1 : w.cell? ⟨r, 1, none⟩ = some (.string d)) (ty : TypeId) (hl : l.length ≤ 100000) (hbase : base ≤ w.heap.size) :
    ∃ ao' cap' w', (Builtin.append_ #[23, 23] ty #[.slice ao l.length cap, .slice (some ⟨r, 0, none⟩) 1 1]).run Tryd.prog w = .ok (.slice ao' (l ++ [(⟨k, d⟩ : Opt)]).length cap') w' ∧ OptBuf base ao' cap' (l ++ [(⟨k, d⟩ : Opt)]) w' ∧ w.grownBy w' (Value.ownBlock (.slice ao l.length cap)) := by
  obtain ⟨i, hi, hz0, hz1, hz2⟩ := info_parts Tryd.infoOpt
  have hown : w.ownsRow base 48 i.size (.slice ao l.length cap) l.length (optsV l) := by rw [hz1]; exact h
  have hsrc : Src Tryd.prog i.size 23 (.slice (some ⟨r, 0, none⟩) 1 1) 1 (optsV [⟨k, d⟩]) w := by
    rw [hz1]
    refine Src.ofSlice w Tryd.underlying23 ⟨r, 0, none⟩ 1 1 _ rfl (fun j u hj => ?_) (fun u hu => ?_)
    · rw [Addr.add_lit]
      match j, hj with
      | 0, hj => simp [optsV] at hj; subst hj; exact hc0
      | 1, hj => simp [optsV] at hj; subst hj; exact hc1
      | j + 2, hj => simp [optsV] at hj
    · simp [optsV] at hu
      rcases hu with rfl | rfl <;> rfl
  obtain ⟨v', w', hr, ho, hg⟩ := append_own_src (P := Tryd.prog) w base 23 23 ty 48 i (.agg #[.int .i64 0, .string ⟨#[]⟩]) Tryd.underlying23 hi hz0 (by rw [hz1]; rfl) _ _ _ hown _ 1 _ hsrc (by unfold maxLen; omega) (by rw [hz2]; omega) hbase
  have hlen : (l ++ [⟨k, d⟩] : List Opt).length = l.length + 1 := by simp
  rw [hz1, ← optsV_append] at ho
  rcases ho.2 with ⟨hv, h0⟩ | ⟨g, cap', cur, hv, rest⟩
  · omega
  · subst hv
    exact ⟨_, cap', w', by rw [hlen]; exact hr, by unfold OptBuf; rw [hlen]; exact ho, hg⟩

#print axioms append_opt
end Go.Proofs.YtncnildpbccpaaaDoor
