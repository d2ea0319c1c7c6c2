/- A slice of options: what a walk is told of it, and how one that came in is opened. -/
import Derived.Test.YtncnildpbccpaaaDoorRows
import Derived.Test.YtncnildpbccpaaaDoorOptMath
import Derived.WalkKit
import Derived.ProofKit
import Derived.OpenShut
import Derived.ShutString
import Derived.ChangeOld
import Derived.Below
import Derived.Deep.Slices
namespace Go.Proofs.YtncnildpbccpaaaDoor
set_option maxRecDepth 100000
open Go.ChangeShapes Go.WideShapes Go.ChangeAt Go.RowKit Go.Deep

def noOpt : Opt := ⟨0, ByteArray.empty⟩

/-- Options in a row of cells that is there (none: anywhere). -/
def OptRow (W : World) (a : Option Addr) (l : List Opt) : Prop :=
  l = [] ∨ ∃ b off, a = some ⟨b, off, none⟩ ∧ b < W.heap.size ∧ ∀ i, i < l.length →
    W.cell? ⟨b, off + i * 2, none⟩ = some (.int .i64 (l.getD i noOpt).kind) ∧ W.cell? ⟨b, off + i * 2 + 1, none⟩ = some (.string (l.getD i noOpt).data)

theorem OptRow.carry {W W' : World} {a : Option Addr} {l : List Opt} (h : OptRow W a l) (hb : Below W.heap.size W W') : OptRow W' a l := by
  rcases h with h | ⟨b, off, ha, hlt, hc⟩
  · exact .inl h
  · refine .inr ⟨b, off, ha, Nat.lt_of_lt_of_le hlt hb.size, fun i hi => ?_⟩
    rw [hb.cell (p := ⟨b, off + i * 2, none⟩) hlt, hb.cell (p := ⟨b, off + i * 2 + 1, none⟩) hlt]
    exact hc i hi

/-- What is told of a row that isn't empty. -/
theorem OptRow.at {W : World} {a : Option Addr} {l : List Opt} (h : OptRow W a l) (h0 : 0 < l.length) : ∃ b off, a = some ⟨b, off, none⟩ ∧ b < W.heap.size ∧ ∀ i, i < l.length →
    W.cell? ⟨b, off + i * 2, none⟩ = some (.int .i64 (l.getD i noOpt).kind) ∧ W.cell? ⟨b, off + i * 2 + 1, none⟩ = some (.string (l.getD i noOpt).data) := by
  rcases h with h | h
  · subst h; simp at h0
  · exact h

theorem Tryd.cellsOpt : Tryd.prog.cellsOf 48 = 2 := by kernel_rfl
theorem Tryd.cellsI : Tryd.prog.cellsOf 3 = 1 := by kernel_rfl
theorem Tryd.cellsS : Tryd.prog.cellsOf 9 = 1 := by kernel_rfl

/-- One option, read: its two cells. -/
theorem opt_cells {H : Type} {enc : TypeId × Value → H} {W : World} {base : Nat} {spare : Nat → Bool} {held : Bool} {n : Nat} {cs : List Value} {x : DataW H × List MemPlace}
    (h : DataW.trod enc Tryd.prog W base spare held n 48 cs = some x) : ∃ (k : Int) (s : ByteArray), cs = [.int .i64 k, .string s] ∧ s.size ≤ maxLen := by
  obtain ⟨xs, n', _, _, hlen, hxl, hf⟩ := DataW.trod_struct Tryd.underlying48 h
  rw [Tryd.cellsOpt] at hlen
  match cs, hlen with
  | [c0, c1], _ =>
    match xs, hxl with
    | [x0, x1], _ =>
      have h0 : DataW.trod enc Tryd.prog W base spare held n' 3 (([c0, c1].drop 0).take (Tryd.prog.cellsOf 3)) = some x0 := hf 0 _ rfl
      have h1 : DataW.trod enc Tryd.prog W base spare held n' 9 (([c0, c1].drop 1).take (Tryd.prog.cellsOf 9)) = some x1 := hf 1 _ rfl
      rw [Tryd.cellsI] at h0
      rw [Tryd.cellsS] at h1
      obtain ⟨k, e0, _⟩ := DataW.trod_int Tryd.underlying3 h0
      obtain ⟨s, e1, _, hs⟩ := DataW.trod_string Tryd.underlying9 h1
      have e0' : c0 = .int .i64 k := by simpa using e0
      have e1' : c1 = .string s := by simpa using e1
      exact ⟨k, s, by rw [e0', e1'], hs⟩

/-- What cells hold, as an option. -/
def optAt (W : World) (b off i : Nat) : Opt :=
  ⟨(match W.cell? ⟨b, off + i * 2, none⟩ with | some (.int _ k) => k | _ => 0), (match W.cell? ⟨b, off + i * 2 + 1, none⟩ with | some (.string s) => s | _ => ByteArray.empty)⟩

/-- A slice of options that came in. -/
theorem opts_of {H : Type} {enc : TypeId × Value → H} {W : World} {base : Nat} {spare : Nat → Bool} {held : Bool} {a : Option Addr} {len cap : Nat} {d : DataW H} {p : List MemPlace}
    (h : DataW.Trod enc Tryd.prog W base spare held 23 (.slice a len cap) d p) : ∃ l : List Opt, len = l.length ∧ l.length ≤ maxLen ∧ (∀ o ∈ l, o.data.size ≤ maxLen) ∧ OptRow W a l := by
  obtain ⟨fuel, hf⟩ := h
  rcases open_slice Tryd.underlying23 hf with ⟨hcs, _⟩ | ⟨x, l, c, m, n, D, Pl, hcs, _, hl, hm, hmm, _, hi⟩
  · simp [Value.cells] at hcs
    obtain ⟨rfl, rfl, rfl⟩ := hcs
    exact ⟨[], rfl, by simp, by simp, .inl rfl⟩
  · simp [Value.cells] at hcs
    obtain ⟨rfl, rfl, rfl⟩ := hcs
    rw [Tryd.cellsOpt] at hi
    have hlm : len ≤ m := by rw [hmm]; split <;> omega
    have hv : ∀ i, i < len → ∃ (k : Int) (s : ByteArray), s.size ≤ maxLen ∧ W.cell? ((x.add (i * 2)).add 0) = some (.int .i64 k) ∧ W.cell? ((x.add (i * 2)).add 1) = some (.string s) := by
      intro i h
      obtain ⟨cs, hc, ht⟩ := hi i (by omega)
      obtain ⟨k, s, rfl, hs⟩ := opt_cells ht
      obtain ⟨_, _, hat⟩ := World.cells?_some hc
      exact ⟨k, s, hs, hat 0 (by omega), hat 1 (by omega)⟩
    by_cases h0 : len = 0
    · exact ⟨[], by simp [h0], by simp, by simp, .inl rfl⟩
    · obtain ⟨b, off, spot⟩ := x
      obtain ⟨_, _, _, hc, _⟩ := hv 0 (by omega)
      have hspot : spot = none := by simpa [Addr.add] using World.cell?_spot hc
      subst hspot
      have hval : ∀ (i q : Nat), ((⟨b, off, none⟩ : Addr).add (i * 2)).add q = ⟨b, off + i * 2 + q, none⟩ := fun i q => by rw [Addr.add_lit, Addr.add_lit]
      simp only [hval, Nat.add_zero] at hv
      rw [hval] at hc
      have hg : ∀ i, i < len → ((List.range len).map (optAt W b off)).getD i noOpt = optAt W b off i := fun i h => by
        rw [List.getD_eq_getElem?_getD, List.getElem?_map, List.getElem?_range h]; rfl
      refine ⟨(List.range len).map (optAt W b off), by simp, by simp; omega, ?_, .inr ⟨b, off, rfl, World.block_lt_of_cell? _ _ hc, fun i h => ?_⟩⟩
      · intro o ho
        obtain ⟨i, hi, rfl⟩ := List.mem_map.1 ho
        obtain ⟨k, s, hs, h1, h2⟩ := hv i (List.mem_range.1 hi)
        simp only [optAt, h2]
        exact hs
      · have h' : i < len := by simpa using h
        obtain ⟨k, s, hs, h1, h2⟩ := hv i h'
        rw [hg i h']
        simp only [optAt, h1, h2]
        exact ⟨trivial, trivial⟩

#print axioms opts_of
end Go.Proofs.YtncnildpbccpaaaDoor
