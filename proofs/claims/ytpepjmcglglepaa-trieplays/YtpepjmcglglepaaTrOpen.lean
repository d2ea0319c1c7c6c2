/- A prefix, a slice of routes, that came in. -/
import Derived.Test.YtpepjmcglglepaaTrMem
import Derived.ProofKit
import Derived.OpenShut
import Derived.Deep.Slices
namespace Go.Proofs.Ytpepjmcglglepaa
open Go.RowKit Go.ChangeShapes Go.WideShapes Go.ChangeAt Go.Deep
set_option linter.unusedVariables false
set_option maxRecDepth 100000
open R

/-- Routes in a row, to be read. -/
def RtRow (w : World) (ao : Option Addr) (l : List Rt) : Prop := 0 < l.length → ∃ b off, ao = some ⟨b, off, none⟩ ∧ b < w.heap.size ∧ ∀ k, k < l.length → ∀ j v, (l.getD k zR).v[j]? = some v → w.cell? ⟨b, off + k * 3 + j, none⟩ = some v
theorem RtRow.below {w w' : World} {ao : Option Addr} {l : List Rt} (h : RtRow w ao l) (hb : Below w.heap.size w w') : RtRow w' ao l := fun h0 => by
  obtain ⟨b, off, h1, h2, h3⟩ := h h0
  exact ⟨b, off, h1, Nat.lt_of_lt_of_le h2 hb.size, fun k hk j v hv => (hb.cell (p := ⟨b, off + k * 3 + j, none⟩) h2).trans (h3 k hk j v hv)⟩
theorem Try.lU32 : Try.prog.cellsOf 27 = 1 := by kernel_rfl
theorem Try.lInt : Try.prog.cellsOf 3 = 1 := by kernel_rfl
theorem Try.lPre : Try.prog.cellsOf 29 = 2 := by kernel_rfl
theorem Try.lRt : Try.prog.cellsOf 31 = 3 := by kernel_rfl
theorem one_cell {l : List Value} {k : Nat} {v : Value} (h : (l.drop k).take 1 = [v]) : l[k]? = some v := by
  have := congrArg (fun l => l[0]?) h
  simpa [List.getElem?_take, List.getElem?_drop] using this
def I64 (b : Int) : Prop := -9223372036854775808 ≤ b ∧ b ≤ 9223372036854775807
theorem pre_cells {H : Type} {enc : TypeId × Value → H} {W : World} {base : Nat} {spare : Nat → Bool} {held : Bool} {fuel : Nat} {cs : List Value} {x : DataW H × List MemPlace}
    (hz : cs.length = 2) (hf0 : DataW.trod enc Try.prog W base spare held fuel 29 cs = some x) : ∃ (a : Nat) (b : Int), cs = [.int .u32 a, .int .i64 b] ∧ a < 4294967296 ∧ I64 b := by
  obtain ⟨xs, n', _, _, hlen, hxl, hf⟩ := DataW.trod_struct Try.underlying29 hf0
  match xs, hxl with
  | [x0, x1], _ =>
    have h0 : DataW.trod enc Try.prog W base spare held n' 27 ((cs.drop 0).take (Try.prog.cellsOf 27)) = some x0 := hf 0 _ rfl
    have h1 : DataW.trod enc Try.prog W base spare held n' 3 ((cs.drop 1).take (Try.prog.cellsOf 3)) = some x1 := hf 1 _ rfl
    rw [Try.lU32] at h0
    rw [Try.lInt] at h1
    obtain ⟨a, e0, _, wa⟩ := DataW.trod_int Try.underlying27 h0
    obtain ⟨b, e1, _, wb⟩ := DataW.trod_int Try.underlying3 h1
    have ha := bounds_u32 wa
    have hb := bounds_i64 wb
    match cs, hz with
    | [c0, c1], _ =>
      have q0 := one_cell e0
      have q1 := one_cell e1
      simp at q0 q1
      subst q0 q1
      exact ⟨a.toNat, b, by rw [show ((a.toNat : Nat) : Int) = a by omega], by omega, hb⟩
theorem rt_cells {H : Type} {enc : TypeId × Value → H} {W : World} {base : Nat} {spare : Nat → Bool} {held : Bool} {fuel : Nat} {cs : List Value} {x : DataW H × List MemPlace}
    (hz : cs.length = 3) (hf0 : DataW.trod enc Try.prog W base spare held fuel 31 cs = some x) : ∃ r : Rt, cs = r.v ∧ r.a < 4294967296 ∧ I64 r.b ∧ I64 r.o := by
  obtain ⟨xs, n', _, _, hlen, hxl, hf⟩ := DataW.trod_struct Try.underlying31 hf0
  match xs, hxl with
  | [x0, x1], _ =>
    have h0 : DataW.trod enc Try.prog W base spare held n' 29 ((cs.drop 0).take (Try.prog.cellsOf 29)) = some x0 := hf 0 _ rfl
    have h1 : DataW.trod enc Try.prog W base spare held n' 3 ((cs.drop 2).take (Try.prog.cellsOf 3)) = some x1 := hf 1 _ rfl
    rw [Try.lPre] at h0
    rw [Try.lInt] at h1
    obtain ⟨o, e1, _, wo⟩ := DataW.trod_int Try.underlying3 h1
    match cs, hz with
    | [c0, c1, c2], _ =>
      obtain ⟨a, b, e, ha, hb⟩ := pre_cells (cs := [c0, c1]) rfl h0
      have q1 := one_cell e1
      simp at q1 e
      obtain ⟨rfl, rfl⟩ := e
      subst q1
      exact ⟨⟨a, b, o⟩, rfl, ha, hb, bounds_i64 wo⟩
theorem routes_of {H : Type} {enc : TypeId × Value → H} {W : World} {base b0 : Nat} {spare : Nat → Bool} {held : Bool} {r : Reach} {v : Value} {d : DataW H} {p : List MemPlace}
    (hv : Value.okWide Try.prog W r b0 26 v) (h : DataW.Trod enc Try.prog W base spare held 26 v d p) : ∃ (a : Option Addr) (cap : Nat) (l : List Rt), v = .slice a l.length cap ∧ RtRow W a l ∧ ∀ r ∈ l, r.a < 4294967296 ∧ I64 r.b ∧ I64 r.o := by
  obtain ⟨fuel, hf⟩ := h
  obtain ⟨a, len, cap, rfl⟩ := okWide_slice Try.underlying26 hv
  rcases open_slice Try.underlying26 hf with ⟨hcs, _⟩ | ⟨ad, len', cap', m, n1, D, Pl, hcs, _, hl, hm, hmm, _, hi⟩
  · simp [Value.cells] at hcs
    obtain ⟨rfl, rfl, rfl⟩ := hcs
    exact ⟨none, 0, [], rfl, fun h => by simp at h, fun p hp => by simp at hp⟩
  · simp [Value.cells] at hcs
    obtain ⟨rfl, rfl, rfl⟩ := hcs
    rw [Try.lRt] at hi
    have hlm : len ≤ m := by rw [hmm]; split <;> omega
    haveI : Inhabited Rt := ⟨zR⟩
    obtain ⟨f, hf⟩ := choose_lt (α := Rt) (n := len) (p := fun i r => (∀ j, j < 3 → W.cell? ((ad.add (i * 3)).add j) = r.v[j]?) ∧ r.a < 4294967296 ∧ I64 r.b ∧ I64 r.o) (fun i h => by
      obtain ⟨cs, hc, ht⟩ := hi i (by omega)
      obtain ⟨_, hlen, hat⟩ := World.cells?_some hc
      obtain ⟨r, e, h1⟩ := rt_cells (cs := cs) hlen ht
      refine ⟨r, fun j hj => ?_, h1⟩
      rw [hat j hj, e])
    have hp : ∀ i, i < len → ((List.range len).map f).getD i zR = f i := fun i h => by
      rw [List.getD_eq_getElem?_getD, List.getElem?_map, List.getElem?_range h]; rfl
    refine ⟨some ad, cap, (List.range len).map f, by simp, fun h0 => ?_, fun p hp => ?_⟩
    · have h0' : 0 < len := by simpa using h0
      obtain ⟨b, off, spot⟩ := ad
      have hc := (hf 0 h0').1 0 (by omega)
      have hc' : (f 0).v[0]? = some (.int .u32 (f 0).a) := rfl
      rw [hc'] at hc
      have hspot : spot = none := by simpa [Addr.add] using World.cell?_spot hc
      subst hspot
      have hval : ∀ (i q : Nat), ((⟨b, off, none⟩ : Addr).add (i * 3)).add q = ⟨b, off + i * 3 + q, none⟩ := fun i q => by rw [Addr.add_lit, Addr.add_lit]
      rw [hval] at hc
      refine ⟨b, off, rfl, World.block_lt_of_cell? _ _ hc, fun k hk j v hv => ?_⟩
      have hk' : k < len := by simpa using hk
      rw [hp k hk'] at hv
      have hj : j < 3 := (List.getElem?_eq_some_iff.1 hv).1
      have := (hf k hk').1 j hj
      rw [hval] at this
      rw [this, hv]
    · obtain ⟨i, hi, rfl⟩ := List.mem_map.1 hp
      exact (hf i (List.mem_range.1 hi)).2
theorem pre_of {H : Type} {enc : TypeId × Value → H} {W : World} {base b0 : Nat} {spare : Nat → Bool} {held : Bool} {r : Reach} {v : Value} {d : DataW H} {p : List MemPlace}
    (hv : Value.okWide Try.prog W r b0 29 v) (h : DataW.Trod enc Try.prog W base spare held 29 v d p) : ∃ (a : Nat) (b : Int), v = .agg #[.int .u32 a, .int .i64 b] ∧ a < 4294967296 ∧ I64 b := by
  obtain ⟨cs, rfl, hsz⟩ := okWide_struct Try.underlying29 hv
  obtain ⟨fuel, hf0⟩ := h
  obtain ⟨a, b, e, h1, h2⟩ := pre_cells (cs := cs.toList) (by rw [Array.length_toList, hsz]; exact Try.lPre) hf0
  exact ⟨a, b, by congr 1; exact Array.toList_inj.1 e, h1, h2⟩
#print axioms routes_of
#print axioms pre_of
end Go.Proofs.Ytpepjmcglglepaa
