/- A slice of acts on a trie, that came in. -/
import Derived.Test.YtpepjmcglglepaaTrOpen
namespace Go.Proofs.Ytpepjmcglglepaa
open Go.RowKit Go.ChangeShapes Go.WideShapes Go.ChangeAt Go.Deep
set_option linter.unusedVariables false
set_option maxRecDepth 100000
open R

namespace R
/-- Something that is done to a trie. -/
structure At where
  kind : Int
  r : Rt
  ad : Nat
def zAt : At := ⟨0, zR, 0⟩
def At.v (x : At) : List Value := [.int .i64 x.kind, .int .u32 x.r.a, .int .i64 x.r.b, .int .i64 x.r.o, .int .u32 x.ad]
def At.ok (x : At) : Prop := I64 x.kind ∧ x.r.a < 4294967296 ∧ I64 x.r.b ∧ I64 x.r.o ∧ x.ad < 4294967296
end R
/-- Acts in a row, to be read. -/
def AtRow (w : World) (ao : Option Addr) (l : List At) : Prop := 0 < l.length → ∃ b off, ao = some ⟨b, off, none⟩ ∧ b < w.heap.size ∧ ∀ k, k < l.length → ∀ j v, (l.getD k zAt).v[j]? = some v → w.cell? ⟨b, off + k * 5 + j, none⟩ = some v
theorem AtRow.below {w w' : World} {ao : Option Addr} {l : List At} (h : AtRow w ao l) (hb : Below w.heap.size w w') : AtRow w' ao l := fun h0 => by
  obtain ⟨b, off, h1, h2, h3⟩ := h h0
  exact ⟨b, off, h1, Nat.lt_of_lt_of_le h2 hb.size, fun k hk j v hv => (hb.cell (p := ⟨b, off + k * 5 + j, none⟩) h2).trans (h3 k hk j v hv)⟩
theorem Try.lAct : Try.prog.cellsOf 33 = 5 := by kernel_rfl
theorem act_cells {H : Type} {enc : TypeId × Value → H} {W : World} {base : Nat} {spare : Nat → Bool} {held : Bool} {fuel : Nat} {cs : List Value} {x : DataW H × List MemPlace}
    (hz : cs.length = 5) (hf0 : DataW.trod enc Try.prog W base spare held fuel 33 cs = some x) : ∃ r : At, cs = r.v ∧ At.ok r := by
  obtain ⟨xs, n', _, _, hlen, hxl, hf⟩ := DataW.trod_struct Try.underlying33 hf0
  match xs, hxl with
  | [x0, x1, x2], _ =>
    have h0 : DataW.trod enc Try.prog W base spare held n' 3 ((cs.drop 0).take (Try.prog.cellsOf 3)) = some x0 := hf 0 _ rfl
    have h1 : DataW.trod enc Try.prog W base spare held n' 31 ((cs.drop 1).take (Try.prog.cellsOf 31)) = some x1 := hf 1 _ rfl
    have h2 : DataW.trod enc Try.prog W base spare held n' 27 ((cs.drop 4).take (Try.prog.cellsOf 27)) = some x2 := hf 2 _ rfl
    rw [Try.lRt] at h1
    rw [Try.lInt] at h0
    rw [Try.lU32] at h2
    obtain ⟨k, e0, _, wk⟩ := DataW.trod_int Try.underlying3 h0
    obtain ⟨d, e2, _, wd⟩ := DataW.trod_int Try.underlying27 h2
    have hd := bounds_u32 wd
    match cs, hz with
    | [c0, c1, c2, c3, c4], _ =>
      obtain ⟨r, e, ha, hb, ho⟩ := rt_cells (cs := [c1, c2, c3]) rfl h1
      have q0 := one_cell e0
      have q2 := one_cell e2
      simp at q0 q2
      subst q0 q2
      exact ⟨⟨k, r, d.toNat⟩, by rw [show [Value.int .i64 k, c1, c2, c3, Value.int .u32 d] = Value.int .i64 k :: ([c1, c2, c3] ++ [Value.int .u32 d]) from rfl, e]; show _ = [_, _, _, _, Value.int .u32 ((d.toNat : Nat) : Int)]; rw [show ((d.toNat : Nat) : Int) = d by omega]; rfl, bounds_i64 wk, ha, hb, ho, by show d.toNat < _; omega⟩
theorem acts_of {H : Type} {enc : TypeId × Value → H} {W : World} {base b0 : Nat} {spare : Nat → Bool} {held : Bool} {r : Reach} {v : Value} {d : DataW H} {p : List MemPlace}
    (hv : Value.okWide Try.prog W r b0 22 v) (h : DataW.Trod enc Try.prog W base spare held 22 v d p) : ∃ (a : Option Addr) (cap : Nat) (l : List At), v = .slice a l.length cap ∧ AtRow W a l ∧ ∀ r ∈ l, At.ok r := by
  obtain ⟨fuel, hf⟩ := h
  obtain ⟨a, len, cap, rfl⟩ := okWide_slice Try.underlying22 hv
  rcases open_slice Try.underlying22 hf with ⟨hcs, _⟩ | ⟨ad, len', cap', m, n1, D, Pl, hcs, _, hl, hm, hmm, _, hi⟩
  · simp [Value.cells] at hcs
    obtain ⟨rfl, rfl, rfl⟩ := hcs
    exact ⟨none, 0, [], rfl, fun h => by simp at h, fun p hp => by simp at hp⟩
  · simp [Value.cells] at hcs
    obtain ⟨rfl, rfl, rfl⟩ := hcs
    rw [Try.lAct] at hi
    have hlm : len ≤ m := by rw [hmm]; split <;> omega
    haveI : Inhabited At := ⟨zAt⟩
    obtain ⟨f, hf⟩ := choose_lt (α := At) (n := len) (p := fun i r => (∀ j, j < 5 → W.cell? ((ad.add (i * 5)).add j) = r.v[j]?) ∧ At.ok r) (fun i h => by
      obtain ⟨cs, hc, ht⟩ := hi i (by omega)
      obtain ⟨_, hlen, hat⟩ := World.cells?_some hc
      obtain ⟨r, e, h1⟩ := act_cells (cs := cs) hlen ht
      refine ⟨r, fun j hj => ?_, h1⟩
      rw [hat j hj, e])
    have hp : ∀ i, i < len → ((List.range len).map f).getD i zAt = f i := fun i h => by
      rw [List.getD_eq_getElem?_getD, List.getElem?_map, List.getElem?_range h]; rfl
    refine ⟨some ad, cap, (List.range len).map f, by simp, fun h0 => ?_, fun p hp => ?_⟩
    · have h0' : 0 < len := by simpa using h0
      obtain ⟨b, off, spot⟩ := ad
      have hc := (hf 0 h0').1 0 (by omega)
      have hc' : (f 0).v[0]? = some (.int .i64 (f 0).kind) := rfl
      rw [hc'] at hc
      have hspot : spot = none := by simpa [Addr.add] using World.cell?_spot hc
      subst hspot
      have hval : ∀ (i q : Nat), ((⟨b, off, none⟩ : Addr).add (i * 5)).add q = ⟨b, off + i * 5 + q, none⟩ := fun i q => by rw [Addr.add_lit, Addr.add_lit]
      rw [hval] at hc
      refine ⟨b, off, rfl, World.block_lt_of_cell? _ _ hc, fun k hk j v hv => ?_⟩
      have hk' : k < len := by simpa using hk
      rw [hp k hk'] at hv
      have hj : j < 5 := (List.getElem?_eq_some_iff.1 hv).1
      have := (hf k hk').1 j hj
      rw [hval] at this
      rw [this, hv]
    · obtain ⟨i, hi, rfl⟩ := List.mem_map.1 hp
      exact (hf i (List.mem_range.1 hi)).2
#print axioms acts_of
end Go.Proofs.Ytpepjmcglglepaa
