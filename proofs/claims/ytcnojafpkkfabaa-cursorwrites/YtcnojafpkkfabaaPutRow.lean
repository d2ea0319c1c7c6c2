/- A slice of structs (number, number, text) that came in: what a walk is told of it. -/
import Derived.Test.YtcnojafpkkfabaaRows
import Derived.WalkKit
import Derived.ProofKit
import Derived.OpenShut
import Derived.ShutString
import Derived.ChangeOld
import Derived.Below
import Derived.Deep.Slices
namespace Go.Proofs.Ytcnojafpkkfabaa
open Go.ChangeShapes Go.WideShapes Go.ChangeAt Go.RowKit Go.Deep

/-- So many puts: none, or in a row of cells that was there. -/
def PutRow (W : World) (a : Option Addr) (len : Nat) (ks ns : Nat → Int) (ss : Nat → ByteArray) : Prop :=
  len = 0 ∨ ∃ b off, a = some ⟨b, off, none⟩ ∧ b < W.heap.size ∧ len ≤ maxLen ∧ ∀ i, i < len →
    W.cell? ⟨b, off + i * 3, none⟩ = some (.int .i64 (ks i)) ∧ W.cell? ⟨b, off + i * 3 + 1, none⟩ = some (.int .i64 (ns i)) ∧ W.cell? ⟨b, off + i * 3 + 2, none⟩ = some (.string (ss i)) ∧ (ss i).size ≤ maxLen

theorem Try.cellsPut : Try.prog.cellsOf 43 = 3 := by kernel_rfl
theorem Try.cellsInt : Try.prog.cellsOf 3 = 1 := by kernel_rfl
theorem Try.cellsStr : Try.prog.cellsOf 9 = 1 := by kernel_rfl

/-- The text in a value. -/
def strOf : Value → ByteArray | .string s => s | _ => ByteArray.empty

/-- One put, read: its three cells. -/
theorem put_cells {H : Type} {enc : TypeId × Value → H} {W : World} {base : Nat} {spare : Nat → Bool} {held : Bool} {n : Nat} {cs : List Value} {x : DataW H × List MemPlace}
    (h : DataW.trod enc Try.prog W base spare held n 43 cs = some x) : ∃ (k m : Int) (s : ByteArray), cs = [.int .i64 k, .int .i64 m, .string s] ∧ s.size ≤ maxLen := by
  obtain ⟨xs, n', _, _, hlen, hxl, hf⟩ := DataW.trod_struct Try.underlying43 h
  rw [Try.cellsPut] at hlen
  match cs, hlen with
  | [c0, c1, c2], _ =>
    match xs, hxl with
    | [x0, x1, x2], _ =>
      have h0 : DataW.trod enc Try.prog W base spare held n' 3 (([c0, c1, c2].drop 0).take (Try.prog.cellsOf 3)) = some x0 := hf 0 _ rfl
      have h1 : DataW.trod enc Try.prog W base spare held n' 3 (([c0, c1, c2].drop 1).take (Try.prog.cellsOf 3)) = some x1 := hf 1 _ rfl
      have h2 : DataW.trod enc Try.prog W base spare held n' 9 (([c0, c1, c2].drop 2).take (Try.prog.cellsOf 9)) = some x2 := hf 2 _ rfl
      rw [Try.cellsInt] at h0 h1
      rw [Try.cellsStr] at h2
      obtain ⟨k, e0, _⟩ := DataW.trod_int Try.underlying3 h0
      obtain ⟨m, e1, _⟩ := DataW.trod_int Try.underlying3 h1
      obtain ⟨s, e2, _, hs⟩ := DataW.trod_string Try.underlying9 h2
      have e0' : c0 = .int .i64 k := by simpa using e0
      have e1' : c1 = .int .i64 m := by simpa using e1
      have e2' : c2 = .string s := by simpa using e2
      exact ⟨k, m, s, by rw [e0', e1', e2'], hs⟩

theorem puts_of {H : Type} {enc : TypeId × Value → H} {W : World} {base : Nat} {spare : Nat → Bool} {held : Bool} {a : Option Addr} {len cap : Nat} {d : DataW H} {p : List MemPlace}
    (h : DataW.Trod enc Try.prog W base spare held 35 (.slice a len cap) d p) : ∃ ks ns ss, PutRow W a len ks ns ss := by
  obtain ⟨fuel, hf⟩ := h
  rcases open_slice Try.underlying35 hf with ⟨hcs, _⟩ | ⟨x, l, c, m, n, D, Pl, hcs, _, hl, hm, hmm, _, hi⟩
  · simp [Value.cells] at hcs
    obtain ⟨rfl, rfl, rfl⟩ := hcs
    exact ⟨fun _ => 0, fun _ => 0, fun _ => ByteArray.empty, .inl rfl⟩
  · simp [Value.cells] at hcs
    obtain ⟨rfl, rfl, rfl⟩ := hcs
    rw [Try.cellsPut] at hi
    have hlm : len ≤ m := by rw [hmm]; split <;> omega
    have hv : ∀ i, i < len → ∃ (k n : Int) (s : ByteArray), s.size ≤ maxLen ∧ W.cell? ((x.add (i * 3)).add 0) = some (.int .i64 k) ∧ W.cell? ((x.add (i * 3)).add 1) = some (.int .i64 n) ∧ W.cell? ((x.add (i * 3)).add 2) = some (.string s) := by
      intro i h
      obtain ⟨cs, hc, ht⟩ := hi i (by omega)
      obtain ⟨k, n, s, rfl, hs⟩ := put_cells ht
      obtain ⟨_, _, hat⟩ := World.cells?_some hc
      exact ⟨k, n, s, hs, hat 0 (by omega), hat 1 (by omega), hat 2 (by omega)⟩
    by_cases h0 : len = 0
    · exact ⟨fun _ => 0, fun _ => 0, fun _ => ByteArray.empty, .inl h0⟩
    · obtain ⟨b, off, spot⟩ := x
      obtain ⟨_, _, _, _, hc, _⟩ := hv 0 (by omega)
      have hspot : spot = none := by simpa [Addr.add] using World.cell?_spot hc
      subst hspot
      have hval : ∀ (i q : Nat), ((⟨b, off, none⟩ : Addr).add (i * 3)).add q = ⟨b, off + i * 3 + q, none⟩ := fun i q => by rw [Addr.add_lit, Addr.add_lit]
      simp only [hval] at hv
      refine ⟨fun i => intOf ((W.cell? ⟨b, off + i * 3 + 0, none⟩).getD (.int .i64 0)), fun i => intOf ((W.cell? ⟨b, off + i * 3 + 1, none⟩).getD (.int .i64 0)), fun i => strOf ((W.cell? ⟨b, off + i * 3 + 2, none⟩).getD (.string ByteArray.empty)), .inr ⟨b, off, rfl, ?_, by omega, fun i h => ?_⟩⟩
      · rw [hval] at hc
        exact World.block_lt_of_cell? _ _ hc
      · obtain ⟨k, n, s, hs, h1, h2, h3⟩ := hv i h
        dsimp only
        refine ⟨?_, ?_, ?_, ?_⟩
        · rw [h1]; exact h1
        · rw [h2]; rfl
        · rw [h3]; rfl
        · rw [h3]; exact hs

#print axioms puts_of
end Go.Proofs.Ytcnojafpkkfabaa
