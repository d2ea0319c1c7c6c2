/- A slice of pairs of numbers that came in: what a walk is told of it. -/
import Derived.Test.YtcnojafpkkfabaaRows
import Derived.WalkKit
import Derived.ProofKit
import Derived.OpenShut
import Derived.ShutString
import Derived.ChangeOld
import Derived.Below
import Derived.Deep.SlicePairs
namespace Go.Proofs.Ytcnojafpkkfabaa
open Go.ChangeShapes Go.WideShapes Go.ChangeAt Go.RowKit Go.Deep

/-- So many pairs of numbers: none, or in a row of cells that was there. -/
def ActRow (W : World) (a : Option Addr) (len : Nat) (ks ns : Nat → Int) : Prop :=
  len = 0 ∨ ∃ b off, a = some ⟨b, off, none⟩ ∧ b < W.heap.size ∧ len ≤ maxLen ∧ ∀ i, i < len → W.cell? ⟨b, off + i * 2, none⟩ = some (.int .i64 (ks i)) ∧ W.cell? ⟨b, off + i * 2 + 1, none⟩ = some (.int .i64 (ns i))

theorem acts_of {H : Type} {enc : TypeId × Value → H} {W : World} {base : Nat} {spare : Nat → Bool} {held : Bool} {a : Option Addr} {len cap : Nat} {d : DataW H} {p : List MemPlace}
    (h : DataW.Trod enc Try.prog W base spare held 22 (.slice a len cap) d p) : ∃ ks ns, ActRow W a len ks ns := by
  obtain ⟨fuel, hf⟩ := h
  rcases open_slice_pairs Try.underlying22 Try.underlying27 (by kernel_rfl) rfl rfl (by kernel_rfl) (by kernel_rfl) hf with ⟨hcs, _⟩ | ⟨x, l, c, m, n, V0, V1, D0, D1, P0, P1, hcs, _, hl, hm, hmm, _, hi⟩
  · simp [Value.cells] at hcs
    obtain ⟨rfl, rfl, rfl⟩ := hcs
    exact ⟨fun _ => 0, fun _ => 0, .inl rfl⟩
  · simp [Value.cells] at hcs
    obtain ⟨rfl, rfl, rfl⟩ := hcs
    have hlm : len ≤ m := by rw [hmm]; split <;> omega
    have hv : ∀ i, i < len → ∃ k n : Int, V0 i = .int .i64 k ∧ V1 i = .int .i64 n := by
      intro i h
      obtain ⟨_, _, h1, h2⟩ := hi i (by omega)
      obtain ⟨k, e1, _⟩ := DataW.trod_int Try.underlying3 h1
      obtain ⟨n, e2, _⟩ := DataW.trod_int Try.underlying3 h2
      simp at e1 e2
      exact ⟨k, n, e1, e2⟩
    by_cases h0 : len = 0
    · exact ⟨fun _ => 0, fun _ => 0, .inl h0⟩
    · obtain ⟨b, off, spot⟩ := x
      have hc := (hi 0 (by omega)).1
      have hspot : spot = none := by simpa [Addr.add] using World.cell?_spot hc
      subst hspot
      refine ⟨fun i => intOf (V0 i), fun i => intOf (V1 i), .inr ⟨b, off, rfl, World.block_lt_of_cell? _ _ hc, by omega, fun i h => ?_⟩⟩
      obtain ⟨h1, h2, _, _⟩ := hi i (by omega)
      obtain ⟨k, n, e1, e2⟩ := hv i h
      rw [Addr.add_lit] at h1 h2
      rw [e1] at h1
      rw [e2] at h2
      show W.cell? _ = some (.int .i64 (intOf (V0 i))) ∧ W.cell? _ = some (.int .i64 (intOf (V1 i)))
      rw [e1, e2]
      exact ⟨h1, by rw [Nat.add_assoc]; exact h2⟩

#print axioms acts_of
end Go.Proofs.Ytcnojafpkkfabaa
