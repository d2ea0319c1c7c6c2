/- sum.Of at one, two and three texts, each in a row of its own; and what the laws ask first. -/
import Derived.Test.YtohemlejceiojaaSOf
namespace Go.Proofs.Ytohemlejceiojaa
open Go.RowKit

theorem of_one (A : ByteArray) (b : Nat) (w : World) (hb : b < w.heap.size) (h0 : w.cell? ⟨b, 0, none⟩ = some (.string A)) (hs : A.size ≤ 100000) :
    Calls Try.prog 27 #[.slice (some ⟨b, 0, none⟩) 1 1] w fun e w' => e = .returned (.int .i64 (M.ofs [A])) ∧ Below w.heap.size w w' :=
  of_any [A] b 1 w ⟨hb, fun i hi => by
    match i, hi with
    | 0, _ => exact h0⟩ (by simp) (by simp [M.tot]; omega)

theorem of_two (A B : ByteArray) (b : Nat) (w : World) (hb : b < w.heap.size) (h0 : w.cell? ⟨b, 0, none⟩ = some (.string A)) (h1 : w.cell? ⟨b, 1, none⟩ = some (.string B)) (hs : A.size + B.size ≤ 100000) :
    Calls Try.prog 27 #[.slice (some ⟨b, 0, none⟩) 2 2] w fun e w' => e = .returned (.int .i64 (M.ofs [A, B])) ∧ Below w.heap.size w w' :=
  of_any [A, B] b 2 w ⟨hb, fun i hi => by
    match i, hi with
    | 0, _ => exact h0
    | 1, _ => exact h1⟩ (by simp) (by simp [M.tot]; omega)

theorem of_three (A B C : ByteArray) (b : Nat) (w : World) (hb : b < w.heap.size) (h0 : w.cell? ⟨b, 0, none⟩ = some (.string A)) (h1 : w.cell? ⟨b, 1, none⟩ = some (.string B)) (h2 : w.cell? ⟨b, 2, none⟩ = some (.string C)) (hs : A.size + B.size + C.size ≤ 100000) :
    Calls Try.prog 27 #[.slice (some ⟨b, 0, none⟩) 3 3] w fun e w' => e = .returned (.int .i64 (M.ofs [A, B, C])) ∧ Below w.heap.size w w' :=
  of_any [A, B, C] b 3 w ⟨hb, fun i hi => by
    match i, hi with
    | 0, _ => exact h0
    | 1, _ => exact h1
    | 2, _ => exact h2⟩ (by simp) (by simp [M.tot]; omega)

/-- A call that was handed a new block: what was there is as it was. -/
theorem below_new {B : Nat} {w w1 w2 : World} {o : Obj} (h : Below B w w1 ∧ B ≤ w1.heap.size) (hb : Below (w1.alloc o).heap.size (w1.alloc o) w2) : Below B w w2 ∧ B ≤ w2.heap.size := by
  have hz : (w1.alloc o).heap.size = w1.heap.size + 1 := by simp
  have hs := hb.size
  have h2 := h.2
  exact ⟨(h.1.alloc h.2 o).trans (hb.mono (by omega)), by omega⟩

end Go.Proofs.Ytohemlejceiojaa
