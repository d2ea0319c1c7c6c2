/- A segment that came in. -/
import Derived.Test.YtohemlejceiojaaSgMath
import Derived.WalkKit
import Derived.ProofKit
import Derived.OpenShut
import Derived.Deep.Slices
namespace Go.Proofs.Ytohemlejceiojaa
open Go.RowKit Go.ChangeShapes Go.WideShapes Go.ChangeAt Go.Deep
set_option linter.unusedVariables false

theorem Try.cSg : Try.prog.cellsOf 24 = 7 := by kernel_rfl
theorem Try.cI : Try.prog.cellsOf 3 = 1 := by kernel_rfl
theorem Try.cU : Try.prog.cellsOf 22 = 1 := by kernel_rfl
theorem Try.cS : Try.prog.cellsOf 9 = 1 := by kernel_rfl

theorem sg_u32 {n : Int} (h : (Lit.int .u32 n).wf = true) : 0 ≤ n ∧ n < 4294967296 := by
  have := bounds_u32 h
  omega
theorem sg_u8 {n : Int} (h : (Lit.int .u8 n).wf = true) : 0 ≤ n ∧ n < 256 := by
  have := bounds_u8 h
  omega

theorem seg_of {H : Type} {enc : TypeId × Value → H} {W : World} {base b0 : Nat} {spare : Nat → Bool} {held : Bool} {r : Reach} {v : Value} {d : DataW H} {p : List MemPlace}
    (hv : Value.okWide Try.prog W r b0 24 v) (h : DataW.Trod enc Try.prog W base spare held 24 v d p) :
    ∃ (x0 x1 x2 x3 x4 x5 : Int) (x6 : ByteArray), v = sg x0 x1 x2 x3 x4 x5 x6 ∧ x6.size ≤ maxLen ∧ (0 ≤ x2 ∧ x2 < 4294967296) ∧ (0 ≤ x3 ∧ x3 < 4294967296) := by
  obtain ⟨cs, rfl, hsz⟩ := okWide_struct Try.underlying24 hv
  rw [Try.cSg] at hsz
  obtain ⟨fuel, hf0⟩ := h
  obtain ⟨xs, n', _, _, hlen, hxl, hf⟩ := DataW.trod_struct Try.underlying24 hf0
  clear hlen
  have hcl : cs.toList.length = 7 := by rw [Array.length_toList]; exact hsz
  obtain ⟨cl, rfl⟩ : ∃ cl : List Value, cs = cl.toArray := ⟨cs.toList, by simp⟩
  match cl, hcl with
  | [c0, c1, c2, c3, c4, c5, c6], _ =>
    match xs, hxl with
    | [y0, y1, y2, y3, y4, y5, y6], _ =>
      have h0 : DataW.trod enc Try.prog W base spare held n' 3 (([c0, c1, c2, c3, c4, c5, c6].drop 0).take (Try.prog.cellsOf 3)) = some y0 := hf 0 _ rfl
      rw [Try.cI] at h0
      obtain ⟨x0, e0, _, w0⟩ := DataW.trod_int Try.underlying3 h0
      have e0' : c0 = .int .i64 x0 := by simpa using e0
      have h1 : DataW.trod enc Try.prog W base spare held n' 3 (([c0, c1, c2, c3, c4, c5, c6].drop 1).take (Try.prog.cellsOf 3)) = some y1 := hf 1 _ rfl
      rw [Try.cI] at h1
      obtain ⟨x1, e1, _, w1⟩ := DataW.trod_int Try.underlying3 h1
      have e1' : c1 = .int .i64 x1 := by simpa using e1
      have h2 : DataW.trod enc Try.prog W base spare held n' 22 (([c0, c1, c2, c3, c4, c5, c6].drop 2).take (Try.prog.cellsOf 22)) = some y2 := hf 2 _ rfl
      rw [Try.cU] at h2
      obtain ⟨x2, e2, _, w2⟩ := DataW.trod_int Try.underlying22 h2
      have e2' : c2 = .int .u32 x2 := by simpa using e2
      have h3 : DataW.trod enc Try.prog W base spare held n' 22 (([c0, c1, c2, c3, c4, c5, c6].drop 3).take (Try.prog.cellsOf 22)) = some y3 := hf 3 _ rfl
      rw [Try.cU] at h3
      obtain ⟨x3, e3, _, w3⟩ := DataW.trod_int Try.underlying22 h3
      have e3' : c3 = .int .u32 x3 := by simpa using e3
      have h4 : DataW.trod enc Try.prog W base spare held n' 3 (([c0, c1, c2, c3, c4, c5, c6].drop 4).take (Try.prog.cellsOf 3)) = some y4 := hf 4 _ rfl
      rw [Try.cI] at h4
      obtain ⟨x4, e4, _, w4⟩ := DataW.trod_int Try.underlying3 h4
      have e4' : c4 = .int .i64 x4 := by simpa using e4
      have h5 : DataW.trod enc Try.prog W base spare held n' 3 (([c0, c1, c2, c3, c4, c5, c6].drop 5).take (Try.prog.cellsOf 3)) = some y5 := hf 5 _ rfl
      rw [Try.cI] at h5
      obtain ⟨x5, e5, _, w5⟩ := DataW.trod_int Try.underlying3 h5
      have e5' : c5 = .int .i64 x5 := by simpa using e5
      have h6 : DataW.trod enc Try.prog W base spare held n' 9 (([c0, c1, c2, c3, c4, c5, c6].drop 6).take (Try.prog.cellsOf 9)) = some y6 := hf 6 _ rfl
      rw [Try.cS] at h6
      obtain ⟨x6, e6, _, w6⟩ := DataW.trod_string Try.underlying9 h6
      have e6' : c6 = .string x6 := by simpa using e6
      exact ⟨x0, x1, x2, x3, x4, x5, x6, by rw [e0', e1', e2', e3', e4', e5', e6'], w6, sg_u32 w2, sg_u32 w3⟩
#print axioms seg_of
end Go.Proofs.Ytohemlejceiojaa
