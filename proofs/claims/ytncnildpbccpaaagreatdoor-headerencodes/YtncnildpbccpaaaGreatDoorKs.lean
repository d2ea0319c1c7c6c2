/- The walks of header.Same and of what is asked of a packet; the walk of HeaderBack. -/
import Derived.Test.YtncnildpbccpaaaGreatDoorKq
import Derived.Laws.StructEq
import Derived.WalkKit
import Derived.ProofKit
import Derived.OpenShut
import Derived.Deep.Slices
set_option maxRecDepth 100000
namespace Go.Proofs.YtncnildpbccpaaaGreatDoor
open Go.RowKit
set_option linter.unusedVariables false

theorem text_eq {x y : ByteArray} (h : x.toList = y.toList) : x = y := by
  rw [Lib.toList_data, Lib.toList_data] at h
  cases x
  cases y
  simp at h
  simp [h]

theorem ifs_no {α : Type} (x0 x1 : Int) (x2 x3 : Bool) (x4 x5 x6 x7 x8 : Int) (x10 : ByteArray) (y0 y1 : Int) (y2 y3 : Bool) (y4 y5 y6 y7 y8 : Int) (y10 : ByteArray) (A B : α) (h : ¬ (x0 = y0 ∧ x1 = y1 ∧ x2 = y2 ∧ x3 = y3 ∧ x4 = y4 ∧ x5 = y5 ∧ x6 = y6 ∧ x7 = y7 ∧ x8 = y8 ∧ x10 = y10)) :
    (if x0 = y0 then if x1 = y1 then if x2 = y2 then if x3 = y3 then if x4 = y4 then if x5 = y5 then if x6 = y6 then if x7 = y7 then if x8 = y8 then if x10.toList = y10.toList then A else B else B else B else B else B else B else B else B else B else B) = B := by
  by_cases h0 : ¬ x0 = y0
  · simp [h0]
  have h0 := Classical.not_not.1 h0
  by_cases h1 : ¬ x1 = y1
  · simp [h0, h1]
  have h1 := Classical.not_not.1 h1
  by_cases h2 : ¬ x2 = y2
  · simp [h0, h1, h2]
  have h2 := Classical.not_not.1 h2
  by_cases h3 : ¬ x3 = y3
  · simp [h0, h1, h2, h3]
  have h3 := Classical.not_not.1 h3
  by_cases h4 : ¬ x4 = y4
  · simp [h0, h1, h2, h3, h4]
  have h4 := Classical.not_not.1 h4
  by_cases h5 : ¬ x5 = y5
  · simp [h0, h1, h2, h3, h4, h5]
  have h5 := Classical.not_not.1 h5
  by_cases h6 : ¬ x6 = y6
  · simp [h0, h1, h2, h3, h4, h5, h6]
  have h6 := Classical.not_not.1 h6
  by_cases h7 : ¬ x7 = y7
  · simp [h0, h1, h2, h3, h4, h5, h6, h7]
  have h7 := Classical.not_not.1 h7
  by_cases h8 : ¬ x8 = y8
  · simp [h0, h1, h2, h3, h4, h5, h6, h7, h8]
  have h8 := Classical.not_not.1 h8
  by_cases h10 : x10.toList = y10.toList
  · exact absurd ⟨h0, h1, h2, h3, h4, h5, h6, h7, h8, text_eq h10⟩ h
  · simp [h0, h1, h2, h3, h4, h5, h6, h7, h8, h10]

/-- Two packets' blocks, one behind the other, and their options. -/
structure Two (N : Nat) (X Y : Obj) (o1 o2 : Option Addr) (l m : List Opt) (w : World) : Prop where
  one : w.heap[N]? = some X
  two : w.heap[N + 1]? = some Y
  row1 : OptRow w o1 l
  row2 : OptRow w o2 m
theorem Two.carry {N : Nat} {X Y : Obj} {o1 o2 : Option Addr} {l m : List Opt} {w w' : World} (h : Two N X Y o1 o2 l m w) (hb : Below w.heap.size w w') : Two N X Y o1 o2 l m w' :=
  ⟨(hb.block _ (lt_of_block h.one)).trans h.one, (hb.block _ (lt_of_block h.two)).trans h.two, h.row1.carry hb, h.row2.carry hb⟩

end Go.Proofs.YtncnildpbccpaaaGreatDoor

namespace Go.Proofs.YtncnildpbccpaaaGreatDoor
open Go.RowKit
set_option linter.unusedVariables false

/-- Is there more of a packet than is asked of? -/
def H.great (l : List Opt) (n : Nat) : Bool := O.great l || (decide (2000 < n) && decide (n < 65000)) || decide (66000 < n)

theorem H.great_no (l : List Opt) (n : Nat) (h : H.great l n = false) : l.length ≤ 60 ∧ (∀ o ∈ l, o.data.size ≤ 100) ∧ n ≤ 66000 := by
  unfold H.great O.great at h
  simp only [Bool.or_eq_false_iff, Bool.and_eq_false_iff, decide_eq_false_iff_not, List.any_eq_false, decide_eq_true_eq] at h
  obtain ⟨⟨⟨h1, h2⟩, h3⟩, h4⟩ := h
  exact ⟨by omega, fun o ho => by have := h1 o ho; omega, by omega⟩

set_option maxHeartbeats 1000000 in
theorem hgreat_any (x0 x1 : Int) (x2 x3 : Bool) (x4 x5 x6 x7 x8 : Int) (x10 : ByteArray) (a : Option Addr) (cap : Nat) (l : List Opt) (w : World) (h : OptRow w a l) (hl : l.length ≤ maxLen) (hd : ∀ o ∈ l, o.data.size ≤ maxLen) (hds : x10.size ≤ maxLen) :
    Calls Tryz.prog 4 #[pk x0 x1 x2 x3 x4 x5 x6 x7 x8 (.slice a l.length cap) x10] w fun e w' => e = .returned (.bool (H.great l x10.size)) ∧ Below w.heap.size w w' := by
  have hb0 : Below w.heap.size w (w.alloc (pkO x0 x1 x2 x3 x4 x5 x6 x7 x8 (.slice a l.length cap) x10)) := (Below.refl _ w).alloc (Nat.le_refl _) _
  have HG := Lib.hid (fun w' (h' : OptRow w' a l) => great_any a cap l w' h' hl hd)
  unfold maxLen at hds
  unfold H.great
  cases hg : O.great l with
  | true =>
    rw [hg] at HG
    go_enter Tryz.func4, Tryz.ntmps4
    go_wp2_with fail
    refine (HG.out _ (h.carry hb0)).mono ?_
    rintro e w1 ⟨rfl, rfl⟩
    go_wp2
    go_ret
    exact ⟨rfl, hb0⟩
  | false =>
    rw [hg] at HG
    by_cases h1 : 2000 < x10.size
    · by_cases h2 : x10.size < 65000
      · rw [decide_eq_true h1, decide_eq_true h2]
        go_enter Tryz.func4, Tryz.ntmps4
        go_wp2_with fail
        refine (HG.out _ (h.carry hb0)).mono ?_
        rintro e w1 ⟨rfl, rfl⟩
        have q1 : decide ((2000 : Int) < (x10.size : Int)) = true := decide_eq_true (by omega)
        have q2 : decide ((x10.size : Int) < 65000) = true := decide_eq_true (by omega)
        go_wp2
        go_ret
        exact ⟨rfl, hb0⟩
      · have e3 : decide (66000 < x10.size) = decide ((66000 : Int) < (x10.size : Int)) := by rw [Bool.eq_iff_iff]; simp; omega
        rw [decide_eq_true h1, decide_eq_false h2, e3]
        go_enter Tryz.func4, Tryz.ntmps4
        go_wp2_with fail
        refine (HG.out _ (h.carry hb0)).mono ?_
        rintro e w1 ⟨rfl, rfl⟩
        have q1 : decide ((2000 : Int) < (x10.size : Int)) = true := decide_eq_true (by omega)
        have q2 : decide ((x10.size : Int) < 65000) = false := decide_eq_false (by omega)
        go_wp2
        go_ret
        exact ⟨rfl, hb0⟩
    · have e3 : decide (66000 < x10.size) = false := decide_eq_false (by omega)
      rw [decide_eq_false h1, e3]
      go_enter Tryz.func4, Tryz.ntmps4
      go_wp2_with fail
      refine (HG.out _ (h.carry hb0)).mono ?_
      rintro e w1 ⟨rfl, rfl⟩
      have q1 : decide ((2000 : Int) < (x10.size : Int)) = false := decide_eq_false (by omega)
      have q3 : decide ((66000 : Int) < (x10.size : Int)) = false := decide_eq_false (by omega)
      go_wp2
      go_ret
      exact ⟨rfl, hb0⟩

end Go.Proofs.YtncnildpbccpaaaGreatDoor

namespace Go.Proofs.YtncnildpbccpaaaGreatDoor
open Go.RowKit Go.ChangeShapes Go.WideShapes Go.ChangeAt Go.Deep
set_option linter.unusedVariables false

theorem Tryz.cellsPk : Tryz.prog.cellsOf 25 = 11 := by kernel_rfl
theorem Tryz.cellsB : Tryz.prog.cellsOf 4 = 1 := by kernel_rfl
theorem Tryz.cellsU : Tryz.prog.cellsOf 22 = 1 := by kernel_rfl
theorem Tryz.cellsL : Tryz.prog.cellsOf 23 = 1 := by kernel_rfl

theorem u32_range {n : Int} (h : (Lit.int .u32 n).wf = true) : 0 ≤ n ∧ n < 4294967296 := by
  have := bounds_u32 h
  omega

theorem slice_cell {H : Type} {enc : TypeId × Value → H} {W : World} {base : Nat} {spare : Nat → Bool} {held : Bool} {fuel : Nat} {c : Value} {x : DataW H × List MemPlace}
    (h : DataW.trod enc Tryz.prog W base spare held fuel 23 [c] = some x) : ∃ (a : Option Addr) (cap : Nat) (l : List Opt), c = .slice a l.length cap ∧ l.length ≤ maxLen ∧ (∀ o ∈ l, o.data.size ≤ maxLen) ∧ OptRow W a l := by
  have hc : ∃ a len cap, c = .slice a len cap := by
    rcases open_slice Tryz.underlying23 h with ⟨hcs, _⟩ | ⟨x, l, c', m, n, D, Pl, hcs, _⟩
    · exact ⟨_, _, _, by simpa using hcs⟩
    · exact ⟨_, _, _, by simpa using hcs⟩
  obtain ⟨a, len, cap, rfl⟩ := hc
  obtain ⟨l, rfl, h1, h2, h3⟩ := opts_of (a := a) (len := len) (cap := cap) (d := x.1) (p := x.2) ⟨fuel, h⟩
  exact ⟨a, cap, l, rfl, h1, h2, h3⟩

theorem pkt_of {H : Type} {enc : TypeId × Value → H} {W : World} {base b0 : Nat} {spare : Nat → Bool} {held : Bool} {r : Reach} {v : Value} {d : DataW H} {p : List MemPlace}
    (hv : Value.okWide Tryz.prog W r b0 25 v) (h : DataW.Trod enc Tryz.prog W base spare held 25 v d p) :
    ∃ (x0 x1 : Int) (x2 x3 : Bool) (x4 x5 x6 x7 x8 : Int) (o : Option Addr) (c : Nat) (l : List Opt) (x10 : ByteArray), v = pk x0 x1 x2 x3 x4 x5 x6 x7 x8 (.slice o l.length c) x10 ∧ OptRow W o l ∧ l.length ≤ maxLen ∧ (∀ o ∈ l, o.data.size ≤ maxLen) ∧ x10.size ≤ maxLen ∧ (0 ≤ x7 ∧ x7 < 4294967296) ∧ (0 ≤ x8 ∧ x8 < 4294967296) := by
  obtain ⟨cs, rfl, hsz⟩ := okWide_struct Tryz.underlying25 hv
  rw [Tryz.cellsPk] at hsz
  obtain ⟨fuel, hf0⟩ := h
  obtain ⟨xs, n', _, _, hlen, hxl, hf⟩ := DataW.trod_struct Tryz.underlying25 hf0
  clear hlen
  have hcl : cs.toList.length = 11 := by rw [Array.length_toList]; exact hsz
  obtain ⟨cl, rfl⟩ : ∃ cl : List Value, cs = cl.toArray := ⟨cs.toList, by simp⟩
  match cl, hcl with
  | [c0, c1, c2, c3, c4, c5, c6, c7, c8, c9, c10], _ =>
    match xs, hxl with
    | [y0, y1, y2, y3, y4, y5, y6, y7, y8, y9, y10], _ =>
      have h0 : DataW.trod enc Tryz.prog W base spare held n' 3 (([c0, c1, c2, c3, c4, c5, c6, c7, c8, c9, c10].drop 0).take (Tryz.prog.cellsOf 3)) = some y0 := hf 0 _ rfl
      rw [Tryz.cellsI] at h0
      obtain ⟨x0, e0, _, w0⟩ := DataW.trod_int Tryz.underlying3 h0
      have e0' : c0 = .int .i64 x0 := by simpa using e0
      have h1 : DataW.trod enc Tryz.prog W base spare held n' 3 (([c0, c1, c2, c3, c4, c5, c6, c7, c8, c9, c10].drop 1).take (Tryz.prog.cellsOf 3)) = some y1 := hf 1 _ rfl
      rw [Tryz.cellsI] at h1
      obtain ⟨x1, e1, _, w1⟩ := DataW.trod_int Tryz.underlying3 h1
      have e1' : c1 = .int .i64 x1 := by simpa using e1
      have h2 : DataW.trod enc Tryz.prog W base spare held n' 4 (([c0, c1, c2, c3, c4, c5, c6, c7, c8, c9, c10].drop 2).take (Tryz.prog.cellsOf 4)) = some y2 := hf 2 _ rfl
      rw [Tryz.cellsB] at h2
      obtain ⟨x2, e2, _⟩ := DataW.trod_bool Tryz.underlying4 h2
      have e2' : c2 = .bool x2 := by simpa using e2
      have h3 : DataW.trod enc Tryz.prog W base spare held n' 4 (([c0, c1, c2, c3, c4, c5, c6, c7, c8, c9, c10].drop 3).take (Tryz.prog.cellsOf 4)) = some y3 := hf 3 _ rfl
      rw [Tryz.cellsB] at h3
      obtain ⟨x3, e3, _⟩ := DataW.trod_bool Tryz.underlying4 h3
      have e3' : c3 = .bool x3 := by simpa using e3
      have h4 : DataW.trod enc Tryz.prog W base spare held n' 3 (([c0, c1, c2, c3, c4, c5, c6, c7, c8, c9, c10].drop 4).take (Tryz.prog.cellsOf 3)) = some y4 := hf 4 _ rfl
      rw [Tryz.cellsI] at h4
      obtain ⟨x4, e4, _, w4⟩ := DataW.trod_int Tryz.underlying3 h4
      have e4' : c4 = .int .i64 x4 := by simpa using e4
      have h5 : DataW.trod enc Tryz.prog W base spare held n' 3 (([c0, c1, c2, c3, c4, c5, c6, c7, c8, c9, c10].drop 5).take (Tryz.prog.cellsOf 3)) = some y5 := hf 5 _ rfl
      rw [Tryz.cellsI] at h5
      obtain ⟨x5, e5, _, w5⟩ := DataW.trod_int Tryz.underlying3 h5
      have e5' : c5 = .int .i64 x5 := by simpa using e5
      have h6 : DataW.trod enc Tryz.prog W base spare held n' 3 (([c0, c1, c2, c3, c4, c5, c6, c7, c8, c9, c10].drop 6).take (Tryz.prog.cellsOf 3)) = some y6 := hf 6 _ rfl
      rw [Tryz.cellsI] at h6
      obtain ⟨x6, e6, _, w6⟩ := DataW.trod_int Tryz.underlying3 h6
      have e6' : c6 = .int .i64 x6 := by simpa using e6
      have h7 : DataW.trod enc Tryz.prog W base spare held n' 22 (([c0, c1, c2, c3, c4, c5, c6, c7, c8, c9, c10].drop 7).take (Tryz.prog.cellsOf 22)) = some y7 := hf 7 _ rfl
      rw [Tryz.cellsU] at h7
      obtain ⟨x7, e7, _, w7⟩ := DataW.trod_int Tryz.underlying22 h7
      have e7' : c7 = .int .u32 x7 := by simpa using e7
      have h8 : DataW.trod enc Tryz.prog W base spare held n' 22 (([c0, c1, c2, c3, c4, c5, c6, c7, c8, c9, c10].drop 8).take (Tryz.prog.cellsOf 22)) = some y8 := hf 8 _ rfl
      rw [Tryz.cellsU] at h8
      obtain ⟨x8, e8, _, w8⟩ := DataW.trod_int Tryz.underlying22 h8
      have e8' : c8 = .int .u32 x8 := by simpa using e8
      have h9 : DataW.trod enc Tryz.prog W base spare held n' 23 (([c0, c1, c2, c3, c4, c5, c6, c7, c8, c9, c10].drop 9).take (Tryz.prog.cellsOf 23)) = some y9 := hf 9 _ rfl
      rw [Tryz.cellsL] at h9
      obtain ⟨a, cap, l, e9', l1, l2, l3⟩ := slice_cell (show DataW.trod enc Tryz.prog W base spare held n' 23 [c9] = some y9 from h9)
      have h10 : DataW.trod enc Tryz.prog W base spare held n' 9 (([c0, c1, c2, c3, c4, c5, c6, c7, c8, c9, c10].drop 10).take (Tryz.prog.cellsOf 9)) = some y10 := hf 10 _ rfl
      rw [Tryz.cellsS] at h10
      obtain ⟨x10, e10, _, w10⟩ := DataW.trod_string Tryz.underlying9 h10
      have e10' : c10 = .string x10 := by simpa using e10
      exact ⟨x0, x1, x2, x3, x4, x5, x6, x7, x8, a, cap, l, x10, by rw [e0', e1', e2', e3', e4', e5', e6', e7', e8', e9', e10'], l3, l1, l2, w10, u32_range w7, u32_range w8⟩
#print axioms pkt_of
end Go.Proofs.YtncnildpbccpaaaGreatDoor

