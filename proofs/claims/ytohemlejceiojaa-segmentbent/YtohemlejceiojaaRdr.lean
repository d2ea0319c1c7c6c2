/- A struct that holds a reader: what is read, one by one. -/
import Derived.Test.YtohemlejceiojaaHdNum
namespace Go.Proofs.Ytohemlejceiojaa
open Go.RowKit

/-- What holds a reader (a struct that begins with a pointer to one): its cells, and what is left. -/
structure Pz (T : TypeId) (base p r : Nat) (s : List UInt8) (k : Nat) (cs : Array Value) (w : World) : Prop where
  low : base ≤ p
  ne : p ≠ r
  cell : w.heap[p]? = some (.cells cs T (0, 0))
  rd : Rd base r ((H.rst s k).map ba) w

theorem Pz.at {T : TypeId} {base p r : Nat} {s : List UInt8} {k : Nat} {cs : Array Value} {w : World} (h : Pz T base p r s k cs w) (i : Nat) (v : Value) (hv : cs[i]? = some v) : w.cell? ⟨p, i, none⟩ = some v := by
  simp only [World.cell?, h.cell]; exact hv
theorem Pz.fz {T : TypeId} {base p r : Nat} {s : List UInt8} {k : Nat} {cs : Array Value} {w : World} (h : Pz T base p r s k cs w) (i : Nat) : w.frozen? ⟨p, i, none⟩ = false := by
  simp [World.frozen?, h.cell]
theorem Pz.lt {T : TypeId} {base p r : Nat} {s : List UInt8} {k : Nat} {cs : Array Value} {w : World} (h : Pz T base p r s k cs w) : p < w.heap.size := lt_of_block h.cell

theorem Pz.store {T : TypeId} {base p r : Nat} {s : List UInt8} {k : Nat} {cs : Array Value} {w : World} (h : Pz T base p r s k cs w) (i : Nat) (v : Value) (cs' : Array Value) (he : cs.setIfInBounds i v = cs') : Pz T base p r s k cs' (w.setCell ⟨p, i, none⟩ v) ∧ Below base w (w.setCell ⟨p, i, none⟩ v) := by
  refine ⟨⟨h.low, h.ne, ?_, ⟨h.rd.low, ?_⟩⟩, (Below.refl _ _).setCell h.low _⟩
  · have hlt := h.lt
    have h' : w.heap[p] = .cells cs T (0, 0) := by simpa [Array.getElem?_eq_getElem hlt] using h.cell
    show (w.heap.modify p _)[p]? = _
    rw [Array.getElem?_eq_getElem (by simpa using hlt), Array.getElem_modify_self, h', ← he]
    rfl
  · rw [Below.heap_setCell _ _ _ _ (fun e => h.ne e.symm)]; exact h.rd.cells

theorem Pz.draw {T : TypeId} {base p r : Nat} {s : List UInt8} {k : Nat} {cs : Array Value} {w : World} (h : Pz T base p r s k cs w) : Pz T base p r s k cs w.drew := ⟨h.low, h.ne, h.cell, ⟨h.rd.low, h.rd.cells⟩⟩

theorem Pz.read {T : TypeId} {base p r : Nat} {s : List UInt8} {k k' : Nat} {cs : Array Value} {w w' : World} (h : Pz T base p r s k cs w) (hg : w.grownBy w' (some r)) (hr : Rd base r ((H.rst s k').map ba) w') : Pz T base p r s k' cs w' ∧ Below base w w' := by
  refine ⟨⟨h.low, h.ne, ?_, hr⟩, grown_below hg h.rd.low (by have := lt_of_block h.rd.cells; have := h.rd.low; omega)⟩
  rw [hg.block p h.lt (by intro e; cases e; exact h.ne rfl)]; exact h.cell

theorem pbyte (T : TypeId) (base p r : Nat) (s : List UInt8) (k : Nat) (cs : Array Value) (w : World) (h : Pz T base p r s k cs w) (hs : s.length ≤ 90000) :
    Calls Try.prog 37 #[.pointer (some ⟨r, 0, none⟩)] w fun e w' => e = .returned (.int .i64 (H.val s k 1)) ∧ Pz T base p r s (k + 1) cs w' ∧ Below base w w' := by
  refine (RByte_any base r _ w h.rd (rst_size s k hs)).mono ?_
  rintro e w' ⟨he, hr, hg⟩
  have e1 : takeOf ((H.rst s k).map ba) 1 = _ := H.take_rst s k 1
  rw [e1] at he hr
  have := h.read hg hr
  exact ⟨by rw [he, H.num_rst], this.1, this.2⟩

theorem pshort (T : TypeId) (base p r : Nat) (s : List UInt8) (k : Nat) (cs : Array Value) (w : World) (h : Pz T base p r s k cs w) (hs : s.length ≤ 90000) :
    Calls Try.prog 38 #[.pointer (some ⟨r, 0, none⟩)] w fun e w' => e = .returned (.int .i64 (H.val s k 2)) ∧ Pz T base p r s (k + 2) cs w' ∧ Below base w w' := by
  refine (RShort_any base r _ w h.rd (rst_size s k hs)).mono ?_
  rintro e w' ⟨he, hr, hg⟩
  have e1 : takeOf ((H.rst s k).map ba) 2 = _ := H.take_rst s k 2
  rw [e1] at he hr
  have := h.read hg hr
  exact ⟨by rw [he, H.num_rst], this.1, this.2⟩

theorem pword (T : TypeId) (base p r : Nat) (s : List UInt8) (k : Nat) (cs : Array Value) (w : World) (h : Pz T base p r s k cs w) (hs : s.length ≤ 90000) :
    Calls Try.prog 36 #[.pointer (some ⟨r, 0, none⟩)] w fun e w' => e = .returned (.int .u32 (H.val s k 4)) ∧ Pz T base p r s (k + 4) cs w' ∧ Below base w w' := by
  refine (RWord_any base r _ w h.rd (rst_size s k hs)).mono ?_
  rintro e w' ⟨he, hr, hg⟩
  have e1 : takeOf ((H.rst s k).map ba) 4 = _ := H.take_rst s k 4
  rw [e1] at he hr
  have := h.read hg hr
  exact ⟨by rw [he, H.num_rst], this.1, this.2⟩

theorem pok (T : TypeId) (base p r : Nat) (s : List UInt8) (k : Nat) (cs : Array Value) (w : World) (h : Pz T base p r s k cs w) :
    Calls Try.prog 39 #[.pointer (some ⟨r, 0, none⟩)] w fun e w' => e = .returned (.bool (decide (k ≤ s.length))) ∧ w = w' := by
  refine (Ok_any base r _ w h.rd).mono ?_
  rintro e w' ⟨he, hw⟩
  refine ⟨?_, hw⟩
  rw [he]
  unfold H.rst
  by_cases h : k ≤ s.length
  · rw [if_pos h, decide_eq_true h]; rfl
  · rw [if_neg h, decide_eq_false h]; rfl
theorem Pz.drewN {T : TypeId} {base p r : Nat} {s : List UInt8} {k : Nat} {cs : Array Value} {w : World} (h : Pz T base p r s k cs w) (n : Nat) : Pz T base p r s k cs (w.drewN n) := ⟨h.low, h.ne, h.cell, ⟨h.rd.low, h.rd.cells⟩⟩
theorem Pz.alloc {T : TypeId} {base p r : Nat} {s : List UInt8} {k : Nat} {cs : Array Value} {w : World} (h : Pz T base p r s k cs w) (o : Obj) : Pz T base p r s k cs (w.alloc o) :=
  ⟨h.low, h.ne, (Below.heap_alloc w o p h.lt).trans h.cell, ⟨h.rd.low, (Below.heap_alloc w o r (lt_of_block h.rd.cells)).trans h.rd.cells⟩⟩
theorem Pz.carry {T : TypeId} {base p r : Nat} {s : List UInt8} {k : Nat} {cs : Array Value} {w w' : World} (h : Pz T base p r s k cs w) (hb : Below w.heap.size w w') : Pz T base p r s k cs w' :=
  ⟨h.low, h.ne, (hb.block p h.lt).trans h.cell, ⟨h.rd.low, (hb.block r (lt_of_block h.rd.cells)).trans h.rd.cells⟩⟩
theorem Pz.base {T : TypeId} {base p r : Nat} {s : List UInt8} {k : Nat} {cs : Array Value} {w : World} (h : Pz T base p r s k cs w) : base ≤ w.heap.size := by have := h.lt; have := h.low; omega

theorem ptake (T : TypeId) (base p r : Nat) (s : List UInt8) (k n : Nat) (cs : Array Value) (w : World) (h : Pz T base p r s k cs w) (hs : s.length ≤ 90000) (hn : k + n ≤ s.length) :
    Calls Try.prog 40 #[.pointer (some ⟨r, 0, none⟩), .int .i64 n] w fun e w' => e = .returned (.string (ba ((s.drop k).take n))) ∧ Pz T base p r s (k + n) cs w' ∧ Below base w w' := by
  refine (take_any base r _ n w h.rd (rst_size s k hs)).mono ?_
  rintro e w' ⟨he, hr, hg⟩
  rw [H.take_rst s k n] at he hr
  have := h.read hg hr
  rw [if_pos hn] at he
  exact ⟨he, this.1, this.2⟩

theorem prest (T : TypeId) (base p r : Nat) (s : List UInt8) (k : Nat) (cs : Array Value) (w : World) (h : Pz T base p r s k cs w) (hs : s.length ≤ 90000) (hn : k ≤ s.length) :
    Calls Try.prog 42 #[.pointer (some ⟨r, 0, none⟩)] w fun e w' => e = .returned (.string (ba (s.drop k))) ∧ Pz T base p r s s.length cs w' ∧ Below base w w' ∧ w.grownBy w' (some r) := by
  refine (Rest_any base r _ w h.rd (rst_size s k hs)).mono ?_
  rintro e w' ⟨he, hr, hg⟩
  have e1 : (H.rst s k).map ba = some (ba (s.drop k)) := by unfold H.rst; rw [if_pos hn]; rfl
  have e2 : takeOf ((H.rst s k).map ba) (((((H.rst s k).map ba).getD nobytes).size : Nat) : Int) = (ba (s.drop k), (H.rst s s.length).map ba) := by
    have e3 : (((H.rst s k).map ba).getD nobytes).size = s.length - k := by rw [e1]; show (s.drop k).length = _; rw [List.length_drop]
    rw [e3, H.take_rst s k (s.length - k), if_pos (by omega), List.take_of_length_le (by rw [List.length_drop]; omega), show k + (s.length - k) = s.length by omega]
  rw [e2] at he hr
  have := h.read hg hr
  exact ⟨he, this.1, this.2, hg⟩


/-- Fewer bytes than none: it fails. -/
theorem ptake_no (T : TypeId) (base p r : Nat) (s : List UInt8) (k : Nat) (n : Int) (cs : Array Value) (w : World) (h : Pz T base p r s k cs w) (hs : s.length ≤ 90000) (hn : n < 0 ∨ (s.length : Int) < k + n) :
    Calls Try.prog 40 #[.pointer (some ⟨r, 0, none⟩), .int .i64 n] w fun e w' => e = .returned (.string nobytes) ∧ Pz T base p r s (s.length + 1) cs w' ∧ Below base w w' := by
  refine (take_any base r _ n w h.rd (rst_size s k hs)).mono ?_
  rintro e w' ⟨he, hr, hg⟩
  have e1 : takeOf ((H.rst s k).map ba) n = (nobytes, (H.rst s (s.length + 1)).map ba) := by
    unfold H.rst
    rw [if_neg (show ¬ s.length + 1 ≤ s.length by omega)]
    by_cases hk : k ≤ s.length
    · rw [if_pos hk]
      simp only [Option.map_some, Option.map_none]
      unfold takeOf
      simp only []
      rw [if_neg (by rw [ba_size, List.length_drop]; omega)]
    · rw [if_neg hk]
      rfl
  rw [e1] at he hr
  have := h.read hg hr
  exact ⟨he, this.1, this.2⟩
theorem pleft (T : TypeId) (base p r : Nat) (s : List UInt8) (k : Nat) (cs : Array Value) (w : World) (h : Pz T base p r s k cs w) (hk : k ≤ s.length) :
    Calls Try.prog 47 #[.pointer (some ⟨r, 0, none⟩)] w fun e w' => e = .returned (.int .i64 ((s.length - k : Nat) : Int)) ∧ w = w' := by
  refine (Left_any base r _ w h.rd).mono ?_
  rintro e w' ⟨he, hw⟩
  refine ⟨?_, hw⟩
  rw [he]
  unfold H.rst
  rw [if_pos hk]
  show Ending.returned (.int .i64 (((s.drop k).length : Nat) : Int)) = _
  rw [List.length_drop]
end Go.Proofs.Ytohemlejceiojaa
