/- The walks of what is in one of some sets, and in all. -/
import Derived.Test.YtdipoaekdafbeaaCtCount
namespace Go.Proofs.Ytdipoaekdafbeaa
open Go.RowKit
set_option maxRecDepth 100000
set_option linter.unusedVariables false

/-- Bytes in a block of their own. -/
def BytesAt (w : World) (g : Nat) (f : Nat → Nat) : Prop := w.heap[g]? = some (.cells (C.bv f) 27 (0, 0))
theorem BytesAt.cell {w : World} {g : Nat} {f : Nat → Nat} (h : BytesAt w g f) (i : Nat) (hi : i < 30) : w.cell? ⟨g, i, none⟩ = some (.int .u8 (f i)) :=
  (cell_of_row w g i _ _ (0, 0) h).trans (C.bv_get _ i hi)
theorem BytesAt.frozen {w : World} {g : Nat} {f : Nat → Nat} (h : BytesAt w g f) (i : Nat) : w.frozen? ⟨g, i, none⟩ = false := frozen_of_row w g i _ _ h
theorem BytesAt.set {w : World} {g : Nat} {f : Nat → Nat} (h : BytesAt w g f) (i x : Nat) : BytesAt (w.setCell ⟨g, i, none⟩ (.int .u8 x)) g (fun j => if j = i then x else f j) := by
  have := heap_setCell_same w g i _ _ (.int .u8 x) h
  rw [C.bv_set] at this
  exact this
theorem BytesAt.eq {w : World} {g : Nat} {f h : Nat → Nat} (hb : BytesAt w g f) (he : ∀ i, i < 30 → f i = h i) : BytesAt w g h := by
  unfold BytesAt at *
  rw [← C.bv_ext he]
  exact hb

/-- A row of sets that a slice leads to. -/
def SRow (w : World) (a : Option Addr) (l : List Nat) : Prop := 0 < l.length → ∃ b off, a = some ⟨b, off, none⟩ ∧ b < w.heap.size ∧ ∀ k, k < l.length → w.rangeAt b (off + k * 30) (C.cv (l.getD k 0)).toList
theorem SRow.then {W wr : World} {a : Option Addr} {l : List Nat} (h : SRow W a l) (hb : Below W.heap.size W wr) (k : Nat) (hk : k < l.length) : ∃ b off, a = some ⟨b, off, none⟩ ∧ b < W.heap.size ∧ wr.rangeAt b (off + k * 30) (C.cv (l.getD k 0)).toList := by
  obtain ⟨b, off, ha, hlt, hc⟩ := h (by omega)
  exact ⟨b, off, ha, hlt, fun j v hv => (hb.cell (p := ⟨b, off + k * 30 + j, none⟩) hlt).trans (hc k hk j v hv)⟩
theorem SRow.none (w : World) (a : Option Addr) : SRow w a [] := fun h => by simp at h

theorem load_mid_set {ops : Array Oper} {rest : List Oper} {o : Oper} {a : Act} {w : World} {Q : Exit → Act → World → Prop} {x : Operand} {b off n : Nat} (hgd : o.guard = .none) (ho : o.op = .load 27 x) (hx : a.eval x = .pointer (some ⟨b, off, .none⟩)) (hg : w.rangeAt b off (C.cv n).toList)
    (h : wpList Try.prog ops Q rest (a.put o.dst (.agg (C.cv n))) w) : wpList Try.prog ops Q (o :: rest) a w :=
  wpList_load_mid hgd _ x ho b off hx _ _ hg Try.underlying27 rfl (by rw [Array.length_toList, cv_size]; exact Try.info_cats) (by rw [Array.toArray_toList]; exact h)

namespace C
def union (l : List Nat) : Nat := l.foldl (· ||| ·) 0
def meet (n : Nat) (l : List Nat) : Nat := l.foldl (· &&& ·) n
theorem takeN (l : List Nat) (k : Nat) (h : k < l.length) : l.take (k + 1) = l.take k ++ [l.getD k 0] := by
  rw [List.take_succ_eq_append_getElem h, List.getD_eq_getElem?_getD, List.getElem?_eq_getElem h]; rfl
theorem union_take (l : List Nat) (k : Nat) (h : k < l.length) : union (l.take (k + 1)) = union (l.take k) ||| l.getD k 0 := by
  rw [takeN l k h]; unfold union; rw [List.foldl_append]; rfl
theorem meet_take (n : Nat) (l : List Nat) (k : Nat) (h : k < l.length) : meet n (l.take (k + 1)) = meet n (l.take k) &&& l.getD k 0 := by
  rw [takeN l k h]; unfold meet; rw [List.foldl_append]; rfl
/-- The first k bytes are those of the one, the others those of the other. -/
def mix (f g : Nat → Nat) (k i : Nat) : Nat := if i < k then g i else f i
end C

set_option maxHeartbeats 8000000 in
theorem Union_any (a : Option Addr) (cap : Nat) (l : List Nat) (w : World) (h : SRow w a l) (hl : l.length ≤ maxLen) :
    Calls Try.prog 62 #[.slice a l.length cap] w fun e w' => e = .returned (.agg (C.cv (C.union l))) ∧ Below w.heap.size w w' := by
  unfold maxLen at hl
  have Hrow := Lib.hid h
  clear h
  have H0 := Lib.hid ((SetAt.new w 0).alloc (.cells (C.cv 0) 27))
  have H1 := Lib.hid (SetAt.new (w.alloc (.cells (C.cv 0) 27)) 0)
  go_enter Try.func62, Try.ntmps62
  go_wp2
  rw [C.zero30]
  go_loopw [10] (fun i wr => ∃ k : Nat, k ≤ l.length ∧ i = .int .i64 k ∧ Below w.heap.size w wr ∧ SetAt wr (w.heap.size + 1) (C.union (l.take k)) ∧ SetAt wr (w.heap.size) 0) (fun i _ => l.length - (intOf i).toNat)
  case atStart => exact ⟨0, Nat.zero_le _, rfl, ((Below.refl _ w).alloc (Nat.le_refl _) _).alloc (by simp) _, (by simpa using H1.out : SetAt _ (w.heap.size + 1) 0), H0.out⟩
  case round =>
    obtain ⟨k, hk, rfl, hb, hs, hz⟩ := hrel
    have hbs := hb.size
    have hsl := hs.lt
    have hzl := hz.lt
    clear H0 H1
    by_cases hlt : k < l.length
    · obtain ⟨b, off, rfl, hbl, hr⟩ := Hrow.out.then hb k hlt
      have Ht := Lib.hid (C.union_take l k hlt)
      generalize l.getD k 0 = c at *
      generalize C.union (l.take k) = m at *
      have HR := Lib.hid hr
      have HR1 := Lib.hid (World.rangeAt_alloc hr (.cells (C.cv 0) 27))
      have HN := Lib.hid (SetAt.new wr 0)
      have hs1 := hs.alloc (.cells (C.cv 0) 27)
      have hz1 := hz.alloc (.cells (C.cv 0) 27)
      have hb1 := hb.alloc hbs (.cells (C.cv 0) 27)
      clear hr hs hz hb
      go_wp2_with (first | (refine load_mid_set rfl rfl rfl HR.out ?_) | (rw [C.zero30]; refine store_set rfl rfl rfl rfl HN.out ?_; intro w2 hs2 ho2; have HS2 := Lib.hid hs2; have HO2 := Lib.hid ho2; clear hs2 ho2) | (refine load_set rfl rfl rfl HS2.out ?_))
      have hs2 : SetAt w2 (w.heap.size + 1) m := hs1.only HO2.out (by omega)
      have hz2 : SetAt w2 (w.heap.size) 0 := hz1.only HO2.out (by omega)
      have hb2 : Below w.heap.size w w2 := hb1.trans (HO2.out.below hbs)
      clear hs1 hz1 hb1 HO2 HS2 HR HR1 HN
      go_loopw [15] (fun i wq => ∃ q : Nat, q ≤ 30 ∧ i = .int .i64 q ∧ Below w.heap.size w wq ∧ BytesAt wq (w.heap.size + 1) (C.mix (C.byte m) (C.byte (m ||| c)) q) ∧ SetAt wq (w.heap.size) 0) (fun i _ => 30 - (intOf i).toNat)
      case atStart => exact ⟨0, by omega, rfl, hb2, BytesAt.eq (f := C.byte m) hs2 (fun i _ => by simp [C.mix]), hz2⟩
      case round =>
        obtain ⟨q, hq, rfl, hb3, hs3, hz3⟩ := hrel
        clear hs2 hz2 hb2
        by_cases hlt3 : q < 30
        · have hix := fun w => run_index_set c q w hlt3
          have hq' : (q : Int) < 30 := by omega
          have hce := hs3.cell q hlt3
          have hfr := hs3.frozen q
          rw [show C.mix (C.byte m) (C.byte (m ||| c)) q q = C.byte m q by simp [C.mix]] at hce
          have hu := u8_or (C.byte m q) (C.byte c q) (C.byte_lt _ _) (C.byte_lt _ _)
          rw [C.byte_or] at hu
          have Hset := Lib.hid ((hs3.set q (C.byte (m ||| c) q)).eq (h := C.mix (C.byte m) (C.byte (m ||| c)) (q + 1)) (fun i _ => by unfold C.mix; by_cases e : i = q <;> simp [e] <;> (try omega); (split <;> split <;> first | rfl | omega)))
          have HZ := Lib.hid hz3
          clear hs3 hz3
          generalize C.byte (m ||| c) q = v at *
          generalize C.byte m q = x at *
          generalize C.byte c q = y at *
          go_wp2
          go_roundw
          case rel => exact ⟨q + 1, by omega, by go_num, hb3.setCell (by show w.heap.size ≤ w.heap.size + 1; omega) _, Hset.out, HZ.out.only (only_cell _ _ _ _) (by omega)⟩
          case measure => simp [intOf]; omega
        · obtain rfl : q = 30 := by omega
          have HS := Lib.hid (show SetAt wr (w.heap.size + 1) (m ||| c) from hs3.eq (fun i hi => by simp [C.mix, hi]))
          have HZ := Lib.hid hz3
          clear hs3 hz3
          go_wp2
          go_roundw
          case rel => exact ⟨k + 1, by omega, by go_num, hb3, by rw [Ht.out]; exact HS.out, HZ.out⟩
          case measure => simp [intOf]; omega
    · have e : l.take k = l := List.take_of_length_le (by omega)
      rw [e] at hs
      have HS := Lib.hid hs
      have HZ := Lib.hid hz
      clear hs hz e
      go_wp2_with (first | (refine load_set rfl rfl rfl HS.out ?_) | (refine store_set rfl rfl rfl rfl HZ.out ?_; intro w2 hs2 ho2; have HS2 := Lib.hid hs2; have HO2 := Lib.hid ho2; clear hs2 ho2))
      exact ret_set rfl rfl rfl HS2.out ⟨rfl, hb.trans (HO2.out.below (by omega))⟩

#print axioms Union_any
end Go.Proofs.Ytdipoaekdafbeaa
