/- The walk of texts that a writer is handed, and of the document's example. -/
import Derived.Test.YtohemlejceiojaaDone
namespace Go.Proofs.Ytohemlejceiojaa
open Go.RowKit

/-- Texts, written one by one. -/
def putsT : List UInt8 → List ByteArray → List UInt8
  | l, [] => l
  | l, s :: r => putsT (addTo l s.data.toList) r

theorem putsT_in (l : List UInt8) (ss : List ByteArray) (k : Nat) (hk : k < ss.length) : putsT l (ss.drop k) = putsT (addTo l (ss.getD k ByteArray.empty).data.toList) (ss.drop (k + 1)) := by
  have e : ss.drop k = ss[k] :: ss.drop (k + 1) := List.drop_eq_getElem_cons hk
  have g : ss.getD k ByteArray.empty = ss[k] := by rw [List.getD_eq_getElem?_getD, List.getElem?_eq_getElem hk]; rfl
  rw [e, g]
  rfl

/-- Texts in a row of their own. -/
def TextRow (ss : List ByteArray) (r : Nat) (w : World) : Prop := ∃ cs : Array Value, w.heap[r]? = some (.cells cs 9 (0, 0)) ∧ ∀ i, i < ss.length → cs[i]? = some (.string (ss.getD i ByteArray.empty)) ∧ (ss.getD i ByteArray.empty).size ≤ 100000

theorem TextRow.at {ss : List ByteArray} {r base b : Nat} {w w' : World} (h : TextRow ss r w) (hk : Kp base b w w') (hr : r ≠ b) (i : Nat) (hi : i < ss.length) : w'.cell? ⟨r, i, none⟩ = some (.string (ss.getD i ByteArray.empty)) ∧ (ss.getD i ByteArray.empty).size ≤ 100000 := by
  obtain ⟨cs, h1, h2⟩ := h
  have h3 := hk.spare r cs _ h1 hr (by decide)
  refine ⟨?_, (h2 i hi).2⟩
  simp only [World.cell?, h3]
  exact (h2 i hi).1

set_option maxHeartbeats 1000000 in
theorem Text_any (base b r cap : Nat) (l : List UInt8) (ss : List ByteArray) (w : World) (h : Wr base b l w) (hl : l.length ≤ 65536) (hrow : TextRow ss r w) (hr : r ≠ b) (hss : ss.length ≤ 1000) :
    Calls Try.prog 12 #[.pointer (some ⟨b, 0, none⟩), .slice (some ⟨r, 0, none⟩) ss.length cap] w fun e w' =>
      e = .returned (.pointer (some ⟨b, 0, none⟩)) ∧ Wr base b (putsT l ss) w' ∧ Kp base b w w' := by
  obtain ⟨c0, f0, f1, ao, cp, c1⟩ := h.cell0
  have Hrow := Lib.hid hrow
  clear hrow
  go_enter Try.func12, Try.ntmps12
  go_wp2
  clear c0 f0 f1 c1
  go_loopw [19] (fun i wr => ∃ (k : Nat) (m : List UInt8), k ≤ ss.length ∧ i = .int .i64 k ∧ Wr base b m wr ∧ m.length ≤ 65536 ∧ putsT l ss = putsT m (ss.drop k) ∧ Kp base b w wr)
    (fun i _ => ss.length - (intOf i).toNat)
  case atStart => exact ⟨0, l, Nat.zero_le _, rfl, h, hl, by rw [List.drop_zero], Kp.refl _ _ _⟩
  case round =>
    obtain ⟨k, m, hk, rfl, hwr, hm, hp, hkp⟩ := hrel
    have Hp := Lib.hid hp
    clear hp
    by_cases hlt : k < ss.length
    · obtain ⟨hc, hn⟩ := Hrow.out.at hkp hr k hlt
      have Hq := Lib.hid (putsT_in m ss k hlt)
      generalize ss.getD k ByteArray.empty = t at *
      go_wp2_with fail
      refine (add_any base b m t _ hwr hm hn).mono ?_
      rintro e w2 ⟨rfl, hw2, hk2⟩
      go_wp2
      go_roundw
      case rel => exact ⟨k + 1, addTo m t.data.toList, by omega, by go_num, hw2, addTo_le _ _ hm, by rw [Hp.out, Hq.out], hkp.trans hk2⟩
      case measure => simp [intOf]; omega
    · have hd : ss.drop k = [] := List.drop_eq_nil_of_le (by omega)
      have Hd := Lib.hid hd
      clear hd
      go_wp2
      go_ret
      exact ⟨rfl, by rw [Hp.out, Hd.out]; exact hwr, hkp⟩

set_option maxHeartbeats 400000 in
theorem Text_bad (base b : Nat) (v : Value) (w : World) (h : Bad base b w) :
    Calls Try.prog 12 #[.pointer (some ⟨b, 0, none⟩), v] w fun e w' => e = .returned (.pointer (some ⟨b, 0, none⟩)) ∧ w = w' := by
  have c0 : w.cell? ⟨b, 0, none⟩ = some (.bool true) := by simp [World.cell?, h.cells]
  go_enter Try.func12, Try.ntmps12
  go_wp2
  go_ret
  exact ⟨rfl, rfl⟩

set_option maxHeartbeats 400000 in
theorem Text_nil (v : Value) (w : World) :
    Calls Try.prog 12 #[.pointer none, v] w fun e w' => e = .returned (.pointer none) ∧ w = w' := by
  go_enter Try.func12, Try.ntmps12
  go_wp2
  go_ret
  exact ⟨rfl, rfl⟩

theorem IntRow.new (n : Int) (W : World) (r : Nat) (hr : r = W.heap.size) : IntRow [n] r (W.alloc (.cells #[.int .i64 n] 3)) :=
  ⟨_, by rw [hr]; exact heap_alloc_new W _, fun i hi => by
    match i, hi with
    | 0, _ => rfl⟩

theorem WordRow.new (n : Nat) (W : World) (r : Nat) (hr : r = W.heap.size) (hn : n < 4294967296) : WordRow [n] r (W.alloc (.cells #[.int .u32 n] 22)) :=
  ⟨_, by rw [hr]; exact heap_alloc_new W _, fun i hi => by
    match i, hi with
    | 0, _ => exact ⟨rfl, hn⟩⟩

theorem TextRow.new (s : ByteArray) (W : World) (r : Nat) (hr : r = W.heap.size) (hs : s.size ≤ 100000) : TextRow [s] r (W.alloc (.cells #[.string s] 9)) :=
  ⟨_, by rw [hr]; exact heap_alloc_new W _, fun i hi => by
    match i, hi with
    | 0, _ => exact ⟨rfl, hs⟩⟩

theorem addTo_small (l s : List UInt8) (h : l.length + s.length ≤ 65536) : addTo l s = l ++ s := by
  unfold addTo; rw [List.take_of_length_le (by omega)]

theorem puts1_one (l : List UInt8) (n : Nat) (h : l.length ≤ 10000) (hn : n ≤ 255) : puts be1 255 l [(n : Int)] = some (l ++ be1 n) := by
  simp only [puts]
  rw [if_pos (by omega), addTo_small _ _ (by simp [be1]; omega)]
  simp

theorem puts2_one (l : List UInt8) (n : Nat) (h : l.length ≤ 10000) (hn : n ≤ 65535) : puts be2 65535 l [(n : Int)] = some (l ++ be2 n) := by
  simp only [puts]
  rw [if_pos (by omega), addTo_small _ _ (by simp [be2]; omega)]
  simp

/-- One number to a writer that is there: one byte. -/
theorem Byte_one (base b : Nat) (l : List UInt8) (n : Nat) (W : World) (h : Wr base b l W) (hl : l.length ≤ 10000) (hn : n ≤ 255) (r : Nat) (hr : r = W.heap.size) :
    Calls Try.prog 28 #[.pointer (some ⟨b, 0, none⟩), .slice (some ⟨r, 0, none⟩) 1 1] (W.alloc (.cells #[.int .i64 n] 3)) fun e w' =>
      e = .returned (.pointer (some ⟨b, 0, none⟩)) ∧ Wr base b (l ++ be1 n) w' ∧ Below base W w' := by
  refine (Byte_any base b r 1 l [(n : Int)] _ (h.alloc _) (by omega) (IntRow.new _ W r hr) (by have := h.lt; omega) (by simp)).mono ?_
  rintro e w' ⟨he, ha, hk⟩
  rw [puts1_one l n hl hn] at ha
  exact ⟨he, ha.1, ((Below.refl _ _).alloc (by have := h.lt; have := h.low; omega) _).trans hk.below⟩

theorem Short_one (base b : Nat) (l : List UInt8) (n : Nat) (W : World) (h : Wr base b l W) (hl : l.length ≤ 10000) (hn : n ≤ 65535) (r : Nat) (hr : r = W.heap.size) :
    Calls Try.prog 13 #[.pointer (some ⟨b, 0, none⟩), .slice (some ⟨r, 0, none⟩) 1 1] (W.alloc (.cells #[.int .i64 n] 3)) fun e w' =>
      e = .returned (.pointer (some ⟨b, 0, none⟩)) ∧ Wr base b (l ++ be2 n) w' ∧ Below base W w' := by
  refine (Short_any base b r 1 l [(n : Int)] _ (h.alloc _) (by omega) (IntRow.new _ W r hr) (by have := h.lt; omega) (by simp)).mono ?_
  rintro e w' ⟨he, ha, hk⟩
  rw [puts2_one l n hl hn] at ha
  exact ⟨he, ha.1, ((Below.refl _ _).alloc (by have := h.lt; have := h.low; omega) _).trans hk.below⟩

theorem Word_one (base b : Nat) (l : List UInt8) (n : Nat) (W : World) (h : Wr base b l W) (hl : l.length ≤ 10000) (hn : n < 4294967296) (r : Nat) (hr : r = W.heap.size) :
    Calls Try.prog 24 #[.pointer (some ⟨b, 0, none⟩), .slice (some ⟨r, 0, none⟩) 1 1] (W.alloc (.cells #[.int .u32 n] 22)) fun e w' =>
      e = .returned (.pointer (some ⟨b, 0, none⟩)) ∧ Wr base b (l ++ word n) w' ∧ Below base W w' := by
  refine (Word_any base b r 1 l [n] _ (h.alloc _) (by omega) (WordRow.new _ W r hr hn) (by have := h.lt; omega) (by simp)).mono ?_
  rintro e w' ⟨he, ha, hk⟩
  have e1 : putsW l [n] = l ++ word n := by simp only [putsW]; exact addTo_small _ _ (by show l.length + 4 ≤ 65536; omega)
  rw [e1] at ha
  exact ⟨he, ha, ((Below.refl _ _).alloc (by have := h.lt; have := h.low; omega) _).trans hk.below⟩

theorem Text_one (base b : Nat) (l : List UInt8) (s : ByteArray) (W : World) (h : Wr base b l W) (hl : l.length ≤ 65536) (hs : s.size ≤ 100000) (r : Nat) (hr : r = W.heap.size) :
    Calls Try.prog 12 #[.pointer (some ⟨b, 0, none⟩), .slice (some ⟨r, 0, none⟩) 1 1] (W.alloc (.cells #[.string s] 9)) fun e w' =>
      e = .returned (.pointer (some ⟨b, 0, none⟩)) ∧ Wr base b (addTo l s.data.toList) w' ∧ Below base W w' := by
  refine (Text_any base b r 1 l [s] _ (h.alloc _) hl (TextRow.new _ W r hr hs) (by have := h.lt; omega) (by simp)).mono ?_
  rintro e w' ⟨he, ha, hk⟩
  exact ⟨he, ha, ((Below.refl _ _).alloc (by have := h.lt; have := h.low; omega) _).trans hk.below⟩

theorem below_then {B : Nat} {w w1 w2 : World} (h : Below B w w1 ∧ B ≤ w1.heap.size) (hb : Below w1.heap.size w1 w2) : Below B w w2 ∧ B ≤ w2.heap.size :=
  ⟨h.1.trans (hb.mono h.2), Nat.le_trans h.2 hb.size⟩

theorem below_start (w : World) : Below w.heap.size w w ∧ w.heap.size ≤ w.heap.size := ⟨Below.refl _ _, Nat.le_refl _⟩

theorem ex_bytes : (⟨([] ++ be1 1 ++ be2 258).toArray⟩ : ByteArray) = ⟨#[1, 1, 2]⟩ := by decide

end Go.Proofs.Ytohemlejceiojaa
