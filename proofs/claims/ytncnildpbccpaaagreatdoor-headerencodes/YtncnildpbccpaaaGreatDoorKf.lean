/- The walk of what writes one option. -/
import Derived.Test.YtncnildpbccpaaaGreatDoorKe
import Derived.Test.YtncnildpbccpaaaGreatDoorKa
import Derived.Deep.RegionWith
import Derived.Deep.DeepCutAuto
import Derived.IntWalk
set_option maxRecDepth 100000
namespace Go.Proofs.YtncnildpbccpaaaGreatDoor
open Go.RowKit

theorem IntRow.alloc {zs : List Int} {r : Nat} {w : World} (h : IntRow zs r w) (o : Obj) : IntRow zs r (w.alloc o) := by
  obtain ⟨cs, h1, h2⟩ := h
  exact ⟨cs, (Below.heap_alloc w o r (lt_of_block h1)).trans h1, h2⟩

theorem TextRow.alloc {ss : List ByteArray} {r : Nat} {w : World} (h : TextRow ss r w) (o : Obj) : TextRow ss r (w.alloc o) := by
  obtain ⟨cs, h1, h2⟩ := h
  exact ⟨cs, (Below.heap_alloc w o r (lt_of_block h1)).trans h1, h2⟩

theorem TextRow.kept {ss : List ByteArray} {r base b : Nat} {w w' : World} (h : TextRow ss r w) (hk : Kp base b w w') (hr : r ≠ b) : TextRow ss r w' := by
  obtain ⟨cs, h1, h2⟩ := h
  exact ⟨cs, hk.spare r cs _ h1 hr (by decide), h2⟩

theorem TextRow.lt {ss : List ByteArray} {r : Nat} {w : World} (h : TextRow ss r w) : r < w.heap.size := by
  obtain ⟨cs, h1, _⟩ := h
  exact lt_of_block h1

theorem Wr.draw {base b : Nat} {l : List UInt8} {w : World} (h : Wr base b l w) : Wr base b l w.drew := ⟨h.low, h.cells⟩
theorem IntRow.draw {zs : List Int} {r : Nat} {w : World} (h : IntRow zs r w) : IntRow zs r w.drew := h
theorem TextRow.draw {ss : List ByteArray} {r : Nat} {w : World} (h : TextRow ss r w) : TextRow ss r w.drew := h

/-- An option in a block of its own. -/
def At (N : Nat) (k : Int) (d : ByteArray) (w : World) : Prop := w.heap[N]? = some (.cells #[.int .i64 k, .string d] 56 (0, 0))
theorem At.alloc {N : Nat} {k : Int} {d : ByteArray} {w : World} (h : At N k d w) (o : Obj) : At N k d (w.alloc o) := (Below.heap_alloc w o N (lt_of_block h)).trans h
theorem At.draw {N : Nat} {k : Int} {d : ByteArray} {w : World} (h : At N k d w) : At N k d w.drew := h
theorem At.kept {N : Nat} {k : Int} {d : ByteArray} {base b : Nat} {w w' : World} (h : At N k d w) (hk : Kp base b w w') (hN : N ≠ b) : At N k d w' := hk.spare N _ _ h hN (by decide)
theorem At.text {N : Nat} {k : Int} {d : ByteArray} {w : World} (h : At N k d w) : w.cell? ⟨N, 1, none⟩ = some (.string d) := by unfold At at h; simp [World.cell?, h]
theorem At.kind {N : Nat} {k : Int} {d : ByteArray} {w : World} (h : At N k d w) : w.cell? ⟨N, 0, none⟩ = some (.int .i64 k) := by unfold At at h; simp [World.cell?, h]
theorem At.lt {N : Nat} {k : Int} {d : ByteArray} {w : World} (h : At N k d w) : N < w.heap.size := lt_of_block h
theorem Below.draw' {base : Nat} {w w' : World} (h : Below base w w') : Below base w w'.drew := h.drew

theorem puts1_byte (l : List UInt8) (n : Nat) (z : Int) (hz : z = (n : Int)) (h : l.length ≤ 10000) (hn : n ≤ 255) : puts be1 255 l [z] = some (l ++ be1 n) := by
  subst hz
  exact puts1_one l n h hn

/-- One byte, wherever its row lies. -/
theorem byte_put (base b r : Nat) (l : List UInt8) (n : Nat) (z : Int) (w : World) (h : Wr base b l w) (hl : l.length ≤ 10000) (hz : z = (n : Int)) (hn : n ≤ 255) (hrow : IntRow [z] r w) (hr : r ≠ b) :
    Calls Tryz.prog 15 #[.pointer (some ⟨b, 0, none⟩), .slice (some ⟨r, 0, none⟩) 1 1] w fun e w' =>
      e = .returned (.pointer (some ⟨b, 0, none⟩)) ∧ Wr base b (l ++ be1 n) w' ∧ Kp base b w w' := by
  refine (Byte_any base b r 1 l [z] w h (by omega) hrow hr (by simp)).mono ?_
  rintro e w' ⟨he, ha, hk⟩
  rw [puts1_byte l n z hz hl hn] at ha
  exact ⟨he, ha.1, hk⟩

theorem text_put (base b r : Nat) (l : List UInt8) (s : ByteArray) (w : World) (h : Wr base b l w) (hl : l.length ≤ 10000) (hs : s.size ≤ 50000) (hrow : TextRow [s] r w) (hr : r ≠ b) :
    Calls Tryz.prog 19 #[.pointer (some ⟨b, 0, none⟩), .slice (some ⟨r, 0, none⟩) 1 1] w fun e w' =>
      e = .returned (.pointer (some ⟨b, 0, none⟩)) ∧ Wr base b (l ++ s.data.toList) w' ∧ Kp base b w w' := by
  refine (Text_any base b r 1 l [s] w h (by omega) hrow hr (by simp)).mono ?_
  rintro e w' ⟨he, ha, hk⟩
  have e1 : putsT l [s] = l ++ s.data.toList := by
    simp only [putsT]
    exact addTo_small _ _ (by rw [Array.length_toList]; show l.length + s.size ≤ 65536; omega)
  rw [e1] at ha
  exact ⟨he, ha, hk⟩

set_option maxHeartbeats 1000000 in
theorem write_one (base b : Nat) (m : List UInt8) (d : ByteArray) (w : World) (h : Wr base b m w) (hm : m.length ≤ 9000) :
    Calls Tryz.prog 33 #[.pointer (some ⟨b, 0, none⟩), .agg #[.int .i64 1, .string d]] w fun e w' => e = .returned (.tuple #[]) ∧ Wr base b (m ++ O.encOne ⟨1, d⟩) w' ∧ Below base w w' := by
  have hlt := h.lt
  have hlow := h.low
  have He := Lib.hid (show m ++ O.encOne ⟨1, d⟩ = m ++ be1 1 from rfl)
  rw [He.out]
  go_enter Tryz.func33, Tryz.ntmps33
  go_wp2_with fail
  refine (byte_put base b _ m 1 1 _ ((h.alloc _).alloc _) (by omega) rfl (by omega) (IntRow.new _ _ _ (by simp)) (by omega)).mono ?_
  rintro e w2 ⟨rfl, hw2, hk2⟩
  have hc : w2.cell? ⟨w.heap.size, 0, none⟩ = some (.int .i64 1) := by
    have h3 := hk2.spare w.heap.size _ _ ((Below.heap_alloc (w.alloc _) _ _ (by simp)).trans (heap_alloc_new w _)) (by omega) (by decide)
    simp only [World.cell?, h3]
    rfl
  have hb : Below base w w2 := (((Below.refl _ w).alloc (by omega) _).alloc (by simp; omega) _).trans hk2.below
  clear hk2
  go_wp2
  go_end0
  exact ⟨rfl, hw2, hb⟩

theorem encOne_long (k : Nat) (d : ByteArray) (h : (k : Int) ≠ 1) (m : List UInt8) : m ++ O.encOne ⟨(k : Int), d⟩ = m ++ be1 k ++ be1 (2 + d.size) ++ d.data.toList := by
  unfold O.encOne
  rw [if_neg h]
  simp [be1]

set_option maxHeartbeats 2000000 in
theorem write_long (base b : Nat) (m : List UInt8) (k : Nat) (d : ByteArray) (w : World) (h : Wr base b m w) (hm : m.length ≤ 9000) (hk2 : 2 ≤ k) (hk255 : k ≤ 255) (hd : d.size ≤ 38) :
    Calls Tryz.prog 33 #[.pointer (some ⟨b, 0, none⟩), .agg #[.int .i64 k, .string d]] w fun e w' => e = .returned (.tuple #[]) ∧ Wr base b (m ++ O.encOne ⟨(k : Int), d⟩) w' ∧ Below base w w' := by
  have hlt := h.lt
  have hlow := h.low
  have He := Lib.hid (encOne_long k d (by omega) m)
  rw [He.out]
  go_enter Tryz.func33, Tryz.ntmps33
  go_wp2_with fail
  refine (byte_put base b _ m k k _ ((h.alloc _).alloc _) (by omega) rfl (by omega) (IntRow.new _ _ _ (by simp)) (by omega)).mono ?_
  rintro e w2 ⟨rfl, hw2, hkp⟩
  have ha : At w.heap.size k d w2 := hkp.spare w.heap.size _ _ ((Below.heap_alloc (w.alloc _) _ _ (by simp)).trans (heap_alloc_new w _)) (by omega) (by decide)
  have hb : Below base w w2 := (((Below.refl _ w).alloc (by omega) _).alloc (by simp; omega) _).trans hkp.below
  have hsz := ha.lt
  clear hkp
  generalize hN : w.heap.size = N at *
  have hc0 := ha.kind
  have hc1 := ha.text
  have hw2l := hw2.lt
  clear hN
  have hwrap : IntKind.i64.wrap (2 + (d.size : Int)) = 2 + (d.size : Int) := IntWalk.i64_in _ (by omega)
  have hml : (m ++ be1 k).length ≤ 9001 := by rw [List.length_append]; show m.length + 1 ≤ 9001; omega
  have hml2 : (m ++ be1 k ++ be1 (2 + d.size)).length ≤ 9002 := by rw [List.length_append, List.length_append]; show m.length + 1 + 1 ≤ 9002; omega
  go_wp2
  go_region_with (first
    | ((go_at_call 15;
        refine (byte_put base b _ (m ++ be1 k) (2 + d.size) (2 + (d.size : Int)) _ (by first | exact (hw2.alloc _).draw | exact ((hw2.alloc _).alloc _).draw) (by omega) (by omega) (by omega) (by first | exact (IntRow.new _ _ _ (by simp)).draw | exact ((IntRow.new _ _ _ (by simp)).alloc _).draw) (by first | omega | (simp; omega))).mono ?_;
        rintro e w3 ⟨rfl, hw3, hk3⟩;
        have ha3 := (At.kept (N := N) (k := (k : Int)) (d := d) (by first | exact (ha.alloc _).draw | exact ((ha.alloc _).alloc _).draw) hk3 (by omega)).text;
        have hw3l := hw3.lt;
        have hb3 : Below base w w3 := (by first | exact ((hb.alloc (by omega) _).drew.trans hk3.below) | exact (((hb.alloc (by omega) _).alloc (by simp; omega) _).drew.trans hk3.below))))
    | ((go_at_call 19;
        refine (text_put base b _ (m ++ be1 k ++ be1 (2 + d.size)) d _ (by first | exact hw3 | exact hw3.alloc _) (by omega) (by omega) (by first | exact TextRow.new _ _ _ rfl (by omega) | exact TextRow.kept (by first | exact (TextRow.new _ _ _ (by simp) (by omega)).draw | exact ((TextRow.new _ _ _ (by simp) (by omega)).alloc _).draw) hk3 (by first | omega | (simp; omega))) (by first | omega | (simp; omega))).mono ?_;
        rintro e w4 ⟨rfl, hw4, hk4⟩;
        have hb4 : Below base w w4 := (by first | exact hb3.trans hk4.below | exact (hb3.alloc (by omega) _).trans hk4.below))))
  all_goals
    go_wp2
    go_end0
    exact ⟨rfl, hw4, hb4⟩

theorem write_any (base b : Nat) (m : List UInt8) (o : Opt) (w : World) (h : Wr base b m w) (hm : m.length ≤ 9000) (hr : O.right o = true) :
    Calls Tryz.prog 33 #[.pointer (some ⟨b, 0, none⟩), .agg #[.int .i64 o.kind, .string o.data]] w fun e w' => e = .returned (.tuple #[]) ∧ Wr base b (m ++ O.encOne o) w' ∧ Below base w w' := by
  obtain ⟨k, d⟩ := o
  by_cases h1 : k = 1
  · subst h1
    exact write_one base b m d w h hm
  · rw [right_n k d h1] at hr
    obtain ⟨h2, h3, h4⟩ := of_decide_eq_true hr
    obtain ⟨n, rfl⟩ := Int.eq_ofNat_of_zero_le (show 0 ≤ k by omega)
    exact write_long base b m n d w h hm (by omega) (by omega) h4
#print axioms write_any
end Go.Proofs.YtncnildpbccpaaaGreatDoor

