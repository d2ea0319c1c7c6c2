/- The walks of what a writer is handed one by one: bytes, shorts, words; and what it says at the end. -/
import Derived.Test.YtncnildpbccpaaaGreatDoorKd
import Derived.Test.YtncnildpbccpaaaGreatDoorKa
import Derived.BigRegion
import Derived.IntWalk
set_option maxRecDepth 100000
namespace Go.Proofs.YtncnildpbccpaaaGreatDoor
open Go.RowKit

/-- A writer behind a mistake. -/
structure Bad (base b : Nat) (w : World) : Prop where
  low : base ≤ b
  cells : w.heap[b]? = some (.cells #[.bool true, .slice none 0 0] 42 (0, 0))

/-- A writer: what it has written, or that it has failed. -/
def After (base b : Nat) (o : Option (List UInt8)) (w : World) : Prop :=
  match o with
  | none => Bad base b w
  | some l => Wr base b l w ∧ l.length ≤ 65536

theorem addTo_le (l s : List UInt8) (h : l.length ≤ 65536) : (addTo l s).length ≤ 65536 := by
  unfold addTo; rw [List.length_append, List.length_take]; omega

theorem pair_set0 {w : World} {b : Nat} {x y u : Value} {t : TypeId} (h : w.heap[b]? = some (.cells #[x, y] t (0, 0))) : (w.setCell ⟨b, 0, none⟩ u).heap[b]? = some (.cells #[u, y] t (0, 0)) := by
  have hlt := lt_of_block h
  have h' : w.heap[b] = .cells #[x, y] t (0, 0) := by simpa [Array.getElem?_eq_getElem hlt] using h
  show (w.heap.modify b _)[b]? = _
  rw [Array.getElem?_eq_getElem (by simpa using hlt), Array.getElem_modify_self, h']
  rfl

theorem pair_set1 {w : World} {b : Nat} {x y u : Value} {t : TypeId} (h : w.heap[b]? = some (.cells #[x, y] t (0, 0))) : (w.setCell ⟨b, 1, none⟩ u).heap[b]? = some (.cells #[x, u] t (0, 0)) := by
  have hlt := lt_of_block h
  have h' : w.heap[b] = .cells #[x, y] t (0, 0) := by simpa [Array.getElem?_eq_getElem hlt] using h
  show (w.heap.modify b _)[b]? = _
  rw [Array.getElem?_eq_getElem (by simpa using hlt), Array.getElem_modify_self, h']
  rfl

theorem Wr.fail {base b : Nat} {l : List UInt8} {w : World} (h : Wr base b l w) : Bad base b ((w.setCell ⟨b, 0, none⟩ (.bool true)).setCell ⟨b, 1, none⟩ (.slice none 0 0)) := by
  obtain ⟨hlow, ao, cap, hcell, _⟩ := h
  exact ⟨hlow, pair_set1 (pair_set0 hcell)⟩

theorem Kp.set2 {base b : Nat} {w : World} (hlow : base ≤ b) (u v : Value) : Kp base b w ((w.setCell ⟨b, 0, none⟩ u).setCell ⟨b, 1, none⟩ v) :=
  ⟨((Below.refl _ _).setCell hlow _).setCell hlow _, fun k _ _ h h1 _ => by rw [Below.heap_setCell _ _ _ _ h1, Below.heap_setCell _ _ _ _ h1]; exact h⟩

/-- Numbers of a kind, written one by one: what there is then, or a mistake. -/
def puts (be : Nat → List UInt8) (most : Int) : List UInt8 → List Int → Option (List UInt8)
  | l, [] => some l
  | l, n :: r => if 0 ≤ n ∧ n ≤ most then puts be most (addTo l (be n.toNat)) r else none

def be1 (n : Nat) : List UInt8 := [UInt8.ofNat n]
def be2 (n : Nat) : List UInt8 := [UInt8.ofNat (n / 256), UInt8.ofNat n]

theorem puts_in (be : Nat → List UInt8) (most : Int) (l : List UInt8) (zs : List Int) (k : Nat) (hk : k < zs.length) (h : 0 ≤ zs.getD k 0 ∧ zs.getD k 0 ≤ most) :
    puts be most l (zs.drop k) = puts be most (addTo l (be (zs.getD k 0).toNat)) (zs.drop (k + 1)) := by
  have e : zs.drop k = zs[k] :: zs.drop (k + 1) := List.drop_eq_getElem_cons hk
  have g : zs.getD k 0 = zs[k] := by rw [List.getD_eq_getElem?_getD, List.getElem?_eq_getElem hk]; rfl
  rw [e, g]
  rw [g] at h
  simp only [puts]
  rw [if_pos h]

theorem puts_out (be : Nat → List UInt8) (most : Int) (l : List UInt8) (zs : List Int) (k : Nat) (hk : k < zs.length) (h : ¬ (0 ≤ zs.getD k 0 ∧ zs.getD k 0 ≤ most)) :
    puts be most l (zs.drop k) = none := by
  have e : zs.drop k = zs[k] :: zs.drop (k + 1) := List.drop_eq_getElem_cons hk
  have g : zs.getD k 0 = zs[k] := by rw [List.getD_eq_getElem?_getD, List.getElem?_eq_getElem hk]; rfl
  rw [e]
  rw [g] at h
  simp only [puts]
  rw [if_neg h]

/-- Numbers in a row of their own. -/
def IntRow (zs : List Int) (r : Nat) (w : World) : Prop := ∃ cs : Array Value, w.heap[r]? = some (.cells cs 3 (0, 0)) ∧ ∀ i, i < zs.length → cs[i]? = some (.int .i64 (zs.getD i 0))

theorem IntRow.at {zs : List Int} {r base b : Nat} {w w' : World} (h : IntRow zs r w) (hk : Kp base b w w') (hr : r ≠ b) (i : Nat) (hi : i < zs.length) : w'.cell? ⟨r, i, none⟩ = some (.int .i64 (zs.getD i 0)) := by
  obtain ⟨cs, h1, h2⟩ := h
  have h3 := hk.spare r cs _ h1 hr (by decide)
  simp only [World.cell?, h3]
  exact h2 i hi

theorem Wr.cell0 {base b : Nat} {l : List UInt8} {w : World} (h : Wr base b l w) : w.cell? ⟨b, 0, none⟩ = some (.bool false) ∧ w.frozen? ⟨b, 0, none⟩ = false ∧ w.frozen? ⟨b, 1, none⟩ = false ∧ ∃ ao cap, w.cell? ⟨b, 1, none⟩ = some (.slice ao l.length cap) := by
  obtain ⟨_, ao, cap, hcell, _⟩ := h
  exact ⟨by simp [World.cell?, hcell], by simp [World.frozen?, hcell], by simp [World.frozen?, hcell], ao, cap, by simp [World.cell?, hcell]⟩

set_option maxHeartbeats 2000000 in
theorem numbers_1 (base b r cap : Nat) (l : List UInt8) (zs : List Int) (w : World) (h : Wr base b l w) (hl : l.length ≤ 65536) (hrow : IntRow zs r w) (hr : r ≠ b) (hzs : zs.length ≤ 1000) :
    Calls Tryz.prog 35 #[.pointer (some ⟨b, 0, none⟩), .int .i64 1, .int .i64 255, .slice (some ⟨r, 0, none⟩) zs.length cap] w fun e w' =>
      e = .returned (.pointer (some ⟨b, 0, none⟩)) ∧ After base b (puts be1 255 l zs) w' ∧ Kp base b w w' := by
  obtain ⟨c0, f0, f1, ao, cp, c1⟩ := h.cell0
  have Hrow := Lib.hid hrow
  clear hrow
  go_enter Tryz.func35, Tryz.ntmps35
  go_wp2
  clear c0 f0 f1 c1
  go_loopw [23] (fun i wr => ∃ (k : Nat) (m : List UInt8), k ≤ zs.length ∧ i = .int .i64 k ∧ Wr base b m wr ∧ m.length ≤ 65536 ∧ puts be1 255 l zs = puts be1 255 m (zs.drop k) ∧ Kp base b w wr)
    (fun i _ => zs.length - (intOf i).toNat)
  case atStart => exact ⟨0, l, Nat.zero_le _, rfl, h, hl, by rw [List.drop_zero], Kp.refl _ _ _⟩
  case round =>
    obtain ⟨k, m, hk, rfl, hwr, hm, hp, hkp⟩ := hrel
    have Hp := Lib.hid hp
    clear hp
    by_cases hlt : k < zs.length
    · have hc := Hrow.out.at hkp hr k hlt
      by_cases hin : 0 ≤ zs.getD k 0 ∧ zs.getD k 0 ≤ 255
      · have Hq := Lib.hid (puts_in be1 255 m zs k hlt hin)
        obtain ⟨n, hn⟩ := Int.eq_ofNat_of_zero_le hin.1
        rw [hn] at hc hin
        have Hn := Lib.hid hn
        clear hn
        have hn1 : n ≤ 255 := by omega
        clear hin
        go_wp2_with fail
        refine (number_1 base b m n _ hwr hm (by omega)).mono ?_
        rintro e w2 ⟨rfl, hw2, hk2⟩
        go_wp2
        go_roundw
        case rel => exact ⟨k + 1, addTo m (be1 n), by omega, by go_num, hw2, addTo_le _ _ hm, by rw [Hp.out, Hq.out, Hn.out]; rfl, hkp.trans hk2⟩
        case measure => simp [intOf]; omega
      · have Hq := Lib.hid (puts_out be1 255 m zs k hlt hin)
        obtain ⟨d0, g0, g1, ao, cp, d1⟩ := hwr.cell0
        generalize hz : zs.getD k 0 = z at *
        have Hz := Lib.hid hz
        clear hz
        by_cases hneg : z < 0
        · clear hin
          go_wp2
          all_goals first
            | go_end0
            | skip
          go_wp2
          go_ret
          exact ⟨rfl, by rw [Hp.out, Hq.out]; exact hwr.fail, hkp.trans (Kp.set2 hwr.low _ _)⟩
        · have hbig : 255 < z := by omega
          clear hin
          go_wp2
          all_goals first
            | go_end0
            | skip
          go_wp2
          go_ret
          exact ⟨rfl, by rw [Hp.out, Hq.out]; exact hwr.fail, hkp.trans (Kp.set2 hwr.low _ _)⟩
    · have hd : zs.drop k = [] := List.drop_eq_nil_of_le (by omega)
      have Hd := Lib.hid hd
      clear hd
      go_wp2
      go_ret
      exact ⟨rfl, by rw [Hp.out, Hd.out]; exact ⟨hwr, hm⟩, hkp⟩

set_option maxHeartbeats 400000 in
theorem numbers_1_bad (base b : Nat) (v : Value) (w : World) (h : Bad base b w) :
    Calls Tryz.prog 35 #[.pointer (some ⟨b, 0, none⟩), .int .i64 1, .int .i64 255, v] w fun e w' => e = .returned (.pointer (some ⟨b, 0, none⟩)) ∧ w = w' := by
  have c0 : w.cell? ⟨b, 0, none⟩ = some (.bool true) := by simp [World.cell?, h.cells]
  go_enter Tryz.func35, Tryz.ntmps35
  go_wp2
  go_ret
  exact ⟨rfl, rfl⟩

set_option maxHeartbeats 400000 in
theorem numbers_1_nil (v : Value) (w : World) :
    Calls Tryz.prog 35 #[.pointer none, .int .i64 1, .int .i64 255, v] w fun e w' => e = .returned (.pointer none) ∧ w = w' := by
  go_enter Tryz.func35, Tryz.ntmps35
  go_wp2
  go_ret
  exact ⟨rfl, rfl⟩

set_option maxHeartbeats 2000000 in
theorem numbers_2 (base b r cap : Nat) (l : List UInt8) (zs : List Int) (w : World) (h : Wr base b l w) (hl : l.length ≤ 65536) (hrow : IntRow zs r w) (hr : r ≠ b) (hzs : zs.length ≤ 1000) :
    Calls Tryz.prog 35 #[.pointer (some ⟨b, 0, none⟩), .int .i64 2, .int .i64 65535, .slice (some ⟨r, 0, none⟩) zs.length cap] w fun e w' =>
      e = .returned (.pointer (some ⟨b, 0, none⟩)) ∧ After base b (puts be2 65535 l zs) w' ∧ Kp base b w w' := by
  obtain ⟨c0, f0, f1, ao, cp, c1⟩ := h.cell0
  have Hrow := Lib.hid hrow
  clear hrow
  go_enter Tryz.func35, Tryz.ntmps35
  go_wp2
  clear c0 f0 f1 c1
  go_loopw [23] (fun i wr => ∃ (k : Nat) (m : List UInt8), k ≤ zs.length ∧ i = .int .i64 k ∧ Wr base b m wr ∧ m.length ≤ 65536 ∧ puts be2 65535 l zs = puts be2 65535 m (zs.drop k) ∧ Kp base b w wr)
    (fun i _ => zs.length - (intOf i).toNat)
  case atStart => exact ⟨0, l, Nat.zero_le _, rfl, h, hl, by rw [List.drop_zero], Kp.refl _ _ _⟩
  case round =>
    obtain ⟨k, m, hk, rfl, hwr, hm, hp, hkp⟩ := hrel
    have Hp := Lib.hid hp
    clear hp
    by_cases hlt : k < zs.length
    · have hc := Hrow.out.at hkp hr k hlt
      by_cases hin : 0 ≤ zs.getD k 0 ∧ zs.getD k 0 ≤ 65535
      · have Hq := Lib.hid (puts_in be2 65535 m zs k hlt hin)
        obtain ⟨n, hn⟩ := Int.eq_ofNat_of_zero_le hin.1
        rw [hn] at hc hin
        have Hn := Lib.hid hn
        clear hn
        have hn1 : n ≤ 65535 := by omega
        clear hin
        go_wp2_with fail
        refine (number_2 base b m n _ hwr hm (by omega)).mono ?_
        rintro e w2 ⟨rfl, hw2, hk2⟩
        go_wp2
        go_roundw
        case rel => exact ⟨k + 1, addTo m (be2 n), by omega, by go_num, hw2, addTo_le _ _ hm, by rw [Hp.out, Hq.out, Hn.out]; rfl, hkp.trans hk2⟩
        case measure => simp [intOf]; omega
      · have Hq := Lib.hid (puts_out be2 65535 m zs k hlt hin)
        obtain ⟨d0, g0, g1, ao, cp, d1⟩ := hwr.cell0
        generalize hz : zs.getD k 0 = z at *
        have Hz := Lib.hid hz
        clear hz
        by_cases hneg : z < 0
        · clear hin
          go_wp2
          all_goals first
            | go_end0
            | skip
          go_wp2
          go_ret
          exact ⟨rfl, by rw [Hp.out, Hq.out]; exact hwr.fail, hkp.trans (Kp.set2 hwr.low _ _)⟩
        · have hbig : 65535 < z := by omega
          clear hin
          go_wp2
          all_goals first
            | go_end0
            | skip
          go_wp2
          go_ret
          exact ⟨rfl, by rw [Hp.out, Hq.out]; exact hwr.fail, hkp.trans (Kp.set2 hwr.low _ _)⟩
    · have hd : zs.drop k = [] := List.drop_eq_nil_of_le (by omega)
      have Hd := Lib.hid hd
      clear hd
      go_wp2
      go_ret
      exact ⟨rfl, by rw [Hp.out, Hd.out]; exact ⟨hwr, hm⟩, hkp⟩

set_option maxHeartbeats 400000 in
theorem numbers_2_bad (base b : Nat) (v : Value) (w : World) (h : Bad base b w) :
    Calls Tryz.prog 35 #[.pointer (some ⟨b, 0, none⟩), .int .i64 2, .int .i64 65535, v] w fun e w' => e = .returned (.pointer (some ⟨b, 0, none⟩)) ∧ w = w' := by
  have c0 : w.cell? ⟨b, 0, none⟩ = some (.bool true) := by simp [World.cell?, h.cells]
  go_enter Tryz.func35, Tryz.ntmps35
  go_wp2
  go_ret
  exact ⟨rfl, rfl⟩

set_option maxHeartbeats 400000 in
theorem numbers_2_nil (v : Value) (w : World) :
    Calls Tryz.prog 35 #[.pointer none, .int .i64 2, .int .i64 65535, v] w fun e w' => e = .returned (.pointer none) ∧ w = w' := by
  go_enter Tryz.func35, Tryz.ntmps35
  go_wp2
  go_ret
  exact ⟨rfl, rfl⟩

set_option maxHeartbeats 400000 in
theorem Byte_any (base b r cap : Nat) (l : List UInt8) (zs : List Int) (w : World) (h : Wr base b l w) (hl : l.length ≤ 65536) (hrow : IntRow zs r w) (hr : r ≠ b) (hzs : zs.length ≤ 1000) :
    Calls Tryz.prog 15 #[.pointer (some ⟨b, 0, none⟩), .slice (some ⟨r, 0, none⟩) zs.length cap] w fun e w' =>
      e = .returned (.pointer (some ⟨b, 0, none⟩)) ∧ After base b (puts be1 255 l zs) w' ∧ Kp base b w w' := by
  have H := Lib.hid (numbers_1 base b r cap l zs w h hl hrow hr hzs)
  clear h hrow
  go_enter Tryz.func15, Tryz.ntmps15
  go_wp2_with fail
  refine H.out.mono ?_
  rintro e w1 ⟨rfl, h1, h2⟩
  go_wp2
  go_ret
  exact ⟨rfl, h1, h2⟩

set_option maxHeartbeats 400000 in
theorem Byte_bad (base b : Nat) (v : Value) (w : World) (h : Bad base b w) :
    Calls Tryz.prog 15 #[.pointer (some ⟨b, 0, none⟩), v] w fun e w' => e = .returned (.pointer (some ⟨b, 0, none⟩)) ∧ w = w' := by
  go_enter Tryz.func15, Tryz.ntmps15
  go_wp2_with fail
  refine (numbers_1_bad base b v w h).mono ?_
  rintro e w1 ⟨rfl, rfl⟩
  go_wp2
  go_ret
  exact ⟨rfl, rfl⟩

set_option maxHeartbeats 400000 in
theorem Byte_nil (v : Value) (w : World) :
    Calls Tryz.prog 15 #[.pointer none, v] w fun e w' => e = .returned (.pointer none) ∧ w = w' := by
  go_enter Tryz.func15, Tryz.ntmps15
  go_wp2_with fail
  refine (numbers_1_nil v w).mono ?_
  rintro e w1 ⟨rfl, rfl⟩
  go_wp2
  go_ret
  exact ⟨rfl, rfl⟩

set_option maxHeartbeats 400000 in
theorem Short_any (base b r cap : Nat) (l : List UInt8) (zs : List Int) (w : World) (h : Wr base b l w) (hl : l.length ≤ 65536) (hrow : IntRow zs r w) (hr : r ≠ b) (hzs : zs.length ≤ 1000) :
    Calls Tryz.prog 16 #[.pointer (some ⟨b, 0, none⟩), .slice (some ⟨r, 0, none⟩) zs.length cap] w fun e w' =>
      e = .returned (.pointer (some ⟨b, 0, none⟩)) ∧ After base b (puts be2 65535 l zs) w' ∧ Kp base b w w' := by
  have H := Lib.hid (numbers_2 base b r cap l zs w h hl hrow hr hzs)
  clear h hrow
  go_enter Tryz.func16, Tryz.ntmps16
  go_wp2_with fail
  refine H.out.mono ?_
  rintro e w1 ⟨rfl, h1, h2⟩
  go_wp2
  go_ret
  exact ⟨rfl, h1, h2⟩

set_option maxHeartbeats 400000 in
theorem Short_bad (base b : Nat) (v : Value) (w : World) (h : Bad base b w) :
    Calls Tryz.prog 16 #[.pointer (some ⟨b, 0, none⟩), v] w fun e w' => e = .returned (.pointer (some ⟨b, 0, none⟩)) ∧ w = w' := by
  go_enter Tryz.func16, Tryz.ntmps16
  go_wp2_with fail
  refine (numbers_2_bad base b v w h).mono ?_
  rintro e w1 ⟨rfl, rfl⟩
  go_wp2
  go_ret
  exact ⟨rfl, rfl⟩

set_option maxHeartbeats 400000 in
theorem Short_nil (v : Value) (w : World) :
    Calls Tryz.prog 16 #[.pointer none, v] w fun e w' => e = .returned (.pointer none) ∧ w = w' := by
  go_enter Tryz.func16, Tryz.ntmps16
  go_wp2_with fail
  refine (numbers_2_nil v w).mono ?_
  rintro e w1 ⟨rfl, rfl⟩
  go_wp2
  go_ret
  exact ⟨rfl, rfl⟩

#print axioms numbers_2
end Go.Proofs.YtncnildpbccpaaaGreatDoor

namespace Go.Proofs.YtncnildpbccpaaaGreatDoor
open Go.RowKit

/-- Words, written one by one. -/
def putsW : List UInt8 → List Nat → List UInt8
  | l, [] => l
  | l, n :: r => putsW (addTo l (word n)) r

theorem putsW_le (l : List UInt8) (ns : List Nat) (h : l.length ≤ 65536) : (putsW l ns).length ≤ 65536 := by
  induction ns generalizing l with
  | nil => exact h
  | cons n r ih => exact ih _ (addTo_le _ _ h)

theorem putsW_in (l : List UInt8) (ns : List Nat) (k : Nat) (hk : k < ns.length) : putsW l (ns.drop k) = putsW (addTo l (word (ns.getD k 0))) (ns.drop (k + 1)) := by
  have e : ns.drop k = ns[k] :: ns.drop (k + 1) := List.drop_eq_getElem_cons hk
  have g : ns.getD k 0 = ns[k] := by rw [List.getD_eq_getElem?_getD, List.getElem?_eq_getElem hk]; rfl
  rw [e, g]
  rfl

/-- Words in a row of their own. -/
def WordRow (ns : List Nat) (r : Nat) (w : World) : Prop := ∃ cs : Array Value, w.heap[r]? = some (.cells cs 22 (0, 0)) ∧ ∀ i, i < ns.length → cs[i]? = some (.int .u32 (ns.getD i 0 : Int)) ∧ ns.getD i 0 < 4294967296

theorem WordRow.at {ns : List Nat} {r base b : Nat} {w w' : World} (h : WordRow ns r w) (hk : Kp base b w w') (hr : r ≠ b) (i : Nat) (hi : i < ns.length) : w'.cell? ⟨r, i, none⟩ = some (.int .u32 (ns.getD i 0 : Int)) ∧ ns.getD i 0 < 4294967296 := by
  obtain ⟨cs, h1, h2⟩ := h
  have h3 := hk.spare r cs _ h1 hr (by decide)
  refine ⟨?_, (h2 i hi).2⟩
  simp only [World.cell?, h3]
  exact (h2 i hi).1

set_option maxHeartbeats 1000000 in
theorem Word_any (base b r cap : Nat) (l : List UInt8) (ns : List Nat) (w : World) (h : Wr base b l w) (hl : l.length ≤ 65536) (hrow : WordRow ns r w) (hr : r ≠ b) (hns : ns.length ≤ 1000) :
    Calls Tryz.prog 18 #[.pointer (some ⟨b, 0, none⟩), .slice (some ⟨r, 0, none⟩) ns.length cap] w fun e w' =>
      e = .returned (.pointer (some ⟨b, 0, none⟩)) ∧ Wr base b (putsW l ns) w' ∧ Kp base b w w' := by
  obtain ⟨c0, f0, f1, ao, cp, c1⟩ := h.cell0
  have Hrow := Lib.hid hrow
  clear hrow
  go_enter Tryz.func18, Tryz.ntmps18
  go_wp2
  clear c0 f0 f1 c1
  go_loopw [19] (fun i wr => ∃ (k : Nat) (m : List UInt8), k ≤ ns.length ∧ i = .int .i64 k ∧ Wr base b m wr ∧ m.length ≤ 65536 ∧ putsW l ns = putsW m (ns.drop k) ∧ Kp base b w wr)
    (fun i _ => ns.length - (intOf i).toNat)
  case atStart => exact ⟨0, l, Nat.zero_le _, rfl, h, hl, by rw [List.drop_zero], Kp.refl _ _ _⟩
  case round =>
    obtain ⟨k, m, hk, rfl, hwr, hm, hp, hkp⟩ := hrel
    have Hp := Lib.hid hp
    clear hp
    by_cases hlt : k < ns.length
    · obtain ⟨hc, hn⟩ := Hrow.out.at hkp hr k hlt
      have Hq := Lib.hid (putsW_in m ns k hlt)
      generalize ns.getD k 0 = n at *
      go_wp2_with fail
      refine (number_4 base b m n _ hwr hm hn).mono ?_
      rintro e w2 ⟨rfl, hw2, hk2⟩
      go_wp2
      go_roundw
      case rel => exact ⟨k + 1, addTo m (word n), by omega, by go_num, hw2, addTo_le _ _ hm, by rw [Hp.out, Hq.out], hkp.trans hk2⟩
      case measure => simp [intOf]; omega
    · have hd : ns.drop k = [] := List.drop_eq_nil_of_le (by omega)
      have Hd := Lib.hid hd
      clear hd
      go_wp2
      go_ret
      exact ⟨rfl, by rw [Hp.out, Hd.out]; exact hwr, hkp⟩

set_option maxHeartbeats 400000 in
theorem Word_bad (base b : Nat) (v : Value) (w : World) (h : Bad base b w) :
    Calls Tryz.prog 18 #[.pointer (some ⟨b, 0, none⟩), v] w fun e w' => e = .returned (.pointer (some ⟨b, 0, none⟩)) ∧ w = w' := by
  have c0 : w.cell? ⟨b, 0, none⟩ = some (.bool true) := by simp [World.cell?, h.cells]
  go_enter Tryz.func18, Tryz.ntmps18
  go_wp2
  go_ret
  exact ⟨rfl, rfl⟩

set_option maxHeartbeats 400000 in
theorem Done_nil (w : World) :
    Calls Tryz.prog 20 #[.pointer none] w fun e w' => e = .returned (.tuple #[.string ⟨#[]⟩, .int .i64 1]) ∧ w = w' := by
  go_enter Tryz.func20, Tryz.ntmps20
  go_wp2
  go_ret2
  exact ⟨rfl, rfl⟩

set_option maxHeartbeats 400000 in
theorem Done_bad (base b : Nat) (w : World) (h : Bad base b w) :
    Calls Tryz.prog 20 #[.pointer (some ⟨b, 0, none⟩)] w fun e w' => e = .returned (.tuple #[.string ⟨#[]⟩, .int .i64 1]) ∧ w = w' := by
  have c0 : w.cell? ⟨b, 0, none⟩ = some (.bool true) := by simp [World.cell?, h.cells]
  go_enter Tryz.func20, Tryz.ntmps20
  go_wp2
  go_ret2
  exact ⟨rfl, rfl⟩

set_option maxHeartbeats 400000 in
theorem Done_long (base b : Nat) (l : List UInt8) (w : World) (h : Wr base b l w) (hl : 65535 < l.length) (hl2 : l.length ≤ 65536) :
    Calls Tryz.prog 20 #[.pointer (some ⟨b, 0, none⟩)] w fun e w' => e = .returned (.tuple #[.string ⟨#[]⟩, .int .i64 5]) ∧ w = w' := by
  obtain ⟨c0, f0, f1, ao, cp, c1⟩ := h.cell0
  go_enter Tryz.func20, Tryz.ntmps20
  go_wp2
  go_ret2
  exact ⟨rfl, rfl⟩

theorem Buf.text {base : Nat} {ao : Option Addr} {cap : Nat} {l : List UInt8} {w : World} (h : Buf base ao cap l w) :
    (convert 40 9 (.slice ao l.length cap)).run Tryz.prog w = .ok (.string ⟨l.toArray⟩) w := by
  rcases h.2 with ⟨hv, h0⟩ | ⟨g, cap', cur, hv, _, hg, hr⟩
  · obtain rfl : l = [] := List.length_eq_zero_iff.1 h0
    rw [hv]
    rfl
  · have hao : ao = some ⟨g, 0, none⟩ := by simpa using congrArg (fun v => match v with | .slice a _ _ => a | _ => none) hv
    subst hao
    refine run_convert_bytes_back (P := Tryz.prog) w 40 9 5 ⟨g, 0, none⟩ cap l Tryz.underlying40 Tryz.underlying5 Tryz.underlying9 (fun j hj => ?_)
    have := World.ownsRow.cells h (g := g) rfl j (.int .u8 (l[j].toNat : Int)) (by unfold bytesV; rw [List.getElem?_map, List.getElem?_eq_getElem hj]; rfl)
    exact this

set_option maxHeartbeats 400000 in
theorem Done_any (base b : Nat) (l : List UInt8) (w : World) (h : Wr base b l w) (hl : l.length ≤ 65535) :
    Calls Tryz.prog 20 #[.pointer (some ⟨b, 0, none⟩)] w fun e w' => e = .returned (.tuple #[.string ⟨l.toArray⟩, .int .i64 0]) ∧ w = w' := by
  obtain ⟨hlow, ao, cap, hcell, hbuf⟩ := h
  have c0 : w.cell? ⟨b, 0, none⟩ = some (.bool false) := by simp [World.cell?, hcell]
  have c1 : w.cell? ⟨b, 1, none⟩ = some (.slice ao l.length cap) := by simp [World.cell?, hcell]
  have hcv := hbuf.text
  clear hcell hbuf
  obtain ⟨s, hs⟩ : ∃ s : ByteArray, s = ⟨l.toArray⟩ := ⟨_, rfl⟩
  rw [← hs] at hcv ⊢
  clear hs
  go_enter Tryz.func20, Tryz.ntmps20
  go_wp2
  go_ret2
  exact ⟨rfl, rfl⟩

/-- A new writer. -/
theorem Wr.new (w : World) : Wr w.heap.size w.heap.size [] (w.alloc (.cells #[.bool false, .slice none 0 0] 42)) :=
  ⟨Nat.le_refl _, none, 0, heap_alloc_new w _, World.ownsRow_nil _ _ _ _⟩

#print axioms Done_any
#print axioms Word_any
end Go.Proofs.YtncnildpbccpaaaGreatDoor

namespace Go.Proofs.YtncnildpbccpaaaGreatDoor
open Go.RowKit

/-- Texts, written one by one. -/
def putsT : List UInt8 → List ByteArray → List UInt8
  | l, [] => l
  | l, s :: r => putsT (addTo l s.data.toList) r

theorem putsT_in (l : List UInt8) (ss : List ByteArray) (k : Nat) (hk : k < ss.length) : putsT l (ss.drop k) = putsT (addTo l (ss.getD k ByteArray.empty).data.toList) (ss.drop (k + 1)) := by
  have e : ss.drop k = ss[k] :: ss.drop (k + 1) := List.drop_eq_getElem_cons hk
  have g : ss.getD k ByteArray.empty = ss[k] := by rw [List.getD_eq_getElem?_getD, List.getElem?_eq_getElem hk]; rfl
  rw [e, g]
  rfl

/-- Texts in a row of their own. -/
def TextRow (ss : List ByteArray) (r : Nat) (w : World) : Prop := ∃ cs : Array Value, w.heap[r]? = some (.cells cs 9 (0, 0)) ∧ ∀ i, i < ss.length → cs[i]? = some (.string (ss.getD i ByteArray.empty)) ∧ (ss.getD i ByteArray.empty).size ≤ 100000

theorem TextRow.at {ss : List ByteArray} {r base b : Nat} {w w' : World} (h : TextRow ss r w) (hk : Kp base b w w') (hr : r ≠ b) (i : Nat) (hi : i < ss.length) : w'.cell? ⟨r, i, none⟩ = some (.string (ss.getD i ByteArray.empty)) ∧ (ss.getD i ByteArray.empty).size ≤ 100000 := by
  obtain ⟨cs, h1, h2⟩ := h
  have h3 := hk.spare r cs _ h1 hr (by decide)
  refine ⟨?_, (h2 i hi).2⟩
  simp only [World.cell?, h3]
  exact (h2 i hi).1

set_option maxHeartbeats 1000000 in
theorem Text_any (base b r cap : Nat) (l : List UInt8) (ss : List ByteArray) (w : World) (h : Wr base b l w) (hl : l.length ≤ 65536) (hrow : TextRow ss r w) (hr : r ≠ b) (hss : ss.length ≤ 1000) :
    Calls Tryz.prog 19 #[.pointer (some ⟨b, 0, none⟩), .slice (some ⟨r, 0, none⟩) ss.length cap] w fun e w' =>
      e = .returned (.pointer (some ⟨b, 0, none⟩)) ∧ Wr base b (putsT l ss) w' ∧ Kp base b w w' := by
  obtain ⟨c0, f0, f1, ao, cp, c1⟩ := h.cell0
  have Hrow := Lib.hid hrow
  clear hrow
  go_enter Tryz.func19, Tryz.ntmps19
  go_wp2
  clear c0 f0 f1 c1
  go_loopw [19] (fun i wr => ∃ (k : Nat) (m : List UInt8), k ≤ ss.length ∧ i = .int .i64 k ∧ Wr base b m wr ∧ m.length ≤ 65536 ∧ putsT l ss = putsT m (ss.drop k) ∧ Kp base b w wr)
    (fun i _ => ss.length - (intOf i).toNat)
  case atStart => exact ⟨0, l, Nat.zero_le _, rfl, h, hl, by rw [List.drop_zero], Kp.refl _ _ _⟩
  case round =>
    obtain ⟨k, m, hk, rfl, hwr, hm, hp, hkp⟩ := hrel
    have Hp := Lib.hid hp
    clear hp
    by_cases hlt : k < ss.length
    · obtain ⟨hc, hn⟩ := Hrow.out.at hkp hr k hlt
      have Hq := Lib.hid (putsT_in m ss k hlt)
      generalize ss.getD k ByteArray.empty = t at *
      go_wp2_with fail
      refine (add_any base b m t _ hwr hm hn).mono ?_
      rintro e w2 ⟨rfl, hw2, hk2⟩
      go_wp2
      go_roundw
      case rel => exact ⟨k + 1, addTo m t.data.toList, by omega, by go_num, hw2, addTo_le _ _ hm, by rw [Hp.out, Hq.out], hkp.trans hk2⟩
      case measure => simp [intOf]; omega
    · have hd : ss.drop k = [] := List.drop_eq_nil_of_le (by omega)
      have Hd := Lib.hid hd
      clear hd
      go_wp2
      go_ret
      exact ⟨rfl, by rw [Hp.out, Hd.out]; exact hwr, hkp⟩

set_option maxHeartbeats 400000 in
theorem Text_bad (base b : Nat) (v : Value) (w : World) (h : Bad base b w) :
    Calls Tryz.prog 19 #[.pointer (some ⟨b, 0, none⟩), v] w fun e w' => e = .returned (.pointer (some ⟨b, 0, none⟩)) ∧ w = w' := by
  have c0 : w.cell? ⟨b, 0, none⟩ = some (.bool true) := by simp [World.cell?, h.cells]
  go_enter Tryz.func19, Tryz.ntmps19
  go_wp2
  go_ret
  exact ⟨rfl, rfl⟩

set_option maxHeartbeats 400000 in
theorem Text_nil (v : Value) (w : World) :
    Calls Tryz.prog 19 #[.pointer none, v] w fun e w' => e = .returned (.pointer none) ∧ w = w' := by
  go_enter Tryz.func19, Tryz.ntmps19
  go_wp2
  go_ret
  exact ⟨rfl, rfl⟩

theorem IntRow.new (n : Int) (W : World) (r : Nat) (hr : r = W.heap.size) : IntRow [n] r (W.alloc (.cells #[.int .i64 n] 3)) :=
  ⟨_, by rw [hr]; exact heap_alloc_new W _, fun i hi => by
    match i, hi with
    | 0, _ => rfl⟩

theorem WordRow.new (n : Nat) (W : World) (r : Nat) (hr : r = W.heap.size) (hn : n < 4294967296) : WordRow [n] r (W.alloc (.cells #[.int .u32 n] 22)) :=
  ⟨_, by rw [hr]; exact heap_alloc_new W _, fun i hi => by
    match i, hi with
    | 0, _ => exact ⟨rfl, hn⟩⟩

theorem TextRow.new (s : ByteArray) (W : World) (r : Nat) (hr : r = W.heap.size) (hs : s.size ≤ 100000) : TextRow [s] r (W.alloc (.cells #[.string s] 9)) :=
  ⟨_, by rw [hr]; exact heap_alloc_new W _, fun i hi => by
    match i, hi with
    | 0, _ => exact ⟨rfl, hs⟩⟩

theorem addTo_small (l s : List UInt8) (h : l.length + s.length ≤ 65536) : addTo l s = l ++ s := by
  unfold addTo; rw [List.take_of_length_le (by omega)]

theorem puts1_one (l : List UInt8) (n : Nat) (h : l.length ≤ 10000) (hn : n ≤ 255) : puts be1 255 l [(n : Int)] = some (l ++ be1 n) := by
  simp only [puts]
  rw [if_pos (by omega), addTo_small _ _ (by simp [be1]; omega)]
  simp

theorem puts2_one (l : List UInt8) (n : Nat) (h : l.length ≤ 10000) (hn : n ≤ 65535) : puts be2 65535 l [(n : Int)] = some (l ++ be2 n) := by
  simp only [puts]
  rw [if_pos (by omega), addTo_small _ _ (by simp [be2]; omega)]
  simp

/-- One number to a writer that is there: one byte. -/
theorem Byte_one (base b : Nat) (l : List UInt8) (n : Nat) (W : World) (h : Wr base b l W) (hl : l.length ≤ 10000) (hn : n ≤ 255) (r : Nat) (hr : r = W.heap.size) :
    Calls Tryz.prog 15 #[.pointer (some ⟨b, 0, none⟩), .slice (some ⟨r, 0, none⟩) 1 1] (W.alloc (.cells #[.int .i64 n] 3)) fun e w' =>
      e = .returned (.pointer (some ⟨b, 0, none⟩)) ∧ Wr base b (l ++ be1 n) w' ∧ Below base W w' := by
  refine (Byte_any base b r 1 l [(n : Int)] _ (h.alloc _) (by omega) (IntRow.new _ W r hr) (by have := h.lt; omega) (by simp)).mono ?_
  rintro e w' ⟨he, ha, hk⟩
  rw [puts1_one l n hl hn] at ha
  exact ⟨he, ha.1, ((Below.refl _ _).alloc (by have := h.lt; have := h.low; omega) _).trans hk.below⟩

theorem Short_one (base b : Nat) (l : List UInt8) (n : Nat) (W : World) (h : Wr base b l W) (hl : l.length ≤ 10000) (hn : n ≤ 65535) (r : Nat) (hr : r = W.heap.size) :
    Calls Tryz.prog 16 #[.pointer (some ⟨b, 0, none⟩), .slice (some ⟨r, 0, none⟩) 1 1] (W.alloc (.cells #[.int .i64 n] 3)) fun e w' =>
      e = .returned (.pointer (some ⟨b, 0, none⟩)) ∧ Wr base b (l ++ be2 n) w' ∧ Below base W w' := by
  refine (Short_any base b r 1 l [(n : Int)] _ (h.alloc _) (by omega) (IntRow.new _ W r hr) (by have := h.lt; omega) (by simp)).mono ?_
  rintro e w' ⟨he, ha, hk⟩
  rw [puts2_one l n hl hn] at ha
  exact ⟨he, ha.1, ((Below.refl _ _).alloc (by have := h.lt; have := h.low; omega) _).trans hk.below⟩

theorem Word_one (base b : Nat) (l : List UInt8) (n : Nat) (W : World) (h : Wr base b l W) (hl : l.length ≤ 10000) (hn : n < 4294967296) (r : Nat) (hr : r = W.heap.size) :
    Calls Tryz.prog 18 #[.pointer (some ⟨b, 0, none⟩), .slice (some ⟨r, 0, none⟩) 1 1] (W.alloc (.cells #[.int .u32 n] 22)) fun e w' =>
      e = .returned (.pointer (some ⟨b, 0, none⟩)) ∧ Wr base b (l ++ word n) w' ∧ Below base W w' := by
  refine (Word_any base b r 1 l [n] _ (h.alloc _) (by omega) (WordRow.new _ W r hr hn) (by have := h.lt; omega) (by simp)).mono ?_
  rintro e w' ⟨he, ha, hk⟩
  have e1 : putsW l [n] = l ++ word n := by simp only [putsW]; exact addTo_small _ _ (by show l.length + 4 ≤ 65536; omega)
  rw [e1] at ha
  exact ⟨he, ha, ((Below.refl _ _).alloc (by have := h.lt; have := h.low; omega) _).trans hk.below⟩

theorem Text_one (base b : Nat) (l : List UInt8) (s : ByteArray) (W : World) (h : Wr base b l W) (hl : l.length ≤ 65536) (hs : s.size ≤ 100000) (r : Nat) (hr : r = W.heap.size) :
    Calls Tryz.prog 19 #[.pointer (some ⟨b, 0, none⟩), .slice (some ⟨r, 0, none⟩) 1 1] (W.alloc (.cells #[.string s] 9)) fun e w' =>
      e = .returned (.pointer (some ⟨b, 0, none⟩)) ∧ Wr base b (addTo l s.data.toList) w' ∧ Below base W w' := by
  refine (Text_any base b r 1 l [s] _ (h.alloc _) hl (TextRow.new _ W r hr hs) (by have := h.lt; omega) (by simp)).mono ?_
  rintro e w' ⟨he, ha, hk⟩
  exact ⟨he, ha, ((Below.refl _ _).alloc (by have := h.lt; have := h.low; omega) _).trans hk.below⟩

theorem below_then {B : Nat} {w w1 w2 : World} (h : Below B w w1 ∧ B ≤ w1.heap.size) (hb : Below w1.heap.size w1 w2) : Below B w w2 ∧ B ≤ w2.heap.size :=
  ⟨h.1.trans (hb.mono h.2), Nat.le_trans h.2 hb.size⟩

theorem below_start (w : World) : Below w.heap.size w w ∧ w.heap.size ≤ w.heap.size := ⟨Below.refl _ _, Nat.le_refl _⟩

theorem ex_bytes : (⟨([] ++ be1 1 ++ be2 258).toArray⟩ : ByteArray) = ⟨#[1, 1, 2]⟩ := by decide

end Go.Proofs.YtncnildpbccpaaaGreatDoor

namespace Go.Proofs.YtncnildpbccpaaaGreatDoor
open Go.RowKit

def strSize : Value → Nat
  | .string b => b.size
  | _ => 0

/-- A byte in a row of its own, as a text. -/
theorem conv1 (W : World) (r : Nat) (n : Nat) (x : Int) (hx : x = ((UInt8.ofNat n).toNat : Int)) (h : W.cell? ⟨r, 0, none⟩ = some (.int .u8 x)) :
    (convert 40 9 (.slice (some ⟨r, 0, none⟩) 1 1)).run Tryz.prog W = .ok (.string ⟨#[UInt8.ofNat n]⟩) W := by
  have hcells : ∀ j (hj : j < ([UInt8.ofNat n]).length), W.cell? ((⟨r, 0, none⟩ : Addr).add j) = some (.int .u8 (([UInt8.ofNat n])[j].toNat : Int)) := by
    intro j hj
    match j, hj with
    | 0, _ => rw [Addr.add_lit]; show W.cell? ⟨r, 0, none⟩ = _; rw [h, hx]; rfl
  exact run_convert_bytes_back (P := Tryz.prog) W 40 9 5 ⟨r, 0, none⟩ 1 _ Tryz.underlying40 Tryz.underlying5 Tryz.underlying9 hcells

theorem byte_int (n : Nat) (h : n ≤ 255) : (n : Int) = ((UInt8.ofNat n).toNat : Int) := by rw [O.byte_eq n (by omega)]

theorem ret_string {a b : ByteArray} (h : a = b) : Ending.returned (.string a) = .returned (.string b) := by rw [h]

theorem bytes_ext {a b : ByteArray} (h : a.data.toList = b.data.toList) : a = b := by
  cases a; cases b; simp at h; simp [h]

theorem encRaw_take (l : List Opt) (k : Nat) (h : k < l.length) : O.encRaw (l.take (k + 1)) = O.encRaw (l.take k) ++ O.encOne (l.getD k noOpt) := by
  rw [getD_take l k h, O.encRaw_append]; simp [O.encRaw]

theorem right_small (l : List Opt) (h : l.all O.right = true) : ∀ o ∈ l, o.data.size ≤ 38 := by
  intro o ho
  have := List.all_eq_true.1 h o ho
  unfold O.right at this
  split at this
  · have := of_decide_eq_true this; omega
  · exact (of_decide_eq_true this).2.2

theorem right_kind (l : List Opt) (h : l.all O.right = true) : ∀ o ∈ l, ∃ k : Nat, o.kind = (k : Int) ∧ 1 ≤ k ∧ k ≤ 255 ∧ (k = 1 → o.data.size = 0) := by
  intro o ho
  have := List.all_eq_true.1 h o ho
  unfold O.right at this
  split at this
  · rename_i h1
    have := of_decide_eq_true this
    exact ⟨1, h1, by omega, by omega, fun _ => this⟩
  · rename_i h1
    have := of_decide_eq_true this
    obtain ⟨k, hk⟩ := Int.eq_ofNat_of_zero_le (show 0 ≤ o.kind by omega)
    exact ⟨k, hk, by omega, by omega, fun h => by omega⟩

set_option maxHeartbeats 1000000 in
theorem refEnc_any (a : Option Addr) (cap : Nat) (l : List Opt) (w : World) (h : OptRow w a l) (hl : l.length ≤ 60) (hr : l.all O.right = true) :
    Calls Tryz.prog 26 #[.slice a l.length cap] w fun e w' => e = .returned (.string ⟨(O.enc l).toArray⟩) ∧ Below w.heap.size w w' := by
  have Hrow := Lib.hid h
  have Hd := Lib.hid (right_small l hr)
  have Hk := Lib.hid (right_kind l hr)
  clear h hr
  obtain ⟨r, hr⟩ : ∃ r : ByteArray, (⟨(O.enc l).toArray⟩ : ByteArray) = r := ⟨_, rfl⟩
  have Hr := Lib.hid hr
  rw [hr]
  clear hr
  go_enter Tryz.func26, Tryz.ntmps26
  go_wp2
  go_loopw [3, 4] (fun s i wr => ∃ (k : Nat) (t : ByteArray), k ≤ l.length ∧ i = .int .i64 k ∧ s = .string t ∧ Hid (t.data.toList = O.encRaw (l.take k)) ∧ t.size ≤ 6120 ∧ Below w.heap.size w wr) (fun _ i _ => l.length - (intOf i).toNat)
  case atStart => exact ⟨0, ⟨#[]⟩, Nat.zero_le _, rfl, rfl, Lib.hid rfl, by show (0 : Nat) ≤ 6120; omega, Below.refl _ _⟩
  case round =>
    obtain ⟨k, t, hk, rfl, rfl, Ht, hts, hb⟩ := hrel
    by_cases hlt : k < l.length
    · obtain ⟨b, off, rfl, hbl, c0, c1⟩ := Hrow.out.then hb k hlt
      have hz := Hd.out _ (getD_mem l k hlt)
      obtain ⟨n, hn, n1, n255, hn1⟩ := Hk.out _ (getD_mem l k hlt)
      have Hq := Lib.hid (encRaw_take l k hlt)
      have Hqs : Hid ((O.encRaw (l.take (k + 1))).length ≤ 6120) := Lib.hid (by rw [O.encRaw_length]; exact raw_take_le l (k + 1) (by omega) (fun o ho => by have := Hd.out o ho; omega))
      generalize l.getD k noOpt = o at *
      obtain ⟨kd, d⟩ := o
      simp only at c0 c1 hz hn hn1
      subst hn
      have hbs := hb.size
      have hbw : b < wr.heap.size := by omega
      by_cases hk1 : n = 1
      · subst hk1
        have Hcv := conv1 (wr.alloc (.cells #[.int .u8 1] 5)) wr.heap.size 1 1 (byte_int 1 (by omega)) (by simp)
        go_wp2
        go_roundw
        case rel => exact ⟨k + 1, _, by omega, by go_num, rfl, Lib.hid (by rw [Hq.out, ← Ht.out]; simp [O.encOne]), by rw [ByteArray.size_append]; show t.size + 1 ≤ 6120; have := Hqs.out; rw [Hq.out, List.length_append, ← Ht.out, Array.length_toList] at this; exact this, hb.alloc hbs _⟩
        case measure => simp [intOf]; omega
      · have Hcv := conv1 (wr.alloc (.cells #[.int .u8 (n : Int)] 5)) wr.heap.size n n (byte_int n n255) (by simp)
        go_wp2
        have hb2 : Below w.heap.size w (wr.alloc (.cells #[.int .u8 (n : Int)] 5)) := hb.alloc hbs _
        have d0 : (wr.alloc (.cells #[.int .u8 (n : Int)] 5)).cell? ⟨b, off + k * 2, none⟩ = some (.int .i64 n) := (((Below.refl wr.heap.size wr).alloc (Nat.le_refl _) _).cell (p := ⟨b, off + k * 2, none⟩) hbw).trans c0
        have d1 : (wr.alloc (.cells #[.int .u8 (n : Int)] 5)).cell? ⟨b, off + k * 2 + 1, none⟩ = some (.string d) := (((Below.refl wr.heap.size wr).alloc (Nat.le_refl _) _).cell (p := ⟨b, off + k * 2 + 1, none⟩) hbw).trans c1
        have hbw2 : b < (wr.alloc (.cells #[.int .u8 (n : Int)] 5)).heap.size := by simp; omega
        clear Hcv c0 c1 hb hbs hbw
        generalize (wr.alloc (.cells #[.int .u8 (n : Int)] 5)) = w2 at *
        have hbs2 := hb2.size
        have Hcv := conv1 (w2.alloc (.cells #[.int .u8 (2 + (d.size : Int))] 5)).drew w2.heap.size (2 + d.size) (2 + (d.size : Int)) (by rw [← byte_int (2 + d.size) (by omega)]; omega) (by simp)
        have q1 : IntKind.i64.wrap (2 + (d.size : Int)) = 2 + (d.size : Int) := IntWalk.i64_in _ (by omega)
        have q2 : IntKind.u8.wrap (2 + (d.size : Int)) = 2 + (d.size : Int) := IntWalk.u8_in _ (by omega)
        have q3 : (k : Int) < (l.length : Int) := by omega
        have hk1' : ¬ (n : Int) = 1 := by omega
        go_region
        go_wp2
        go_roundw
        case rel => exact ⟨k + 1, _, by omega, by go_num, rfl, Lib.hid (by rw [Hq.out, ← Ht.out]; simp [O.encOne, hk1']), by have := Hqs.out; rw [Hq.out, List.length_append, ← Ht.out, Array.length_toList, O.encOne_length] at this; unfold O.sizeOne at this; rw [if_neg hk1'] at this; simp only [ByteArray.size_append]; show t.size + 1 + 1 + d.size ≤ 6120; have e0 : t.data.size = t.size := rfl; rw [e0] at this; simp only at this; omega, ((hb2.alloc hbs2 _).drew)⟩
        case measure => simp [intOf]; omega
    · have e : l.take k = l := List.take_of_length_le (by omega)
      rw [e] at Ht
      clear e
      have Hm := Lib.hid (pad_more (O.raw l))
      have Hn := Lib.hid (pad_done (O.raw l))
      have Hs := Lib.hid (show t.size = O.raw l by rw [← O.encRaw_length, ← Ht.out]; rfl)
      have hraw : O.raw l ≤ 6120 := by rw [← Hs.out]; exact hts
      have Hen := Lib.hid (show O.enc l = O.encRaw l ++ List.replicate (O.pad (O.raw l)) 0 from rfl)
      have hp := O.pad_le (O.raw l)
      generalize O.pad (O.raw l) = p at *
      generalize O.raw l = n at *
      go_wp2
      go_loop [3] (fun x => ∃ (j : Nat) (u : ByteArray), j ≤ p ∧ x = .string u ∧ Hid (u.size = n + j) ∧ Hid (u.data.toList = O.encRaw l ++ List.replicate j 0)) (fun x => n + p - strSize x)
      case atStart => exact ⟨0, t, Nat.zero_le _, rfl, Lib.hid (by rw [Hs.out]; rfl), Lib.hid (by rw [Ht.out]; simp)⟩
      case round =>
        obtain ⟨j, u, hj, rfl, Hu, Hl⟩ := hrel
        have hus : u.size ≤ 7000 := by rw [Hu.out]; omega
        by_cases hlt : j < p
        · have hne : ((u.size : Nat) : Int) % 4 ≠ 0 := by rw [Hu.out]; have := Hm.out j hlt; omega
          go_wp2
          go_round
          case rel => exact ⟨j + 1, _, by omega, rfl, Lib.hid (by rw [ByteArray.size_append, Hu.out]; rfl), Lib.hid (by rw [ByteArray.data_append, Array.toList_append, Hl.out, List.replicate_succ', List.append_assoc])⟩
          case measure => simp only [strSize, ByteArray.size_append]; rw [Hu.out]; show n + p - (n + j + 1) < _; omega
        · have hne : ((u.size : Nat) : Int) % 4 = 0 := by rw [Hu.out]; have := Hn.out j hj hlt; omega
          obtain rfl : j = p := by omega
          go_wp2
          go_ret
          exact ⟨ret_string (bytes_ext (by rw [Hl.out, ← Hr.out, Hen.out])), hb⟩
#print axioms refEnc_any
end Go.Proofs.YtncnildpbccpaaaGreatDoor

